/- Several texts in one: A board in the midst of a call: its lines' word is whatever it was. A board's words: loaded and stored. -/
import Derived.Test.YtcgmnjajodegmaaGreatZNaz
import Derived.Test.YtcgmnjajodegmaaGreatZNbc
import Derived.Test.YtcgmnjajodegmaaGreatZNbd
import Derived.Maps.AppendAt
import Derived.Great.BuildSlice
namespace Go.Proofs.YtcgmnjajodegmaaGreat.B
set_option linter.unusedVariables false
set_option linter.unusedSimpArgs false
set_option maxRecDepth 100000
open Go.ChangeShapes Go.WideShapes Go.RowKit Go.Sort
structure BdRaw (w : World) (B : Bp) (x : Bx) (h : Int) : Prop where
  cell : w.heap[B.b]? = some (.cells B.cl.toArray tBd (0, 0))
  dv : DvAt w B x h
  bus : UBus w B.bp B.bm B.rv B.R B.ks B.pv (LpB B)
  ev : EvAt w tEv B.ev x.es
section
variable {w w' : World} {B : Bp} {x y : Bx} {h g : Int}
theorem BdAt.raw (H : BdAt w B x) : BdRaw w B x (wires B.n B.c x) := ⟨H.cell, H.dv, H.bus, H.ev⟩
theorem BdRaw.done (H : BdRaw w B x (wires B.n B.c x)) (ok : x.ok B.n B.c) (st : x.still) : BdAt w B x := ⟨H.cell, H.dv, H.bus, H.ev, ok, st⟩
theorem BdRaw.lt (H : BdRaw w B x h) {k : Nat} (hk : B.all k) : k < w.heap.size := by
  rcases hk with (rfl | hk | hk) | rfl | hk
  · exact lt_of_block H.cell
  · exact H.dv.lt hk
  · exact H.ev.lt hk
  · exact H.dv.ltm
  · exact H.bus.lt k hk
theorem BdRaw.kept (H : BdRaw w B x h) (hk : ∀ k, B.all k → w'.heap[k]? = w.heap[k]?) : BdRaw w' B x h :=
  ⟨(hk _ (.inl (.inl rfl))).trans H.cell, H.dv.kept (fun k h => hk k (.inl (.inr (.inl h)))) (hk _ (.inr (.inl rfl))), H.bus.kept fun k h => hk k (.inr (.inr h)), H.ev.keep fun g hg => hk g (.inl (.inr (.inr hg)))⟩
theorem BdRaw.below (H : BdRaw w B x h) (hb : Below w.heap.size w w') : BdRaw w' B x h := H.kept fun k hk => hb.block k (H.lt hk)
theorem BdRaw.busApart (H : BdRaw w B x h) {k : Nat} (hk : uBlocks B.bp B.bm B.rv B.ks B.pv k) : ¬ B.own k := by
  have hb := H.bus.kd hk
  rintro (rfl | hd | he)
  · rw [kd_of H.cell] at hb; revert hb; decide
  · rw [dev_bus (H.dv.kd hd)] at hb; cases hb
  · rw [H.ev.kd he] at hb; revert hb; decide
theorem BdRaw.mcApart (H : BdRaw w B x h) : ¬ B.own B.mc := by
  have hm := kd_map H.dv.c.map
  rintro (h | hd | he)
  · rw [h, kd_of H.cell] at hm; cases hm
  · exact H.dv.noMc hd
  · rw [H.ev.kd he] at hm; cases hm
theorem BdRaw.bApart (H : BdRaw w B x h) : ¬ B.dvs B.b := H.dv.no H.cell (by decide)
theorem BdRaw.evApart (H : BdRaw w B x h) {k : Nat} (hk : B.ev.ownBlock = some k) : ¬ B.dvs k ∧ k ≠ B.b := by
  have he := H.ev.kd hk
  refine ⟨fun hd => ?_, fun e => ?_⟩
  · have := H.dv.kd hd; rw [he] at this; revert this; decide
  · rw [e, kd_of H.cell] at he; revert he; decide
theorem BdRaw.turn (H : BdRaw w B x h) (D : DvAt w' B y g) (ho : Off B.dvs w w') (hes : y.es = x.es) : BdRaw w' B y g :=
  ⟨ho.at H.cell H.bApart, D, H.bus.ofOff ho fun k hk hd => H.busApart hk (.inr (.inl hd)), hes ▸ H.ev.keep fun g hg => ho.block g (H.ev.lt hg) (H.evApart hg).1⟩
theorem offOwn (ho : Off B.dvs w w') : Off B.own w w' := ho.mono fun k _ h => .inr (.inl h)
/-- The board's explicit cells. -/
theorem BdRaw.cells (H : BdRaw w B x h) : w.heap[B.b]? = some (.cells #[.pointer (some ⟨B.pc, 0, none⟩), .pointer (some ⟨B.pb, 0, none⟩), .pointer (some ⟨B.pd, 0, none⟩), .pointer (some ⟨B.ps, 0, none⟩), .pointer (some ⟨B.pr, 0, none⟩), .pointer (some ⟨B.pl, 0, none⟩), .int .i64 B.n, .int .i64 B.c, .int .u32 B.div, .pointer (some ⟨B.bp, 0, none⟩), B.ev] tBd (0, 0)) := H.cell
end
theorem cells2e {w : World} {b : Nat} {x y : Value} {t : TypeId} (h : w.heap[b]? = some (.cells #[x, y] t (0, 0))) : ∀ j u, [x, y][j]? = some u → w.cell? ((⟨b, 0, none⟩ : Addr).add j) = some u := by
  intro j u hu
  rw [Addr.add_lit, Nat.zero_add, blk_cell h j]
  simpa using hu
theorem one2e (a b : Int) : ∀ u ∈ [Value.int .u64 a, Value.int .i64 b], u.oneCell' = true := by
  intro u hu
  simp only [List.mem_cons, List.not_mem_nil, or_false] at hu
  rcases hu with rfl | rfl <;> rfl
theorem own_or {v v' : Value} {n : Nat} (h : v'.ownBlock = v.ownBlock ∨ v'.ownBlock = some n) : ∀ k, v'.ownBlock = some k → v.ownBlock = some k ∨ n ≤ k := by
  intro k hk
  rcases h with h | h
  · exact .inl (h ▸ hk)
  · rw [h] at hk; cases hk; exact .inr (Nat.le_refl _)
/-- What a reset leaves. -/
def RstPost (B : Bp) (x : Bx) (h cause : Int) (w : World) (e : Ending) (w' : World) : Prop :=
  e = .returned (.tuple #[]) ∧ ∃ ev', BdRaw w' { B with ev := ev' } (x.rst cause) h ∧ Off B.own w w' ∧ ∀ k, ev'.ownBlock = some k → B.ev.ownBlock = some k ∨ w.heap.size ≤ k
theorem rst_end {B : Bp} {x : Bx} {h cause : Int} {w W1 W3 : World} {v' : Value} (H : BdRaw W1 B { x.rst cause with es := x.es } h) (hW : Off B.own w W1)
    (hown : W3.ownsRow 0 64 2 v' (x.es.length + 1) (x.es.flatMap evC ++ [.int .u64 x.ti, .int .i64 cause])) (hgr : Off (fun k => B.ev.ownBlock = some k) W1 W3) (hat : ∀ k, v'.ownBlock = some k → B.ev.ownBlock = some k ∨ W1.heap.size ≤ k) :
    RstPost B x h cause w (.returned (.tuple #[])) (W3.setCell ⟨B.b, 10, none⟩ v') := by
  have hb3 : W3.heap[B.b]? = some (.cells B.cl.toArray tBd (0, 0)) := hgr.at H.cell (fun e => (H.evApart e).2 rfl)
  have hlb := lt_of_block H.cell
  have hso := off_set W3 B.b 10 v'
  have hne : ∀ k, v'.ownBlock = some k → k ≠ B.b := fun k hk e => by
    have h1 : kd W3 k = tEv + 1 := by obtain ⟨cur, hc⟩ := row_obj hown hk; exact kd_of hc
    rw [e, kd_of hb3] at h1; revert h1; decide
  have hO : Off (fun k => k = B.b ∨ B.ev.ownBlock = some k) W1 (W3.setCell ⟨B.b, 10, none⟩ v') := (hgr.mono fun _ _ h => .inr h).next hso fun _ _ h => .inl h
  refine ⟨rfl, v', ⟨?_, ?_, ?_, ?_⟩, hW.trans (hO.mono fun k _ h => h.elim .inl fun h => .inr (.inr h)), fun k hk => (hat k hk).imp id fun h => Nat.le_trans hW.size h⟩
  · have := blk_set hb3 10 v'
    exact this
  · have D := H.dv.off hO (fun k hk e => e.elim (fun e => H.bApart (e ▸ hk)) (fun e => (H.evApart e).1 hk)) (fun e => H.mcApart (e.elim .inl fun e => .inr (.inr e)))
    exact ⟨D.c, D.b, D.d, D.s, D.r, D.l⟩
  · exact H.bus.ofOff hO fun k hk e => H.busApart hk (e.elim .inl fun e => .inr (.inr e))
  · have h1 : EvAt W3 tEv v' (x.es ++ [(x.ti, cause)]) := by
      unfold EvAt
      rw [List.length_append, List.flatMap_append]
      simpa [evC] using hown
    exact h1.keep fun g hg => hso.block g (h1.lt hg) (hne g hg)
theorem row_some {w : World} {b : Nat} {e : TypeId} {n m : Nat} {v : Value} {xs : List Value} (h : w.ownsRow b e n v (m + 1) xs) : ∃ g cap, v = .slice (some ⟨g, 0, none⟩) (m + 1) cap := by
  rcases row_form h with ⟨_, h2⟩ | ⟨g, cap, h1, _⟩
  · omega
  · exact ⟨g, cap, h1⟩
/-- A call that leaves the world, as one step of a region that draws. -/
theorem step_call {P : Program} {ops : Array Oper} {o : Oper} {a : Act} {w : World} {K : Act → World → Prop} {Q : Exit → Act → World → Prop} {E : Prop}
    (hg : o.guard = none) (F : Nat) (x : Operand) (t : TypeId) (hop : o.op = Op.call { callee := Callee.value (.func F), args := #[x], argTypes := #[t] }) (v : Value) (hx : a.eval x = v)
    (heg : ∀ args w, (callFunc F args).run P w = .ok (.enter F args) w) (r : Value) (hc : Calls P F #[v] w fun e w' => e = .returned r ∧ w = w') (hK : K (a.put o.dst r) w) :
    if Region.wanted o (yielded ops a.tmps) = true then Oper.wp P o a w K Q else E := by
  have hw : Region.wanted o (yielded ops a.tmps) = true := by simp [Region.wanted, hg]
  rw [if_pos hw]
  have h : (execOp a.eval o).run P w = .ok (.enter F #[v]) w := by
    unfold execOp
    simp [hop, resolve, invoke, go_sem, hx, heg]
    cases x <;> simpa [go_sem] using hx
  unfold Oper.wp
  rw [h, Oper.upon_enter]
  refine hc.mono ?_
  rintro e w' ⟨rfl, rfl⟩
  exact hK
set_option maxHeartbeats 1600000 in
/-- A reset, told with the time. -/
theorem bdReset (B : Bp) (x : Bx) (h cause : Int) (w : World) (H : BdRaw w B x h) (ok : x.ok B.n B.c) (hl : x.es.length < 4294967296) :
    Calls Tryz.prog 55 #[.pointer (some ⟨B.b, 0, none⟩), .int .i64 cause] w (RstPost B x h cause w) := by
  obtain ⟨i0, hi, hz0, hz1, hz2⟩ := info_parts infoEv
  have hX := H.cells
  have hlb := lt_of_block hX
  have c0 := blk_cell hX 0
  have c1 := blk_cell hX 1
  have c2 := blk_cell hX 2
  have c3 := blk_cell hX 3
  have c4 := blk_cell hX 4
  have c5 := blk_cell hX 5
  simp only [List.getElem?_toArray, List.getElem?_cons_zero, List.getElem?_cons_succ] at c0 c1 c2 c3 c4 c5
  have HI := Lib.hid hi
  have HZ := Lib.hid hz0
  have HZ1 := Lib.hid hz1
  have HZ2 := Lib.hid hz2
  have HH := Lib.hid H
  have HOK := Lib.hid ok
  have HMX := Lib.hid (show x.es.length + 1 ≤ maxLen by unfold maxLen; omega)
  have HBY := Lib.hid (show (x.es.length + 1) * 16 ≤ 140737488355328 by omega)
  clear hi hz0 hz1 hz2 hX H ok hl
  go_enter Tryz.func55, Tryz.ntmps55
  go_wp2_with fail
  refine (zAgain B x h cause w HH.out.dv HOK.out).mono ?_
  rintro e w1 ⟨rfl, d1, ho1⟩
  have H1 : BdRaw w1 B { x.rst cause with es := x.es } h := HH.out.turn ⟨d1.c, d1.b, d1.d, d1.s, d1.r, d1.l⟩ ho1 rfl
  have hX1 := H1.cells
  have hl1 := lt_of_block hX1
  have hO1 := offOwn ho1
  clear c0 c1 c2 c3 c4 c5
  have c0 := blk_cell hX1 0
  have c10 := blk_cell hX1 10
  simp only [List.getElem?_toArray, List.getElem?_cons_zero, List.getElem?_cons_succ] at c0 c10
  have HH1 := Lib.hid H1
  have HO1 := Lib.hid hO1
  have HT := Lib.hid (show ∀ (u : World), DvAt u B { x.rst cause with es := x.es } h → Calls Tryz.prog 58 #[.pointer (some ⟨B.pc, 0, none⟩)] u fun e w' => e = .returned (.int .u64 x.ti) ∧ u = w' from fun u A => cTime _ _ _ _ B.pc B.mc u A.c)
  have hW := trA (trD (tr0 w1)) (.cells #[.int .u64 x.ti, .int .i64 cause] 64)
  have H3 := Lib.hid (H1.below hW)
  have HEV := Lib.hid (H1.below hW).ev
  have HO3 := Lib.hid (hO1.trans (Off.ofBelow (S := B.own) hW))
  have HNV := Lib.hid (cells2e (blk_new w1.drew (.cells #[.int .u64 x.ti, .int .i64 cause] 64)))
  clear H1 hX1 hO1 d1 ho1 hlb hW
  have hc := Lib.hid (enters_of Tryz.func58 (by kernel_rfl) rfl)
  go_wp2_with fail
  refine wp_region_any (by kernel_rfl) ?_
  try (change wpAny _ _ _ _ _ _ _ (World.drew _))
  refine wpAny_take (i := 0) (v := .pointer (some ⟨B.b, 0, none⟩)) rfl (by kernel_rfl) (by kernel_rfl) (by kernel_rfl) (fun _ _ _ h => h) (Or.inl ⟨by kernel_rfl, fun w => by go_simp⟩) ?_
  refine wpAny_take (i := 1) (v := .pointer (some ⟨B.b, 0, none⟩)) rfl (by kernel_rfl) (by kernel_rfl) (by kernel_rfl) (fun _ _ _ h => h) (Or.inl ⟨by kernel_rfl, fun w => by go_simp⟩) ?_
  refine wpAny_take (i := 2) (v := .pointer (some ⟨B.b, 0, none⟩)) rfl (by kernel_rfl) (by kernel_rfl) (by kernel_rfl) (fun _ _ _ h => h) (Or.inl ⟨by kernel_rfl, fun w => by go_simp⟩) ?_
  refine wpAny_take (i := 3) (v := .pointer (some ⟨B.b, 10, none⟩)) rfl (by kernel_rfl) (by kernel_rfl) (by kernel_rfl) (fun _ _ _ h => h) (Or.inl ⟨by kernel_rfl, fun w => by go_simp⟩) ?_
  refine wpAny_take (i := 5) (v := .pointer (some ⟨B.b, 0, none⟩)) rfl (by kernel_rfl) (by kernel_rfl) (by kernel_rfl) (fun _ _ _ h => h) (Or.inl ⟨by kernel_rfl, fun w => by go_simp⟩) ?_
  refine wpAny_take (i := 6) (v := .pointer (some ⟨B.b, 0, none⟩)) rfl (by kernel_rfl) (by kernel_rfl) (by kernel_rfl) (fun _ _ _ h => h) (Or.inl ⟨by kernel_rfl, fun w => by go_simp⟩) ?_
  refine wpAny_take (i := 7) (v := .pointer (some ⟨B.b, 0, none⟩)) rfl (by kernel_rfl) (by kernel_rfl) (by kernel_rfl) (fun _ _ _ h => h) (Or.inl ⟨by kernel_rfl, fun w => by go_simp⟩) ?_
  refine wpAny_take (i := 8) (v := .pointer (some ⟨B.b, 0, none⟩)) rfl (by kernel_rfl) (by kernel_rfl) (by kernel_rfl) (fun _ _ _ h => h) (Or.inl ⟨by kernel_rfl, fun w => by go_simp⟩) ?_
  refine wpAny_take (i := 11) (v := .int .i64 cause) rfl (by kernel_rfl) (by kernel_rfl) (by kernel_rfl) (fun _ _ _ h => h) (Or.inl ⟨by kernel_rfl, fun w => by go_simp⟩) ?_
  refine wpAny_ready (rs := [4, 9]) (by kernel_rfl) (by simp) ?_
  refine AllReady.cons rfl (fun K hK => ?_) (AllReady.cons rfl (fun K hK => ?_) AllReady.nil)
  · go_simp
    refine hK _ _ ?_
    clear hK K
    refine wpAny_ready (rs := [9]) (by kernel_rfl) (by simp) ?_
    refine AllReady.cons rfl (fun K hK => ?_) AllReady.nil
    go_simp
    refine hK _ _ ?_
    clear hK K
    refine wpAny_ready (rs := [10]) (by kernel_rfl) (by simp) ?_
    refine AllReady.cons rfl (fun K hK => ?_) AllReady.nil
    go_simp
    go_wp2_with (go_at_call 58; refine (HT.out _ (HH1.out.dv.below (trD (tr0 w1)))).mono ?_; rintro e w' ⟨rfl, rfl⟩)
    refine wpAny_take (i := 12) (v := .agg #[.int .u64 x.ti, .int .i64 cause]) rfl (by kernel_rfl) (by kernel_rfl) (by kernel_rfl) (fun _ _ _ h => h) (Or.inl ⟨by kernel_rfl, fun w => by go_simp⟩) ?_
    refine wpAny_ready (rs := [13]) (by kernel_rfl) (by simp) ?_
    refine AllReady.cons rfl (fun K hK => ?_) AllReady.nil
    go_simp
    refine hK _ _ ?_
    clear hK K
    refine wpAny_ready (rs := [14]) (by kernel_rfl) (by simp) ?_
    refine AllReady.cons rfl (fun K hK => ?_) AllReady.nil
    refine step_append_own rfl (.tmp 14) (.tmp 23) 59 rfl 0 64 i0 (.agg #[.int .u64 0, .int .i64 0]) 2 16 Tryz.underlying59 HI.out HZ.out HZ1.out HZ2.out rfl (by decide) B.ev x.es.length (x.es.flatMap evC) rfl HEV.out ⟨w1.heap.size, 0, none⟩ 1 1 [.int .u64 x.ti, .int .i64 cause] rfl rfl HNV.out (one2e _ _) HMX.out HBY.out (Nat.zero_le _) ?_
    intro v' w3 hown3 hgr3 hnil3 hat3
    obtain ⟨g3, cap3, rfl⟩ := row_some hown3
    have hE3 := Lib.hid (rst_end H3.out HO3.out hown3 (Off.ofGrown hgr3 fun k e => e) (own_or hat3))
    have hb3 := (Off.ofGrown (S := fun k => B.ev.ownBlock = some k) hgr3 fun k e => e).at H3.out.cells (fun e => (H3.out.evApart e).2 rfl)
    have hf3 := blk_free hb3 10
    have hc3 := blk_cell hb3 10
    simp only [List.getElem?_toArray, List.getElem?_cons_zero, List.getElem?_cons_succ] at hc3
    clear hown3 hgr3 hnil3 hat3 hb3
    refine hK _ _ ?_
    clear hK K
    refine wpAny_take (i := 15) (v := .pointer (some ⟨B.b, 0, none⟩)) rfl (by kernel_rfl) (by kernel_rfl) (by kernel_rfl) (fun _ _ _ h => h) (Or.inl ⟨by kernel_rfl, fun w => by go_simp⟩) ?_
    refine wpAny_take (i := 16) (v := .pointer (some ⟨B.b, 10, none⟩)) rfl (by kernel_rfl) (by kernel_rfl) (by kernel_rfl) (fun _ _ _ h => h) (Or.inl ⟨by kernel_rfl, fun w => by go_simp⟩) ?_
    refine wpAny_ready (rs := [17]) (by kernel_rfl) (by simp) ?_
    refine AllReady.cons rfl (fun K hK => ?_) AllReady.nil
    go_simp
    refine hK _ _ ?_
    clear hK K
    refine wpAny_done (by kernel_rfl) ?_ _
    go_wp2_with fail
    go_end0
    exact hE3.out
  · go_simp
    refine hK _ _ ?_
    clear hK K
    refine wpAny_ready (rs := [4, 10]) (by kernel_rfl) (by simp) ?_
    refine AllReady.cons rfl (fun K hK => ?_) (AllReady.cons rfl (fun K hK => ?_) AllReady.nil)
    · go_simp
      refine hK _ _ ?_
      clear hK K
      refine wpAny_ready (rs := [10]) (by kernel_rfl) (by simp) ?_
      refine AllReady.cons rfl (fun K hK => ?_) AllReady.nil
      go_simp
      go_wp2_with (go_at_call 58; refine (HT.out _ (HH1.out.dv.below (trD (tr0 w1)))).mono ?_; rintro e w' ⟨rfl, rfl⟩)
      refine wpAny_take (i := 12) (v := .agg #[.int .u64 x.ti, .int .i64 cause]) rfl (by kernel_rfl) (by kernel_rfl) (by kernel_rfl) (fun _ _ _ h => h) (Or.inl ⟨by kernel_rfl, fun w => by go_simp⟩) ?_
      refine wpAny_ready (rs := [13]) (by kernel_rfl) (by simp) ?_
      refine AllReady.cons rfl (fun K hK => ?_) AllReady.nil
      go_simp
      refine hK _ _ ?_
      clear hK K
      refine wpAny_ready (rs := [14]) (by kernel_rfl) (by simp) ?_
      refine AllReady.cons rfl (fun K hK => ?_) AllReady.nil
      refine step_append_own rfl (.tmp 14) (.tmp 23) 59 rfl 0 64 i0 (.agg #[.int .u64 0, .int .i64 0]) 2 16 Tryz.underlying59 HI.out HZ.out HZ1.out HZ2.out rfl (by decide) B.ev x.es.length (x.es.flatMap evC) rfl HEV.out ⟨w1.heap.size, 0, none⟩ 1 1 [.int .u64 x.ti, .int .i64 cause] rfl rfl HNV.out (one2e _ _) HMX.out HBY.out (Nat.zero_le _) ?_
      intro v' w3 hown3 hgr3 hnil3 hat3
      obtain ⟨g3, cap3, rfl⟩ := row_some hown3
      have hE3 := Lib.hid (rst_end H3.out HO3.out hown3 (Off.ofGrown hgr3 fun k e => e) (own_or hat3))
      have hb3 := (Off.ofGrown (S := fun k => B.ev.ownBlock = some k) hgr3 fun k e => e).at H3.out.cells (fun e => (H3.out.evApart e).2 rfl)
      have hf3 := blk_free hb3 10
      have hc3 := blk_cell hb3 10
      simp only [List.getElem?_toArray, List.getElem?_cons_zero, List.getElem?_cons_succ] at hc3
      clear hown3 hgr3 hnil3 hat3 hb3
      refine hK _ _ ?_
      clear hK K
      refine wpAny_take (i := 15) (v := .pointer (some ⟨B.b, 0, none⟩)) rfl (by kernel_rfl) (by kernel_rfl) (by kernel_rfl) (fun _ _ _ h => h) (Or.inl ⟨by kernel_rfl, fun w => by go_simp⟩) ?_
      refine wpAny_take (i := 16) (v := .pointer (some ⟨B.b, 10, none⟩)) rfl (by kernel_rfl) (by kernel_rfl) (by kernel_rfl) (fun _ _ _ h => h) (Or.inl ⟨by kernel_rfl, fun w => by go_simp⟩) ?_
      refine wpAny_ready (rs := [17]) (by kernel_rfl) (by simp) ?_
      refine AllReady.cons rfl (fun K hK => ?_) AllReady.nil
      go_simp
      refine hK _ _ ?_
      clear hK K
      refine wpAny_done (by kernel_rfl) ?_ _
      go_wp2_with fail
      go_end0
      exact hE3.out
    · go_simp
      go_wp2_with (go_at_call 58; refine (HT.out _ (HH1.out.dv.below (trD (tr0 w1)))).mono ?_; rintro e w' ⟨rfl, rfl⟩)
      refine wpAny_take (i := 12) (v := .agg #[.int .u64 x.ti, .int .i64 cause]) rfl (by kernel_rfl) (by kernel_rfl) (by kernel_rfl) (fun _ _ _ h => h) (Or.inl ⟨by kernel_rfl, fun w => by go_simp⟩) ?_
      refine wpAny_ready (rs := [4, 13]) (by kernel_rfl) (by simp) ?_
      refine AllReady.cons rfl (fun K hK => ?_) (AllReady.cons rfl (fun K hK => ?_) AllReady.nil)
      · go_simp
        refine hK _ _ ?_
        clear hK K
        refine wpAny_ready (rs := [13]) (by kernel_rfl) (by simp) ?_
        refine AllReady.cons rfl (fun K hK => ?_) AllReady.nil
        go_simp
        refine hK _ _ ?_
        clear hK K
        refine wpAny_ready (rs := [14]) (by kernel_rfl) (by simp) ?_
        refine AllReady.cons rfl (fun K hK => ?_) AllReady.nil
        refine step_append_own rfl (.tmp 14) (.tmp 23) 59 rfl 0 64 i0 (.agg #[.int .u64 0, .int .i64 0]) 2 16 Tryz.underlying59 HI.out HZ.out HZ1.out HZ2.out rfl (by decide) B.ev x.es.length (x.es.flatMap evC) rfl HEV.out ⟨w1.heap.size, 0, none⟩ 1 1 [.int .u64 x.ti, .int .i64 cause] rfl rfl HNV.out (one2e _ _) HMX.out HBY.out (Nat.zero_le _) ?_
        intro v' w3 hown3 hgr3 hnil3 hat3
        obtain ⟨g3, cap3, rfl⟩ := row_some hown3
        have hE3 := Lib.hid (rst_end H3.out HO3.out hown3 (Off.ofGrown hgr3 fun k e => e) (own_or hat3))
        have hb3 := (Off.ofGrown (S := fun k => B.ev.ownBlock = some k) hgr3 fun k e => e).at H3.out.cells (fun e => (H3.out.evApart e).2 rfl)
        have hf3 := blk_free hb3 10
        have hc3 := blk_cell hb3 10
        simp only [List.getElem?_toArray, List.getElem?_cons_zero, List.getElem?_cons_succ] at hc3
        clear hown3 hgr3 hnil3 hat3 hb3
        refine hK _ _ ?_
        clear hK K
        refine wpAny_take (i := 15) (v := .pointer (some ⟨B.b, 0, none⟩)) rfl (by kernel_rfl) (by kernel_rfl) (by kernel_rfl) (fun _ _ _ h => h) (Or.inl ⟨by kernel_rfl, fun w => by go_simp⟩) ?_
        refine wpAny_take (i := 16) (v := .pointer (some ⟨B.b, 10, none⟩)) rfl (by kernel_rfl) (by kernel_rfl) (by kernel_rfl) (fun _ _ _ h => h) (Or.inl ⟨by kernel_rfl, fun w => by go_simp⟩) ?_
        refine wpAny_ready (rs := [17]) (by kernel_rfl) (by simp) ?_
        refine AllReady.cons rfl (fun K hK => ?_) AllReady.nil
        go_simp
        refine hK _ _ ?_
        clear hK K
        refine wpAny_done (by kernel_rfl) ?_ _
        go_wp2_with fail
        go_end0
        exact hE3.out
      · go_simp
        refine hK _ _ ?_
        clear hK K
        refine wpAny_ready (rs := [4]) (by kernel_rfl) (by simp) ?_
        refine AllReady.cons rfl (fun K hK => ?_) AllReady.nil
        go_simp
        refine hK _ _ ?_
        clear hK K
        refine wpAny_ready (rs := [14]) (by kernel_rfl) (by simp) ?_
        refine AllReady.cons rfl (fun K hK => ?_) AllReady.nil
        refine step_append_own rfl (.tmp 14) (.tmp 23) 59 rfl 0 64 i0 (.agg #[.int .u64 0, .int .i64 0]) 2 16 Tryz.underlying59 HI.out HZ.out HZ1.out HZ2.out rfl (by decide) B.ev x.es.length (x.es.flatMap evC) rfl HEV.out ⟨w1.heap.size, 0, none⟩ 1 1 [.int .u64 x.ti, .int .i64 cause] rfl rfl HNV.out (one2e _ _) HMX.out HBY.out (Nat.zero_le _) ?_
        intro v' w3 hown3 hgr3 hnil3 hat3
        obtain ⟨g3, cap3, rfl⟩ := row_some hown3
        have hE3 := Lib.hid (rst_end H3.out HO3.out hown3 (Off.ofGrown hgr3 fun k e => e) (own_or hat3))
        have hb3 := (Off.ofGrown (S := fun k => B.ev.ownBlock = some k) hgr3 fun k e => e).at H3.out.cells (fun e => (H3.out.evApart e).2 rfl)
        have hf3 := blk_free hb3 10
        have hc3 := blk_cell hb3 10
        simp only [List.getElem?_toArray, List.getElem?_cons_zero, List.getElem?_cons_succ] at hc3
        clear hown3 hgr3 hnil3 hat3 hb3
        refine hK _ _ ?_
        clear hK K
        refine wpAny_take (i := 15) (v := .pointer (some ⟨B.b, 0, none⟩)) rfl (by kernel_rfl) (by kernel_rfl) (by kernel_rfl) (fun _ _ _ h => h) (Or.inl ⟨by kernel_rfl, fun w => by go_simp⟩) ?_
        refine wpAny_take (i := 16) (v := .pointer (some ⟨B.b, 10, none⟩)) rfl (by kernel_rfl) (by kernel_rfl) (by kernel_rfl) (fun _ _ _ h => h) (Or.inl ⟨by kernel_rfl, fun w => by go_simp⟩) ?_
        refine wpAny_ready (rs := [17]) (by kernel_rfl) (by simp) ?_
        refine AllReady.cons rfl (fun K hK => ?_) AllReady.nil
        go_simp
        refine hK _ _ ?_
        clear hK K
        refine wpAny_done (by kernel_rfl) ?_ _
        go_wp2_with fail
        go_end0
        exact hE3.out
end Go.Proofs.YtcgmnjajodegmaaGreat.B
namespace Go.Proofs.YtcgmnjajodegmaaGreat.B
set_option linter.unusedVariables false
set_option linter.unusedSimpArgs false
set_option maxRecDepth 100000
open Go.ChangeShapes Go.WideShapes Go.RowKit Go.Sort
theorem bdLoad (B : Bp) (x : Bx) (a : Int) (w : World) (H : BdAt w B x) (a0 : 0 ≤ a) (a1 : a < 4294967296) :
    Calls Tryz.prog 31 #[.pointer (some ⟨B.b, 0, none⟩), .int .u32 a] w fun e w' => e = .returned (.tuple #[.int .u32 (x.ldv B.n B.c a), .int .i64 (Bx.lde B.n B.c a)]) ∧ Below w.heap.size w w' := by
  have hf0 := fB2
  have HH := Lib.hid H
  have HN := Lib.hid (bdNow B x w H)
  clear H
  go_enter Tryz.func31, Tryz.ntmps31
  go_wp2_with fail
  refine (HN.out).mono ?_
  rintro e w1 ⟨rfl, hb1⟩
  have HH1 := Lib.hid (HH.out.below hb1)
  have HB1 := Lib.hid hb1
  clear hb1
  go_wp2_with fail
  refine (bdBusLoad a HH1.out a0 a1).mono ?_
  rintro e w2 ⟨rfl, hb2⟩
  go_wp2_with fail
  go_ret2
  exact ⟨rfl, tr HB1.out hb2⟩
theorem bdLoadNil (a E : Int) (w : World) (a0 : 0 ≤ a) (hE : E = if (a % 4 != 0) = true then 11 else 10) :
    Calls Tryz.prog 31 #[.pointer none, .int .u32 a] w fun e w' => e = .returned (.tuple #[.int .u32 0, .int .i64 E]) ∧ Below w.heap.size w w' := by
  have hf0 := fB2
  have HL := Lib.hid (fun w' => zLoadErr none a E w' (by rw [hE]; split <;> decide) (fun w'' _ => by
    by_cases h : (a % 4 != 0) = true
    · rw [if_pos h] at hE; subst hE; exact zFindBad a _ w'' a0 h
    · rw [if_neg h] at hE; subst hE; exact zFindNil a w'' a0 (by simpa using h)))
  clear hE
  go_enter Tryz.func31, Tryz.ntmps31
  go_wp2_with fail
  refine (bdNowNil w).mono ?_
  rintro e w1 ⟨rfl, hb1⟩
  go_wp2_with fail
  refine (HL.out _).mono ?_
  rintro e w2 ⟨rfl, hb2⟩
  go_wp2_with fail
  go_ret2
  exact ⟨rfl, tr hb1 hb2⟩
theorem bdStoreNil (a v E : Int) (w : World) (a0 : 0 ≤ a) (hE : E = if (a % 4 != 0) = true then 11 else 10) :
    Calls Tryz.prog 28 #[.pointer none, .int .u32 a, .int .u32 v] w fun e w' => e = .returned (.int .i64 E) ∧ Below w.heap.size w w' := by
  have hf0 := fB2
  have hne : (E != 0) = true := by rw [hE]; split <;> decide
  have HL := Lib.hid (fun w' => zStoreErr none a E v w' hne (fun w'' _ => by
    by_cases h : (a % 4 != 0) = true
    · rw [if_pos h] at hE; subst hE; exact zFindBad a _ w'' a0 h
    · rw [if_neg h] at hE; subst hE; exact zFindNil a w'' a0 (by simpa using h)))
  clear hE
  go_enter Tryz.func28, Tryz.ntmps28
  go_wp2_with fail
  refine (bdNowNil w).mono ?_
  rintro e w1 ⟨rfl, hb1⟩
  go_wp2_with fail
  refine (HL.out _).mono ?_
  rintro e w2 ⟨rfl, hb2⟩
  go_wp2_with fail
  go_ret
  exact ⟨rfl, tr hb1 hb2⟩
theorem bdTickNil (n : Int) (w : World) :
    Calls Tryz.prog 17 #[.pointer none, .int .u64 n] w fun e w' => e = .returned (.tuple #[]) ∧ w = w' := by
  go_enter Tryz.func17, Tryz.ntmps17
  go_wp2_with fail
  go_step3
  go_wp2_with fail
  rw [Exit.noGoto_ret]
  refine bodyPost_ret (v := .tuple #[]) ?_ rfl ⟨rfl, rfl⟩
  simp [results, Tryz.results17, go_sem]
theorem bdCopyNil (w : World) :
    Calls Tryz.prog 16 #[.pointer none] w fun e w' => e = .returned (.pointer none) ∧ w = w' := by
  go_enter Tryz.func16, Tryz.ntmps16
  go_wp2_with fail
  go_ret
  exact ⟨rfl, rfl⟩
/-- What a call leaves that may have told a reset. -/
def Left (B : Bp) (y : Bx) (w w' : World) : Prop := ∃ ev', BdAt w' { B with ev := ev' } y ∧ Off B.own w w' ∧ ∀ k, ev'.ownBlock = some k → B.ev.ownBlock = some k ∨ w.heap.size ≤ k
theorem left_of {B : Bp} {y : Bx} {w w' : World} (H : BdRaw w' B y (wires B.n B.c y)) (ok : y.ok B.n B.c) (st : y.still) (ho : Off B.own w w') : Left B y w w' :=
  ⟨B.ev, H.done ok st, ho, fun k hk => .inl hk⟩
theorem left_ev {B : Bp} {y : Bx} {ev' : Value} {w w' : World} (H : BdRaw w' { B with ev := ev' } y (wires B.n B.c y)) (ok : y.ok B.n B.c) (st : y.still) (ho : Off B.own w w') (he : ∀ k, ev'.ownBlock = some k → B.ev.ownBlock = some k ∨ w.heap.size ≤ k) : Left B y w w' :=
  ⟨ev', H.done ok st, ho, he⟩
theorem bdStoreErr (B : Bp) (x : Bx) (a v : Int) (w : World) (H : BdAt w B x) (a0 : 0 ≤ a) (a1 : a < 4294967296) (v0 : 0 ≤ v) (v1 : v < 4294967296) (hE : Bx.ste B.n B.c a ≠ 0) :
    Calls Tryz.prog 28 #[.pointer (some ⟨B.b, 0, none⟩), .int .u32 a, .int .u32 v] w fun e w' => e = .returned (.int .i64 (Bx.ste B.n B.c a)) ∧ Left B (x.sto B.n B.c a v) w w' := by
  have hf0 := fB2
  have HOK := Lib.hid (Bx.put_ok (a := a) H.ok v0 v1)
  have HST := Lib.hid (Bx.sto_ok (a := a) H.ok H.still v0 v1)
  have HP := Lib.hid (Bx.put_err (n := B.n) (c := B.c) (x := x) (v := v) hE)
  have HS := Lib.hid (show x.sto B.n B.c a v = x by unfold Bx.sto; rw [Bx.put_err hE, Bx.look_still H.still])
  generalize hg : Bx.ste B.n B.c a = E at *
  have HG := Lib.hid hg
  have hE1 : (E != 0) = true := by simpa using hE
  clear hg
  have HH := Lib.hid H
  have HN := Lib.hid (bdNow B x w H)
  clear H
  go_enter Tryz.func28, Tryz.ntmps28
  go_wp2_with fail
  refine (HN.out).mono ?_
  rintro e w1 ⟨rfl, hb1⟩
  have HH1 := Lib.hid (HH.out.below hb1)
  have HB1 := Lib.hid (Off.ofBelow (S := B.own) hb1)
  clear hb1
  go_wp2_with fail
  refine (bdBusStore a v HH1.out a0 a1 v0 v1).mono ?_
  rw [HG.out]
  rintro e w2 ⟨rfl, ho2, d2⟩
  have HD := Lib.hid d2
  have HO := Lib.hid ho2
  clear d2 ho2
  go_wp2_with fail
  go_ret
  refine ⟨rfl, ?_⟩
  rw [HS.out]
  have d := HD.out
  rw [HP.out] at d
  exact left_of (HH1.out.raw.turn d HO.out rfl) HH1.out.ok HH1.out.still (HB1.out.trans (offOwn HO.out))
theorem put_es {n c : Nat} (x : Bx) (a v : Int) : (x.put n c a v).es = x.es := by
  unfold Bx.put
  split <;> first | rfl | (split <;> rfl)
theorem bdStoreStill (B : Bp) (x : Bx) (a v : Int) (w : World) (H : BdAt w B x) (a0 : 0 ≤ a) (a1 : a < 4294967296) (v0 : 0 ≤ v) (v1 : v < 4294967296) (hE : Bx.ste B.n B.c a = 0) (hD : (x.put B.n B.c a v).due = 0) :
    Calls Tryz.prog 28 #[.pointer (some ⟨B.b, 0, none⟩), .int .u32 a, .int .u32 v] w fun e w' => e = .returned (.int .i64 (Bx.ste B.n B.c a)) ∧ Left B (x.sto B.n B.c a v) w w' := by
  have hf0 := fB2
  have HOK := Lib.hid (Bx.put_ok (a := a) H.ok v0 v1)
  have HST := Lib.hid (Bx.sto_ok (a := a) H.ok H.still v0 v1)
  have HS := Lib.hid (show x.sto B.n B.c a v = x.put B.n B.c a v by unfold Bx.sto Bx.look; rw [if_pos hD])
  have HDU := Lib.hid hD
  have HE := Lib.hid hE
  rw [hE]
  clear hD hE
  have HH := Lib.hid H
  have HN := Lib.hid (bdNow B x w H)
  clear H
  go_enter Tryz.func28, Tryz.ntmps28
  go_wp2_with fail
  refine (HN.out).mono ?_
  rintro e w1 ⟨rfl, hb1⟩
  have HH1 := Lib.hid (HH.out.below hb1)
  have HB1 := Lib.hid (Off.ofBelow (S := B.own) hb1)
  clear hb1
  go_wp2_with fail
  refine (bdBusStore a v HH1.out a0 a1 v0 v1).mono ?_
  rw [HE.out]
  rintro e w2 ⟨rfl, ho2, d2⟩
  have R2 := HH1.out.raw.turn d2 ho2 (put_es x a v)
  have hX2 := R2.cells
  have c0 := blk_cell hX2 0
  have c1 := blk_cell hX2 1
  have c2 := blk_cell hX2 2
  have c3 := blk_cell hX2 3
  have c4 := blk_cell hX2 4
  have c5 := blk_cell hX2 5
  simp only [List.getElem?_toArray, List.getElem?_cons_zero, List.getElem?_cons_succ] at c0 c1 c2 c3 c4 c5
  have hB2 := HB1.out.trans (offOwn ho2)
  have HR2 := Lib.hid R2
  have HB2 := Lib.hid hB2
  clear R2 hX2 hB2 d2 ho2
  go_wp2_with fail
  refine (zDue B _ _ _ HR2.out.dv HOK.out).mono ?_
  rw [HDU.out]
  rintro e w3 ⟨rfl, hb3⟩
  have R3 := HR2.out.below hb3
  have hX3 := R3.cells
  have d0 := blk_cell hX3 0
  have d1 := blk_cell hX3 1
  have d2 := blk_cell hX3 2
  have d3 := blk_cell hX3 3
  have d4 := blk_cell hX3 4
  have d5 := blk_cell hX3 5
  simp only [List.getElem?_toArray, List.getElem?_cons_zero, List.getElem?_cons_succ] at d0 d1 d2 d3 d4 d5
  have HR3 := Lib.hid R3
  have HB3 := Lib.hid (HB2.out.trans (Off.ofBelow (S := B.own) hb3))
  clear R3 hX3 hb3 c0 c1 c2 c3 c4 c5
  go_wp2_with fail
  refine (zWire B _ _ _ HR3.out.dv HOK.out).mono ?_
  rintro e w4 ⟨rfl, d4, ho4⟩
  have HL := Lib.hid (left_of (HR3.out.turn d4 ho4 rfl) (HS.out ▸ HST.out.1) (HS.out ▸ HST.out.2) (HB3.out.trans (offOwn ho4)))
  clear d4 ho4
  go_wp2_with fail
  go_ret
  refine ⟨rfl, ?_⟩
  rw [HS.out]
  exact HL.out
theorem bdStoreRst (B : Bp) (x : Bx) (a v : Int) (w : World) (H : BdAt w B x) (a0 : 0 ≤ a) (a1 : a < 4294967296) (v0 : 0 ≤ v) (v1 : v < 4294967296) (hE : Bx.ste B.n B.c a = 0) (hD : (x.put B.n B.c a v).due ≠ 0) (hl : x.es.length < 4294967296) :
    Calls Tryz.prog 28 #[.pointer (some ⟨B.b, 0, none⟩), .int .u32 a, .int .u32 v] w fun e w' => e = .returned (.int .i64 (Bx.ste B.n B.c a)) ∧ Left B (x.sto B.n B.c a v) w w' := by
  have hf0 := fB2
  have HOK := Lib.hid (Bx.put_ok (a := a) H.ok v0 v1)
  have HST := Lib.hid (Bx.sto_ok (a := a) H.ok H.still v0 v1)
  have HS := Lib.hid (show x.sto B.n B.c a v = (x.put B.n B.c a v).rst (x.put B.n B.c a v).due by unfold Bx.sto Bx.look; rw [if_neg hD])
  have HLE := Lib.hid (show (x.put B.n B.c a v).es.length < 4294967296 by rw [put_es]; exact hl)
  have HE := Lib.hid hE
  rw [hE]
  generalize hdu : (x.put B.n B.c a v).due = du at *
  have hD1 : (du != 0) = true := by simpa using hD
  have HDU := Lib.hid hdu
  clear hD hE hdu
  have HH := Lib.hid H
  have HN := Lib.hid (bdNow B x w H)
  clear H
  go_enter Tryz.func28, Tryz.ntmps28
  go_wp2_with fail
  refine (HN.out).mono ?_
  rintro e w1 ⟨rfl, hb1⟩
  have HH1 := Lib.hid (HH.out.below hb1)
  have HB1 := Lib.hid (Off.ofBelow (S := B.own) hb1)
  clear hb1
  go_wp2_with fail
  refine (bdBusStore a v HH1.out a0 a1 v0 v1).mono ?_
  rw [HE.out]
  rintro e w2 ⟨rfl, ho2, d2⟩
  have R2 := HH1.out.raw.turn d2 ho2 (put_es x a v)
  have hX2 := R2.cells
  have c0 := blk_cell hX2 0
  have c1 := blk_cell hX2 1
  have c2 := blk_cell hX2 2
  have c3 := blk_cell hX2 3
  have c4 := blk_cell hX2 4
  have c5 := blk_cell hX2 5
  simp only [List.getElem?_toArray, List.getElem?_cons_zero, List.getElem?_cons_succ] at c0 c1 c2 c3 c4 c5
  have hB2 := HB1.out.trans (offOwn ho2)
  have HR2 := Lib.hid R2
  have HB2 := Lib.hid hB2
  clear R2 hX2 hB2 d2 ho2
  go_wp2_with fail
  refine (zDue B _ _ _ HR2.out.dv HOK.out).mono ?_
  rw [HDU.out]
  rintro e w3 ⟨rfl, hb3⟩
  have R3 := HR2.out.below hb3
  have hX3 := R3.cells
  have HR3 := Lib.hid R3
  have HB3 := Lib.hid (HB2.out.trans (Off.ofBelow (S := B.own) hb3))
  clear R3 hX3 hb3 c0 c1 c2 c3 c4 c5
  go_wp2_with fail
  refine (bdReset B _ _ du _ HR3.out HOK.out HLE.out).mono ?_
  rintro e w4 ⟨rfl, ev', R4, ho4, he4⟩
  have hX4 := R4.cells
  have d0 := blk_cell hX4 0
  have d1 := blk_cell hX4 1
  have d2 := blk_cell hX4 2
  have d3 := blk_cell hX4 3
  have d4 := blk_cell hX4 4
  have d5 := blk_cell hX4 5
  simp only [List.getElem?_toArray, List.getElem?_cons_zero, List.getElem?_cons_succ] at d0 d1 d2 d3 d4 d5
  have HR4 := Lib.hid R4
  have HB4 := Lib.hid (HB3.out.trans ho4)
  have HE4 := Lib.hid (show ∀ k, ev'.ownBlock = some k → B.ev.ownBlock = some k ∨ w.heap.size ≤ k from fun k hk => (he4 k hk).imp id fun h => Nat.le_trans HB3.out.size h)
  clear R4 hX4 ho4 he4
  go_wp2_with fail
  refine (zWire { B with ev := ev' } _ _ _ HR4.out.dv (Bx.rst_ok HOK.out du)).mono ?_
  rintro e w5 ⟨rfl, d5, ho5⟩
  have HL := Lib.hid (left_ev (HR4.out.turn d5 ho5 rfl) (HS.out ▸ HST.out.1) (HS.out ▸ HST.out.2) (HB4.out.trans (offOwn (B := B) ho5)) HE4.out)
  clear d5 ho5
  go_wp2_with fail
  go_ret
  refine ⟨rfl, ?_⟩
  rw [HS.out]
  exact HL.out
/-- A word stored. -/
theorem bdStore (B : Bp) (x : Bx) (a v : Int) (w : World) (H : BdAt w B x) (a0 : 0 ≤ a) (a1 : a < 4294967296) (v0 : 0 ≤ v) (v1 : v < 4294967296) (hl : x.es.length < 4294967296) :
    Calls Tryz.prog 28 #[.pointer (some ⟨B.b, 0, none⟩), .int .u32 a, .int .u32 v] w fun e w' => e = .returned (.int .i64 (Bx.ste B.n B.c a)) ∧ Left B (x.sto B.n B.c a v) w w' := by
  by_cases hE : Bx.ste B.n B.c a = 0
  · by_cases hD : (x.put B.n B.c a v).due = 0
    · exact bdStoreStill B x a v w H a0 a1 v0 v1 hE hD
    · exact bdStoreRst B x a v w H a0 a1 v0 v1 hE hD hl
  · exact bdStoreErr B x a v w H a0 a1 v0 v1 hE
end Go.Proofs.YtcgmnjajodegmaaGreat.B
