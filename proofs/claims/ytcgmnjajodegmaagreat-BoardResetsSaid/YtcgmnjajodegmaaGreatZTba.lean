/- A board in the midst of a call: its lines' word is whatever it was. -/
import Derived.Test.YtcgmnjajodegmaaGreatZTaw
import Derived.Test.YtcgmnjajodegmaaGreatZTaz
import Derived.Maps.AppendAt
import Derived.Great.BuildSlice
set_option linter.unusedVariables false
set_option linter.unusedSimpArgs false
set_option maxRecDepth 100000
namespace Go.Proofs.YtcgmnjajodegmaaGreat.B
open Go.ChangeShapes Go.WideShapes Go.RowKit Go.Sort
structure BdRaw (w : World) (B : Bp) (x : Bx) (h : Int) : Prop where
 cell : w.heap[B.b]? = some (.cells B.cl.toArray tBd (0, 0))
 dv : DvAt w B x h
 bus : UBus w B.bp B.bm B.rv B.R B.ks B.pv (LpB B)
 ev : EvAt w tEv B.ev x.es
section
variable {w w' : World} {B : Bp} {x y : Bx} {h g : Int}
theorem BdAt.raw (H : BdAt w B x) : BdRaw w B x (wires B.n B.c x) := ⟨H.cell, H.dv, H.bus, H.ev⟩
theorem BdRaw.done (H : BdRaw w B x (wires B.n B.c x)) (ok : x.ok B.n B.c) (st : x.still) : BdAt w B x := ⟨H.cell, H.dv, H.bus, H.ev, ok, st⟩
theorem BdRaw.lt (H : BdRaw w B x h) {k : Nat} (hk : B.all k) : k < w.heap.size := by
 rcases hk with (rfl | hk | hk) | rfl | hk
 . exact lt_of_block H.cell
 . exact H.dv.lt hk
 . exact H.ev.lt hk
 . exact H.dv.ltm
 . exact H.bus.lt k hk
theorem BdRaw.kept (H : BdRaw w B x h) (hk : ∀ k, B.all k -> w'.heap[k]? = w.heap[k]?) : BdRaw w' B x h :=
 ⟨(hk _ (.inl (.inl rfl))).trans H.cell, H.dv.kept (fun k h => hk k (.inl (.inr (.inl h)))) (hk _ (.inr (.inl rfl))), H.bus.kept fun k h => hk k (.inr (.inr h)), H.ev.keep fun g hg => hk g (.inl (.inr (.inr hg)))⟩
theorem BdRaw.below (H : BdRaw w B x h) (hb : Below w.heap.size w w') : BdRaw w' B x h := H.kept fun k hk => hb.block k (H.lt hk)
theorem BdRaw.busApart (H : BdRaw w B x h) {k : Nat} (hk : uBlocks B.bp B.bm B.rv B.ks B.pv k) : ¬ B.own k := by
 have hb := H.bus.kd hk
 rintro (rfl | hd | he)
 . rw [kd_of H.cell] at hb; revert hb; decide
 . rw [dev_bus (H.dv.kd hd)] at hb; cases hb
 . rw [H.ev.kd he] at hb; revert hb; decide
theorem BdRaw.mcApart (H : BdRaw w B x h) : ¬ B.own B.mc := by
 have hm := kd_map H.dv.c.map
 rintro (h | hd | he)
 . rw [h, kd_of H.cell] at hm; cases hm
 . exact H.dv.noMc hd
 . rw [H.ev.kd he] at hm; cases hm
theorem BdRaw.bApart (H : BdRaw w B x h) : ¬ B.dvs B.b := H.dv.no H.cell (by decide)
theorem BdRaw.evApart (H : BdRaw w B x h) {k : Nat} (hk : B.ev.ownBlock = some k) : ¬ B.dvs k /\ k ≠ B.b := by
 have he := H.ev.kd hk
 refine ⟨fun hd => ?_, fun e => ?_⟩
 . have := H.dv.kd hd; rw [he] at this; revert this; decide
 . rw [e, kd_of H.cell] at he; revert he; decide
theorem BdRaw.turn (H : BdRaw w B x h) (D : DvAt w' B y g) (ho : Off B.dvs w w') (hes : y.es = x.es) : BdRaw w' B y g :=
 ⟨ho.at H.cell H.bApart, D, H.bus.ofOff ho fun k hk hd => H.busApart hk (.inr (.inl hd)), hes ▸ H.ev.keep fun g hg => ho.block g (H.ev.lt hg) (H.evApart hg).1⟩
theorem offOwn (ho : Off B.dvs w w') : Off B.own w w' := ho.mono fun k _ h => .inr (.inl h)
theorem BdRaw.cells (H : BdRaw w B x h) : w.heap[B.b]? = some (.cells #[.pointer (some ⟨B.pc, 0, none⟩), .pointer (some ⟨B.pb, 0, none⟩), .pointer (some ⟨B.pd, 0, none⟩), .pointer (some ⟨B.ps, 0, none⟩), .pointer (some ⟨B.pr, 0, none⟩), .pointer (some ⟨B.pl, 0, none⟩), .int .i64 B.n, .int .i64 B.c, .int .u32 B.div, .pointer (some ⟨B.bp, 0, none⟩), B.ev] tBd (0, 0)) := H.cell
end
theorem cells2e {w : World} {b : Nat} {x y : Value} {t : TypeId} (h : w.heap[b]? = some (.cells #[x, y] t (0, 0))) : ∀ j u, [x, y][j]? = some u -> w.cell? ((⟨b, 0, none⟩ : Addr).add j) = some u := by
 intro j u hu
 rw [Addr.add_lit, Nat.zero_add, blk_cell h j]
 simpa using hu
theorem one2e (a b : Int) : ∀ u ∈ [Value.int .u64 a, Value.int .i64 b], u.oneCell' = true := by
 intro u hu
 simp only [List.mem_cons, List.not_mem_nil, or_false] at hu
 rcases hu with rfl | rfl <;> rfl
theorem own_or {v v' : Value} {n : Nat} (h : v'.ownBlock = v.ownBlock \/ v'.ownBlock = some n) : ∀ k, v'.ownBlock = some k -> v.ownBlock = some k \/ n <= k := by
 intro k hk
 rcases h with h | h
 . exact .inl (h ▸ hk)
 . rw [h] at hk; cases hk; exact .inr (Nat.le_refl _)
def RstPost (B : Bp) (x : Bx) (h cause : Int) (w : World) (e : Ending) (w' : World) : Prop :=
 e = .returned (.tuple #[]) /\ ∃ ev', BdRaw w' { B with ev := ev' } (x.rst cause) h /\ Off B.own w w' /\ ∀ k, ev'.ownBlock = some k -> B.ev.ownBlock = some k \/ w.heap.size <= k
theorem rst_end {B : Bp} {x : Bx} {h cause : Int} {w W1 W3 : World} {v' : Value} (H : BdRaw W1 B { x.rst cause with es := x.es } h) (hW : Off B.own w W1)
 (hown : W3.ownsRow 0 64 2 v' (x.es.length + 1) (x.es.flatMap evC ++ [.int .u64 x.ti, .int .i64 cause])) (hgr : Off (fun k => B.ev.ownBlock = some k) W1 W3) (hat : ∀ k, v'.ownBlock = some k -> B.ev.ownBlock = some k \/ W1.heap.size <= k) :
 RstPost B x h cause w (.returned (.tuple #[])) (W3.setCell ⟨B.b, 10, none⟩ v') := by
 have hb3 : W3.heap[B.b]? = some (.cells B.cl.toArray tBd (0, 0)) := hgr.at H.cell (fun e => (H.evApart e).2 rfl)
 have hlb := lt_of_block H.cell
 have hso := off_set W3 B.b 10 v'
 have hne : ∀ k, v'.ownBlock = some k -> k ≠ B.b := fun k hk e => by
  have h1 : kd W3 k = tEv + 1 := by obtain ⟨cur, hc⟩ := row_obj hown hk; exact kd_of hc
  rw [e, kd_of hb3] at h1; revert h1; decide
 have hO : Off (fun k => k = B.b \/ B.ev.ownBlock = some k) W1 (W3.setCell ⟨B.b, 10, none⟩ v') := (hgr.mono fun _ _ h => .inr h).next hso fun _ _ h => .inl h
 refine ⟨rfl, v', ⟨?_, ?_, ?_, ?_⟩, hW.trans (hO.mono fun k _ h => h.elim .inl fun h => .inr (.inr h)), fun k hk => (hat k hk).imp id fun h => Nat.le_trans hW.size h⟩
 . have := blk_set hb3 10 v'
   exact this
 . have D := H.dv.off hO (fun k hk e => e.elim (fun e => H.bApart (e ▸ hk)) (fun e => (H.evApart e).1 hk)) (fun e => H.mcApart (e.elim .inl fun e => .inr (.inr e)))
   exact ⟨D.c, D.b, D.d, D.s, D.r, D.l⟩
 . exact H.bus.ofOff hO fun k hk e => H.busApart hk (e.elim .inl fun e => .inr (.inr e))
 . have h1 : EvAt W3 tEv v' (x.es ++ [(x.ti, cause)]) := by
    unfold EvAt
    rw [List.length_append, List.flatMap_append]
    simpa [evC] using hown
   exact h1.keep fun g hg => hso.block g (h1.lt hg) (hne g hg)
theorem row_some {w : World} {b : Nat} {e : TypeId} {n m : Nat} {v : Value} {xs : List Value} (h : w.ownsRow b e n v (m + 1) xs) : ∃ g cap, v = .slice (some ⟨g, 0, none⟩) (m + 1) cap := by
 rcases row_form h with ⟨_, h2⟩ | ⟨g, cap, h1, _⟩
 . omega
 . exact ⟨g, cap, h1⟩
set_option maxHeartbeats 1600000 in
theorem bdReset (B : Bp) (x : Bx) (h cause : Int) (w : World) (H : BdRaw w B x h) (ok : x.ok B.n B.c) (hl : x.es.length < 4294967296) :
 Calls Tryz.prog 55 #[.pointer (some ⟨B.b, 0, none⟩), .int .i64 cause] w (RstPost B x h cause w) := by
 obtain ⟨i0, hi, hz0, hz1, hz2⟩ := info_parts infoEv
 have hX := H.cells
 have hlb := lt_of_block hX
 have c0 := blk_cell hX 0
 have c1 := blk_cell hX 1
 have c2 := blk_cell hX 2
 have c3 := blk_cell hX 3
 have c4 := blk_cell hX 4
 have c5 := blk_cell hX 5
 simp only [List.getElem?_toArray, List.getElem?_cons_zero, List.getElem?_cons_succ] at c0 c1 c2 c3 c4 c5
 have HI := Hd hi
 have HZ := Hd hz0
 have HZ1 := Hd hz1
 have HZ2 := Hd hz2
 have HH := Hd H
 have HOK := Hd ok
 have HMX := Hd (show x.es.length + 1 <= maxLen by unfold maxLen; omega)
 have HBY := Hd (show (x.es.length + 1) * 16 <= 140737488355328 by omega)
 clear hi hz0 hz1 hz2 hX H ok hl
 go_enter Tryz.func55, Tryz.ntmps55
 go_wp2_with fail
 refine (zAgain B x h cause w HH.out.dv HOK.out).mono ?_
 rintro e w1 ⟨rfl, d1, ho1⟩
 have H1 : BdRaw w1 B { x.rst cause with es := x.es } h := HH.out.turn ⟨d1.c, d1.b, d1.d, d1.s, d1.r, d1.l⟩ ho1 rfl
 have hX1 := H1.cells
 have hl1 := lt_of_block hX1
 have hO1 := offOwn ho1
 clear c0 c1 c2 c3 c4 c5
 have c0 := blk_cell hX1 0
 have c10 := blk_cell hX1 10
 simp only [List.getElem?_toArray, List.getElem?_cons_zero, List.getElem?_cons_succ] at c0 c10
 have HH1 := Hd H1
 have HO1 := Hd hO1
 have HT := Hd (show ∀ (u : World), DvAt u B { x.rst cause with es := x.es } h -> Calls Tryz.prog 58 #[.pointer (some ⟨B.pc, 0, none⟩)] u fun e w' => e = .returned (.int .u64 x.ti) /\ u = w' from fun u A => cTime _ _ _ _ B.pc B.mc u A.c)
 have hW := trA (trD (tr0 w1)) (.cells #[.int .u64 x.ti, .int .i64 cause] 64)
 have H3 := Hd (H1.below hW)
 have HEV := Hd (H1.below hW).ev
 have HO3 := Hd (hO1.trans (Off.ofBelow (S := B.own) hW))
 have HNV := Hd (cells2e (blk_new w1.drew (.cells #[.int .u64 x.ti, .int .i64 cause] 64)))
 clear H1 hX1 hO1 d1 ho1 hlb hW
 have hc := Hd (enters_of Tryz.func58 (by kernel_rfl) rfl)
 go_wp2_with fail
 refine wp_region_any (by kernel_rfl) ?_
 try (change wpAny _ _ _ _ _ _ _ (World.drew _))
 refine wpAny_take (i := 0) (v := .pointer (some ⟨B.b, 0, none⟩)) rfl (by kernel_rfl) (by kernel_rfl) (by kernel_rfl) (fun _ _ _ h => h) (Or.inl ⟨by kernel_rfl, fun w => by go_simp⟩) ?_
 refine wpAny_take (i := 1) (v := .pointer (some ⟨B.b, 0, none⟩)) rfl (by kernel_rfl) (by kernel_rfl) (by kernel_rfl) (fun _ _ _ h => h) (Or.inl ⟨by kernel_rfl, fun w => by go_simp⟩) ?_
 refine wpAny_take (i := 2) (v := .pointer (some ⟨B.b, 0, none⟩)) rfl (by kernel_rfl) (by kernel_rfl) (by kernel_rfl) (fun _ _ _ h => h) (Or.inl ⟨by kernel_rfl, fun w => by go_simp⟩) ?_
 refine wpAny_take (i := 3) (v := .pointer (some ⟨B.b, 10, none⟩)) rfl (by kernel_rfl) (by kernel_rfl) (by kernel_rfl) (fun _ _ _ h => h) (Or.inl ⟨by kernel_rfl, fun w => by go_simp⟩) ?_
 refine wpAny_take (i := 5) (v := .pointer (some ⟨B.b, 0, none⟩)) rfl (by kernel_rfl) (by kernel_rfl) (by kernel_rfl) (fun _ _ _ h => h) (Or.inl ⟨by kernel_rfl, fun w => by go_simp⟩) ?_
 refine wpAny_take (i := 6) (v := .pointer (some ⟨B.b, 0, none⟩)) rfl (by kernel_rfl) (by kernel_rfl) (by kernel_rfl) (fun _ _ _ h => h) (Or.inl ⟨by kernel_rfl, fun w => by go_simp⟩) ?_
 refine wpAny_take (i := 7) (v := .pointer (some ⟨B.b, 0, none⟩)) rfl (by kernel_rfl) (by kernel_rfl) (by kernel_rfl) (fun _ _ _ h => h) (Or.inl ⟨by kernel_rfl, fun w => by go_simp⟩) ?_
 refine wpAny_take (i := 8) (v := .pointer (some ⟨B.b, 0, none⟩)) rfl (by kernel_rfl) (by kernel_rfl) (by kernel_rfl) (fun _ _ _ h => h) (Or.inl ⟨by kernel_rfl, fun w => by go_simp⟩) ?_
 refine wpAny_take (i := 11) (v := .int .i64 cause) rfl (by kernel_rfl) (by kernel_rfl) (by kernel_rfl) (fun _ _ _ h => h) (Or.inl ⟨by kernel_rfl, fun w => by go_simp⟩) ?_
 refine wpAny_ready (rs := [4, 9]) (by kernel_rfl) (by simp) ?_
 refine AllReady.cons rfl (fun K hK => ?_) (AllReady.cons rfl (fun K hK => ?_) AllReady.nil)
 . go_simp
   refine hK _ _ ?_
   clear hK K
   refine wpAny_ready (rs := [9]) (by kernel_rfl) (by simp) ?_
   refine AllReady.cons rfl (fun K hK => ?_) AllReady.nil
   go_simp
   refine hK _ _ ?_
   clear hK K
   refine wpAny_ready (rs := [10]) (by kernel_rfl) (by simp) ?_
   refine AllReady.cons rfl (fun K hK => ?_) AllReady.nil
   go_simp
   go_wp2_with (go_at_call 58; refine (HT.out _ (HH1.out.dv.below (trD (tr0 w1)))).mono ?_; rintro e w' ⟨rfl, rfl⟩)
   refine wpAny_take (i := 12) (v := .agg #[.int .u64 x.ti, .int .i64 cause]) rfl (by kernel_rfl) (by kernel_rfl) (by kernel_rfl) (fun _ _ _ h => h) (Or.inl ⟨by kernel_rfl, fun w => by go_simp⟩) ?_
   refine wpAny_ready (rs := [13]) (by kernel_rfl) (by simp) ?_
   refine AllReady.cons rfl (fun K hK => ?_) AllReady.nil
   go_simp
   refine hK _ _ ?_
   clear hK K
   refine wpAny_ready (rs := [14]) (by kernel_rfl) (by simp) ?_
   refine AllReady.cons rfl (fun K hK => ?_) AllReady.nil
   refine step_append_own rfl (.tmp 14) (.tmp 23) 59 rfl 0 64 i0 (.agg #[.int .u64 0, .int .i64 0]) 2 16 Tryz.underlying59 HI.out HZ.out HZ1.out HZ2.out rfl (by decide) B.ev x.es.length (x.es.flatMap evC) rfl HEV.out ⟨w1.heap.size, 0, none⟩ 1 1 [.int .u64 x.ti, .int .i64 cause] rfl rfl HNV.out (one2e _ _) HMX.out HBY.out (Nat.zero_le _) ?_
   intro v' w3 hown3 hgr3 hnil3 hat3
   obtain ⟨g3, cap3, rfl⟩ := row_some hown3
   have hE3 := Hd (rst_end H3.out HO3.out hown3 (Off.ofGrown hgr3 fun k e => e) (own_or hat3))
   have hb3 := (Off.ofGrown (S := fun k => B.ev.ownBlock = some k) hgr3 fun k e => e).at H3.out.cells (fun e => (H3.out.evApart e).2 rfl)
   have hf3 := blk_free hb3 10
   have hc3 := blk_cell hb3 10
   simp only [List.getElem?_toArray, List.getElem?_cons_zero, List.getElem?_cons_succ] at hc3
   clear hown3 hgr3 hnil3 hat3 hb3
   refine hK _ _ ?_
   clear hK K
   refine wpAny_take (i := 15) (v := .pointer (some ⟨B.b, 0, none⟩)) rfl (by kernel_rfl) (by kernel_rfl) (by kernel_rfl) (fun _ _ _ h => h) (Or.inl ⟨by kernel_rfl, fun w => by go_simp⟩) ?_
   refine wpAny_take (i := 16) (v := .pointer (some ⟨B.b, 10, none⟩)) rfl (by kernel_rfl) (by kernel_rfl) (by kernel_rfl) (fun _ _ _ h => h) (Or.inl ⟨by kernel_rfl, fun w => by go_simp⟩) ?_
   refine wpAny_ready (rs := [17]) (by kernel_rfl) (by simp) ?_
   refine AllReady.cons rfl (fun K hK => ?_) AllReady.nil
   go_simp
   refine hK _ _ ?_
   clear hK K
   refine wpAny_done (by kernel_rfl) ?_ _
   go_wp2_with fail
   go_end0
   exact hE3.out
 . go_simp
   refine hK _ _ ?_
   clear hK K
   refine wpAny_ready (rs := [4, 10]) (by kernel_rfl) (by simp) ?_
   refine AllReady.cons rfl (fun K hK => ?_) (AllReady.cons rfl (fun K hK => ?_) AllReady.nil)
   . go_simp
     refine hK _ _ ?_
     clear hK K
     refine wpAny_ready (rs := [10]) (by kernel_rfl) (by simp) ?_
     refine AllReady.cons rfl (fun K hK => ?_) AllReady.nil
     go_simp
     go_wp2_with (go_at_call 58; refine (HT.out _ (HH1.out.dv.below (trD (tr0 w1)))).mono ?_; rintro e w' ⟨rfl, rfl⟩)
     refine wpAny_take (i := 12) (v := .agg #[.int .u64 x.ti, .int .i64 cause]) rfl (by kernel_rfl) (by kernel_rfl) (by kernel_rfl) (fun _ _ _ h => h) (Or.inl ⟨by kernel_rfl, fun w => by go_simp⟩) ?_
     refine wpAny_ready (rs := [13]) (by kernel_rfl) (by simp) ?_
     refine AllReady.cons rfl (fun K hK => ?_) AllReady.nil
     go_simp
     refine hK _ _ ?_
     clear hK K
     refine wpAny_ready (rs := [14]) (by kernel_rfl) (by simp) ?_
     refine AllReady.cons rfl (fun K hK => ?_) AllReady.nil
     refine step_append_own rfl (.tmp 14) (.tmp 23) 59 rfl 0 64 i0 (.agg #[.int .u64 0, .int .i64 0]) 2 16 Tryz.underlying59 HI.out HZ.out HZ1.out HZ2.out rfl (by decide) B.ev x.es.length (x.es.flatMap evC) rfl HEV.out ⟨w1.heap.size, 0, none⟩ 1 1 [.int .u64 x.ti, .int .i64 cause] rfl rfl HNV.out (one2e _ _) HMX.out HBY.out (Nat.zero_le _) ?_
     intro v' w3 hown3 hgr3 hnil3 hat3
     obtain ⟨g3, cap3, rfl⟩ := row_some hown3
     have hE3 := Hd (rst_end H3.out HO3.out hown3 (Off.ofGrown hgr3 fun k e => e) (own_or hat3))
     have hb3 := (Off.ofGrown (S := fun k => B.ev.ownBlock = some k) hgr3 fun k e => e).at H3.out.cells (fun e => (H3.out.evApart e).2 rfl)
     have hf3 := blk_free hb3 10
     have hc3 := blk_cell hb3 10
     simp only [List.getElem?_toArray, List.getElem?_cons_zero, List.getElem?_cons_succ] at hc3
     clear hown3 hgr3 hnil3 hat3 hb3
     refine hK _ _ ?_
     clear hK K
     refine wpAny_take (i := 15) (v := .pointer (some ⟨B.b, 0, none⟩)) rfl (by kernel_rfl) (by kernel_rfl) (by kernel_rfl) (fun _ _ _ h => h) (Or.inl ⟨by kernel_rfl, fun w => by go_simp⟩) ?_
     refine wpAny_take (i := 16) (v := .pointer (some ⟨B.b, 10, none⟩)) rfl (by kernel_rfl) (by kernel_rfl) (by kernel_rfl) (fun _ _ _ h => h) (Or.inl ⟨by kernel_rfl, fun w => by go_simp⟩) ?_
     refine wpAny_ready (rs := [17]) (by kernel_rfl) (by simp) ?_
     refine AllReady.cons rfl (fun K hK => ?_) AllReady.nil
     go_simp
     refine hK _ _ ?_
     clear hK K
     refine wpAny_done (by kernel_rfl) ?_ _
     go_wp2_with fail
     go_end0
     exact hE3.out
   . go_simp
     go_wp2_with (go_at_call 58; refine (HT.out _ (HH1.out.dv.below (trD (tr0 w1)))).mono ?_; rintro e w' ⟨rfl, rfl⟩)
     refine wpAny_take (i := 12) (v := .agg #[.int .u64 x.ti, .int .i64 cause]) rfl (by kernel_rfl) (by kernel_rfl) (by kernel_rfl) (fun _ _ _ h => h) (Or.inl ⟨by kernel_rfl, fun w => by go_simp⟩) ?_
     refine wpAny_ready (rs := [4, 13]) (by kernel_rfl) (by simp) ?_
     refine AllReady.cons rfl (fun K hK => ?_) (AllReady.cons rfl (fun K hK => ?_) AllReady.nil)
     . go_simp
       refine hK _ _ ?_
       clear hK K
       refine wpAny_ready (rs := [13]) (by kernel_rfl) (by simp) ?_
       refine AllReady.cons rfl (fun K hK => ?_) AllReady.nil
       go_simp
       refine hK _ _ ?_
       clear hK K
       refine wpAny_ready (rs := [14]) (by kernel_rfl) (by simp) ?_
       refine AllReady.cons rfl (fun K hK => ?_) AllReady.nil
       refine step_append_own rfl (.tmp 14) (.tmp 23) 59 rfl 0 64 i0 (.agg #[.int .u64 0, .int .i64 0]) 2 16 Tryz.underlying59 HI.out HZ.out HZ1.out HZ2.out rfl (by decide) B.ev x.es.length (x.es.flatMap evC) rfl HEV.out ⟨w1.heap.size, 0, none⟩ 1 1 [.int .u64 x.ti, .int .i64 cause] rfl rfl HNV.out (one2e _ _) HMX.out HBY.out (Nat.zero_le _) ?_
       intro v' w3 hown3 hgr3 hnil3 hat3
       obtain ⟨g3, cap3, rfl⟩ := row_some hown3
       have hE3 := Hd (rst_end H3.out HO3.out hown3 (Off.ofGrown hgr3 fun k e => e) (own_or hat3))
       have hb3 := (Off.ofGrown (S := fun k => B.ev.ownBlock = some k) hgr3 fun k e => e).at H3.out.cells (fun e => (H3.out.evApart e).2 rfl)
       have hf3 := blk_free hb3 10
       have hc3 := blk_cell hb3 10
       simp only [List.getElem?_toArray, List.getElem?_cons_zero, List.getElem?_cons_succ] at hc3
       clear hown3 hgr3 hnil3 hat3 hb3
       refine hK _ _ ?_
       clear hK K
       refine wpAny_take (i := 15) (v := .pointer (some ⟨B.b, 0, none⟩)) rfl (by kernel_rfl) (by kernel_rfl) (by kernel_rfl) (fun _ _ _ h => h) (Or.inl ⟨by kernel_rfl, fun w => by go_simp⟩) ?_
       refine wpAny_take (i := 16) (v := .pointer (some ⟨B.b, 10, none⟩)) rfl (by kernel_rfl) (by kernel_rfl) (by kernel_rfl) (fun _ _ _ h => h) (Or.inl ⟨by kernel_rfl, fun w => by go_simp⟩) ?_
       refine wpAny_ready (rs := [17]) (by kernel_rfl) (by simp) ?_
       refine AllReady.cons rfl (fun K hK => ?_) AllReady.nil
       go_simp
       refine hK _ _ ?_
       clear hK K
       refine wpAny_done (by kernel_rfl) ?_ _
       go_wp2_with fail
       go_end0
       exact hE3.out
     . go_simp
       refine hK _ _ ?_
       clear hK K
       refine wpAny_ready (rs := [4]) (by kernel_rfl) (by simp) ?_
       refine AllReady.cons rfl (fun K hK => ?_) AllReady.nil
       go_simp
       refine hK _ _ ?_
       clear hK K
       refine wpAny_ready (rs := [14]) (by kernel_rfl) (by simp) ?_
       refine AllReady.cons rfl (fun K hK => ?_) AllReady.nil
       refine step_append_own rfl (.tmp 14) (.tmp 23) 59 rfl 0 64 i0 (.agg #[.int .u64 0, .int .i64 0]) 2 16 Tryz.underlying59 HI.out HZ.out HZ1.out HZ2.out rfl (by decide) B.ev x.es.length (x.es.flatMap evC) rfl HEV.out ⟨w1.heap.size, 0, none⟩ 1 1 [.int .u64 x.ti, .int .i64 cause] rfl rfl HNV.out (one2e _ _) HMX.out HBY.out (Nat.zero_le _) ?_
       intro v' w3 hown3 hgr3 hnil3 hat3
       obtain ⟨g3, cap3, rfl⟩ := row_some hown3
       have hE3 := Hd (rst_end H3.out HO3.out hown3 (Off.ofGrown hgr3 fun k e => e) (own_or hat3))
       have hb3 := (Off.ofGrown (S := fun k => B.ev.ownBlock = some k) hgr3 fun k e => e).at H3.out.cells (fun e => (H3.out.evApart e).2 rfl)
       have hf3 := blk_free hb3 10
       have hc3 := blk_cell hb3 10
       simp only [List.getElem?_toArray, List.getElem?_cons_zero, List.getElem?_cons_succ] at hc3
       clear hown3 hgr3 hnil3 hat3 hb3
       refine hK _ _ ?_
       clear hK K
       refine wpAny_take (i := 15) (v := .pointer (some ⟨B.b, 0, none⟩)) rfl (by kernel_rfl) (by kernel_rfl) (by kernel_rfl) (fun _ _ _ h => h) (Or.inl ⟨by kernel_rfl, fun w => by go_simp⟩) ?_
       refine wpAny_take (i := 16) (v := .pointer (some ⟨B.b, 10, none⟩)) rfl (by kernel_rfl) (by kernel_rfl) (by kernel_rfl) (fun _ _ _ h => h) (Or.inl ⟨by kernel_rfl, fun w => by go_simp⟩) ?_
       refine wpAny_ready (rs := [17]) (by kernel_rfl) (by simp) ?_
       refine AllReady.cons rfl (fun K hK => ?_) AllReady.nil
       go_simp
       refine hK _ _ ?_
       clear hK K
       refine wpAny_done (by kernel_rfl) ?_ _
       go_wp2_with fail
       go_end0
       exact hE3.out
end Go.Proofs.YtcgmnjajodegmaaGreat.B
