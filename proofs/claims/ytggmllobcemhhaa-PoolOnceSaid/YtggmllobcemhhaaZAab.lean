/- Several texts in one: Layer 16, the document's places in a row: a slice of structs of five cells (made of XGR). Layer 16, the document's: New, .. -/
import Derived.Test.YtggmllobcemhhaaZAaa
import Derived.Laws.AppendOwn
import Derived.Laws.OwnMore
import Derived.OwnWalk
import Derived.Great.BuildSlice
import Derived.Deep.Cut
namespace Go.Proofs.Ytggmllobcemhhaa.B
set_option linter.unusedVariables false
set_option linter.unusedSimpArgs false
open Go.ChangeShapes Go.WideShapes Go.RowKit Go.Sort
abbrev tPo : TypeId := 49
def pol (c : Po) : List Value := [.int .u64 c.g, .bool c.tk, .int .u64 c.d, .int .u64 c.p, .int .u64 c.o]
def oPo (c : Po) : Obj := .cells (pol c).toArray tPo (0, 0)
theorem iPo : (Try.prog.info? 49).map (·.size) = some 5 := by kernel_rfl
theorem pol_len (t : Po) : (pol t).length = 5 := rfl
theorem pol_one (t : Po) : ∀ x ∈ pol t, x.oneCell' = true := fun x hx => by
 unfold pol at hx
 simp only [List.mem_cons, List.not_mem_nil, or_false] at hx
 rcases hx with rfl | rfl | rfl | rfl | rfl <;> rfl
def InPo (w : World) (g o : Nat) (s : Po) : Prop := ∃ cur t fr, w.heap[g]? = some (.cells cur t fr) ∧ PartAt cur o (pol s)
theorem InPo.cell {w : World} {g o : Nat} {s : Po} (h : InPo w g o s) (j : Nat) (v : Value) (hj : (pol s)[j]? = some v) : w.cell? ⟨g, o + j, none⟩ = some v := by
 obtain ⟨cur, t, fr, h1, h2⟩ := h
 rw [cell_of_row w g (o + j) cur t fr h1]
 exact h2 j v hj
theorem InPo.below {w w' : World} {g o : Nat} {s : Po} (h : InPo w g o s) (hb : Below w.heap.size w w') : InPo w' g o s := by
 obtain ⟨cur, t, fr, h1, h2⟩ := h
 exact ⟨cur, t, fr, blk_below hb h1 (lt_of_block h1), h2⟩
theorem InPo.lt {w : World} {g o : Nat} {s : Po} (h : InPo w g o s) : g < w.heap.size := by
 obtain ⟨cur, t, fr, h1, h2⟩ := h
 exact lt_of_block h1
structure RwPo (w : World) (g n cap : Nat) (t : Nat → Po) : Prop where
 row : ∃ cur, w.heap[g]? = some (.cells cur tPo (0, 0)) ∧ cur.size = cap * 5 ∧ ∀ i, i < n → PartAt cur (i * 5) (pol (t i))
 nc : n ≤ cap
 cm : cap ≤ maxLen
section
variable {w w' : World} {g n cap B : Nat} {t s : Nat → Po}
theorem RwPo.lt (h : RwPo w g n cap t) : g < w.heap.size := by obtain ⟨cur, h1, _⟩ := h.row; exact lt_of_block h1
theorem RwPo.below (h : RwPo w g n cap t) (hb : Below w.heap.size w w') : RwPo w' g n cap t := by
 obtain ⟨cur, h1, h2, h3⟩ := h.row
 exact ⟨⟨cur, blk_below hb h1 h.lt, h2, h3⟩, h.nc, h.cm⟩
theorem RwPo.off {S : Nat → Prop} (h : RwPo w g n cap t) (ho : Off S w w') (hs : ¬ S g) : RwPo w' g n cap t := by
 obtain ⟨cur, h1, h2, h3⟩ := h.row
 exact ⟨⟨cur, ho.at h1 hs, h2, h3⟩, h.nc, h.cm⟩
theorem RwPo.congr (h : RwPo w g n cap t) (hs : ∀ i, i < n → t i = s i) : RwPo w g n cap s := by
 obtain ⟨cur, h1, h2, h3⟩ := h.row
 exact ⟨⟨cur, h1, h2, fun i hi => by rw [← hs i hi]; exact h3 i hi⟩, h.nc, h.cm⟩
theorem RwPo.at (h : RwPo w g n cap t) {i : Nat} (hi : i < n) : InPo w g (i * 5) (t i) := by
 obtain ⟨cur, h1, h2, h3⟩ := h.row
 exact ⟨cur, _, _, h1, h3 i hi⟩
theorem RwPo.free (h : RwPo w g n cap t) (j : Nat) : w.frozen? ⟨g, j, none⟩ = false := by
 obtain ⟨cur, h1, _⟩ := h.row
 exact blk_free h1 j
theorem RwPo.c (h : RwPo w g n cap t) {i : Nat} (hi : i < n) (j : Nat) (v : Value) (hj : (pol (t i))[j]? = some v) : w.cell? ⟨g, i * 5 + j, none⟩ = some v := (h.at hi).cell j v hj
theorem RwPo.ne {b : Nat} {x : Array Value} {T : TypeId} {f : Nat × Nat} (h : RwPo w g n cap t) (hb : w.heap[b]? = some (.cells x T f)) (hne : (T == tPo) = false) : g ≠ b := by
 obtain ⟨cur, h1, _⟩ := h.row
 rintro rfl
 rw [h1] at hb
 cases hb
 simp at hne
end
def OutPo (w : World) (B : Nat) (v : Value) (k : Nat) (t : Nat → Po) : Prop := ∃ xs, w.ownsRow B tPo 5 v k xs ∧ ∀ i, i < k → ∀ j u, (pol (t i))[j]? = some u → xs[i * 5 + j]? = some u
theorem outPo_nil (w : World) (B : Nat) (t : Nat → Po) : OutPo w B (.slice none 0 0) 0 t := ⟨[], World.ownsRow_nil w B tPo 5, fun i hi => by omega⟩
theorem own_keptPo {w w' : World} {B : Nat} {e : TypeId} {z : Nat} {v : Value} {n : Nat} {xs : List Value} (h : w.ownsRow B e z v n xs) (hb : Below w.heap.size w w') : w'.ownsRow B e z v n xs := by
 refine ⟨h.1, ?_⟩
 rcases h.2 with h | ⟨g, cap, cur, h1, h2, h3, h4⟩
 · exact .inl h
 · exact .inr ⟨g, cap, cur, h1, h2, blk_below hb h3 (lt_of_block h3), h4⟩
theorem OutPo.below {w w' : World} {B : Nat} {v : Value} {k : Nat} {t : Nat → Po} (h : OutPo w B v k t) (hb : Below w.heap.size w w') : OutPo w' B v k t := by
 obtain ⟨xs, h1, h2⟩ := h
 exact ⟨xs, own_keptPo h1 hb, h2⟩
theorem OutPo.congr {w : World} {B : Nat} {v : Value} {k : Nat} {t s : Nat → Po} (h : OutPo w B v k t) (hs : ∀ i, i < k → t i = s i) : OutPo w B v k s := by
 obtain ⟨xs, h1, h2⟩ := h
 exact ⟨xs, h1, fun i hi j u hu => h2 i hi j u (by rw [hs i hi]; exact hu)⟩
theorem outPo_push {w' : World} {B : Nat} {v' : Value} {k : Nat} {t : Nat → Po} {xs : List Value} (hl : xs.length = k * 5) (h2 : ∀ i, i < k → ∀ j u, (pol (t i))[j]? = some u → xs[i * 5 + j]? = some u) {x : Po} (hx : t k = x)
 (h1 : w'.ownsRow B tPo 5 v' (k + 1) (xs ++ pol x)) : OutPo w' B v' (k + 1) t := by
 subst hx
 refine ⟨_, h1, fun i hi j u hu => ?_⟩
 have hj : j < 5 := by have := (List.getElem?_eq_some_iff.1 hu).1; rw [pol_len] at this; exact this
 by_cases e : i = k
 · subst e
   rw [List.getElem?_append_right (by omega), hl, show i * 5 + j - i * 5 = j by omega]
   exact hu
 · rw [List.getElem?_append_left (by rw [hl]; omega)]
   exact h2 i (by omega) j u hu
theorem OutPo.rw {w : World} {B : Nat} {v : Value} {k : Nat} {t : Nat → Po} (h : OutPo w B v k t) (h0 : 0 < k) : ∃ g cap, v = .slice (some ⟨g, 0, none⟩) k cap ∧ B ≤ g ∧ RwPo w g k cap t := by
 obtain ⟨xs, ⟨hl, ho⟩, h2⟩ := h
 rcases ho with ⟨_, hk⟩ | ⟨g, cap, cur, rfl, hB, hg, hkc, hcm, hcs, htk⟩
 · omega
 · refine ⟨g, cap, rfl, hB, ⟨⟨cur, hg, hcs, fun i hi j u hu => ?_⟩, hkc, hcm⟩⟩
   have h3 := h2 i hi j u hu
   rw [← htk, List.getElem?_take] at h3
   split at h3
   · simpa using h3
   · cases h3
theorem RwPo.out {w : World} {g n cap B : Nat} {t : Nat → Po} (h : RwPo w g n cap t) (hB : B ≤ g) : OutPo w B (.slice (some ⟨g, 0, none⟩) n cap) n t := by
 obtain ⟨cur, h1, h2, h3⟩ := h.row
 have hnc := h.nc
 refine ⟨cur.toList.take (n * 5), ⟨by simp; omega, .inr ⟨g, cap, cur, rfl, hB, h1, hnc, h.cm, h2, rfl⟩⟩, fun i hi j u hu => ?_⟩
 have hj : j < 5 := by have := (List.getElem?_eq_some_iff.1 hu).1; rw [pol_len] at this; exact this
 rw [List.getElem?_take, if_pos (by omega)]
 simpa using h3 i hi j u hu
theorem Off.ofOwnPo {w w' : World} {v : Value} (h : w.grownBy w' v.ownBlock) : Off (fun k => v.ownBlock = some k) w w' := Off.ofGrown h fun k e => e
theorem OutPo.block {w : World} {B : Nat} {v : Value} {k : Nat} {t : Nat → Po} (h : OutPo w B v k t) {b : Nat} (hb : v.ownBlock = some b) : B ≤ b := by
 obtain ⟨xs, h1, _⟩ := h
 exact (h1.lt b hb).1
section
variable {ops : Array Oper} {rest : List Oper} {o : Oper} {a : Act} {w : World} {Q : Exit → Act → World → Prop}
end
theorem infoPo : (Try.prog.info? 49).map (fun i => (i.zero, i.size, i.bytes)) = some (some (.agg (pol pz0).toArray), 5, 40) := by kernel_rfl
theorem inNewPo (w : World) (s : Po) : InPo (w.alloc (oPo s)) w.heap.size 0 s := ⟨_, _, _, blk_new w (oPo s), part_all _⟩
section
variable {ops : Array Oper} {rest : List Oper} {o : Oper} {a : Act} {w : World} {Q : Exit → Act → World → Prop}
theorem buildPo (hgd : o.guard = none) (x : Operand) (ho : o.op = .buildSlice 28 1 #[(0, x)]) {s : Po} (hx : a.eval x = .agg (pol s).toArray)
 (h : wpList Try.prog ops Q rest (a.put o.dst (.slice (some ⟨w.heap.size, 0, none⟩) 1 1)) (w.alloc (oPo s))) : wpList Try.prog ops Q (o :: rest) a w := by
 obtain ⟨i0, hi, hz0, hz1, hz2⟩ := info_parts infoPo
 refine wpList_buildSlice hgd _ 49 1 #[(0, x)] ho (pol s).toArray i0 _ Try.underlying28 hi hz0 (by rw [hz1]; decide) (by rw [hz1]; decide) ?_ h
 rw [hz1]
 simp only [List.map_toArray, List.map_cons, List.map_nil, hx]
 rw [show Array.range (1 * 5) = #[0, 1, 2, 3, 4] by decide]
 simp [Instr.fill, Value.cells, pol]
theorem appendPo (hgd : o.guard = none) (s x : Operand) (ho : o.op = .call { callee := .builtin .append, args := #[s, x], argTypes := #[28, 28] })
 {B k g : Nat} {v : Value} {t : Nat → Po} {y : Po} (hs : a.eval s = v) (hO : OutPo w B v k t) (hx : a.eval x = .slice (some ⟨g, 0, none⟩) 1 1) (hy : InPo w g 0 y) (hyt : t k = y) (hk : k < 4096) (hB : B ≤ w.heap.size)
 (h : ∀ v' w', OutPo w' B v' (k + 1) t → Off (fun b => v.ownBlock = some b) w w' → wpList Try.prog ops Q rest (a.put o.dst v') w') : wpList Try.prog ops Q (o :: rest) a w := by
 obtain ⟨i0, hi, hz0, hz1, hz2⟩ := info_parts infoPo
 obtain ⟨xs, h1, h2⟩ := hO
 refine wpList_append_own w hgd s x _ ho B 49 i0 _ 5 40 Try.underlying28 hi hz0 hz1 hz2 rfl (by decide) v k xs hs h1 ⟨g, 0, none⟩ 1 1 (pol y) hx rfl (fun j u hu => ?_) (pol_one y) (by unfold maxLen; omega) (by omega) hB fun v' w' h3 h4 _ => ?_
 · have := hy.cell j u hu
   simpa [Addr.add_lit] using this
 · exact h v' w' (outPo_push h1.1 h2 hyt h3) (Off.ofOwnPo h4)
theorem appendAllPo (hgd : o.guard = none) (s x : Operand) (ho : o.op = .call { callee := .builtin .append, args := #[s, x], argTypes := #[28, 28] })
 {B g n cap : Nat} {v : Value} {t : Nat → Po} (hs : a.eval s = v) (hO : w.ownsRow B 49 5 v 0 []) (hx : a.eval x = .slice (some ⟨g, 0, none⟩) n cap) (hR : RwPo w g n cap t) (hn : n ≤ 4096) (hB : B ≤ w.heap.size)
 (h : ∀ v' w', OutPo w' B v' n t → Off (fun b => v.ownBlock = some b) w w' → wpList Try.prog ops Q rest (a.put o.dst v') w') : wpList Try.prog ops Q (o :: rest) a w := by
 obtain ⟨i0, hi, hz0, hz1, hz2⟩ := info_parts infoPo
 obtain ⟨cur, h1, h2, h3⟩ := hR.row
 have hnc := hR.nc
 have key : ∀ (j : Nat) (u : Value), (cur.toList.take (n * 5))[j]? = some u → cur[j]? = some u ∧ u.oneCell' = true := by
  intro j u hu
  rw [List.getElem?_take] at hu
  split at hu
  · rename_i hj
    have hu' : cur[j]? = some u := by simpa using hu
    refine ⟨hu', ?_⟩
    have hj5 : j % 5 < (pol (t (j / 5))).length := by rw [pol_len]; omega
    have h4 := h3 (j / 5) (by omega) (j % 5) _ (List.getElem?_eq_getElem hj5)
    rw [show j / 5 * 5 + j % 5 = j by omega, hu'] at h4
    cases h4
    exact pol_one _ _ (List.getElem_mem hj5)
  · cases hu
 refine wpList_append_own w hgd s x _ ho B 49 i0 _ 5 40 Try.underlying28 hi hz0 hz1 hz2 rfl (by decide) v 0 [] hs hO ⟨g, 0, none⟩ n cap (cur.toList.take (n * 5)) hx (by simp; omega) (fun j u hu => ?_) (fun u hu => ?_) (by unfold maxLen; omega) (by omega) hB fun v' w' h5 h6 _ => ?_
 · rw [Addr.add_lit, Nat.zero_add, cell_of_row w g j cur _ _ h1]
   exact (key j u hu).1
 · obtain ⟨j, hj⟩ := List.mem_iff_getElem?.1 hu
   exact (key j u hj).2
 · refine h v' w' ⟨_, by simpa using h5, fun i hi j u hu => ?_⟩ (Off.ofOwnPo h6)
   have hj : j < 5 := by have := (List.getElem?_eq_some_iff.1 hu).1; rw [pol_len] at this; exact this
   rw [List.getElem?_take, if_pos (by omega)]
   simpa using h3 i hi j u hu
theorem storePo (hgd : o.guard = none) (x y : Operand) (ho : o.op = .store 49 x y) {g n cap k : Nat} {t : Nat → Po} {s : Po} (hx : a.eval x = .pointer (some ⟨g, k * 5, none⟩)) (hy : a.eval y = .agg (pol s).toArray) (hR : RwPo w g n cap t) (hk : k < n)
 (h : ∀ w', RwPo w' g n cap (pupd t k s) → Off (· = g) w w' → wpList Try.prog ops Q rest (a.put o.dst undef) w') : wpList Try.prog ops Q (o :: rest) a w := by
 obtain ⟨cur, h1, h2, h3⟩ := hR.row
 have hnc := hR.nc
 refine wpList_store_part hgd _ x y ho g (k * 5) hx (pol s) hy h1 iPo (by rw [pol_len]; omega) (pol_one s) (h _ ?_ ?_)
 · refine ⟨⟨spliced cur (k * 5) (pol s), row_set _ h1, ?_, fun i hi j u hu => ?_⟩, hR.nc, hR.cm⟩
   · simp [spliced, pol_len]; omega
   · have hj : j < 5 := by have := (List.getElem?_eq_some_iff.1 hu).1; rw [pol_len] at this; exact this
     unfold spliced
     have hlen : (cur.toList.take (k * 5)).length = k * 5 := by simp; omega
     by_cases e : i = k
     · subst e
       rw [pupd_at] at hu
       rw [List.getElem?_toArray, List.append_assoc, List.getElem?_append_right (by omega), hlen, show i * 5 + j - i * 5 = j by omega, List.getElem?_append_left (by rw [pol_len]; exact hj)]
       exact hu
     · rw [pupd_ne _ _ e] at hu
       have h4 := h3 i hi j u hu
       rw [List.getElem?_toArray, List.append_assoc]
       by_cases c : i < k
       · rw [List.getElem?_append_left (by omega), List.getElem?_take, if_pos (by omega)]
         simpa using h4
       · rw [List.getElem?_append_right (by omega), hlen, List.getElem?_append_right (by rw [pol_len]; omega), pol_len, List.getElem?_drop, show k * 5 + 5 + (i * 5 + j - k * 5 - 5) = i * 5 + j by omega]
         simpa using h4
 · exact ⟨rfl, rfl, rfl, by simp, fun b _ hs => setRow_other w g b _ hs⟩
end
set_option maxRecDepth 100000
theorem buildAt (g : Int) (w : World) : (Instr.build 49 #[(0, .int .u64 g)]).run Try.prog w = .ok (.agg (pol ⟨g, false, 0, 0, 0⟩).toArray) w := by kernel_rfl
theorem stepBuildAt {ops : Array Oper} {rest : List Oper} {o : Oper} {a : Act} {w : World} {Q : Exit → Act → World → Prop} (hgd : o.guard = none) (x : Operand) (ho : o.op = .build 49 #[(0, x)]) {g : Int} (hx : a.eval x = .int .u64 g)
 (h : wpList Try.prog ops Q rest (a.put o.dst (.agg (pol ⟨g, false, 0, 0, 0⟩).toArray)) w) : wpList Try.prog ops Q (o :: rest) a w :=
 wpList_plain hgd fun _ hK => by
  have hrun := buildAt g w
  unfold Oper.wp execOp
  simp only [ho, List.map_toArray, List.map_cons, List.map_nil, hx, Sem.run_bind, hrun, Result.andThen_ok]
  exact hK _ _ h
set_option maxHeartbeats 1600000 in
theorem pfNew (n : Nat) (n0 : 1 ≤ n) (n1 : n ≤ 4096) (w : World) : Calls Try.prog 10 #[.int .i64 n] w fun e w' => ∃ g cap, e = .returned (.slice (some ⟨g, 0, none⟩) n cap) ∧ w.heap.size ≤ g ∧ RwPo w' g n cap (fun _ => pz) ∧ Below w.heap.size w w' := by
 go_enter Try.func10, Try.ntmps10
 go_wp2_with fail
 go_loopw [3, 4] (fun v i wr => ∃ (k : Nat) (V : Value), k ≤ n ∧ i = .int .i64 k ∧ v = V ∧ OutPo wr w.heap.size V k (fun _ => pz) ∧ Below w.heap.size w wr) (fun v i wr => n - (intOf i).toNat)
 case atStart => exact ⟨0, _, by omega, rfl, rfl, outPo_nil _ _ _, tr0 w⟩
 case round =>
  obtain ⟨k, V, hk, rfl, rfl, O, hB⟩ := hrel
  by_cases hlt : k < n
  · rename_i wr
    have O2 := O.below (trA (tr0 wr) (oPo pz))
    have B2 := trA hB (oPo pz)
    have Y := inNewPo wr pz
    have hBs := B2.size
    clear O hB
    go_wp2_with (first
     | (refine stepBuildAt rfl _ rfl rfl ?_)
     | (refine buildPo rfl (.tmp 11) rfl (s := pz) rfl ?_)
     | (refine appendPo rfl (.tmp 10) (.tmp 12) rfl rfl O2 rfl Y rfl (by omega) hBs ?_; intro v' w3 O3 ho3))
    have hown := fun b hb => O2.block (b := b) hb
    have B3 := Off.toBelow B2 ho3 (fun b hb e => by have := hown b e; omega) (Nat.le_refl _)
    clear O2 B2 Y ho3 hBs hown
    go_wp2_with fail
    go_roundw
    case rel => exact ⟨k + 1, _, by omega, by go_num, rfl, O3, B3⟩
    case measure => simp [intOf]; omega
  · obtain rfl : k = n := by omega
    obtain ⟨g', cap', rfl, hg', R⟩ := O.rw (by omega)
    go_wp2_with fail
    go_ret
    exact ⟨g', cap', rfl, hg', R, hB⟩
theorem hd_num {b : Nat} {c : Po} (hc : c.ok b) (hb : b < 1099511627776) (i : Nat) (hi : i < 4096) : u64r (c.g * 4096) ∧ u64r (hd c i) := by
 have := hc.g0
 have := hc.g1
 unfold u64r hd
 omega
theorem pfHandle {w : World} {g n cap : Nat} {t : Nat → Po} (h : RwPo w g n cap t) {b : Nat} (ok : ∀ i, i < n → (t i).ok b) (hb : b < 1099511627776) (n1 : n ≤ 4096) (i : Nat) (hi : i < n) : Calls Try.prog 24 #[.slice (some ⟨g, 0, none⟩) n cap, .int .i64 i] w fun e w' => e = .returned (.int .u64 (hd (t i) i)) ∧ w = w' := by
 obtain ⟨⟨a0, a1⟩, ⟨b0, b1⟩⟩ := hd_num (ok i hi) hb i (by omega)
 have c := h.c hi 0 _ rfl
 have hl := h.lt
 have hcm := h.cm
 have hnc := h.nc
 unfold maxLen at hcm
 unfold hd at *
 generalize (t i).g = G at *
 clear ok h
 rw [Nat.add_zero] at c
 go_enter Try.func24, Try.ntmps24
 go_wp2_with fail
 go_ret
 exact ⟨rfl, rfl⟩
theorem pfFind {w : World} {g n cap : Nat} {t : Nat → Po} (h : RwPo w g n cap t) (n1 : n ≤ 4096) (x : Int) (x0 : 0 ≤ x) (x1 : x < 18446744073709551616) : Calls Try.prog 11 #[.slice (some ⟨g, 0, none⟩) n cap, .int .u64 x] w fun e w' => e = .returned (.int .i64 (fndI n t x)) ∧ w = w' := by
 have hl := h.lt
 have hcm := h.cm
 have hnc := h.nc
 unfold maxLen at hcm
 obtain ⟨i, hi⟩ : ∃ i : Nat, x % 4096 = i := ⟨(x % 4096).toNat, by omega⟩
 obtain ⟨q, hq⟩ : ∃ q, x / 4096 = q := ⟨_, rfl⟩
 have hi2 : i < 4096 := by omega
 unfold fndI fnd
 rw [hi, hq, Int.toNat_natCast]
 by_cases hn : i < n
 · have c0 := h.c hn 0 _ rfl
   have c1 := h.c hn 1 _ rfl
   rw [Nat.add_zero] at c0
   generalize (t i).tk = T at *
   generalize (t i).g = G at *
   clear h
   cases T
   · rw [if_neg (by simp)]
     go_enter Try.func11, Try.ntmps11
     go_wp2_with fail
     go_ret
     exact ⟨rfl, rfl⟩
   · by_cases hg : G = q
     · have e : (G == x / 4096) = true := by rw [hq]; simpa using hg
       rw [if_pos ⟨hn, rfl, hg⟩]
       clear hq hg
       go_enter Try.func11, Try.ntmps11
       go_wp2_with fail
       go_ret
       exact ⟨rfl, rfl⟩
     · have e : (G == x / 4096) = false := by rw [hq]; simpa using hg
       rw [if_neg (fun h => hg h.2.2)]
       clear hq hg
       go_enter Try.func11, Try.ntmps11
       go_wp2_with fail
       go_ret
       exact ⟨rfl, rfl⟩
 · rw [if_neg (fun h => hn h.1)]
   have e : decide (i < n) = false := decide_eq_false hn
   clear h hn
   go_enter Try.func11, Try.ntmps11
   go_wp2_with fail
   go_ret
   exact ⟨rfl, rfl⟩
abbrev tUv : TypeId := 30
theorem infoUv : (Try.prog.info? 30).map (fun i => (i.zero, i.size, i.bytes)) = some (some (.int .u64 0), 1, 8) := by kernel_rfl
def uvs (L : List Int) : List Value := L.map (.int .u64)
def UvAt (w : World) (B : Nat) (v : Value) (L : List Int) : Prop := w.ownsRow B tUv 1 v L.length (uvs L)
def oUv (x : Int) : Obj := .cells #[.int .u64 x] tUv (0, 0)
theorem uv_nil (w : World) (B : Nat) : UvAt w B (.slice none 0 0) [] := World.ownsRow_nil w B tUv 1
section
variable {w w' : World} {B : Nat} {v : Value} {L : List Int}
theorem UvAt.below (h : UvAt w B v L) (hb : Below w.heap.size w w') : UvAt w' B v L := own_keptPo h hb
theorem UvAt.off {S : Nat → Prop} (h : UvAt w B v L) (ho : Off S w w') (hs : ∀ b, v.ownBlock = some b → ¬ S b) : UvAt w' B v L := by
 refine ⟨h.1, ?_⟩
 rcases h.2 with h | ⟨g, cap, cur, rfl, h2, h3, h4⟩
 · exact .inl h
 · exact .inr ⟨g, cap, cur, rfl, h2, ho.at h3 (hs g rfl), h4⟩
theorem UvAt.mono {B2 : Nat} (h : UvAt w B v L) (hb : B2 ≤ B) : UvAt w B2 v L := by
 refine ⟨h.1, ?_⟩
 rcases h.2 with h | ⟨g, cap, cur, h1, h2, h3, h4⟩
 · exact .inl h
 · exact .inr ⟨g, cap, cur, h1, Nat.le_trans hb h2, h3, h4⟩
theorem UvAt.block (h : UvAt w B v L) {b : Nat} (hb : v.ownBlock = some b) : B ≤ b ∧ b < w.heap.size := by
 obtain ⟨hl, ho⟩ := h
 rcases ho with ⟨rfl, h2⟩ | ⟨g, cap, cur, rfl, hB, hg, hkc, hcm, hcs, htk⟩
 · cases hb
 · cases hb
   exact ⟨hB, lt_of_block hg⟩
def RdU (w : World) (v : Value) (L : List Int) : Prop := ∃ y cap, v = .slice y L.length cap ∧ (L = [] ∨ ∃ g off, y = some ⟨g, off, none⟩ ∧ L.length ≤ cap ∧ cap ≤ maxLen ∧ g < w.heap.size ∧ ∀ k i, L[k]? = some i → w.cell? ⟨g, off + k, none⟩ = some (.int .u64 i))
theorem UvAt.rd (h : UvAt w B v L) : RdU w v L := by
 obtain ⟨hl, ho⟩ := h
 rcases ho with ⟨h1, h2⟩ | ⟨g, cap, cur, rfl, hB, hg, hkc, hcm, hcs, htk⟩
 · exact ⟨none, 0, by rw [h1, h2], .inl (List.eq_nil_of_length_eq_zero h2)⟩
 · refine ⟨_, cap, rfl, .inr ⟨g, 0, rfl, hkc, hcm, lt_of_block hg, fun k i hi => ?_⟩⟩
   have hk : k < L.length := (List.getElem?_eq_some_iff.1 hi).1
   have h3 : (uvs L)[k]? = some (.int .u64 i) := by unfold uvs; rw [List.getElem?_map, hi]; rfl
   rw [← htk, List.getElem?_take, if_pos (by omega)] at h3
   rw [blk_cell hg, Nat.zero_add]
   simpa using h3
theorem RdU.below (h : RdU w v L) (hb : Below w.heap.size w w') : RdU w' v L := by
 obtain ⟨y, cap, rfl, h⟩ := h
 refine ⟨y, cap, rfl, h.imp id ?_⟩
 rintro ⟨g, off, rfl, h1, h2, h3, h4⟩
 exact ⟨g, off, rfl, h1, h2, Nat.lt_of_lt_of_le h3 hb.size, fun k i hi => (hb.cell (p := ⟨g, off + k, none⟩) h3).trans (h4 k i hi)⟩
end
section
variable {ops : Array Oper} {rest : List Oper} {o : Oper} {a : Act} {w : World} {Q : Exit → Act → World → Prop}
theorem buildUv (hgd : o.guard = none) (x : Operand) (ho : o.op = .buildSlice 31 1 #[(0, x)]) {i : Int} (hx : a.eval x = .int .u64 i)
 (h : wpList Try.prog ops Q rest (a.put o.dst (.slice (some ⟨w.heap.size, 0, none⟩) 1 1)) (w.alloc (oUv i))) : wpList Try.prog ops Q (o :: rest) a w := by
 obtain ⟨i0, hi, hz0, hz1, hz2⟩ := info_parts infoUv
 refine wpList_buildSlice hgd _ 30 1 #[(0, x)] ho #[.int .u64 i] i0 _ Try.underlying31 hi hz0 (by rw [hz1]; decide) (by rw [hz1]; decide) ?_ h
 rw [hz1]
 simp only [List.map_toArray, List.map_cons, List.map_nil, hx]
 rw [show Array.range (1 * 1) = #[0] by decide]
 simp [Instr.fill, Value.cells]
theorem appendUv (hgd : o.guard = none) (s x : Operand) (ho : o.op = .call { callee := .builtin .append, args := #[s, x], argTypes := #[31, 31] })
 {B g : Nat} {v : Value} {L : List Int} {i : Int} (hs : a.eval s = v) (hO : UvAt w B v L) (hx : a.eval x = .slice (some ⟨g, 0, none⟩) 1 1) (hy : w.heap[g]? = some (oUv i)) (hk : L.length < 5000) (hB : B ≤ w.heap.size)
 (h : ∀ v' w', UvAt w' B v' (L ++ [i]) → Off (fun b => v.ownBlock = some b) w w' → wpList Try.prog ops Q rest (a.put o.dst v') w') : wpList Try.prog ops Q (o :: rest) a w := by
 obtain ⟨i0, hi, hz0, hz1, hz2⟩ := info_parts infoUv
 refine wpList_append_own w hgd s x _ ho B 30 i0 _ 1 8 Try.underlying31 hi hz0 hz1 hz2 rfl (by decide) v L.length (uvs L) hs hO ⟨g, 0, none⟩ 1 1 [.int .u64 i] hx rfl (fun j u hu => ?_) (fun u hu => ?_) (by unfold maxLen; omega) (by omega) hB fun v' w' h3 h4 _ => ?_
 · rw [Addr.add_lit, Nat.zero_add, blk_cell hy, List.getElem?_toArray]
   exact hu
 · simp only [List.mem_cons, List.not_mem_nil, or_false] at hu
   rw [hu]
   rfl
 · refine h v' w' ?_ (Off.ofGrown h4 fun k e => e)
   unfold UvAt uvs
   rw [List.map_append, List.length_append]
   exact h3
end
theorem hdsB_len (t : Nat → Po) (k : Nat) : (hdsB t k).length ≤ k := by
 induction k with
 | zero => exact Nat.le_refl _
 | succ k ih =>
   unfold hdsB
   rw [List.length_append]
   split
   · show _ + 1 ≤ _; omega
   · show _ + 0 ≤ _; omega
set_option maxHeartbeats 3200000 in
theorem pfHandles {w : World} {g n cap : Nat} {t : Nat → Po} (h : RwPo w g n cap t) {b : Nat} (ok : ∀ i, i < n → (t i).ok b) (hb : b < 1099511627776) (n1 : n ≤ 4096) : Calls Try.prog 20 #[.slice (some ⟨g, 0, none⟩) n cap] w fun e w' => ∃ v, e = .returned v ∧ UvAt w' w.heap.size v (hdsB t n) ∧ Below w.heap.size w w' := by
 have hcm := h.cm
 have hnc := h.nc
 have hgl := h.lt
 unfold maxLen at hcm
 have OK := Lib.hid ok
 clear ok
 go_enter Try.func20, Try.ntmps20
 go_wp2_with fail
 go_loopw [3, 4] (fun v i wr => ∃ (k : Nat) (V : Value), k ≤ n ∧ i = .int .i64 k ∧ v = V ∧ Hid (UvAt wr w.heap.size V (hdsB t k) ∧ RwPo wr g n cap t ∧ Below w.heap.size w wr)) (fun v i wr => n - (intOf i).toNat)
 case atStart => exact ⟨0, _, by omega, rfl, rfl, Lib.hid ⟨uv_nil _ _, h, tr0 w⟩⟩
 case round =>
  clear h
  obtain ⟨k, V, hk, rfl, rfl, HX⟩ := hrel
  rename_i wr
  by_cases hlt : k < n
  · have c1 := HX.out.2.1.c hlt 1 _ rfl
    have hl := HX.out.2.1.lt
    obtain ⟨T, hT⟩ : ∃ T, (t k).tk = T := ⟨_, rfl⟩
    have HT := Lib.hid hT
    rw [hT] at c1
    clear hT
    cases T
    · have HN := Lib.hid (show hdsB t (k + 1) = hdsB t k by show hdsB t k ++ _ = _; rw [HT.out, if_neg (by decide), List.append_nil])
      go_wp2_with fail
      go_roundw
      case rel => exact ⟨k + 1, _, by omega, by go_num, rfl, Lib.hid (by rw [HN.out]; exact HX.out)⟩
      case measure => simp [intOf]; omega
    · have HN := Lib.hid (show hdsB t (k + 1) = hdsB t k ++ [hd (t k) k] by show hdsB t k ++ _ = _; rw [HT.out, if_pos rfl])
      have HC := Lib.hid (pfHandle HX.out.2.1 OK.out hb n1 k hlt)
      have HL := Lib.hid (show (hdsB t k).length < 5000 from Nat.lt_of_le_of_lt (hdsB_len t k) (by omega))
      have hbb := trA (tr0 wr) (oUv (hd (t k) k))
      have HU := Lib.hid (HX.out.1.below hbb)
      have HR := Lib.hid (HX.out.2.1.below hbb)
      have HB := Lib.hid (tr HX.out.2.2 hbb)
      have HY := Lib.hid (blk_new wr (oUv (hd (t k) k)))
      have HG := Lib.hid (show w.heap.size ≤ (wr.alloc (oUv (hd (t k) k))).heap.size from HB.out.size)
      have HGL := Lib.hid hgl
      clear hbb HX HT
      generalize hd (t k) k = H at *
      go_wp2_with (first
       | (go_at_call 24; refine HC.out.mono ?_; rintro e w1 ⟨rfl, rfl⟩)
       | (refine buildUv rfl (.tmp 19) rfl rfl ?_)
       | (refine appendUv rfl (.tmp 16) (.tmp 20) rfl rfl HU.out rfl HY.out HL.out HG.out ?_; intro v' w3 h3 ho; have HX := Lib.hid (show UvAt w3 w.heap.size v' (hdsB t (k + 1)) ∧ RwPo w3 g n cap t ∧ Below w.heap.size w w3 from ⟨by rw [HN.out]; exact h3, HR.out.off ho (fun e => by have := (HU.out.block e).1; have := HGL.out; omega), Off.toBelow HB.out ho (fun j hj e => by have := (HU.out.block e).1; omega) (Nat.le_refl _)⟩); clear h3 ho))
      go_roundw
      case rel => exact ⟨k + 1, _, by omega, by go_num, rfl, HX⟩
      case measure => simp [intOf]; omega
  · obtain rfl : k = n := by omega
    go_wp2_with fail
    go_ret
    exact ⟨_, rfl, HX.out.1, HX.out.2.2⟩
section
variable {P : Program}
theorem run_load_part {o : Oper} {f : Operand → Value} {w : World} (ty : TypeId) (x : Operand) (ho : o.op = .load ty x)
 (g off : Nat) (hx : f x = .pointer (some ⟨g, off, none⟩)) {t : TypeId} {cs : Array Value} {fr : Nat × Nat} (d : TypeDesc) (vs : List Value) (hg : w.heap[g]? = some (.cells cs t fr))
 (hu : P.underlying ty = some d) (hd : (match d with | .struct _ | .array _ _ => true | _ => false) = true) (hi : (P.info? ty).map (·.size) = some vs.length) (hp : PartAt cs off vs) :
 (execOp f o).run P w = .ok (.value (.agg vs.toArray)) w := by
 unfold execOp
 simp only [ho, hx, Instr.loadAt, Instr.sureAddr, Sem.run_bind, Sem.run_pure, Result.andThen_ok, loadVar_part w g off t ty cs fr d vs hg hu hd hi hp]
end
theorem step_store_part {P : Program} {ops : Array Oper} {o : Oper} {a : Act} {w : World} {K : Act → World → Prop} {Q : Exit → Act → World → Prop} {E : Prop} (hgd : o.guard = none) (ty : TypeId) (x y : Operand) (ho : o.op = .store ty x y)
 (g off : Nat) (hx : a.eval x = .pointer (some ⟨g, off, none⟩)) (vs : List Value) (hy : a.eval y = .agg vs.toArray) {t : TypeId} {cs : Array Value} (hg : w.heap[g]? = some (.cells cs t (0, 0)))
 (hi : (P.info? ty).map (·.size) = some vs.length) (hl : off + vs.length ≤ cs.size) (h1 : ∀ v ∈ vs, v.oneCell' = true)
 (h : K (a.put o.dst undef) (w.setRow g (spliced cs off vs))) : if Region.wanted o (yielded ops a.tmps) = true then Oper.wp P o a w K Q else E := by
 rw [if_pos (by simp [Region.wanted, hgd])]
 unfold Oper.wp execOp
 simp only [ho, hx, hy, Instr.storeAt, Instr.sureAddr, Sem.run_bind, Sem.run_pure, Result.andThen_ok, storeVar_part w g off t ty cs vs hg hi hl h1]
 exact h
end Go.Proofs.Ytggmllobcemhhaa.B
