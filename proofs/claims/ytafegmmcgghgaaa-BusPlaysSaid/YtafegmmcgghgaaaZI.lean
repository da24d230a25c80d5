/- Several texts in one: A bus of any regions: Find, Regions, a nil device. A bus of files and the document's, side by side: the state, and what may happen to it. Calls of a bus of files and of the document's, side by side. The law BusPlays: six files, and the document's. -/
import Derived.Test.YtafegmmcgghgaaaZA
import Derived.Test.YtafegmmcgghgaaaBLay
import Derived.Test.YtafegmmcgghgaaaZB
import Derived.Test.YtafegmmcgghgaaaZC
import Derived.Test.YtafegmmcgghgaaaZE
import Derived.Test.YtafegmmcgghgaaaZH
import Derived.Deep.Cut
namespace Go.Proofs.Ytafegmmcgghgaaa.B
set_option linter.unusedVariables false
set_option linter.unusedSimpArgs false
open Go.ChangeShapes Go.WideShapes Go.RowKit Go.Sort Go.Shelf
/-- A row of regions. -/
def OwnR (w : World) (B : Nat) (v : Value) (R : List (Int × Int)) : Prop := w.ownsRow B 55 2 v R.length (R.flatMap regCells)
theorem uFindX (p bm : Nat) (rv : Value) (R : List (Int × Int)) (ks : List Int) (pv : Int → Value) (Lp : Int → List Su) (a b s : Int) (xt : TypeId) (xv : Value) (w : World) (a0 : 0 ≤ a) (a1 : a < 4294967296) (h : (a % 4 != 0) = false) (hB : UBus w p bm rv R ks pv Lp)
    (hfd : findU a (Lp (a / 16777216)) = (.agg #[.int .u32 b, .int .u32 s, .iface xt xv], 0)) (hb0 : 0 ≤ b) (hba : b ≤ a) :
    Calls Try.prog 27 #[.pointer (some ⟨p, 0, none⟩), .int .u32 a] w fun e w' => e = .returned (.tuple #[.agg #[.int .u32 b, .int .u32 s], .int .u32 (a - b), .int .i64 0]) ∧ Below w.heap.size w w' := by
  go_enter Try.func27, Try.ntmps27
  go_wp2_with fail
  refine (uFind a _ _ p bm rv R ks pv Lp _ a0 a1 h (hB.ofBelow (trA (tr0 w) _)) hfd).mono ?_
  rintro e w1 ⟨rfl, hb⟩
  have hX := blk_below hb (blk_new w _) (by simp)
  have hl := lt_of_block hX
  have hbw := tr (trA (tr0 w) _) hb
  clear hb
  go_upto_region 2 with (fail)
  have hX1 := (blk_old w1 (.cells #[.int .u32 b, .int .u32 s, .iface xt xv] 109) hl).trans hX
  have hS1 := blk_new w1 (.cells #[.int .u32 b, .int .u32 s, .iface xt xv] 109)
  have hbW := trA hbw (.cells #[.int .u32 b, .int .u32 s, .iface xt xv] 109)
  generalize (w1.alloc (.cells #[.int .u32 b, .int .u32 s, .iface xt xv] 109)) = W at *
  have hx0 := blk_cell hX1 0
  have hx1 := blk_cell hX1 1
  have hs0 := blk_cell hS1 0
  have hs1 := blk_cell hS1 1
  simp only [List.getElem?_toArray, List.getElem?_cons_zero, List.getElem?_cons_succ] at hx0 hx1 hs0 hs1
  have hf0 := blk_free hX1 0
  have hf1 := blk_free hX1 1
  have HX := Lib.hid hX1
  clear hX1 hS1 hX
  go_wp2_with fail
  go_region
  go_wp2_with fail
  exact findX_ret (Y := World.drew _) rfl rfl rfl (blk_set (blk_set HX.out 0 _) 1 _) (trD ((hbW.setCell (Nat.le_refl _) _).setCell (Nat.le_refl _) _))
/-- All regions, told. -/
theorem uRegions (p bm : Nat) (rv : Value) (R : List (Int × Int)) (ks : List Int) (pv : Int → Value) (Lp : Int → List Su) (w : World) (hB : UBus w p bm rv R ks pv Lp) (hn : R.length ≤ 64) :
    Calls Try.prog 28 #[.pointer (some ⟨p, 0, none⟩)] w fun e w' => (∃ v, e = .returned v ∧ OwnR w' w.heap.size v R) ∧ Below w.heap.size w w' := by
  have hc := blk_cell hB.cell 0
  simp only [List.getElem?_toArray, List.getElem?_cons_zero] at hc
  have hlt := hB.ltp
  have hcl : Calls Try.prog 56 #[rv] w fun e w' => (∃ v, e = .returned v ∧ OwnR w' w.heap.size v R) ∧ Below w.heap.size w w' := by
    rcases row_form hB.regs with ⟨h1, h2⟩ | ⟨g, cap, h1, h2, h3, _⟩
    · subst h1
      have hcon := AnyE.slices_Clone_nil Try.cloneReg 0 0 w
      change Calls Try.prog 56 _ _ _ at hcon
      refine hcon.mono ?_
      rintro e w' ⟨rfl, rfl⟩
      have hR : R = [] := List.eq_nil_of_length_eq_zero h2
      subst hR
      exact ⟨⟨_, rfl, World.ownsRow_nil _ _ _ _⟩, tr0 _⟩
    · subst h1
      obtain ⟨i0, hi, hz0, hz1, hz2⟩ := info_parts infoReg
      have hcon := AnyE.slices_Clone Try.cloneReg i0 (.agg #[.int .u32 0, .int .u32 0]) 2 8 hi hz0 hz1 hz2 rfl (by decide) Try.sizeOf55 g 0 R.length cap (R.flatMap regCells) w (flat_len _ 2 (fun _ => rfl) R) (by unfold maxLen; omega) (by omega)
        (fun j u hj => by
          have hjl : j < R.length * 2 := by
            have := (List.getElem?_eq_some_iff.1 hj).1
            rwa [flat_len regCells 2 (fun _ => rfl)] at this
          rw [Nat.zero_add, hB.regs.cellAt j hjl]; exact hj)
        (fun u hu => by
          obtain ⟨x, _, hx⟩ := List.mem_flatMap.1 hu
          simp [regCells] at hx
          rcases hx with rfl | rfl <;> rfl)
      change Calls Try.prog 56 _ _ _ at hcon
      refine hcon.mono ?_
      rintro e w' ⟨v', rfl, hown, hne, hb⟩
      exact ⟨⟨v', rfl, hown⟩, hb⟩
  clear hB
  go_enter Try.func28, Try.ntmps28
  go_wp2_with fail
  refine hcl.mono ?_
  rintro e w' ⟨⟨v, rfl, hv⟩, hb⟩
  go_wp2_with fail
  go_ret
  exact ⟨⟨v, rfl, hv⟩, hb⟩
theorem uAttachNoDev (p : Nat) (b s : Int) (w : World) :
    Calls Try.prog 21 #[.pointer (some ⟨p, 0, none⟩), .agg #[.int .u32 b, .int .u32 s], .nilIface] w fun e w' => e = .returned (.int .i64 1) ∧ Below w.heap.size w w' := by
  go_enter Try.func21, Try.ntmps21
  go_wp2_with fail
  go_ret
  exact ⟨rfl, trA (tr0 w) _⟩
end Go.Proofs.Ytafegmmcgghgaaa.B
namespace Go.Proofs.Ytafegmmcgghgaaa.B
set_option linter.unusedVariables false
set_option linter.unusedSimpArgs false
open Go.ChangeShapes Go.WideShapes Go.RowKit Go.Sort Go.MapKept
def dvF (F : Nat → Nat) (n : Int) : Value := .pointer (some ⟨F n.toNat, 0, none⟩)
def ptF (F : Nat → Nat) (i : Nat) : Value := .pointer (some ⟨F i, 0, none⟩)
def updF {α : Type} (f : Nat → α) (i : Nat) (x : α) : Nat → α := fun j => if j = i then x else f j
theorem updF_same {α : Type} (f : Nat → α) (i : Nat) (x : α) : updF f i x i = x := if_pos rfl
theorem updF_else {α : Type} (f : Nat → α) {i j : Nat} (x : α) (h : j ≠ i) : updF f i x j = f j := if_neg h
theorem updV_same (f : Nat → Value) (i : Nat) (x : Value) : updV f i x i = x := if_pos rfl
theorem updV_else (f : Nat → Value) {i j : Nat} (x : Value) (h : j ≠ i) : updV f i x j = f j := if_neg h
structure Bst (w : World) (B p bm : Nat) (F Mb : Nat → Nat) (rv : Value) (R : List (Int × Int)) (ks : List Int) (pv : Int → Value) (Lp : Int → List Su) (lv : Value) (M N : List Sg) (fv mv : Value) (V : Nat → Value) (L K : Nat → List (Int × Rg)) : Prop where
  bus : UBus w p bm rv R ks pv Lp
  rel : Rel (dvF F) 23 R Lp M
  reg : OwnB w B lv N
  fr : ∀ i, i < 6 → FrAt w B (F i) (Mb i) (V i) (L i) (K i)
  fs : OwnV w B tP1 fv (six (ptF F))
  ms : OwnV w B tS1 mv (six V)
  inj : ∀ i j, i < 6 → j < 6 → Mb i = Mb j → i = j
  mb : ∀ i, i < 6 → Mb i ≠ bm
  bk : ∀ k, uBlocks p bm rv ks pv k → B ≤ k
  hB : B ≤ w.heap.size
section
variable {w w' : World} {B p bm : Nat} {F Mb : Nat → Nat} {rv rv' : Value} {R R' : List (Int × Int)} {ks ks' : List Int} {pv pv' : Int → Value} {Lp Lp' : Int → List Su} {lv lv' : Value} {M M' N N' : List Sg} {fv mv mv' : Value} {V : Nat → Value} {L K : Nat → List (Int × Rg)}
theorem ub_cells (h : UBus w p bm rv R ks pv Lp) {k : Nat} {c : Array Value} {T : TypeId} {fz : Nat × Nat} (hk : w.heap[k]? = some (.cells c T fz)) (h1 : (102 == T) = false) (h2 : (55 == T) = false) (h3 : (109 == T) = false) : ¬ uBlocks p bm rv ks pv k := by
  rintro (rfl | rfl | hr | ⟨u, hu, hr⟩)
  · exact apart_types h.cell hk h1 rfl
  · obtain ⟨es, c2, hb, _⟩ := h.map
    rw [hb] at hk; cases hk
  · obtain ⟨d, hd⟩ := row_obj h.regs hr
    exact apart_types hd hk h2 rfl
  · obtain ⟨d, hd⟩ := row_obj (h.rows u hu) hr
    exact apart_types hd hk h3 rfl
theorem FileAt.isMap {w : World} {f m : Nat} {M : List (Int × Rg)} (h : FileAt w f m M) : ∃ es c, w.heap[m]? = some (.map es c) := by
  obtain ⟨es, c, hb, _⟩ := h.map; exact ⟨es, c, hb⟩
theorem ub_map (h : UBus w p bm rv R ks pv Lp) {m : Nat} (hm : ∃ es c, w.heap[m]? = some (.map es c)) (hne : m ≠ bm) : ¬ uBlocks p bm rv ks pv m := by
  obtain ⟨es, c, hk⟩ := hm
  rintro (rfl | rfl | hr | ⟨u, hu, hr⟩)
  · rw [h.cell] at hk; cases hk
  · exact hne rfl
  · obtain ⟨d, hd⟩ := row_obj h.regs hr
    rw [hd] at hk; cases hk
  · obtain ⟨d, hd⟩ := row_obj (h.rows u hu) hr
    rw [hd] at hk; cases hk
theorem cells_map {k m : Nat} {c : Array Value} {T : TypeId} {fz : Nat × Nat} (hk : w.heap[k]? = some (.cells c T fz)) (hm : ∃ es c, w.heap[m]? = some (.map es c)) : k ≠ m := by
  rintro rfl
  obtain ⟨es, c2, h⟩ := hm
  rw [hk] at h; cases h
theorem FrAt.offS {f m : Nat} {v : Value} {L L' : List (Int × Rg)} (h : FrAt w B f m v L L') {S : Nat → Prop} (ho : Off S w w') (hf : ¬ S f) (hm : ¬ S m) (hv : ∀ b, v.ownBlock = some b → ¬ S b) : FrAt w' B f m v L L' :=
  ⟨h.F.off ho hf hm, h.O.off ho hv, h.R, h.hm, Nat.le_trans h.hB ho.size⟩
theorem Bst.below (h : Bst w B p bm F Mb rv R ks pv Lp lv M N fv mv V L K) (hb : Below w.heap.size w w') : Bst w' B p bm F Mb rv R ks pv Lp lv M N fv mv V L K :=
  ⟨h.bus.ofBelow hb, h.rel, h.reg.below hb, fun i hi => (h.fr i hi).below hb, h.fs.below hb, h.ms.below hb, h.inj, h.mb, h.bk, Nat.le_trans h.hB hb.size⟩
/-- A file has turned. -/
theorem Bst.file (h : Bst w B p bm F Mb rv R ks pv Lp lv M N fv mv V L K) {n : Nat} (hn : n < 6) (ho : Off (· = Mb n) w w') {L' : List (Int × Rg)} (hf : FrAt w' B (F n) (Mb n) (V n) L' (K n)) :
    Bst w' B p bm F Mb rv R ks pv Lp lv M N fv mv V (updF L n L') K := by
  have hmap := (h.fr n hn).F.isMap
  refine ⟨h.bus.ofOff ho fun k hk e => ?_, h.rel, h.reg.off ho fun k hk e => ?_, fun i hi => ?_, h.fs.off ho fun k hk e => ?_, h.ms.off ho fun k hk e => ?_, h.inj, h.mb, h.bk, Nat.le_trans h.hB ho.size⟩
  · subst e; exact ub_map h.bus hmap (h.mb n hn) hk
  · obtain ⟨c, hc⟩ := h.reg.ty hk; exact cells_map hc hmap e
  · by_cases e : i = n
    · subst e; rw [updF_same]; exact hf
    · rw [updF_else _ _ e]
      refine (h.fr i hi).offS ho (fun e2 => cells_map (h.fr i hi).F.cell hmap e2) (fun e2 => e (h.inj i n hi hn e2)) fun b hb e2 => ?_
      obtain ⟨c, hc⟩ := (h.fr i hi).O.ty hb; exact cells_map hc hmap e2
  · obtain ⟨c, hc⟩ := h.fs.ty hk; exact cells_map hc hmap e
  · obtain ⟨c, hc⟩ := h.ms.ty hk; exact cells_map hc hmap e
/-- One of the document's files is another one: in place. -/
theorem Bst.model {g cap : Nat} (h : Bst w B p bm F Mb rv R ks pv Lp lv M N fv (.slice (some ⟨g, 0, none⟩) 6 cap) V L K) {n : Nat} (hn : n < 6) {v' : Value} {K' : List (Int × Rg)} (hf : FrAt w B (F n) (Mb n) v' (L n) K') :
    Bst (w.setCell ⟨g, n, none⟩ v') B p bm F Mb rv R ks pv Lp lv M N fv (.slice (some ⟨g, 0, none⟩) 6 cap) (updV V n v') L (updF K n K') := by
  obtain ⟨c0, hg⟩ := h.ms.ty (b := g) rfl
  have ho : Off (· = g) w (w.setCell ⟨g, n, none⟩ v') := Off.ofSetCell w ⟨g, n, none⟩ v' rfl
  have hms := h.ms
  rw [show (6 : Nat) = (six V).length from (six_len V).symm] at hms
  have hs := hms.set (i := n) (by rw [six_len]; exact hn) v'
  rw [six_set] at hs
  rw [six_len] at hs
  refine ⟨h.bus.ofOff ho fun k hk e => ?_, h.rel, h.reg.off ho fun k hk e => ?_, fun i hi => ?_, h.fs.off ho fun k hk e => ?_, hs, h.inj, h.mb, h.bk, Nat.le_trans h.hB ho.size⟩
  · subst e; exact ub_cells h.bus hg rfl rfl rfl hk
  · obtain ⟨c, hc⟩ := h.reg.ty hk; exact apart_types hc hg rfl e
  · have key : ∀ {v : Value} {L1 L2 : List (Int × Rg)}, FrAt w B (F i) (Mb i) v L1 L2 → FrAt (w.setCell ⟨g, n, none⟩ v') B (F i) (Mb i) v L1 L2 := fun {v L1 L2} hfr => by
      refine hfr.offS ho (fun e2 => apart_types hfr.F.cell hg rfl e2) (fun e2 => cells_map hg hfr.F.isMap e2.symm) fun b hb e2 => ?_
      obtain ⟨c, hc⟩ := hfr.O.ty hb; exact apart_types hc hg rfl e2
    by_cases e : i = n
    · subst e; rw [updF_same, updV_same]; exact key hf
    · rw [updF_else _ _ e, updV_else _ _ e]; exact key (h.fr i hi)
  · obtain ⟨c, hc⟩ := h.fs.ty hk; exact apart_types hc hg rfl e
/-- .. or in a row anew. -/
theorem Bst.docs (h : Bst w B p bm F Mb rv R ks pv Lp lv M N fv mv V L K) {n : Nat} (hn : n < 6) {v' : Value} {K' : List (Int × Rg)} (hf : FrAt w B (F n) (Mb n) v' (L n) K') (hm : OwnV w B tS1 mv' (six (updV V n v'))) :
    Bst w B p bm F Mb rv R ks pv Lp lv M N fv mv' (updV V n v') L (updF K n K') := by
  refine ⟨h.bus, h.rel, h.reg, fun i hi => ?_, h.fs, hm, h.inj, h.mb, h.bk, h.hB⟩
  by_cases e : i = n
  · subst e; rw [updF_same, updV_same]; exact hf
  · rw [updF_else _ _ e, updV_else _ _ e]; exact h.fr i hi
/-- The document's list is another one. -/
theorem Bst.list (h : Bst w B p bm F Mb rv R ks pv Lp lv M N fv mv V L K) (hr : OwnB w B lv' N') : Bst w B p bm F Mb rv R ks pv Lp lv' M N' fv mv V L K :=
  ⟨h.bus, h.rel, hr, h.fr, h.fs, h.ms, h.inj, h.mb, h.bk, h.hB⟩
/-- A region has been attached. -/
theorem Bst.att (h : Bst w B p bm F Mb rv R ks pv Lp lv M N fv mv V L K) (ho : Off (uBlocks p bm rv ks pv) w w') (hb : UBus w' p bm rv' R' ks' pv' Lp') (hr : Rel (dvF F) 23 R' Lp' M') (hk : ∀ k, uBlocks p bm rv' ks' pv' k → uBlocks p bm rv ks pv k ∨ w.heap.size ≤ k) :
    Bst w' B p bm F Mb rv' R' ks' pv' Lp' lv M' N fv mv V L K := by
  refine ⟨hb, hr, h.reg.off ho fun k hk e => ?_, fun i hi => ?_, h.fs.off ho fun k hk e => ?_, h.ms.off ho fun k hk e => ?_, h.inj, h.mb, fun k hk2 => ?_, Nat.le_trans h.hB ho.size⟩
  · obtain ⟨c, hc⟩ := h.reg.ty hk; exact ub_cells h.bus hc rfl rfl rfl e
  · refine (h.fr i hi).offS ho (ub_cells h.bus (h.fr i hi).F.cell rfl rfl rfl) (ub_map h.bus (h.fr i hi).F.isMap (h.mb i hi)) fun b hb2 e => ?_
    obtain ⟨c, hc⟩ := (h.fr i hi).O.ty hb2; exact ub_cells h.bus hc rfl rfl rfl e
  · obtain ⟨c, hc⟩ := h.fs.ty hk; exact ub_cells h.bus hc rfl rfl rfl e
  · obtain ⟨c, hc⟩ := h.ms.ty hk; exact ub_cells h.bus hc rfl rfl rfl e
  · rcases hk k hk2 with h1 | h1
    · exact h.bk k h1
    · exact Nat.le_trans h.hB h1
theorem Bst.slice (h : Bst w B p bm F Mb rv R ks pv Lp lv M N fv mv V L K) : ∀ i, i < 6 → ∃ y l c, V i = .slice y l c := fun i hi => by
  rcases (h.fr i hi).O.cases with ⟨h1, _⟩ | ⟨g, cap, h1, _⟩
  · exact ⟨_, _, _, h1⟩
  · exact ⟨_, _, _, h1⟩
theorem Bst.one (h : Bst w B p bm F Mb rv R ks pv Lp lv M N fv mv V L K) : ∀ u ∈ six V, u.oneCell' = true := fun u hu => by
  unfold six at hu
  obtain ⟨i, hi, rfl⟩ := List.mem_map.1 hu
  obtain ⟨y, l, c, e⟩ := h.slice i (by simpa using hi)
  rw [e]; rfl
theorem Bst.mform (h : Bst w B p bm F Mb rv R ks pv Lp lv M N fv mv V L K) : ∃ g cap, mv = .slice (some ⟨g, 0, none⟩) 6 cap ∧ 6 ≤ cap ∧ cap ≤ maxLen ∧ B ≤ g ∧ g < w.heap.size := by
  rcases h.ms.cases with ⟨_, h0⟩ | ⟨g, cap, h1, h2, h3, h4, h5, _⟩
  · have := six_len V; rw [h0] at this; cases this
  · rw [six_len] at h1 h3; exact ⟨g, cap, h1, h3, h4, h2, h5⟩
theorem Bst.fform (h : Bst w B p bm F Mb rv R ks pv Lp lv M N fv mv V L K) : ∃ g cap, fv = .slice (some ⟨g, 0, none⟩) 6 cap ∧ 6 ≤ cap ∧ cap ≤ maxLen ∧ B ≤ g ∧ g < w.heap.size := by
  rcases h.fs.cases with ⟨_, h0⟩ | ⟨g, cap, h1, h2, h3, h4, h5, _⟩
  · have := six_len (ptF F); rw [h0] at this; cases this
  · rw [six_len] at h1 h3; exact ⟨g, cap, h1, h3, h4, h2, h5⟩
end
end Go.Proofs.Ytafegmmcgghgaaa.B
namespace Go.Proofs.Ytafegmmcgghgaaa.B
set_option linter.unusedVariables false
set_option linter.unusedSimpArgs false
open Go.ChangeShapes Go.WideShapes Go.RowKit Go.Sort Go.MapKept
theorem doLoadG (L : List (Int × Rg)) (off : Int) (h0 : 0 ≤ off) (h1 : off < 4294967296) (hl : L.length < 90000) :
    ∃ (x E : Int), (E ≠ 0 → x = 0) ∧ ∀ (w : World) (B f m : Nat) (v : Value), FrAt w B f m v L L →
      Calls Try.prog 8 #[v, .int .u32 off] w (fun e w' => e = .returned (.tuple #[.int .u32 x, .int .i64 E]) ∧ w = w') ∧
      Calls Try.prog 9 #[.pointer (some ⟨f, 0, none⟩), .int .u32 off] w (fun e w' => e = .returned (.tuple #[.int .u32 x, .int .i64 E]) ∧ Below w.heap.size w w') := by
  cases ha : (off % 4 != 0)
  · rcases there L off with hno | ⟨i, x, hi⟩
    · exact ⟨0, 10, fun _ => rfl, fun w B f m v h => ⟨aLoadNone off h0 ha h.O hno (by omega), fLoadNone off f m L w h0 h1 ha h.F hno⟩⟩
    · refine ⟨x.v, 0, fun h => absurd rfl h, fun w B f m v h => ?_⟩
      obtain ⟨g, cap, rfl, hc, hm⟩ := nonslice h.O hi
      exact ⟨aLoad off i x h0 ha h.O hc hm hi h.R.nodup (by omega), fLoad off x f m L w h0 ha h.F (List.mem_of_getElem? hi)⟩
  · exact ⟨0, 11, fun _ => rfl, fun w B f m v h => ⟨aLoadBad off v w h0 ha, fLoadBad off f w h0 ha⟩⟩
theorem doWriteG (L : List (Int × Rg)) (hw : ∀ p ∈ L, p.2.wf) (off x : Int) (x0 : 0 ≤ x) (x1 : x < 4294967296) (h0 : 0 ≤ off) (h1 : off < 4294967296) (hl : L.length < 90000) :
    ∃ (E : Int) (L' : List (Int × Rg)), L'.length ≤ L.length + 1 ∧ ∀ (B f m : Nat),
      (∀ (w : World) (v : Value), FrAt w B f m v L L → Calls Try.prog 10 #[v, .int .u32 off, .int .u32 x] w (fun e w' => ∃ v', e = .returned (.tuple #[v', .int .i64 E]) ∧ FrAt w' B f m v' L L' ∧ Below w.heap.size w w')) ∧
      ∀ w1 v1, FrAt w1 B f m v1 L L' → Calls Try.prog 11 #[.pointer (some ⟨f, 0, none⟩), .int .u32 off, .int .u32 x] w1 (fun e w' => e = .returned (.int .i64 E) ∧ FrAt w' B f m v1 L' L' ∧ Off (· = m) w1 w') := by
  cases ha : (off % 4 != 0)
  · rcases there L off with hno | ⟨i, y, hi⟩
    · refine ⟨10, L, Nat.le_succ _, fun B f m => ⟨fun w v h => ?_, fun w1 v1 k => ?_⟩⟩
      · refine (aWriteNone off x h0 ha h.O hno (by omega)).mono ?_
        rintro e w' ⟨rfl, rfl⟩
        exact ⟨_, rfl, h, tr0 w⟩
      · refine (fStoreNone off x f m L w1 h0 h1 ha k.F hno).mono ?_
        rintro e w' ⟨rfl, hb⟩
        exact ⟨rfl, k.below hb, Off.ofBelow hb⟩
    · have hy := hw _ (List.mem_of_getElem? hi)
      cases hon : only y.r y.c
      · refine ⟨0, L.set i (off, y.put x), by simp, fun B f m => ⟨fun w v h => ?_, fun w1 v1 k => ?_⟩⟩
        · obtain ⟨g, cap, rfl, hc, hm⟩ := nonslice h.O hi
          refine (aWrite off i y x x0 x1 hon hy h0 ha h.O hc hm hi h.R.nodup (by omega)).mono ?_
          rintro e w' ⟨g', cap', rfl, O, hc', hm', hb⟩
          exact ⟨_, rfl, ⟨h.F.below hb, O.base (fun b hb2 => Nat.le_trans h.hB (O.block hb2).1), h.R.set hi _, h.hm, Nat.le_trans h.hB hb.size⟩, hb⟩
        · have hR : Ris L := by
            have h2 := k.R
            have hk := set_keys (y := y.put x) hi
            refine ⟨by rw [← hk]; exact h2.so, fun p hp => ?_⟩
            have : p.1 ∈ (L.set i (off, y.put x)).map (·.1) := by rw [hk]; exact List.mem_map.2 ⟨p, hp, rfl⟩
            obtain ⟨q, hq, e⟩ := List.mem_map.1 this
            rw [← e]; exact h2.al q hq
          refine (fStore off y x f m L w1 x0 x1 h0 h1 ha k.F (List.mem_of_getElem? hi) hon).mono ?_
          rintro e w' ⟨rfl, F, ho⟩
          refine ⟨rfl, k.step ?_ ho, ho⟩
          rw [← put_set hR hi]
          exact F.perm (putF_perm hR.nodup (List.mem_of_getElem? hi) _)
      · refine ⟨12, L, Nat.le_succ _, fun B f m => ⟨fun w v h => ?_, fun w1 v1 k => ?_⟩⟩
        · obtain ⟨g, cap, rfl, hc, hm⟩ := nonslice h.O hi
          refine (aWriteOnly off i y x x0 x1 hon hy h0 ha h.O hc hm hi h.R.nodup (by omega)).mono ?_
          rintro e w' ⟨rfl, hb⟩
          exact ⟨_, rfl, h.below hb, hb⟩
        · refine (fStoreOnly off y x f m L w1 h0 ha k.F (List.mem_of_getElem? hi) hon).mono ?_
          rintro e w' ⟨rfl, hb⟩
          exact ⟨rfl, k.below hb, Off.ofBelow hb⟩
  · refine ⟨11, L, Nat.le_succ _, fun B f m => ⟨fun w v h => ?_, fun w1 v1 k => ?_⟩⟩
    · refine (aWriteBad off x v w h0 ha).mono ?_
      rintro e w' ⟨rfl, rfl⟩
      exact ⟨_, rfl, h, tr0 w⟩
    · refine (fStoreBad off x f w1 h0 ha).mono ?_
      rintro e w' ⟨rfl, hb⟩
      exact ⟨rfl, k.below hb, Off.ofBelow hb⟩
theorem rel_any {dev : Int → Value} {ty : TypeId} {R : List (Int × Int)} {Lp : Int → List Su} {M : List Sg} (h : Rel dev ty R Lp M) (b s : Int) : anyMeet b s R = anyM b s M := by
  rw [h.rr]
  unfold anyMeet anyM
  rw [List.any_map]
  congr 1
  funext x
  exact meet_swap _ _ _ _
theorem uAttachMeet (p bm : Nat) (rv : Value) (R : List (Int × Int)) (ks : List Int) (pv : Int → Value) (Lp : Int → List Su) (b s : Int) (xt : TypeId) (xv : Value) (w : World) (hB : UBus w p bm rv R ks pv Lp) (hn : R.length < 64)
    (b0 : 0 ≤ b) (b1 : b < 4294967296) (s0 : 0 ≤ s) (s1 : s < 4294967296) (h1 : (b % 4 != 0) = false) (h2 : (s % 4 != 0) = false) (h3 : (s == 0) = false) (h4 : b + s ≤ 4294967296)
    (hR : ∀ x ∈ R, (0 ≤ x.1 ∧ x.1 < 4294967296) ∧ 0 ≤ x.2 ∧ x.2 < 4294967296) (hm : anyMeet b s R = true) :
    Calls Try.prog 21 #[.pointer (some ⟨p, 0, none⟩), .agg #[.int .u32 b, .int .u32 s], .iface xt xv] w fun e w' => e = .returned (.int .i64 15) ∧ Below w.heap.size w w' := by
  go_enter Try.func21, Try.ntmps21
  go_wp2_with fail
  refine (zCheck b s _ b0 b1 s0 s1 h1 h2 h3 h4).mono ?_
  rintro e w1 ⟨rfl, hb1⟩
  have hX := blk_below hb1 (blk_new w _) (by simp)
  have hx0 := blk_cell hX 0
  have hx1 := blk_cell hX 1
  simp only [List.getElem?_toArray, List.getElem?_cons_zero, List.getElem?_cons_succ] at hx0 hx1
  have hbw := tr (trA (tr0 w) _) hb1
  clear hX hb1
  go_wp2_with fail
  refine (uRoom p bm rv R ks pv Lp b s true _ (hB.ofBelow hbw) hn hR b0 b1 s0 s1 hm).mono ?_
  rintro e w2 ⟨rfl, hb2⟩
  go_wp2_with fail
  go_ret
  exact ⟨rfl, tr hbw hb2⟩
section
variable {w : World} {B p bm : Nat} {F Mb : Nat → Nat} {rv : Value} {R : List (Int × Int)} {ks : List Int} {pv : Int → Value} {Lp : Int → List Su} {lv : Value} {M : List Sg} {fv mv : Value} {V : Nat → Value} {L : Nat → List (Int × Rg)}
/-- What is said of a bus behind a call. -/
def Bnow (w0 : World) (B p bm : Nat) (F Mb : Nat → Nat) (lv : Value) (M N : List Sg) (fv mv : Value) (V : Nat → Value) (L K : Nat → List (Int × Rg)) (w : World) : Prop :=
  ∃ rv R ks pv Lp, Bst w B p bm F Mb rv R ks pv Lp lv M N fv mv V L K ∧ Below B w0 w
theorem doAttach {w0 : World} (hw0 : w0.heap.size = B) (h : Bst w B p bm F Mb rv R ks pv Lp lv M M fv mv V L L) (hbl : Below B w0 w) (n : Nat) (hn : n < 6) (b s : Int) (b0 : 0 ≤ b) (b1 : b < 4294967296) (s0 : 0 ≤ s) (s1 : s < 4294967296) (hl : M.length ≤ 64) :
    ∃ (E : Int) (M' : List Sg), M'.length ≤ 64 ∧
      Calls Try.prog 20 #[lv, .agg #[.int .u32 b, .int .u32 s], .int .i64 (n : Int)] w (fun e w' => ∃ lv', e = .returned (.tuple #[lv', .int .i64 E]) ∧ Bst w' B p bm F Mb rv R ks pv Lp lv' M M' fv mv V L L ∧ Below w.heap.size w w') ∧
      ∀ w1 lv1, Bst w1 B p bm F Mb rv R ks pv Lp lv1 M M' fv mv V L L → Below B w0 w1 → Calls Try.prog 21 #[.pointer (some ⟨p, 0, none⟩), .agg #[.int .u32 b, .int .u32 s], .iface 23 (ptF F n)] w1
        (fun e w' => e = .returned (.int .i64 E) ∧ Bnow w0 B p bm F Mb lv1 M' M' fv mv V L L w' ∧ Off (uBlocks p bm rv ks pv) w1 w') := by
  have same : ∀ {E : Int}, (Calls Try.prog 20 #[lv, .agg #[.int .u32 b, .int .u32 s], .int .i64 (n : Int)] w fun e w' => e = .returned (.tuple #[lv, .int .i64 E]) ∧ Below w.heap.size w w') →
      (∀ w1, UBus w1 p bm rv R ks pv Lp → Calls Try.prog 21 #[.pointer (some ⟨p, 0, none⟩), .agg #[.int .u32 b, .int .u32 s], .iface 23 (ptF F n)] w1 fun e w' => e = .returned (.int .i64 E) ∧ Below w1.heap.size w1 w') →
      ∃ (E : Int) (M' : List Sg), M'.length ≤ 64 ∧
      Calls Try.prog 20 #[lv, .agg #[.int .u32 b, .int .u32 s], .int .i64 (n : Int)] w (fun e w' => ∃ lv', e = .returned (.tuple #[lv', .int .i64 E]) ∧ Bst w' B p bm F Mb rv R ks pv Lp lv' M M' fv mv V L L ∧ Below w.heap.size w w') ∧
      ∀ w1 lv1, Bst w1 B p bm F Mb rv R ks pv Lp lv1 M M' fv mv V L L → Below B w0 w1 → Calls Try.prog 21 #[.pointer (some ⟨p, 0, none⟩), .agg #[.int .u32 b, .int .u32 s], .iface 23 (ptF F n)] w1
        (fun e w' => e = .returned (.int .i64 E) ∧ Bnow w0 B p bm F Mb lv1 M' M' fv mv V L L w' ∧ Off (uBlocks p bm rv ks pv) w1 w') := fun {E} hd hc => by
    refine ⟨E, M, hl, hd.mono ?_, fun w1 lv1 k hb1 => (hc w1 k.bus).mono ?_⟩
    · rintro e w' ⟨rfl, hb⟩
      exact ⟨lv, rfl, h.below hb, hb⟩
    · rintro e w' ⟨rfl, hb⟩
      exact ⟨rfl, ⟨rv, R, ks, pv, Lp, k.below hb, hb1.trans (hb.mono k.hB)⟩, Off.ofBelow hb⟩
  cases h1 : (b % 4 != 0)
  · cases h2 : (s % 4 != 0)
    · cases h3 : (s == 0)
      · by_cases h4 : b + s ≤ 4294967296
        · by_cases h5 : M.length < 64
          · have hx : Sg.wf ⟨b, s, (n : Int)⟩ := ⟨b0, ⟨by show 0 < s; simp at h3; omega, s1⟩, h4, by show (0 : Int) ≤ (n : Int); omega, by show (n : Int) < 6; omega⟩
            have hR : R.length < 64 := by rw [h.rel.len]; exact h5
            have hd := qAttach ⟨b, s, (n : Int)⟩ hx h1 h2 h.reg h.rel.apt.wf h5
            unfold QAtt at hd
            cases ha : anyM b s M
            · refine ⟨0, insB ⟨b, s, (n : Int)⟩ M, by rw [insB_len]; omega, hd.mono ?_, fun w1 lv1 k hb1 => ?_⟩
              · rintro e w' ⟨v', E, rfl, hb, hh⟩
                rcases hh with ⟨h7, _⟩ | ⟨_, rfl, O⟩
                · rw [ha] at h7; cases h7
                · exact ⟨v', rfl, (h.below hb).list (O.base fun q hq => Nat.le_trans h.hB (O.block hq).1), hb⟩
              · have hdv : ptF F n = dvF F (n : Int) := by unfold ptF dvF; simp
                refine (uAttach p bm rv R ks pv Lp b s 23 (ptF F n) w1 k.bus hR ⟨b0, ⟨by show 0 < s; simp at h3; omega, s1⟩, h4⟩ k.rel.rb (by rw [rel_any k.rel]; exact ha) h1 h2).mono ?_
                rintro e w' ⟨rfl, rv', R', ks', pv', hB', hp', hs', ho', hk'⟩
                refine ⟨rfl, ⟨rv', R', ks', pv', _, k.att ho' hB' ?_ hk', Off.toBelow hb1 ho' (fun q hq hS => by have := k.bk q hS; omega) (by omega)⟩, ho'⟩
                rw [hdv]
                exact k.rel.put hx ha hp' hs'
            · refine ⟨15, M, hl, hd.mono ?_, fun w1 lv1 k hb1 => (uAttachMeet p bm rv R ks pv Lp b s _ _ w1 k.bus hR b0 b1 s0 s1 h1 h2 h3 h4 k.rel.rb (by rw [rel_any k.rel]; exact ha)).mono ?_⟩
              · rintro e w' ⟨v', E, rfl, hb, hh⟩
                rcases hh with ⟨_, rfl, rfl⟩ | ⟨h7, _⟩
                · exact ⟨_, rfl, h.below hb, hb⟩
                · rw [ha] at h7; cases h7
              · rintro e w' ⟨rfl, hb⟩
                exact ⟨rfl, ⟨rv, R, ks, pv, Lp, k.below hb, hb1.trans (hb.mono k.hB)⟩, Off.ofBelow hb⟩
          · refine same ?_ fun w1 hb => uAttachMany p bm rv R ks pv Lp b s _ _ w1 hb (by rw [h.rel.len]; omega) b0 b1 s0 s1 h1 h2 h3 h4
            rcases h.reg.cases with ⟨_, h0⟩ | ⟨g, cap, h6, _⟩
            · subst h0; simp at h5
            · rw [h6]; exact qAttachMany b s (n : Int) _ _ _ w b0 b1 s0 s1 h1 h2 h3 h4 (by omega) (by omega)
        · exact same (qAttachRange b s (n : Int) lv w b0 b1 s0 s1 h1 h2 h3 (by omega)) fun w1 _ => uAttachBad p b s 5 _ _ w1 rfl fun w' => zCheckRange b s w' b0 b1 s0 s1 h1 h2 h3 (by omega)
      · have h3' : s = 0 := by simpa using h3
        subst h3'
        exact same (qAttachZero b (n : Int) lv w b0 b1 h1) fun w1 _ => uAttachBad p b 0 5 _ _ w1 rfl fun w' => zCheckRange0 b w' b0 b1 h1
    · exact same (qAttachBad b s (n : Int) lv w b0 b1 s0 s1 (.inr ⟨h1, h2⟩)) fun w1 _ => uAttachBad p b s 11 _ _ w1 rfl fun w' => zCheckBad b s w' b0 b1 s0 s1 (.inr ⟨h1, h2⟩)
  · exact same (qAttachBad b s (n : Int) lv w b0 b1 s0 s1 (.inl h1)) fun w1 _ => uAttachBad p b s 11 _ _ w1 rfl fun w' => zCheckBad b s w' b0 b1 s0 s1 (.inl h1)
theorem dv_pt (F : Nat → Nat) {n : Int} {k : Nat} (h : n = (k : Int)) : dvF F n = ptF F k := by subst h; unfold dvF ptF; simp
/-- Where an address is, of both. -/
theorem find_at (h : Bst w B p bm F Mb rv R ks pv Lp lv M M fv mv V L L) {a : Int} {y : Sg} (hf : findS a M = some y) :
    ∃ k : Nat, k < 6 ∧ y.n = (k : Int) ∧ 0 ≤ y.b ∧ y.b ≤ a ∧ findU a (Lp (a / 16777216)) = (.agg #[.int .u32 y.b, .int .u32 y.s, .iface 23 (ptF F k)], 0) := by
  obtain ⟨hy, ha⟩ := findS_some hf
  have hw := h.rel.apt.wf y hy
  unfold Sg.wf at hw
  unfold hasB at ha
  simp at ha
  have h1 := h.rel.some hf
  have hk : y.n = ((y.n.toNat : Nat) : Int) := by omega
  rw [dv_pt F hk] at h1
  exact ⟨y.n.toNat, by omega, hk, by omega, by omega, h1⟩
theorem err_find (h : Bst w B p bm F Mb rv R ks pv Lp lv M M fv mv V L L) {a : Int} (a0 : 0 ≤ a) (a1 : a < 4294967296) (hn : (a % 4 != 0) = true ∨ ((a % 4 != 0) = false ∧ findS a M = none)) :
    ∃ E : Int, E ≠ 0 ∧ fres a M = (s0, 0, E) ∧ ∀ w', UBus w' p bm rv R ks pv Lp → Calls Try.prog 55 #[.pointer (some ⟨p, 0, none⟩), .int .u32 a] w' fun e w'' => e = .returned (.tuple #[zeroSeatV, .int .i64 E]) ∧ Below w'.heap.size w' w'' := by
  rcases hn with h1 | ⟨h1, h2⟩
  · exact ⟨11, by decide, by unfold fres; rw [if_pos h1], fun w' _ => zFindBad a _ w' a0 h1⟩
  · exact ⟨10, by decide, by unfold fres; rw [if_neg (by rw [h1]; simp), h2], fun w' hb => uFind a _ _ p bm rv R ks pv Lp w' a0 a1 h1 hb (h.rel.none h2)⟩
theorem found {a : Int} {M : List Sg} (hn : ¬ ((a % 4 != 0) = true ∨ ((a % 4 != 0) = false ∧ findS a M = none))) : (a % 4 != 0) = false ∧ ∃ y, findS a M = some y := by
  cases h1 : (a % 4 != 0)
  · refine ⟨rfl, ?_⟩
    cases hf : findS a M with
    | none => exact absurd (.inr ⟨h1, hf⟩) hn
    | some y => exact ⟨y, rfl⟩
  · exact absurd (.inl h1) hn
theorem doBLoad {w0 : World} (h : Bst w B p bm F Mb rv R ks pv Lp lv M M fv mv V L L) (hbl : Below B w0 w) (hw0 : w0.heap.size = B) (a : Int) (a0 : 0 ≤ a) (a1 : a < 4294967296) (hl : M.length < 100000) (hL : ∀ i, i < 6 → (L i).length < 90000) :
    ∃ (x E : Int), Calls Try.prog 22 #[lv, mv, .int .u32 a] w (fun e w' => e = .returned (.tuple #[.int .u32 x, .int .i64 E]) ∧ Bst w' B p bm F Mb rv R ks pv Lp lv M M fv mv V L L ∧ Below w.heap.size w w') ∧
      ∀ w1, Bst w1 B p bm F Mb rv R ks pv Lp lv M M fv mv V L L → Below B w0 w1 → Calls Try.prog 23 #[.pointer (some ⟨p, 0, none⟩), .int .u32 a] w1 (fun e w' => e = .returned (.tuple #[.int .u32 x, .int .i64 E]) ∧ Bst w' B p bm F Mb rv R ks pv Lp lv M M fv mv V L L ∧ Below B w0 w') := by
  by_cases hn : (a % 4 != 0) = true ∨ ((a % 4 != 0) = false ∧ findS a M = none)
  · obtain ⟨E, hne, hE, hf⟩ := err_find h a0 a1 hn
    refine ⟨0, E, (qLoadErr mv E hE hne a0 a1 h.reg h.rel.apt.wf hl).mono ?_, fun w1 k hb1 => (zLoadErr (some ⟨p, 0, none⟩) a E w1 (by simpa using hne) (fun w' hb => hf w' (k.bus.ofBelow hb))).mono ?_⟩
    · rintro e w' ⟨rfl, hb⟩
      exact ⟨rfl, h.below hb, hb⟩
    · rintro e w' ⟨rfl, hb⟩
      exact ⟨rfl, k.below hb, hb1.trans (hb.mono k.hB)⟩
  · obtain ⟨h1, y, hf⟩ := found hn
    obtain ⟨k, hk6, hyn, hy0, hya, hfu⟩ := find_at h hf
    obtain ⟨x, E, hxE, C⟩ := doLoadG (L k) (a - y.b) (by omega) (by omega) (hL k hk6)
    obtain ⟨mg, mc, rfl, hmc, hmm, hmB, hml⟩ := h.mform
    refine ⟨x, E, (qLoadHit y k V x E (C := B) h1 hf hyn hk6 hya hy0 a0 a1 h.reg h.rel.apt.wf hl (by rw [six_len]; exact h.ms) (by rw [six_len]; exact hmc) hmm (fun w' hb => (C w' B _ _ _ ((h.fr k hk6).below hb)).1)).mono ?_, fun w1 q hb1 => ?_⟩
    · rintro e w' ⟨rfl, hb⟩
      exact ⟨rfl, h.below hb, hb⟩
    · have hfr := q.fr k hk6
      refine (uLoad p bm rv R ks pv Lp a y.b y.s x E 23 (ptF F k) 9 (fun _ => False) (fun _ => True) w1 a0 a1 h1 q.bus hxE (fun _ _ => by kernel_rfl) (enters_of Try.func9 (by kernel_rfl) rfl) hfu hy0 hya (fun h => h) (fun _ h => h.elim) (fun w' ho => ?_) (fun _ _ _ _ => trivial)).mono ?_
      · have hp : ∀ {c : Array Value} {T : TypeId} {fz : Nat × Nat} {z : Nat}, w1.heap[z]? = some (.cells c T fz) → (102 == T) = false → z ≠ p := fun hz hT e => apart_types q.bus.cell hz hT e.symm
        have hfr' : FrAt w' B (F k) (Mb k) (V k) (L k) (L k) := hfr.offS ho (hp hfr.F.cell rfl) (fun e => cells_map q.bus.cell hfr.F.isMap e.symm) fun b hb => by
          obtain ⟨c, hc⟩ := hfr.O.ty hb; exact hp hc rfl
        refine ((C w' B _ _ _ hfr').2).mono ?_
        rintro e w2 ⟨rfl, hb⟩
        exact ⟨rfl, Off.ofBelow hb, trivial⟩
      · rintro e w' ⟨rfl, ho, _⟩
        have hb : Below w1.heap.size w1 w' := ho.below (fun _ _ h => h) (Nat.le_refl _)
        exact ⟨rfl, q.below hb, hb1.trans (hb.mono q.hB)⟩
theorem doBStore {w0 : World} (h : Bst w B p bm F Mb rv R ks pv Lp lv M M fv mv V L L) (hbl : Below B w0 w) (hw0 : w0.heap.size = B) (a z : Int) (a0 : 0 ≤ a) (a1 : a < 4294967296) (z0 : 0 ≤ z) (z1 : z < 4294967296) (hl : M.length < 100000) (hL : ∀ i, i < 6 → (L i).length < 90000) {T : Nat} (hT : ∀ i, i < 6 → (L i).length ≤ T) :
    ∃ (E : Int) (K : Nat → List (Int × Rg)), (∀ i, i < 6 → (K i).length ≤ T + 1) ∧ Calls Try.prog 24 #[lv, mv, .int .u32 a, .int .u32 z] w (fun e w' => ∃ mv' V', e = .returned (.tuple #[mv', .int .i64 E]) ∧ Bst w' B p bm F Mb rv R ks pv Lp lv M M fv mv' V' L K ∧ Below w.heap.size w w') ∧
      ∀ w1 mv1 V1, Bst w1 B p bm F Mb rv R ks pv Lp lv M M fv mv1 V1 L K → Below B w0 w1 → Calls Try.prog 25 #[.pointer (some ⟨p, 0, none⟩), .int .u32 a, .int .u32 z] w1 (fun e w' => e = .returned (.int .i64 E) ∧ Bst w' B p bm F Mb rv R ks pv Lp lv M M fv mv1 V1 K K ∧ Below B w0 w') := by
  by_cases hn : (a % 4 != 0) = true ∨ ((a % 4 != 0) = false ∧ findS a M = none)
  · obtain ⟨E, hne, hE, hf⟩ := err_find h a0 a1 hn
    refine ⟨E, L, fun i hi => Nat.le_succ_of_le (hT i hi), (qStoreErr mv E z hE hne a0 a1 h.reg h.rel.apt.wf hl).mono ?_, fun w1 mv1 V1 k hb1 => (zStoreErr (some ⟨p, 0, none⟩) a E z w1 (by simpa using hne) (fun w' hb => hf w' (k.bus.ofBelow hb))).mono ?_⟩
    · rintro e w' ⟨rfl, hb⟩
      exact ⟨_, _, rfl, h.below hb, hb⟩
    · rintro e w' ⟨rfl, hb⟩
      exact ⟨rfl, k.below hb, hb1.trans (hb.mono k.hB)⟩
  · obtain ⟨h1, y, hf⟩ := found hn
    obtain ⟨k, hk6, hyn, hy0, hya, hfu⟩ := find_at h hf
    obtain ⟨E, L', hL', C⟩ := doWriteG (L k) (h.fr k hk6).F.wf (a - y.b) z z0 z1 (by omega) (by omega) (hL k hk6)
    obtain ⟨mg, mc, rfl, hmc, hmm, hmB, hml⟩ := h.mform
    refine ⟨E, updF L k L', fun i hi => ?_, ?_, fun w1 mv1 V1 q hb1 => ?_⟩
    · by_cases e : i = k
      · subst e; rw [updF_same]; have := hT i hi; omega
      · rw [updF_else _ _ e]; exact Nat.le_succ_of_le (hT i hi)
    · refine (qStoreHit y k V z E (C := B) (fun w' v' => FrAt w' B (F k) (Mb k) v' (L k) L') h1 hf hyn hk6 hya hy0 a0 a1 h.reg h.rel.apt.wf hl (by rw [six_len]; exact h.ms) h.one (by rw [six_len]; exact hmc) hmm (fun w' hb => (C B _ _).1 w' _ ((h.fr k hk6).below hb)) (fun u u' v k hb => k.below hb) (fun u v k => ?_)).mono ?_
      · rcases k.O.cases with ⟨h1, _⟩ | ⟨g, cap, h1, _⟩
        · exact ⟨_, _, _, h1⟩
        · exact ⟨_, _, _, h1⟩
      · rintro e w' ⟨mv', v', rfl, O, hfr, hb⟩
        exact ⟨mv', _, rfl, (h.below hb).docs hk6 hfr (O.base fun b hb2 => Nat.le_trans h.hB (O.block hb2).1), hb⟩
    · have hfr := q.fr k hk6
      rw [updF_same] at hfr
      have hDp : ¬ (fun i => i = Mb k) p := fun e => cells_map q.bus.cell hfr.F.isMap e
      have hp : ∀ {c : Array Value} {T : TypeId} {fz : Nat × Nat} {z : Nat}, w1.heap[z]? = some (.cells c T fz) → (102 == T) = false → z ≠ p := fun hz hT e => apart_types q.bus.cell hz hT e.symm
      have hFp : F k ≠ p := hp hfr.F.cell rfl
      have hMp : Mb k ≠ p := fun e => hDp e.symm
      have hVp : ∀ b, (V1 k).ownBlock = some b → b ≠ p ∧ b < w1.heap.size := fun b hb => by
        obtain ⟨c, hc⟩ := hfr.O.ty hb; exact ⟨hp hc rfl, (hfr.O.block hb).2⟩
      have hFl := hfr.F.ltf
      have hMl := hfr.F.ltm
      have stay : ∀ {u u' : World} {L1 L2 : List (Int × Rg)}, FrAt u B (F k) (Mb k) (V1 k) L1 L2 → Off (fun i => i = p ∨ w1.heap.size ≤ i) u u' → FrAt u' B (F k) (Mb k) (V1 k) L1 L2 := fun g ho =>
        g.offS ho (fun e => by rcases e with e | e; exact hFp e; omega) (fun e => by rcases e with e | e; exact hMp e; omega) fun b hb e => by
          have := hVp b hb
          rcases e with e | e
          · exact this.1 e
          · omega
      refine (uStore p bm rv R ks pv Lp a y.b y.s z E 23 (ptF F k) 11 (fun i => i = Mb k) (fun u => FrAt u B (F k) (Mb k) (V1 k) L' L') w1 a0 a1 h1 q.bus (fun _ _ => by kernel_rfl) (enters_of Try.func11 (by kernel_rfl) rfl) hfu hy0 hya hDp (fun i e => by subst e; exact hfr.F.ltm) (fun w' ho => ?_) (fun u u' hu ho => ?_)).mono ?_
      · exact (C B _ _).2 w' _ (stay hfr ho) |>.mono fun e w2 hh => ⟨hh.1, hh.2.2, hh.2.1⟩
      · exact stay hu ho
      · rintro e w' ⟨rfl, ho, hfr'⟩
        refine ⟨rfl, ?_, Off.toBelow hb1 ho (fun i hi e => by subst e; have := hfr.hm; omega) (by omega)⟩
        have hq := q.file hk6 ho (L' := L') (by rw [updF_same]; exact hfr')
        exact hq
theorem doBFind (h : Bst w B p bm F Mb rv R ks pv Lp lv M M fv mv V L L) (a : Int) (a0 : 0 ≤ a) (a1 : a < 4294967296) (hl : M.length < 100000) :
    ∃ (y : Sg) (o E : Int), Calls Try.prog 26 #[lv, .int .u32 a] w (fun e w' => e = .returned (.tuple #[.agg #[.int .u32 y.b, .int .u32 y.s, .int .i64 y.n], .int .u32 o, .int .i64 E]) ∧ Below w.heap.size w w') ∧
      ∀ w1, UBus w1 p bm rv R ks pv Lp → Calls Try.prog 27 #[.pointer (some ⟨p, 0, none⟩), .int .u32 a] w1 (fun e w' => e = .returned (.tuple #[.agg #[.int .u32 y.b, .int .u32 y.s], .int .u32 o, .int .i64 E]) ∧ Below w1.heap.size w1 w') := by
  have F1 := qFind a a0 a1 h.reg h.rel.apt.wf hl
  unfold QFind at F1
  by_cases hn : (a % 4 != 0) = true ∨ ((a % 4 != 0) = false ∧ findS a M = none)
  · obtain ⟨E, hne, hE, hf⟩ := err_find h a0 a1 hn
    rw [hE] at F1
    exact ⟨s0, 0, E, F1, fun w1 k => zFindXErr (some ⟨p, 0, none⟩) a E w1 (by simpa using hne) (fun w' hb => hf w' (k.ofBelow hb))⟩
  · obtain ⟨h1, y, hf⟩ := found hn
    obtain ⟨k, hk6, hyn, hy0, hya, hfu⟩ := find_at h hf
    rw [fres_hit h1 hf] at F1
    exact ⟨y, a - y.b, 0, F1, fun w1 q => uFindX p bm rv R ks pv Lp a y.b y.s _ _ w1 a0 a1 h1 q hfu hy0 hya⟩
end
end Go.Proofs.Ytafegmmcgghgaaa.B
namespace Go.Proofs.Ytafegmmcgghgaaa.B
set_option linter.unusedVariables false
set_option linter.unusedSimpArgs false
open Go.ChangeShapes Go.WideShapes Go.RowKit Go.Sort Go.MapKept Go.Shelf
theorem mod_six (n : Int) : 0 ≤ wrap64 ((IntKind.u64.wrap n).tmod 6) ∧ wrap64 ((IntKind.u64.wrap n).tmod 6) < 6 := by
  have h0 := wrap_u64_nonneg n
  have h1 : 0 ≤ (IntKind.u64.wrap n).tmod 6 := Int.tmod_nonneg _ h0
  have h2 : (IntKind.u64.wrap n).tmod 6 < 6 := Int.tmod_lt_of_pos _ (by decide)
  unfold wrap64
  omega
def vNil : Value := .slice none 0 0
/-- While the files are made: so many files, so many of them in the row, so many of the document's. -/
structure Ini (w : World) (p bm : Nat) (F Mb : Nat → Nat) (a b c : Nat) (fv mv : Value) : Prop where
  bus : UBus w p bm (.slice none 0 0) [] [] (fun _ => .slice none 0 0) (fun _ => [])
  fl : ∀ i, i < a → FileAt w (F i) (Mb i) [] ∧ bm < Mb i
  inj : ∀ i j, i < a → j < a → Mb i = Mb j → i = j
  fs : OwnV w bm tP1 fv ((List.range b).map (ptF F))
  ms : OwnV w bm tS1 mv ((List.range c).map fun _ => vNil)
section
variable {w w' : World} {p bm : Nat} {F Mb : Nat → Nat} {a b c : Nat} {fv mv v' : Value}
theorem Ini.below (h : Ini w p bm F Mb a b c fv mv) (hb : Below w.heap.size w w') : Ini w' p bm F Mb a b c fv mv :=
  ⟨h.bus.ofBelow hb, fun i hi => ⟨(h.fl i hi).1.below hb, (h.fl i hi).2⟩, h.inj, h.fs.below hb, h.ms.below hb⟩
theorem range_upd (F : Nat → Nat) (k x : Nat) {b : Nat} (hb : b ≤ k) : (List.range b).map (ptF (updF F k x)) = (List.range b).map (ptF F) := by
  refine List.map_congr_left fun i hi => ?_
  have : i < b := by simpa using hi
  unfold ptF; rw [updF_else _ _ (by omega)]
theorem Ini.file (h : Ini w p bm F Mb a a a fv mv) (hb : Below w.heap.size w w') (hbm : bm < w.heap.size) (hf : FileAt w' (w.heap.size + 1) w.heap.size []) : Ini w' p bm (updF F a (w.heap.size + 1)) (updF Mb a w.heap.size) (a + 1) a a fv mv := by
  have hlt : ∀ i, i < a → Mb i < w.heap.size := fun i hi => (h.fl i hi).1.ltm
  refine ⟨h.bus.ofBelow hb, fun i hi => ?_, fun i j hi hj e => ?_, ?_, h.ms.below hb⟩
  · by_cases e : i = a
    · subst e; rw [updF_same, updF_same]; exact ⟨hf, hbm⟩
    · rw [updF_else _ _ e, updF_else _ _ e]; exact ⟨(h.fl i (by omega)).1.below hb, (h.fl i (by omega)).2⟩
  · by_cases e1 : i = a
    · by_cases e2 : j = a
      · omega
      · subst e1; rw [updF_same, updF_else _ _ e2] at e; have := hlt j (by omega); omega
    · by_cases e2 : j = a
      · subst e2; rw [updF_same, updF_else _ _ e1] at e; have := hlt i (by omega); omega
      · rw [updF_else _ _ e1, updF_else _ _ e2] at e; exact h.inj i j (by omega) (by omega) e
  · rw [range_upd F a _ (Nat.le_refl _)]; exact h.fs.below hb
theorem Ini.putF (h : Ini w p bm F Mb (a + 1) a a fv mv) (ho : Off (fun k => fv.ownBlock = some k) w w') (hv : OwnV w' bm tP1 v' ((List.range a).map (ptF F) ++ [ptF F a])) : Ini w' p bm F Mb (a + 1) (a + 1) a v' mv := by
  refine ⟨h.bus.ofOff ho fun k hk e => ?_, fun i hi => ⟨(h.fl i hi).1.off ho (fun e => ?_) fun e => ?_, (h.fl i hi).2⟩, h.inj, by rw [List.range_succ, List.map_append]; exact hv, h.ms.off ho fun k hk e => ?_⟩
  · obtain ⟨c, hc⟩ := h.fs.ty e; exact ub_cells h.bus hc rfl rfl rfl hk
  · obtain ⟨c, hc⟩ := h.fs.ty e; exact apart_types (h.fl i hi).1.cell hc rfl rfl
  · obtain ⟨c, hc⟩ := h.fs.ty e; exact cells_map hc (h.fl i hi).1.isMap rfl
  · obtain ⟨c, hc⟩ := h.fs.ty e; obtain ⟨d, hd⟩ := h.ms.ty hk; exact apart_types hd hc rfl rfl
theorem Ini.putM (h : Ini w p bm F Mb (a + 1) (a + 1) a fv mv) (ho : Off (fun k => mv.ownBlock = some k) w w') (hv : OwnV w' bm tS1 v' ((List.range a).map (fun _ => vNil) ++ [vNil])) : Ini w' p bm F Mb (a + 1) (a + 1) (a + 1) fv v' := by
  refine ⟨h.bus.ofOff ho fun k hk e => ?_, fun i hi => ⟨(h.fl i hi).1.off ho (fun e => ?_) fun e => ?_, (h.fl i hi).2⟩, h.inj, h.fs.off ho fun k hk e => ?_, by rw [List.range_succ, List.map_append]; exact hv⟩
  · obtain ⟨c, hc⟩ := h.ms.ty e; exact ub_cells h.bus hc rfl rfl rfl hk
  · obtain ⟨c, hc⟩ := h.ms.ty e; exact apart_types (h.fl i hi).1.cell hc rfl rfl
  · obtain ⟨c, hc⟩ := h.ms.ty e; exact cells_map hc (h.fl i hi).1.isMap rfl
  · obtain ⟨c, hc⟩ := h.ms.ty e; obtain ⟨d, hd⟩ := h.fs.ty hk; exact apart_types hd hc rfl rfl
theorem Ini.done (h : Ini w p bm F Mb 6 6 6 fv mv) (hp : bm ≤ p) (hw : bm ≤ w.heap.size) : Bst w bm p bm F Mb (.slice none 0 0) [] [] (fun _ => .slice none 0 0) (fun _ => []) (.slice none 0 0) [] [] fv mv (fun _ => vNil) (fun _ => []) (fun _ => []) := by
  refine ⟨h.bus, rel_nil _ _, ownB_nil _ _, fun i hi => ⟨(h.fl i hi).1, ownA_nil _ _, ⟨List.Pairwise.nil, by simp⟩, Nat.le_of_lt (h.fl i hi).2, hw⟩, h.fs, h.ms, h.inj, fun i hi => ?_, fun k hk => ?_, hw⟩
  · have := (h.fl i hi).2; omega
  · rcases hk with rfl | rfl | h1 | ⟨u, hu, _⟩
    · exact hp
    · exact Nat.le_refl _
    · cases h1
    · cases hu
end
end Go.Proofs.Ytafegmmcgghgaaa.B
