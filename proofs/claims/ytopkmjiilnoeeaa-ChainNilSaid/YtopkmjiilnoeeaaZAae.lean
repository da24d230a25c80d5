/- Several texts in one: Layer 17's own chains in plain numbers: a link for each thing, with those beside it; how it turns. No Go. Structs of one .. -/
import Derived.Test.YtopkmjiilnoeeaaZAaa
import Derived.Test.YtopkmjiilnoeeaaZAad
import Derived.Maps.OwnSet
namespace Go.Proofs.Ytopkmjiilnoeeaa.B
set_option linter.unusedVariables false
set_option linter.unusedSimpArgs false
set_option linter.unusedSectionVars false
structure Lk where
 h : Option Nat
 p : Int
 n : Int
def lk0 : Lk := ⟨none, 0, 0⟩
def chLst (l : List Int) : Int := l.getLast?.getD (-1)
theorem chLst_snoc (l : List Int) (x : Int) : chLst (l ++ [x]) = x := by unfold chLst; simp
theorem chFst_app (l m : List Int) (h : l ≠ []) : chFst (l ++ m) = chFst l := by
 cases l with
 | nil => exact absurd rfl h
 | cons a l => rfl
theorem chLst_app (l m : List Int) (h : m ≠ []) : chLst (l ++ m) = chLst m := by
 unfold chLst
 rw [List.getLast?_append]
 cases hm : m.getLast? with
 | none => exact absurd (List.getLast?_eq_none_iff.1 hm) h
 | some a => rfl
theorem chLst_get {l : List Int} (h : l ≠ []) : l[l.length - 1]? = some (chLst l) := by
 unfold chLst
 rw [List.getLast?_eq_getElem?]
 have : 0 < l.length := List.length_pos_iff.2 h
 rw [List.getElem?_eq_getElem (by omega)]
 rfl
theorem chFst_get {l : List Int} (h : l ≠ []) : l[0]? = some (chFst l) := by
 cases l with
 | nil => exact absurd rfl h
 | cons a l => rfl
theorem chLst_mem {l : List Int} (h : l ≠ []) : chLst l ∈ l := List.mem_of_getElem? (chLst_get h)
theorem chFst_mem {l : List Int} (h : l ≠ []) : chFst l ∈ l := List.mem_of_getElem? (chFst_get h)
theorem nd_idx {l : List Int} (nd : l.Nodup) {p q : Nat} {x : Int} (hp : l[p]? = some x) (hq : l[q]? = some x) : p = q := by
 obtain ⟨h1, e1⟩ := List.getElem?_eq_some_iff.1 hp
 obtain ⟨h2, e2⟩ := List.getElem?_eq_some_iff.1 hq
 exact (List.getElem_inj nd).1 (e1.trans e2.symm)
theorem lst_no {l : List Int} (h0 : ∀ x ∈ l, 0 ≤ x) : chLst l = -1 ↔ l = [] := by
 constructor
 · intro h
   by_cases e : l = []
   · exact e
   · have := h0 _ (chLst_mem e)
     omega
 · rintro rfl; rfl
theorem fst_no {l : List Int} (h0 : ∀ x ∈ l, 0 ≤ x) : chFst l = -1 ↔ l = [] := by
 constructor
 · intro h
   by_cases e : l = []
   · exact e
   · have := h0 _ (chFst_mem e)
     omega
 · rintro rfl; rfl
theorem fst_put {l : List Int} (h0 : ∀ x ∈ l, 0 ≤ x) (i : Int) : (if chLst l = -1 then i else chFst l) = chFst (l ++ [i]) := by
 by_cases e : l = []
 · rw [e]; rfl
 · rw [if_neg (fun h => e ((lst_no h0).1 h)), chFst_app _ _ e]
theorem fst_cut {l1 : List Int} (h0 : ∀ x ∈ l1, 0 ≤ x) (i : Int) (l2 : List Int) : (if chLst l1 = -1 then chFst l2 else chFst (l1 ++ i :: l2)) = chFst (l1 ++ l2) := by
 by_cases e : l1 = []
 · rw [e]; rfl
 · rw [if_neg (fun h => e ((lst_no h0).1 h)), chFst_app _ _ e, chFst_app _ _ e]
theorem lst_cut (l1 : List Int) (i : Int) {l2 : List Int} (h0 : ∀ x ∈ l2, 0 ≤ x) : (if chFst l2 = -1 then chLst l1 else chLst (l1 ++ i :: l2)) = chLst (l1 ++ l2) := by
 by_cases e : l2 = []
 · rw [e, List.append_nil]; rfl
 · rw [if_neg (fun h => e ((fst_no h0).1 h)), chLst_app _ _ e, show l1 ++ i :: l2 = (l1 ++ [i]) ++ l2 by simp, chLst_app _ _ e]
def jN (r : Nat → Lk) (a v : Int) (x : Nat) : Lk := if (x : Int) = a then { r x with n := v } else r x
def jP (r : Nat → Lk) (a v : Int) (x : Nat) : Lk := if (x : Int) = a then { r x with p := v } else r x
def jI (r : Nat → Lk) (a : Int) (h : Option Nat) (x : Nat) : Lk := if (x : Int) = a then { r x with h := h } else r x
def j0 (r : Nat → Lk) (a : Int) (x : Nat) : Lk := if (x : Int) = a then lk0 else r x
def lkd (n : Nat) (r : Nat → Lk) (i : Int) : Bool := decide (0 ≤ i ∧ i < n) && (r i.toNat).h.isSome
theorem jN_no (r : Nat → Lk) (v : Int) : jN r (-1) v = r := funext fun i => by unfold jN; rw [if_neg (by omega)]
theorem jP_no (r : Nat → Lk) (v : Int) : jP r (-1) v = r := funext fun i => by unfold jP; rw [if_neg (by omega)]
def jPut (r : Nat → Lk) (i : Int) (h : Option Nat) (l : Int) : Nat → Lk := jP (jN (jP (jN (jI r i h) l i) i l) i (-1)) (-1) i
def jCut (r : Nat → Lk) (i a b : Int) : Nat → Lk := jP (jN (j0 r i) a b) b a
theorem jPut_i (r : Nat → Lk) (i : Nat) (h : Option Nat) (l : Int) (hl : (i : Int) ≠ l) : jPut r i h l i = ⟨h, l, -1⟩ := by
 have e1 : ¬ (i : Int) = -1 := by omega
 simp [jPut, jP, jN, jI, hl, e1]
theorem jPut_l (r : Nat → Lk) (i x : Nat) (h : Option Nat) (hx : (x : Int) ≠ i) : jPut r i h x x = { r x with n := i } := by
 have e1 : ¬ (x : Int) = -1 := by omega
 simp [jPut, jP, jN, jI, hx, e1]
theorem jPut_x (r : Nat → Lk) (i x : Nat) (h : Option Nat) (l : Int) (hx : (x : Int) ≠ i) (hl : (x : Int) ≠ l) : jPut r i h l x = r x := by
 have e1 : ¬ (x : Int) = -1 := by omega
 simp [jPut, jP, jN, jI, hx, e1, hl]
theorem jCut_i (r : Nat → Lk) (i : Nat) (a b : Int) (ha : (i : Int) ≠ a) (hb : (i : Int) ≠ b) : jCut r i a b i = lk0 := by
 simp [jCut, jP, jN, j0, ha, hb]
theorem jCut_x (r : Nat → Lk) (i x : Nat) (a b : Int) (hi : (x : Int) ≠ i) (ha : (x : Int) ≠ a) (hb : (x : Int) ≠ b) : jCut r i a b x = r x := by
 simp [jCut, jP, jN, j0, ha, hb, hi]
theorem jCut_a (r : Nat → Lk) (i x : Nat) (b : Int) (hi : (x : Int) ≠ i) (hb : (x : Int) ≠ b) : jCut r i x b x = { r x with n := b } := by
 simp [jCut, jP, jN, j0, hb, hi]
theorem jCut_b (r : Nat → Lk) (i x : Nat) (a : Int) (hi : (x : Int) ≠ i) (ha : (x : Int) ≠ a) : jCut r i a x x = { r x with p := a } := by
 simp [jCut, jP, jN, j0, ha, hi]
section
variable {κ : Type} [DecidableEq κ]
structure AOk (n : Nat) (A : κ → List Int) : Prop where
 rg : ∀ k i, i ∈ A k → 0 ≤ i ∧ i < n
 dj : ∀ j k i, i ∈ A j → i ∈ A k → j = k
 nd : ∀ k, (A k).Nodup
theorem ChOk.A {n : Nat} {L : List (κ × Int)} (h : ChOk n L) : AOk n (chAll L) :=
 ⟨fun k i hi => h.rg _ ((chAll_mem L k i).1 hi), fun j k i h1 h2 => (Prod.mk.inj (mem_two h ((chAll_mem L j i).1 h1) ((chAll_mem L k i).1 h2) rfl)).1, fun k => chAll_nd h k⟩
structure Rep (n : Nat) (A : κ → List Int) (H : κ → Nat) (r : Nat → Lk) : Prop where
 at_ : ∀ k (j i : Nat), (A k)[j]? = some (i : Int) → r i = ⟨some (H k), chLst ((A k).take j), chFst ((A k).drop (j + 1))⟩
 no : ∀ i : Nat, i < n → (∀ k, (i : Int) ∉ A k) → r i = lk0
variable {n : Nat} {A A' : κ → List Int} {H H' : κ → Nat} {r : Nat → Lk}
theorem Rep.congr (h : Rep n A H r) (e : ∀ k, A k = A' k) : Rep n A' H r := by
 have : A = A' := funext e
 rw [← this]; exact h
theorem Rep.push (h : Rep n A H r) (ok : AOk n A) {k : κ} {i b : Nat} (hi : i < n) (hno : ∀ j, (i : Int) ∉ A j) (hA : ∀ j, A' j = if j = k then A k ++ [(i : Int)] else A j)
 (hH : ∀ j, A j ≠ [] → H' j = H j) (hb : H' k = b) : Rep n A' H' (jPut r i (some b) (chLst (A k))) := by
 have hil : (i : Int) ≠ chLst (A k) := fun e => by
  by_cases h0 : A k = []
  · rw [h0] at e; have : chLst [] = -1 := rfl; omega
  · exact hno k (by rw [e]; exact chLst_mem h0)
 constructor
 · intro j q x hx
   rw [hA j] at hx ⊢
   by_cases e : j = k
   · subst e
     rw [if_pos rfl] at hx ⊢
     by_cases hq : q < (A j).length
     · rw [List.getElem?_append_left hq] at hx
       have hne : A j ≠ [] := fun e => by rw [e] at hq; cases hq
       have hxi : (x : Int) ≠ i := fun e => hno j (by rw [← e]; exact List.mem_of_getElem? hx)
       have old := h.at_ j q x hx
       rw [List.take_append_of_le_length (by omega), List.drop_append_of_le_length (by omega), hH j hne]
       by_cases hl : q + 1 = (A j).length
       · have hxl : chLst (A j) = x := by
          have := chLst_get hne
          rw [show (A j).length - 1 = q by omega, hx] at this
          exact (Option.some.inj this).symm
         rw [hxl, jPut_l r i x _ hxi, old, List.drop_eq_nil_of_le (by omega)]
         rfl
       · have hxl : (x : Int) ≠ chLst (A j) := fun e => by
          have := chLst_get hne
          rw [← e] at this
          have := nd_idx (ok.nd j) hx this
          omega
         rw [jPut_x r i x _ _ hxi hxl, old, chFst_app _ _ (fun e => by have := List.drop_eq_nil_iff.1 e; omega)]
     · have hq : q = (A j).length := by
        have := (List.getElem?_eq_some_iff.1 hx).1
        rw [List.length_append] at this
        have h1 : [(i : Int)].length = 1 := rfl
        omega
       rw [hq, List.getElem?_append_right (Nat.le_refl _), Nat.sub_self] at hx
       have hxi : i = x := by
        have : some (i : Int) = some (x : Int) := hx
        have := Option.some.inj this
        omega
       subst hxi
       rw [jPut_i r i _ _ hil, hq, List.take_left, List.drop_eq_nil_of_le (by simp), hb]
       rfl
   · rw [if_neg e] at hx ⊢
     have hm := List.mem_of_getElem? hx
     have hxi : (x : Int) ≠ i := fun e => hno j (by rw [← e]; exact hm)
     have hxl : (x : Int) ≠ chLst (A k) := fun e2 => by
      by_cases h0 : A k = []
      · rw [h0] at e2; have : chLst [] = -1 := rfl; omega
      · exact e (ok.dj j k x hm (by rw [e2]; exact chLst_mem h0))
     rw [jPut_x r i x _ _ hxi hxl, h.at_ j q x hx, hH j (fun e => by rw [e] at hm; cases hm)]
 · intro x hx hn
   have hk := hn k
   rw [hA k, if_pos rfl] at hk
   have hxi : (x : Int) ≠ i := fun e => hk (by rw [e]; simp)
   have hno2 : ∀ j, (x : Int) ∉ A j := fun j hm => by
    have := hn j
    rw [hA j] at this
    by_cases e : j = k
    · rw [if_pos e] at this; exact this (by rw [← e]; simp [hm])
    · rw [if_neg e] at this; exact this hm
   have hxl : (x : Int) ≠ chLst (A k) := fun e => by
    by_cases h0 : A k = []
    · rw [h0] at e; have : chLst [] = -1 := rfl; omega
    · exact hno2 k (by rw [e]; exact chLst_mem h0)
   rw [jPut_x r i x _ _ hxi hxl]
   exact h.no x hx hno2
theorem Rep.cut (h : Rep n A H r) (ok : AOk n A) {k : κ} {i : Nat} {l1 l2 : List Int} (hk : A k = l1 ++ (i : Int) :: l2) (hA : ∀ j, A' j = if j = k then l1 ++ l2 else A j) : Rep n A' H (jCut r i (chLst l1) (chFst l2)) := by
 have nd := ok.nd k
 rw [hk] at nd
 have g1 : ∀ q x, l1[q]? = some x → (A k)[q]? = some x := fun q x hq => by
  rw [hk, List.getElem?_append_left (List.getElem?_eq_some_iff.1 hq).1]; exact hq
 have g2 : ∀ (q : Nat) x, l2[q]? = some x → (A k)[l1.length + 1 + q]? = some x := fun q x hq => by
  rw [hk, List.getElem?_append_right (by omega), show l1.length + 1 + q - l1.length = q + 1 by omega]; exact hq
 have gi : (A k)[l1.length]? = some (i : Int) := by rw [hk, List.getElem?_append_right (Nat.le_refl _), Nat.sub_self]; rfl
 have hu := ok.nd k
 have m1 : ∀ x, x ∈ l1 → x ∈ A k := fun x hx => by rw [hk]; simp [hx]
 have m2 : ∀ x, x ∈ l2 → x ∈ A k := fun x hx => by rw [hk]; simp [hx]
 have a1 : ∀ x : Nat, (x : Int) = chLst l1 → l1 ≠ [] ∧ l1[l1.length - 1]? = some (x : Int) := fun x e => by
  have hne : l1 ≠ [] := fun e2 => by rw [e2] at e; have : chLst [] = -1 := rfl; omega
  exact ⟨hne, by rw [e]; exact chLst_get hne⟩
 have b1 : ∀ x : Nat, (x : Int) = chFst l2 → l2 ≠ [] ∧ l2[0]? = some (x : Int) := fun x e => by
  have hne : l2 ≠ [] := fun e2 => by rw [e2] at e; have : chFst [] = -1 := rfl; omega
  exact ⟨hne, by rw [e]; exact chFst_get hne⟩
 have hia : (i : Int) ≠ chLst l1 := fun e => by
  obtain ⟨h1, h2⟩ := a1 i e
  have := nd_idx hu (g1 _ _ h2) gi
  have := List.length_pos_iff.2 h1
  omega
 have hib : (i : Int) ≠ chFst l2 := fun e => by
  obtain ⟨h1, h2⟩ := b1 i e
  have := nd_idx hu (g2 _ _ h2) gi
  omega
 constructor
 · intro j q x hx
   rw [hA j] at hx ⊢
   by_cases e : j = k
   · subst e
     rw [if_pos rfl] at hx ⊢
     by_cases hq : q < l1.length
     · rw [List.getElem?_append_left hq] at hx
       have hx1 := g1 q x hx
       have old := h.at_ j q x hx1
       have hxi : (x : Int) ≠ i := fun e => by
        rw [e] at hx1
        have := nd_idx hu hx1 gi
        omega
       have hxb : (x : Int) ≠ chFst l2 := fun e => by
        have := nd_idx hu hx1 (g2 _ _ (b1 x e).2)
        omega
       rw [hk, List.take_append_of_le_length (by omega), List.drop_append_of_le_length (by omega)] at old
       rw [List.take_append_of_le_length (by omega), List.drop_append_of_le_length (by omega)]
       by_cases hl : q + 1 = l1.length
       · have hxa : chLst l1 = x := by
          have := chLst_get (l := l1) (fun e => by rw [e] at hq; cases hq)
          rw [show l1.length - 1 = q by omega, hx] at this
          exact (Option.some.inj this).symm
         rw [hxa, jCut_a r i x _ hxi hxb, old, List.drop_eq_nil_of_le (by omega)]
         rfl
       · have hxa : (x : Int) ≠ chLst l1 := fun e => by
          have := nd_idx hu hx1 (g1 _ _ (a1 x e).2)
          omega
         have hne : l1.drop (q + 1) ≠ [] := fun e => by have := List.drop_eq_nil_iff.1 e; omega
         rw [jCut_x r i x _ _ hxi hxa hxb, old, chFst_app _ _ hne, chFst_app _ _ hne]
     · have hq : l1.length ≤ q := by omega
       rw [List.getElem?_append_right hq] at hx
       have hx1 := g2 _ x hx
       rw [show l1.length + 1 + (q - l1.length) = q + 1 by omega] at hx1
       have old := h.at_ j (q + 1) x hx1
       have hxi : (x : Int) ≠ i := fun e => by
        rw [e] at hx1
        have := nd_idx hu hx1 gi
        omega
       have hxa : (x : Int) ≠ chLst l1 := fun e => by
        have := nd_idx hu hx1 (g1 _ _ (a1 x e).2)
        omega
       have hd : (A j).drop (q + 1 + 1) = l2.drop (q - l1.length + 1) := by
        rw [hk, List.drop_append, List.drop_eq_nil_of_le (by omega), List.nil_append, show q + 1 + 1 - l1.length = (q - l1.length + 1) + 1 by omega]
        rfl
       have hd2 : (l1 ++ l2).drop (q + 1) = l2.drop (q - l1.length + 1) := by
        rw [List.drop_append, List.drop_eq_nil_of_le (by omega), List.nil_append, show q + 1 - l1.length = q - l1.length + 1 by omega]
       have ht : (A j).take (q + 1) = l1 ++ (i : Int) :: l2.take (q - l1.length) := by
        rw [hk, List.take_append, List.take_of_length_le (by omega), show q + 1 - l1.length = (q - l1.length) + 1 by omega]
        rfl
       have ht2 : (l1 ++ l2).take q = l1 ++ l2.take (q - l1.length) := by
        rw [List.take_append, List.take_of_length_le (by omega)]
       rw [hd, ht] at old
       rw [hd2, ht2]
       by_cases hl : q = l1.length
       · have hxb : chFst l2 = x := by
          rw [hl, Nat.sub_self] at hx
          have := chFst_get (l := l2) (fun e => by rw [e] at hx; cases hx)
          rw [hx] at this
          exact (Option.some.inj this).symm
         rw [hxb, jCut_b r i x _ hxi hxa, old, hl, Nat.sub_self, List.take_zero, List.append_nil]
       · have hxb : (x : Int) ≠ chFst l2 := fun e => by
          have := nd_idx hu hx1 (g2 _ _ (b1 x e).2)
          omega
         have hl2 : 0 < l2.length := by have := (List.getElem?_eq_some_iff.1 hx).1; omega
         have hne : l2.take (q - l1.length) ≠ [] := fun e => by
          have := congrArg List.length e
          rw [List.length_take, List.length_nil] at this
          omega
         rw [jCut_x r i x _ _ hxi hxa hxb, old, chLst_app l1 _ hne, show l1 ++ (i : Int) :: l2.take (q - l1.length) = (l1 ++ [(i : Int)]) ++ l2.take (q - l1.length) by simp, chLst_app _ _ hne]
   · rw [if_neg e] at hx ⊢
     have hm := List.mem_of_getElem? hx
     have hxi : (x : Int) ≠ i := fun e2 => e (ok.dj j k i (by rw [← e2]; exact hm) (List.mem_of_getElem? gi))
     have hxa : (x : Int) ≠ chLst l1 := fun e2 => e (ok.dj j k x hm (m1 _ (List.mem_of_getElem? (a1 x e2).2)))
     have hxb : (x : Int) ≠ chFst l2 := fun e2 => e (ok.dj j k x hm (m2 _ (List.mem_of_getElem? (b1 x e2).2)))
     rw [jCut_x r i x _ _ hxi hxa hxb]
     exact h.at_ j q x hx
 · intro x hx hn
   by_cases e : (x : Int) = i
   · have : x = i := by omega
     subst this
     exact jCut_i r x _ _ hia hib
   · have hno : ∀ j, (x : Int) ∉ A j := fun j hm => by
      have h2 := hn j
      rw [hA j] at h2
      by_cases e2 : j = k
      · rw [if_pos e2] at h2
        rw [e2, hk] at hm
        rcases List.mem_append.1 hm with hm | hm
        · exact h2 (by simp [hm])
        · rcases List.mem_cons.1 hm with hm | hm
          · exact e hm
          · exact h2 (by simp [hm])
      · rw [if_neg e2] at h2; exact h2 hm
     rw [jCut_x r i x _ _ e (fun e2 => hno k (m1 _ (List.mem_of_getElem? (a1 x e2).2))) (fun e2 => hno k (m2 _ (List.mem_of_getElem? (b1 x e2).2)))]
     exact h.no x hx hno
theorem Rep.of_some (h : Rep n A H r) {i : Nat} (hi : i < n) {b : Nat} (hb : (r i).h = some b) : ∃ k l1 l2, A k = l1 ++ (i : Int) :: l2 ∧ b = H k ∧ r i = ⟨some (H k), chLst l1, chFst l2⟩ := by
 by_cases hm : ∃ k, (i : Int) ∈ A k
 · obtain ⟨k, hm⟩ := hm
   obtain ⟨l1, l2, e⟩ := List.append_of_mem hm
   have hg : (A k)[l1.length]? = some (i : Int) := by rw [e, List.getElem?_append_right (Nat.le_refl _), Nat.sub_self]; rfl
   have := h.at_ k l1.length i hg
   rw [e, List.take_left, show l1 ++ (i : Int) :: l2 = (l1 ++ [(i : Int)]) ++ l2 by simp, List.drop_append_of_le_length (by simp), List.drop_eq_nil_of_le (by simp), List.nil_append] at this
   refine ⟨k, l1, l2, e, ?_, this⟩
   rw [this] at hb
   exact (Option.some.inj hb).symm
 · rw [h.no i hi fun k hk => hm ⟨k, hk⟩] at hb
   cases hb
theorem Rep.of_none (h : Rep n A H r) {i : Nat} (hb : (r i).h = none) : ∀ k, (i : Int) ∉ A k := fun k hm => by
 obtain ⟨j, hj, e⟩ := List.mem_iff_getElem.1 hm
 have := h.at_ k j i (by rw [List.getElem?_eq_getElem hj, e])
 rw [this] at hb
 cases hb
end
section
variable {κ : Type} [DecidableEq κ]
theorem chAll_snoc (L : List (κ × Int)) (k : κ) (i : Int) (j : κ) : chAll (L ++ [(k, i)]) j = if j = k then chAll L k ++ [i] else chAll L j := by
 rw [chAll_append, chAll_cons, chAll_nil, List.append_nil]
 by_cases e : j = k
 · subst e; rw [if_pos rfl, if_pos rfl]
 · rw [if_neg (fun h => e h.symm), if_neg e, List.append_nil]
theorem chAll_rem {n : Nat} {L : List (κ × Int)} (ok : ChOk n L) {k : κ} {i : Int} {l1 l2 : List Int} (hk : chAll L k = l1 ++ i :: l2) (j : κ) : chAll (chRem L i) j = if j = k then l1 ++ l2 else chAll L j := by
 have h1 : chAll (chRem L i) j = (chAll L j).filter fun x => decide (x ≠ i) := by
  unfold chAll chRem
  rw [List.filter_filter, List.filter_map, List.filter_filter]
  congr 1
  apply List.filter_congr
  intro x _
  rw [Bool.and_comm]
  rfl
 rw [h1]
 by_cases e : j = k
 · subst e
   have nd := chAll_nd ok j
   rw [hk] at nd ⊢
   rw [if_pos rfl, List.filter_append, List.filter_cons_of_neg (by simp)]
   rw [List.nodup_append] at nd
   obtain ⟨n1, n2, n3⟩ := nd
   rw [List.filter_eq_self.2, List.filter_eq_self.2]
   · intro x hx
     have := (List.nodup_cons.1 n2).1
     simpa using fun e : x = i => this (e ▸ hx)
   · intro x hx
     simpa using n3 x hx i (by simp)
 · rw [if_neg e]
   refine List.filter_eq_self.2 fun x hx => ?_
   have : x ≠ i := fun e2 => e (ok.A.dj j k i (e2 ▸ hx) (by rw [hk]; simp))
   simpa using this
theorem chRem_len {n : Nat} {L : List (κ × Int)} (ok : ChOk n L) {i : Int} (h : chHas L i = true) : (chRem L i).length + 1 = L.length := by
 obtain ⟨x, hx, rfl⟩ := (chHas_iff L i).1 h
 have nd := ok.nd
 clear ok h
 induction L with
 | nil => cases hx
 | cons y L ih =>
   have nd2 := List.nodup_cons.1 nd
   unfold chRem at ih ⊢
   rw [List.filter_cons]
   by_cases e : y.2 = x.2
   · rw [if_neg (by simp [e])]
     rw [List.filter_eq_self.2]
     · rfl
     · intro z hz
       have : z.2 ≠ x.2 := fun e2 => nd2.1 (List.mem_map.2 ⟨z, hz, e2.trans e.symm⟩)
       simpa using this
   · rw [if_pos (by simpa using e), List.length_cons, List.length_cons]
     have hx2 : x ∈ L := by
      rcases List.mem_cons.1 hx with h | h
      · exact absurd (by rw [h]) e
      · exact h
     have := ih hx2 nd2.2
     omega
theorem chHas_all (L : List (κ × Int)) (i : Int) : chHas L i = true ↔ ∃ k, i ∈ chAll L k := by
 rw [chHas_iff]
 constructor
 · rintro ⟨x, hx, rfl⟩
   exact ⟨x.1, (chAll_mem L x.1 x.2).2 hx⟩
 · rintro ⟨k, h⟩
   exact ⟨_, (chAll_mem L k i).1 h, rfl⟩
theorem chHas_rg {n : Nat} {L : List (κ × Int)} (ok : ChOk n L) {i : Int} (h : chHas L i = true) : 0 ≤ i ∧ i < n := by
 obtain ⟨x, hx, rfl⟩ := (chHas_iff L i).1 h
 exact ok.rg x hx
theorem chKey_all {n : Nat} {L : List (κ × Int)} (ok : ChOk n L) {i : Int} {k : κ} (h : i ∈ chAll L k) : chKey L i = some k := chKey_of ok ((chAll_mem L k i).1 h)
end
end Go.Proofs.Ytopkmjiilnoeeaa.B
namespace Go.Proofs.Ytopkmjiilnoeeaa.B
set_option linter.unusedVariables false
set_option linter.unusedSimpArgs false
open Go.ChangeShapes Go.WideShapes Go.RowKit Go.Sort Go.MapKept
theorem key_one {P : Program} {k : TypeId} {q : IntKind} {f : Field} (hk : P.underlying k = some (.struct #[f])) (hf : P.underlying f.type = some (.int q)) (h0 : f.offset = 0) (hn : (f.name != "_") = true)
 {n : Nat} (hs : P.types.size = n + 1) (hc : P.cellsOf k = 1) (hd : P.cellsOf f.type = 1) (hkey : P.keyType k = true) {a : Int} (hw : (Lit.int q a).wf = true) :
 ∃ l, keyOf P k (.agg #[.int q a]) = some l := by
 have hfm : (Value.agg #[Value.int q a]).formed P k = true := by simp [Value.formed, hk, hc]
 refine ⟨.string (keyBytes [.int q a]), ?_⟩
 have e1 : P.keyLits (n + 1) f.type [Value.int q a] = some [Lit.int q a] := by simp [Program.keyLits, hf, hw]
 have e2 : P.keyLits (P.types.size + 1) k [Value.int q a] = some [Lit.int q a] := by
  rw [hs]
  have : P.keyLits (n + 1 + 1) k [Value.int q a] = (if [Value.int q a].length = P.cellsOf k ∧ (#[f]).all (·.name != "_") = true then ((#[f]).toList.mapM fun f => P.keyLits (n + 1) f.type (([Value.int q a].drop f.offset).take (P.cellsOf f.type))).map List.flatten else none) := by
   rw [Program.keyLits.eq_def]; simp only [hk]
  rw [this, if_pos ⟨by simp [hc], by simpa using hn⟩]
  simp [h0, hd, e1]
 unfold keyOf
 rw [hk]
 simp only [hkey, hfm, Bool.and_self, if_true]
 show ((P.keyLits (P.types.size + 1) k [Value.int q a]).map _) = _
 rw [e2]; rfl
theorem wf_u32 {a : Int} (h0 : 0 ≤ a) (h1 : a < 4294967296) : (Lit.int .u32 a).wf = true := WalkArith.wf_u32 (by omega)
def ek (a : Int) : Value := .agg #[.int .u32 a]
def ok32 (a : Int) : Prop := 0 ≤ a ∧ a < 4294967296
theorem ek_inj (i j : Int) (h : ek i = ek j) : i = j := by unfold ek at h; simpa using h
theorem laidT : laidOutB Try.prog = true := by kernel_rfl
theorem sizeT : Try.prog.types.size = (Try.prog.types.size - 1) + 1 := by kernel_rfl
end Go.Proofs.Ytopkmjiilnoeeaa.B
namespace Go.Proofs.Ytopkmjiilnoeeaa.B
set_option linter.unusedVariables false
set_option linter.unusedSimpArgs false
open Go.ChangeShapes Go.WideShapes Go.RowKit Go.Sort Go.MapKept
open Go.ChangeMaps (setBlock modify_eq_set set_perm map_eraseIdx)
section
variable {P : Program} {k : TypeId} {κ : Type} {ek : κ → Value} {ok : κ → Prop} {w : World} {b : Nat} {M : List (κ × Value)}
theorem mapP.drop [DecidableEq κ] (K : KeyE P k ek ok) {t e ty : TypeId} (ht : P.underlying t = some (.map k e)) (h : mapP w ek ok b M) (x : κ) (hok : ok x) :
 ∃ es' clock', (Builtin.delete_ #[t, k] ty #[.map (some b), ek x]).run P w = .ok (.tuple #[]) (setBlock w b (.map es' clock')) ∧ mapP (setBlock w b (.map es' clock')) ek ok b (M.filter fun p => decide (p.1 ≠ x)) := by
 have hlt := h.lt
 have hnd := h.nodup
 obtain ⟨es, clock, hb, hS, h3, h4⟩ := h
 obtain ⟨l, hl⟩ := K.reads x hok
 have hok' : ∀ p ∈ M.filter (fun p => decide (p.1 ≠ x)), ok p.1 := fun p hp => h4 p (List.mem_filter.1 hp).1
 rcases K.keyed.find w hl es.toList (es_reads K h3 h4) with ⟨h1, h2⟩ | ⟨j, e0, h1, h2, hk0⟩
 · have hno : M.filter (fun p => decide (p.1 ≠ x)) = M := List.filter_eq_self.2 fun p hp => by
    have : p.1 ≠ x := fun e1 => by
     have : (ek p.1, p.2) ∈ es.toList.map fun e => (e.key, e.val) := h3.mem_iff.2 (List.mem_map.2 ⟨p, hp, rfl⟩)
     obtain ⟨e2, he2, hq⟩ := List.mem_map.1 this
     exact h2 e2 he2 (by rw [← e1]; exact (Prod.mk.inj hq).1)
    simpa using this
   refine ⟨es, clock, ?_, es, clock, setBlock_self w b _ hlt, hS, by rw [hno]; exact h3, hok'⟩
   simp [Builtin.delete_, run_underlying ht, MapKept.run_getObj_map hb, K.keyed.check w _ hl, h1, MapKept.run_setObj_map _ hb, Result.andThen, setBlock]
 · have hjl : j < es.toList.length := (List.getElem?_eq_some_iff.1 h2).1
   have hjs : j < es.size := by simpa using hjl
   have hsub : (es.eraseIdxIfInBounds j).toList = es.toList.eraseIdx j := by
    unfold Array.eraseIdxIfInBounds
    rw [dif_pos hjs]
    simp
   refine ⟨es.eraseIdxIfInBounds j, clock, ?_, es.eraseIdxIfInBounds j, clock, setBlock_self w b _ hlt, stamped_erase hS j, ?_, hok'⟩
   · simp [Builtin.delete_, run_underlying ht, MapKept.run_getObj_map hb, K.keyed.check w _ hl, h1, MapKept.run_setObj_map _ hb, Result.andThen, setBlock]
   · rw [hsub, map_eraseIdx]
     have hm : (ek x, e0.val) ∈ M.map fun p => (ek p.1, p.2) := h3.mem_iff.1 (List.mem_map.2 ⟨e0, List.mem_of_getElem? h2, by rw [hk0]⟩)
     obtain ⟨q, hq, hq2⟩ := List.mem_map.1 hm
     have hqx : q = (x, e0.val) := Prod.ext (K.inj _ _ (Prod.mk.inj hq2).1) (Prod.mk.inj hq2).2
     subst hqx
     have hp1 := split_hit hnd hq
     have hp2 : (es.toList.map fun e => (e.key, e.val)).Perm ((ek x, e0.val) :: (es.toList.map fun e => (e.key, e.val)).eraseIdx j) := by
      have := set_perm (es.toList.map fun e => (e.key, e.val)) j (by simpa using hjl) ((es.toList.map fun e => (e.key, e.val))[j]'(by simpa using hjl))
      rw [List.set_getElem_self] at this
      have he : (es.toList.map fun e => (e.key, e.val))[j]'(by simpa using hjl) = (ek x, e0.val) := by
       have := (List.getElem?_eq_some_iff.1 h2).2
       rw [List.getElem_map, this, hk0]
      rw [he] at this
      exact this
     have hp3 := (hp2.symm.trans (h3.trans (hp1.map _)))
     simp only [List.map_cons] at hp3
     exact (List.perm_cons _).1 hp3
theorem mapP.len (h : mapP w ek ok b M) {t e : TypeId} (ht : P.underlying t = some (.map k e)) (ty : TypeId) : (Builtin.len_ #[t] ty #[.map (some b)]).run P w = .ok (goInt M.length) w := by
 obtain ⟨es, clock, hb, hS, h3, h4⟩ := h
 have hlen : es.size = M.length := by have := h3.length_eq; simpa using this
 simp [Builtin.len_, run_underlying ht, MapKept.run_getObj_map hb, Result.andThen, hlen]
end
section
variable {P : Program} {k e : TypeId} {κ : Type} {ek : κ → Value} {ok : κ → Prop} {w : World} {b : Nat} {M : List (κ × Value)} {ops : Array Oper} {rest : List Oper} {o : Oper} {a : Act} {Q : Exit → Act → World → Prop}
theorem wpList_del [DecidableEq κ] (K : KeyE P k ek ok) (hg : o.guard = none) (m x : Operand) (t : TypeId) (hop : o.op = Op.call { callee := Callee.builtin Builtin.delete, args := #[m, x], argTypes := #[t, k] }) (ht : P.underlying t = some (.map k e)) (hm : a.eval m = .map (some b)) (hown : mapP w ek ok b M)
 (key : κ) (hx : a.eval x = ek key) (hok : ok key) (hK : ∀ w', mapP w' ek ok b (M.filter fun p => decide (p.1 ≠ key)) → Off (· = b) w w' → wpList P ops Q rest (a.put o.dst (.tuple #[])) w') : wpList P ops Q (o :: rest) a w := by
 refine wpList_plain hg fun K' hK' => ?_
 obtain ⟨es', clock', hrun, hmap⟩ := hown.drop K (ty := o.type) ht key hok
 unfold Oper.wp
 simp [execOp, hop, resolve, invoke, builtin, hm, hx, hrun, Result.andThen]
 exact hK' _ _ (hK _ hmap (off_setBlock w b _ rfl))
end
end Go.Proofs.Ytopkmjiilnoeeaa.B
namespace Go.Proofs.Ytopkmjiilnoeeaa.B
set_option linter.unusedVariables false
set_option linter.unusedSimpArgs false
set_option maxRecDepth 100000
open Go.ChangeShapes Go.WideShapes Go.RowKit Go.Sort Go.MapKept
section
variable {P : Program} {k e : TypeId} {κ : Type} {ek : κ → Value} {ok : κ → Prop} {w : World} {b : Nat} {M : List (κ × Value)} {ops : Array Oper} {rest : List Oper} {o : Oper} {a : Act} {Q : Exit → Act → World → Prop}
def looks (M : List (κ × Value)) (x : κ) (z v : Value) : Prop := (x, v) ∈ M ∨ (v = z ∧ ∀ p ∈ M, p.1 ≠ x)
theorem mapP.look (K : KeyE P k ek ok) {t : TypeId} (ht : P.underlying t = some (.map k e)) (h : mapP w ek ok b M) {x : κ} {z v : Value} (hx : looks M x z v) (hok : ok x) (hz : (zeroValue e).run P w = .ok z w) :
 (Instr.lookup t (.map (some b)) (ek x) false).run P w = .ok v w := by
 rcases hx with hx | ⟨rfl, hx⟩
 · exact h.hit K ht hx false
 · exact h.miss K ht hx hok hz false
theorem wpList_look (K : KeyE P k ek ok) (hg : o.guard = none) (m x : Operand) (t : TypeId) (hop : o.op = Op.lookup t m x false) (ht : P.underlying t = some (.map k e)) (hm : a.eval m = .map (some b)) (hown : mapP w ek ok b M)
 (key : κ) (z v : Value) (hx : a.eval x = ek key) (hin : looks M key z v) (hok : ok key) (hz : (zeroValue e).run P w = .ok z w) (hK : wpList P ops Q rest (a.put o.dst v) w) : wpList P ops Q (o :: rest) a w := by
 refine wpList_plain hg fun K' hK' => ?_
 have hrun := hown.look K ht hin hok hz
 unfold Oper.wp
 simp [execOp, hop, hm, hx, hrun, Result.andThen]
 exact hK' _ _ hK
theorem quiet_look (K : KeyE P k ek ok) {C : World → Prop} {G : Act → Prop} (m x : Operand) (t : TypeId) (hop : o.op = Op.lookup t m x false) (ht : P.underlying t = some (.map k e)) (hm : a.eval m = .map (some b)) (hown : ∀ w, C w → mapP w ek ok b M)
 (key : κ) (z v : Value) (hx : a.eval x = ek key) (hin : looks M key z v) (hok : ok key) (hz : ∀ w, (zeroValue e).run P w = .ok z w) (hK : G (a.put o.dst v)) : o.quiet P a C G :=
 ⟨_, fun w hw => by
  have hrun := (hown w hw).look K ht hin hok (hz w)
  unfold Oper.quietAt execOp
  simp only [hop, hm, hx, Sem.run_bind, hrun, Sem.run_pure, Result.andThen_ok]
  exact ⟨rfl, rfl⟩, hK⟩
end
theorem key_arr2 {P : Program} {k e : TypeId} {q : IntKind} (hk : P.underlying k = some (.array 2 e)) (hf : P.underlying e = some (.int q)) {n : Nat} (hs : P.types.size = n + 1) (hc : P.cellsOf k = 2) (hd : P.cellsOf e = 1) (hkey : P.keyType k = true)
 {a b : Int} (ha : (Lit.int q a).wf = true) (hb : (Lit.int q b).wf = true) : ∃ l, keyOf P k (.agg #[.int q a, .int q b]) = some l := by
 have hfm : (Value.agg #[Value.int q a, Value.int q b]).formed P k = true := by simp [Value.formed, hk, hc]
 refine ⟨.string (keyBytes [.int q a, .int q b]), ?_⟩
 have e1 : ∀ x, (Lit.int q x).wf = true → P.keyLits (n + 1) e [Value.int q x] = some [Lit.int q x] := fun x hx => by simp [Program.keyLits, hf, hx]
 have e2 : P.keyLits (P.types.size + 1) k [Value.int q a, Value.int q b] = some [Lit.int q a, Lit.int q b] := by
  rw [hs]
  have : P.keyLits (n + 1 + 1) k [Value.int q a, Value.int q b] = (if [Value.int q a, Value.int q b].length = P.cellsOf k then ((List.range 2).mapM fun i => P.keyLits (n + 1) e (([Value.int q a, Value.int q b].drop (i * P.cellsOf e)).take (P.cellsOf e))).map List.flatten else none) := by
   rw [Program.keyLits.eq_def]; simp only [hk]
  rw [this, if_pos (by simp [hc])]
  simp [hd, List.range_succ, e1 a ha, e1 b hb]
 unfold keyOf
 rw [hk]
 simp only [hkey, hfm, Bool.and_self, if_true]
 show ((P.keyLits (P.types.size + 1) k [Value.int q a, Value.int q b]).map _) = _
 rw [e2]; rfl
theorem kv_inj (i j : Kp) (h : kv i = kv j) : i = j := by
 unfold kv kl at h
 simp at h
 exact Prod.ext h.1 h.2
theorem kpLaw : Maps.Keyed Try.prog 27 :=
 Maps.Keyed.of_law (deep_law_laid laidT (m := 2) (by omega) (of_decide_eq_true (by kernel_rfl)) (by kernel_rfl) (by rw [Try.underlying27]))
theorem keyK : KeyE Try.prog 27 kv okk :=
 ⟨kpLaw, fun i h => key_arr2 Try.underlying27 Try.underlying3 sizeT (by kernel_rfl) (by kernel_rfl) (by kernel_rfl) (WalkArith.wf_i64 ⟨h.1.1, by have := h.1.2; omega⟩) (WalkArith.wf_i64 ⟨h.2.1, by have := h.2.2; omega⟩), kv_inj⟩
abbrev okS : ByteArray → Prop := fun s => s.size < 1000
abbrev svS : ByteArray → Value := fun s => Value.string s
theorem keyS : KeyE Try.prog 9 svS okS :=
 ⟨Maps.string_keyed Try.underlying9, fun s h => ⟨_, by
  unfold keyOf
  rw [Try.underlying9]
  simp only [svS, mapKey, Try.underlying9]
  rw [if_pos (by have : s.size < 1000 := h; unfold maxLen; omega)]⟩, fun i j h => by simpa [svS] using h⟩
def ptr (h : Option Nat) : Value := .pointer (h.map fun b => ⟨b, 0, none⟩)
def LkRow (T : TypeId) (w : World) (g n : Nat) (r : Nat → Lk) : Prop := ∃ cur : Array Value, w.heap[g]? = some (.cells cur T (0, 0)) ∧ cur.size = n * 3 ∧ ∀ i, i < n → cur[i * 3]? = some (ptr (r i).h) ∧ cur[i * 3 + 1]? = some (.int .i64 (r i).p) ∧ cur[i * 3 + 2]? = some (.int .i64 (r i).n)
section
variable {T : TypeId} {w w' : World} {g n : Nat} {r : Nat → Lk}
theorem LkRow.lt (h : LkRow T w g n r) : g < w.heap.size := by obtain ⟨_, h1, _⟩ := h; exact lt_of_block h1
theorem LkRow.kept (h : LkRow T w g n r) (e : w'.heap[g]? = w.heap[g]?) : LkRow T w' g n r := by obtain ⟨cur, h1, h2⟩ := h; exact ⟨cur, e.trans h1, h2⟩
theorem LkRow.free (h : LkRow T w g n r) (j : Nat) : w.frozen? ⟨g, j, none⟩ = false := by obtain ⟨cur, h1, _⟩ := h; exact blk_free h1 j
theorem LkRow.c0 (h : LkRow T w g n r) {i : Nat} (hi : i < n) : w.cell? ⟨g, i * 3, none⟩ = some (ptr (r i).h) := by obtain ⟨cur, h1, h2, h3⟩ := h; rw [blk_cell h1]; exact (h3 i hi).1
theorem LkRow.c1 (h : LkRow T w g n r) {i : Nat} (hi : i < n) : w.cell? ⟨g, i * 3 + 1, none⟩ = some (.int .i64 (r i).p) := by obtain ⟨cur, h1, h2, h3⟩ := h; rw [blk_cell h1]; exact (h3 i hi).2.1
theorem LkRow.c2 (h : LkRow T w g n r) {i : Nat} (hi : i < n) : w.cell? ⟨g, i * 3 + 2, none⟩ = some (.int .i64 (r i).n) := by obtain ⟨cur, h1, h2, h3⟩ := h; rw [blk_cell h1]; exact (h3 i hi).2.2
theorem LkRow.congr {s : Nat → Lk} (h : LkRow T w g n r) (e : ∀ i, i < n → r i = s i) : LkRow T w g n s := by
 obtain ⟨cur, h1, h2, h3⟩ := h
 exact ⟨cur, h1, h2, fun i hi => by rw [← e i hi]; exact h3 i hi⟩
theorem LkRow.sets (h : LkRow T w g n r) {i d : Nat} (hi : i < n) (hd : d < 3) (u : Value) {s : Nat → Lk} (hs : ∀ j, j < n → j ≠ i → s j = r j)
 (h0 : if d = 0 then u = ptr (s i).h else (s i).h = (r i).h) (h1 : if d = 1 then u = .int .i64 (s i).p else (s i).p = (r i).p) (h2 : if d = 2 then u = .int .i64 (s i).n else (s i).n = (r i).n) : LkRow T (w.setCell ⟨g, i * 3 + d, none⟩ u) g n s := by
 obtain ⟨cur, a1, a2, a3⟩ := h
 refine ⟨_, blk_set a1 (i * 3 + d) u, by rw [Array.size_setIfInBounds]; exact a2, fun j hj => ?_⟩
 obtain ⟨b0, b1, b2⟩ := a3 j hj
 simp only [Array.getElem?_setIfInBounds]
 have hz : i * 3 + d < cur.size := by omega
 by_cases e : j = i
 · subst e
   refine ⟨?_, ?_, ?_⟩
   · by_cases c : d = 0
     · rw [if_pos c] at h0
       rw [if_pos (by omega), if_pos (by omega), h0]
     · rw [if_neg c] at h0
       rw [if_neg (by omega), h0]; exact b0
   · by_cases c : d = 1
     · rw [if_pos c] at h1
       rw [if_pos (by omega), if_pos (by omega), h1]
     · rw [if_neg c] at h1
       rw [if_neg (by omega), h1]; exact b1
   · by_cases c : d = 2
     · rw [if_pos c] at h2
       rw [if_pos (by omega), if_pos (by omega), h2]
     · rw [if_neg c] at h2
       rw [if_neg (by omega), h2]; exact b2
 · rw [if_neg (by omega), if_neg (by omega), if_neg (by omega), hs j hj e]
   exact ⟨b0, b1, b2⟩
theorem cast_ne {i j : Nat} (h : j ≠ i) : ¬ (j : Int) = (i : Int) := by omega
theorem LkRow.setN (h : LkRow T w g n r) {i : Nat} (hi : i < n) (v : Int) : LkRow T (w.setCell ⟨g, i * 3 + 2, none⟩ (.int .i64 v)) g n (jN r i v) :=
 h.sets hi (by decide) _ (fun j _ e => by unfold jN; rw [if_neg (cast_ne e)]) (by simp [jN]) (by simp [jN]) (by simp [jN])
theorem LkRow.setP (h : LkRow T w g n r) {i : Nat} (hi : i < n) (v : Int) : LkRow T (w.setCell ⟨g, i * 3 + 1, none⟩ (.int .i64 v)) g n (jP r i v) :=
 h.sets hi (by decide) _ (fun j _ e => by unfold jP; rw [if_neg (cast_ne e)]) (by simp [jP]) (by simp [jP]) (by simp [jP])
theorem LkRow.setH (h : LkRow T w g n r) {i : Nat} (hi : i < n) (v : Option Nat) : LkRow T (w.setCell ⟨g, i * 3, none⟩ (ptr v)) g n (jI r i v) :=
 h.sets (d := 0) hi (by decide) _ (fun j _ e => by unfold jI; rw [if_neg (cast_ne e)]) (by simp [jI]) (by simp [jI]) (by simp [jI])
theorem LkRow.set0 (h : LkRow T w g n r) {i : Nat} (hi : i < n) : LkRow T (((w.setCell ⟨g, i * 3, none⟩ (.pointer none)).setCell ⟨g, i * 3 + 1, none⟩ (.int .i64 0)).setCell ⟨g, i * 3 + 2, none⟩ (.int .i64 0)) g n (j0 r i) := by
 have := ((h.setH hi none).setP hi 0).setN hi 0
 refine this.congr fun j hj => ?_
 unfold jN jP jI j0
 by_cases e : (j : Int) = i
 · rw [if_pos e, if_pos e, if_pos e, if_pos e]; rfl
 · rw [if_neg e, if_neg e, if_neg e, if_neg e]
end
end Go.Proofs.Ytopkmjiilnoeeaa.B
