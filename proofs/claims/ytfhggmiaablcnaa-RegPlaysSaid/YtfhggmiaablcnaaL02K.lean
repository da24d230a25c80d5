/- Calls of a file and of the document's, side by side. -/
import Derived.Test.YtfhggmiaablcnaaAR5
import Derived.Test.YtfhggmiaablcnaaL02A
import Derived.Test.YtfhggmiaablcnaaFileE
import Derived.Test.YtfhggmiaablcnaaFileG
import Derived.Test.YtfhggmiaablcnaaFileC
namespace Go.Proofs.Ytfhggmiaablcnaa.B
set_option linter.unusedVariables false
set_option linter.unusedSimpArgs false
open Go.ChangeShapes Go.WideShapes Go.RowKit Go.Sort Go.MapKept
theorem insA_perm (x : Int) (r : Rg) : ∀ L : List (Int × Rg), ((x, r) :: L).Perm (insA x r L)
  | [] => List.Perm.refl _
  | p :: L => by
    unfold insA
    split
    · exact List.Perm.refl _
    · exact (List.Perm.swap p (x, r) L).trans ((insA_perm x r L).cons p)
theorem insA_so (x : Int) (r : Rg) : ∀ L : List (Int × Rg), (L.map (·.1)).Pairwise (· < ·) → (∀ p ∈ L, p.1 ≠ x) → ((insA x r L).map (·.1)).Pairwise (· < ·)
  | [], _, _ => by simp [insA]
  | p :: L, h, hx => by
    rw [List.map_cons, List.pairwise_cons] at h
    unfold insA
    split
    · rename_i hlt
      rw [List.map_cons, List.map_cons, List.pairwise_cons, List.pairwise_cons]
      refine ⟨fun y hy => ?_, h⟩
      rcases List.mem_cons.1 hy with rfl | hy
      · exact hlt
      · exact Int.lt_trans hlt (h.1 y hy)
    · rename_i hlt
      rw [List.map_cons, List.pairwise_cons]
      refine ⟨fun y hy => ?_, insA_so x r L h.2 fun q hq => hx q (List.mem_cons_of_mem _ hq)⟩
      obtain ⟨q, hq, rfl⟩ := List.mem_map.1 hy
      rcases List.mem_cons.1 ((insA_perm x r L).symm.subset hq) with rfl | hq
      · have := hx p List.mem_cons_self
        omega
      · exact h.1 _ (List.mem_map.2 ⟨q, hq, rfl⟩)
theorem insA_len (x : Int) (r : Rg) (L : List (Int × Rg)) : (insA x r L).length = L.length + 1 := by
  rw [← (insA_perm x r L).length_eq]; rfl
theorem Ris.ins {L : List (Int × Rg)} (h : Ris L) {x : Int} (r : Rg) (hx : ∀ p ∈ L, p.1 ≠ x) (x0 : 0 ≤ x) (x1 : x < 4294967296) (ha : (x % 4 != 0) = false) : Ris (insA x r L) :=
  ⟨insA_so x r L h.so hx, fun p hp => by
    rcases List.mem_cons.1 ((insA_perm x r L).symm.subset hp) with rfl | hq
    · exact ⟨x0, x1, ha⟩
    · exact h.al p hq⟩
theorem set_keys {L : List (Int × Rg)} {i : Nat} {x : Int} {r y : Rg} (hi : L[i]? = some (x, r)) : (L.set i (x, y)).map (·.1) = L.map (·.1) := by
  refine List.ext_getElem? fun j => ?_
  rw [List.getElem?_map, List.getElem?_map, List.getElem?_set]
  split
  · rename_i e
    subst e
    rw [hi]
    simp [(List.getElem?_eq_some_iff.1 hi).1]
  · rfl
theorem Ris.set {L : List (Int × Rg)} (h : Ris L) {i : Nat} {x : Int} {r : Rg} (hi : L[i]? = some (x, r)) (y : Rg) : Ris (L.set i (x, y)) := by
  have hk := set_keys (y := y) hi
  refine ⟨by rw [hk]; exact h.so, fun p hp => ?_⟩
  have : p.1 ∈ L.map (·.1) := by rw [← hk]; exact List.mem_map.2 ⟨p, hp, rfl⟩
  obtain ⟨q, hq, e⟩ := List.mem_map.1 this
  rw [← e]; exact h.al q hq
theorem Ris.apart {L : List (Int × Rg)} (h : Ris L) {i j : Nat} {p q : Int × Rg} (hi : L[i]? = some p) (hj : L[j]? = some q) (e : p.1 = q.1) : i = j := by
  have hil := (List.getElem?_eq_some_iff.1 hi).1
  have hjl := (List.getElem?_eq_some_iff.1 hj).1
  have g1 : (L.map (·.1))[i]? = some p.1 := by rw [List.getElem?_map, hi]; rfl
  have g2 : (L.map (·.1))[j]? = some q.1 := by rw [List.getElem?_map, hj]; rfl
  have hs := List.pairwise_iff_getElem.1 h.so
  have i1 : i < (L.map (·.1)).length := by simpa using hil
  have j1 : j < (L.map (·.1)).length := by simpa using hjl
  have v1 : (L.map (·.1))[i] = p.1 := (List.getElem?_eq_some_iff.1 g1).2
  have v2 : (L.map (·.1))[j] = q.1 := (List.getElem?_eq_some_iff.1 g2).2
  rcases Nat.lt_trichotomy i j with hlt | he | hlt
  · have := hs i j i1 j1 hlt; omega
  · exact he
  · have := hs j i j1 i1 hlt; omega
theorem put_set {L : List (Int × Rg)} (h : Ris L) {i : Nat} {x : Int} {r : Rg} (hi : L[i]? = some (x, r)) (y : Rg) : (L.map fun p => if p.1 = x then (p.1, y) else p) = L.set i (x, y) := by
  refine List.ext_getElem? fun j => ?_
  rw [List.getElem?_map, List.getElem?_set]
  split
  · rename_i e
    subst e
    rw [hi]
    simp [(List.getElem?_eq_some_iff.1 hi).1]
  · rename_i e
    cases hj : L[j]? with
    | none => rfl
    | some q =>
      have hne : q.1 ≠ x := fun e2 => e (h.apart hi hj e2.symm)
      simp [hne]
theorem Ris.again {L : List (Int × Rg)} (h : Ris L) : Ris (L.map agA) := by
  have hk : (L.map agA).map (·.1) = L.map (·.1) := by rw [List.map_map]; rfl
  refine ⟨by rw [hk]; exact h.so, fun p hp => ?_⟩
  obtain ⟨q, hq, rfl⟩ := List.mem_map.1 hp
  exact h.al q hq
/-- Where an offset is, if it is there. -/
theorem there (L : List (Int × Rg)) (x : Int) : (∀ p ∈ L, p.1 ≠ x) ∨ ∃ (i : Nat) (r : Rg), L[i]? = some (x, r) := by
  by_cases h : ∃ p ∈ L, p.1 = x
  · obtain ⟨p, hp, rfl⟩ := h
    obtain ⟨i, hi⟩ := List.mem_iff_getElem?.1 hp
    exact .inr ⟨i, p.2, hi⟩
  · exact .inl fun p hp e => h ⟨p, hp, e⟩
section
variable {w w' : World} {B f m : Nat} {v : Value} {L L' : List (Int × Rg)}
theorem own_apart (hF : FileAt w f m L) (hO : OwnA w B v L') {b : Nat} (hb : v.ownBlock = some b) : b ≠ m := by
  rintro rfl
  obtain ⟨cur, h1⟩ := hO.ty hb
  obtain ⟨es, clock, h2, _⟩ := hF.map
  rw [h1] at h2
  cases h2
/-- A file and a row: the file's registers are L, the row's L'. -/
structure FrAt (w : World) (B f m : Nat) (v : Value) (L L' : List (Int × Rg)) : Prop where
  F : FileAt w f m L
  O : OwnA w B v L'
  R : Ris L'
  hm : B ≤ m
  hB : B ≤ w.heap.size
theorem FrAt.below (h : FrAt w B f m v L L') (hb : Below w.heap.size w w') : FrAt w' B f m v L L' :=
  ⟨h.F.below hb, h.O.below hb, h.R, h.hm, Nat.le_trans h.hB hb.size⟩
theorem FrAt.step {M : List (Int × Rg)} (h : FrAt w B f m v L L') (hF : FileAt w' f m M) (ho : Off (· = m) w w') : FrAt w' B f m v M L' :=
  ⟨hF, h.O.off ho fun k hk => own_apart h.F h.O hk, h.R, h.hm, Nat.le_trans h.hB ho.size⟩
theorem nonslice (h : OwnA w B v L) {i : Nat} {p : Int × Rg} (hi : L[i]? = some p) : ∃ g cap, v = .slice (some ⟨g, 0, none⟩) L.length cap ∧ L.length ≤ cap ∧ cap ≤ maxLen := by
  rcases h.cases with ⟨_, rfl⟩ | ⟨g, cap, h1, _, h3, h4, _⟩
  · simp at hi
  · exact ⟨g, cap, h1, h3, h4⟩
theorem doDefine (off : Int) (r : Rg) (hr : r.wf) (h0 : 0 ≤ off) (h1 : off < 4294967296) (h : FrAt w B f m v L L) (hl : L.length < 90000) :
    ∃ (E : Int) (L' : List (Int × Rg)), L'.length ≤ L.length + 1 ∧
      Calls Try.prog 6 #[v, .int .u32 off, r.val] w (fun e w' => ∃ v', e = .returned (.tuple #[v', .int .i64 E]) ∧ FrAt w' B f m v' L L' ∧ Below w.heap.size w w') ∧
      ∀ w1 v1, FrAt w1 B f m v1 L L' → Calls Try.prog 7 #[.pointer (some ⟨f, 0, none⟩), .int .u32 off, r.val] w1 (fun e w' => e = .returned (.int .i64 E) ∧ FrAt w' B f m v1 L' L' ∧ Off (· = m) w1 w') := by
  cases ha : (off % 4 != 0)
  · rcases there L off with hno | ⟨i, x, hi⟩
    · refine ⟨0, insA off r L, by rw [insA_len]; exact Nat.le_refl _, ?_, fun w1 v1 k => ?_⟩
      · refine (aDefine off r h0 ha h.O hno hl).mono ?_
        rintro e w' ⟨v', rfl, O, hb⟩
        exact ⟨v', rfl, ⟨h.F.below hb, O.base (fun b hb2 => Nat.le_trans h.hB (O.block hb2).1), h.R.ins r hno h0 h1 ha, h.hm, Nat.le_trans h.hB hb.size⟩, hb⟩
      · refine (fDefine off r f m L w1 hr h0 h1 ha k.F hno).mono ?_
        rintro e w' ⟨rfl, F, ho⟩
        exact ⟨rfl, k.step (F.perm (insA_perm off r L)) ho, ho⟩
    · obtain ⟨g, cap, rfl, hc, hm⟩ := nonslice h.O hi
      refine ⟨15, L, Nat.le_succ _, ?_, fun w1 v1 k => ?_⟩
      · refine (aDefineMeet off i r x h0 ha h.O hc hm hi h.R.nodup (by omega)).mono ?_
        rintro e w' ⟨rfl, hb⟩
        exact ⟨_, rfl, h.below hb, hb⟩
      · refine (fDefineMeet off r x f m L w1 h0 ha k.F (List.mem_of_getElem? hi)).mono ?_
        rintro e w' ⟨rfl, hb⟩
        exact ⟨rfl, k.below hb, Off.ofBelow hb⟩
  · refine ⟨11, L, Nat.le_succ _, ?_, fun w1 v1 k => ?_⟩
    · refine (aDefineBad off r v w h0 ha).mono ?_
      rintro e w' ⟨rfl, hb⟩
      exact ⟨_, rfl, h.below hb, hb⟩
    · refine (fDefineBad off r f w1 h0 ha).mono ?_
      rintro e w' ⟨rfl, hb⟩
      exact ⟨rfl, k.below hb, Off.ofBelow hb⟩
theorem doLoad (off : Int) (h0 : 0 ≤ off) (h1 : off < 4294967296) (h : FrAt w B f m v L L) (hl : L.length < 90000) :
    ∃ (x E : Int), Calls Try.prog 8 #[v, .int .u32 off] w (fun e w' => e = .returned (.tuple #[.int .u32 x, .int .i64 E]) ∧ w = w') ∧
      Calls Try.prog 9 #[.pointer (some ⟨f, 0, none⟩), .int .u32 off] w (fun e w' => e = .returned (.tuple #[.int .u32 x, .int .i64 E]) ∧ Below w.heap.size w w') := by
  cases ha : (off % 4 != 0)
  · rcases there L off with hno | ⟨i, x, hi⟩
    · exact ⟨0, 10, aLoadNone off h0 ha h.O hno (by omega), fLoadNone off f m L w h0 h1 ha h.F hno⟩
    · obtain ⟨g, cap, rfl, hc, hm⟩ := nonslice h.O hi
      exact ⟨x.v, 0, aLoad off i x h0 ha h.O hc hm hi h.R.nodup (by omega), fLoad off x f m L w h0 ha h.F (List.mem_of_getElem? hi)⟩
  · exact ⟨0, 11, aLoadBad off v w h0 ha, fLoadBad off f w h0 ha⟩
theorem doTurn (off u d : Int) (u0 : 0 ≤ u) (u1 : u < 4294967296) (d0 : 0 ≤ d) (d1 : d < 4294967296) (h0 : 0 ≤ off) (h1 : off < 4294967296) (h : FrAt w B f m v L L) (hl : L.length < 90000) :
    ∃ (E : Int) (L' : List (Int × Rg)), L'.length ≤ L.length + 1 ∧
      Calls Try.prog 12 #[v, .int .u32 off, .int .u32 u, .int .u32 d] w (fun e w' => ∃ v', e = .returned (.tuple #[v', .int .i64 E]) ∧ FrAt w' B f m v' L L' ∧ Below w.heap.size w w') ∧
      ∀ w1 v1, FrAt w1 B f m v1 L L' → Calls Try.prog 13 #[.pointer (some ⟨f, 0, none⟩), .int .u32 off, .int .u32 u, .int .u32 d] w1 (fun e w' => e = .returned (.int .i64 E) ∧ FrAt w' B f m v1 L' L' ∧ Off (· = m) w1 w') := by
  cases ha : (off % 4 != 0)
  · rcases there L off with hno | ⟨i, x, hi⟩
    · refine ⟨10, L, Nat.le_succ _, ?_, fun w1 v1 k => ?_⟩
      · refine (aBitsNone off u d h0 ha h.O hno (by omega)).mono ?_
        rintro e w' ⟨rfl, rfl⟩
        exact ⟨_, rfl, h, tr0 w⟩
      · refine (fTurnNone off u d f m L w1 h0 h1 ha k.F hno).mono ?_
        rintro e w' ⟨rfl, hb⟩
        exact ⟨rfl, k.below hb, Off.ofBelow hb⟩
    · obtain ⟨g, cap, rfl, hc, hm⟩ := nonslice h.O hi
      refine ⟨0, L.set i (off, x.turn u d), by simp, ?_, fun w1 v1 k => ?_⟩
      · refine (aBits off i x u d u0 u1 d0 d1 (h.F.wf _ (List.mem_of_getElem? hi)) h0 ha h.O hc hm hi h.R.nodup (by omega)).mono ?_
        rintro e w' ⟨g', cap', rfl, O, hc', hm', hb⟩
        exact ⟨_, rfl, ⟨h.F.below hb, O.base (fun b hb2 => Nat.le_trans h.hB (O.block hb2).1), h.R.set hi _, h.hm, Nat.le_trans h.hB hb.size⟩, hb⟩
      · refine (fTurn off x u d f m L w1 u0 u1 d0 d1 h0 h1 ha k.F (List.mem_of_getElem? hi)).mono ?_
        rintro e w' ⟨rfl, F, ho⟩
        refine ⟨rfl, k.step ?_ ho, ho⟩
        rw [← put_set h.R hi]
        exact F.perm (putF_perm h.R.nodup (List.mem_of_getElem? hi) _)
  · refine ⟨11, L, Nat.le_succ _, ?_, fun w1 v1 k => ?_⟩
    · refine (aBitsBad off u d v w h0 ha).mono ?_
      rintro e w' ⟨rfl, rfl⟩
      exact ⟨_, rfl, h, tr0 w⟩
    · refine (fTurnBad off u d f w1 h0 ha).mono ?_
      rintro e w' ⟨rfl, hb⟩
      exact ⟨rfl, k.below hb, Off.ofBelow hb⟩
theorem doWrite (off x : Int) (x0 : 0 ≤ x) (x1 : x < 4294967296) (h0 : 0 ≤ off) (h1 : off < 4294967296) (h : FrAt w B f m v L L) (hl : L.length < 90000) :
    ∃ (E : Int) (L' : List (Int × Rg)), L'.length ≤ L.length + 1 ∧
      Calls Try.prog 10 #[v, .int .u32 off, .int .u32 x] w (fun e w' => ∃ v', e = .returned (.tuple #[v', .int .i64 E]) ∧ FrAt w' B f m v' L L' ∧ Below w.heap.size w w') ∧
      ∀ w1 v1, FrAt w1 B f m v1 L L' → Calls Try.prog 11 #[.pointer (some ⟨f, 0, none⟩), .int .u32 off, .int .u32 x] w1 (fun e w' => e = .returned (.int .i64 E) ∧ FrAt w' B f m v1 L' L' ∧ Off (· = m) w1 w') := by
  cases ha : (off % 4 != 0)
  · rcases there L off with hno | ⟨i, y, hi⟩
    · refine ⟨10, L, Nat.le_succ _, ?_, fun w1 v1 k => ?_⟩
      · refine (aWriteNone off x h0 ha h.O hno (by omega)).mono ?_
        rintro e w' ⟨rfl, rfl⟩
        exact ⟨_, rfl, h, tr0 w⟩
      · refine (fStoreNone off x f m L w1 h0 h1 ha k.F hno).mono ?_
        rintro e w' ⟨rfl, hb⟩
        exact ⟨rfl, k.below hb, Off.ofBelow hb⟩
    · obtain ⟨g, cap, rfl, hc, hm⟩ := nonslice h.O hi
      have hy := h.F.wf _ (List.mem_of_getElem? hi)
      cases hon : only y.r y.c
      · refine ⟨0, L.set i (off, y.put x), by simp, ?_, fun w1 v1 k => ?_⟩
        · refine (aWrite off i y x x0 x1 hon hy h0 ha h.O hc hm hi h.R.nodup (by omega)).mono ?_
          rintro e w' ⟨g', cap', rfl, O, hc', hm', hb⟩
          exact ⟨_, rfl, ⟨h.F.below hb, O.base (fun b hb2 => Nat.le_trans h.hB (O.block hb2).1), h.R.set hi _, h.hm, Nat.le_trans h.hB hb.size⟩, hb⟩
        · refine (fStore off y x f m L w1 x0 x1 h0 h1 ha k.F (List.mem_of_getElem? hi) hon).mono ?_
          rintro e w' ⟨rfl, F, ho⟩
          refine ⟨rfl, k.step ?_ ho, ho⟩
          rw [← put_set h.R hi]
          exact F.perm (putF_perm h.R.nodup (List.mem_of_getElem? hi) _)
      · refine ⟨12, L, Nat.le_succ _, ?_, fun w1 v1 k => ?_⟩
        · refine (aWriteOnly off i y x x0 x1 hon hy h0 ha h.O hc hm hi h.R.nodup (by omega)).mono ?_
          rintro e w' ⟨rfl, hb⟩
          exact ⟨_, rfl, h.below hb, hb⟩
        · refine (fStoreOnly off y x f m L w1 h0 ha k.F (List.mem_of_getElem? hi) hon).mono ?_
          rintro e w' ⟨rfl, hb⟩
          exact ⟨rfl, k.below hb, Off.ofBelow hb⟩
  · refine ⟨11, L, Nat.le_succ _, ?_, fun w1 v1 k => ?_⟩
    · refine (aWriteBad off x v w h0 ha).mono ?_
      rintro e w' ⟨rfl, rfl⟩
      exact ⟨_, rfl, h, tr0 w⟩
    · refine (fStoreBad off x f w1 h0 ha).mono ?_
      rintro e w' ⟨rfl, hb⟩
      exact ⟨rfl, k.below hb, Off.ofBelow hb⟩
theorem FrAt.offm (h : FrAt w B f m v L L') {q : Nat} (ho : Off (· = q) w w') (hf : f ≠ q) (hm : m ≠ q) (hv : ∀ b, v.ownBlock = some b → b ≠ q) : FrAt w' B f m v L L' :=
  ⟨h.F.off ho hf hm, h.O.off ho hv, h.R, h.hm, Nat.le_trans h.hB ho.size⟩
/-- The file's own side, whatever comes out. -/
theorem oneDefine (off : Int) (r : Rg) (hr : r.wf) (h0 : 0 ≤ off) (h1 : off < 4294967296) (hF : FileAt w f m L) (hR : Ris L) :
    ∃ (E : Int) (L' : List (Int × Rg)), L'.length ≤ L.length + 1 ∧ Ris L' ∧
      Calls Try.prog 7 #[.pointer (some ⟨f, 0, none⟩), .int .u32 off, r.val] w (fun e w' => e = .returned (.int .i64 E) ∧ FileAt w' f m L' ∧ Off (· = m) w w') := by
  cases ha : (off % 4 != 0)
  · rcases there L off with hno | ⟨i, x, hi⟩
    · refine ⟨0, insA off r L, by rw [insA_len]; exact Nat.le_refl _, hR.ins r hno h0 h1 ha, ?_⟩
      refine (fDefine off r f m L w hr h0 h1 ha hF hno).mono ?_
      rintro e w' ⟨rfl, F, ho⟩
      exact ⟨rfl, F.perm (insA_perm off r L), ho⟩
    · refine ⟨15, L, Nat.le_succ _, hR, ?_⟩
      refine (fDefineMeet off r x f m L w h0 ha hF (List.mem_of_getElem? hi)).mono ?_
      rintro e w' ⟨rfl, hb⟩
      exact ⟨rfl, hF.below hb, Off.ofBelow hb⟩
  · refine ⟨11, L, Nat.le_succ _, hR, ?_⟩
    refine (fDefineBad off r f w h0 ha).mono ?_
    rintro e w' ⟨rfl, hb⟩
    exact ⟨rfl, hF.below hb, Off.ofBelow hb⟩
theorem oneTurn (off u d : Int) (u0 : 0 ≤ u) (u1 : u < 4294967296) (d0 : 0 ≤ d) (d1 : d < 4294967296) (h0 : 0 ≤ off) (h1 : off < 4294967296) (hF : FileAt w f m L) (hR : Ris L) :
    ∃ (E : Int) (L' : List (Int × Rg)), L'.length ≤ L.length + 1 ∧ Ris L' ∧
      Calls Try.prog 13 #[.pointer (some ⟨f, 0, none⟩), .int .u32 off, .int .u32 u, .int .u32 d] w (fun e w' => e = .returned (.int .i64 E) ∧ FileAt w' f m L' ∧ Off (· = m) w w') := by
  cases ha : (off % 4 != 0)
  · rcases there L off with hno | ⟨i, x, hi⟩
    · refine ⟨10, L, Nat.le_succ _, hR, ?_⟩
      refine (fTurnNone off u d f m L w h0 h1 ha hF hno).mono ?_
      rintro e w' ⟨rfl, hb⟩
      exact ⟨rfl, hF.below hb, Off.ofBelow hb⟩
    · refine ⟨0, L.set i (off, x.turn u d), by simp, hR.set hi _, ?_⟩
      refine (fTurn off x u d f m L w u0 u1 d0 d1 h0 h1 ha hF (List.mem_of_getElem? hi)).mono ?_
      rintro e w' ⟨rfl, F, ho⟩
      refine ⟨rfl, ?_, ho⟩
      rw [← put_set hR hi]
      exact F.perm (putF_perm hR.nodup (List.mem_of_getElem? hi) _)
  · refine ⟨11, L, Nat.le_succ _, hR, ?_⟩
    refine (fTurnBad off u d f w h0 ha).mono ?_
    rintro e w' ⟨rfl, hb⟩
    exact ⟨rfl, hF.below hb, Off.ofBelow hb⟩
end
end Go.Proofs.Ytfhggmiaablcnaa.B
