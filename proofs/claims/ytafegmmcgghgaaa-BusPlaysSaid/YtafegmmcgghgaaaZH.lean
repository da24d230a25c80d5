/- Several texts in one: The document's file: a row of offsets and registers. The document's file: find, Load. The document's file: a register put at a place; with. What Raise and Again of package reg return. A bit of a word, as the document's own answers ask it. The document's own answers of layer 2 that take registers: the same plain numbers. A file's Turn, by its contract. The document's file: Write, Bits. A file's Turn whole; the errors of Store and Turn. A file's Again: every register as behind a reset. The document's file: All. The document's file: Define. Are a file and the document's the same? They are. A file's Copy: maps.Clone at registers. Calls of a file and of the document's, side by side. -/
import Derived.Test.YtafegmmcgghgaaaKit
import Derived.Test.YtafegmmcgghgaaaFile
import Derived.Test.YtafegmmcgghgaaaFileL
import Derived.Test.YtafegmmcgghgaaaZA
import Derived.Test.YtafegmmcgghgaaaZC
import Derived.Test.YtafegmmcgghgaaaZE
import Derived.Test.YtafegmmcgghgaaaOffs
import Derived.OwnWalk
import Derived.Deep.Cut
import Derived.Deep.QuietTactic
import Derived.BigQuiet
import Derived.Deep.RegionLaw
import Derived.Shelf.SlMaps.Clone
namespace Go.Proofs.Ytafegmmcgghgaaa.B
set_option linter.unusedVariables false
set_option linter.unusedSimpArgs false
open Go.ChangeShapes Go.WideShapes Go.RowKit Go.Sort
abbrev tAt : TypeId := 81
def al (p : Int × Rg) : List Value := [.int .u32 p.1, .int .u32 p.2.v, .int .u32 p.2.s, .int .u32 p.2.r, .int .u32 p.2.c]
theorem al_len (p : Int × Rg) : (al p).length = 5 := rfl
theorem al_one (p : Int × Rg) : ∀ v ∈ al p, v.oneCell' = true := by
  intro v h
  simp only [al, List.mem_cons, List.not_mem_nil, or_false] at h
  rcases h with rfl | rfl | rfl | rfl | rfl <;> rfl
/-- A slice of these pairs. -/
def OwnA (w : World) (B : Nat) (v : Value) (L : List (Int × Rg)) : Prop := w.ownsRow B 81 5 v L.length (L.flatMap al)
section
variable {w w' : World} {B g cap : Nat} {v : Value} {L : List (Int × Rg)}
theorem ownA_nil (w : World) (B : Nat) : OwnA w B (.slice none 0 0) [] := World.ownsRow_nil w B _ 5
theorem OwnA.cases (h : OwnA w B v L) : (v = .slice none 0 0 ∧ L = []) ∨ ∃ g cap, v = .slice (some ⟨g, 0, none⟩) L.length cap ∧ B ≤ g ∧ L.length ≤ cap ∧ cap ≤ maxLen ∧ g < w.heap.size ∧ ∃ cur, w.heap[g]? = some (.cells cur 81 (0, 0)) := by
  rcases h.2 with ⟨h1, h2⟩ | ⟨g, cap, cur, h1, hB, hg, hnc, hcm, hcs, htk⟩
  · exact .inl ⟨h1, List.eq_nil_of_length_eq_zero h2⟩
  · exact .inr ⟨g, cap, h1, hB, hnc, hcm, lt_of_block hg, cur, hg⟩
theorem OwnA.below (h : OwnA w B v L) (hb : Below w.heap.size w w') : OwnA w' B v L := by
  refine ⟨h.1, ?_⟩
  rcases h.2 with h1 | ⟨g, cap, cur, h1, h2, h3, h4⟩
  · exact .inl h1
  · exact .inr ⟨g, cap, cur, h1, h2, blk_below hb h3 (lt_of_block h3), h4⟩
theorem OwnA.off {S : Nat → Prop} (h : OwnA w B v L) (ho : Off S w w') (hs : ∀ k, v.ownBlock = some k → ¬ S k) : OwnA w' B v L := by
  refine ⟨h.1, ?_⟩
  rcases h.2 with h1 | ⟨g, cap, cur, h1, h2, h3, h4⟩
  · exact .inl h1
  · exact .inr ⟨g, cap, cur, h1, h2, ho.at h3 (hs g (by rw [h1]; rfl)), h4⟩
theorem OwnA.base (h : OwnA w B v L) {C : Nat} (hC : ∀ k, v.ownBlock = some k → C ≤ k) : OwnA w C v L := by
  refine ⟨h.1, ?_⟩
  rcases h.2 with h1 | ⟨g, cap, cur, h1, h2, h3, h4⟩
  · exact .inl h1
  · exact .inr ⟨g, cap, cur, h1, hC g (by rw [h1]; rfl), h3, h4⟩
theorem OwnA.block (h : OwnA w B v L) {b : Nat} (hb : v.ownBlock = some b) : B ≤ b ∧ b < w.heap.size := World.ownsRow.lt h b hb
/-- Its block is of its type. -/
theorem OwnA.ty (h : OwnA w B v L) {b : Nat} (hb : v.ownBlock = some b) : ∃ cur, w.heap[b]? = some (.cells cur 81 (0, 0)) := by
  rcases h.2 with ⟨rfl, _⟩ | ⟨g, cap, cur, rfl, h2, h3, h4⟩
  · cases hb
  · cases hb; exact ⟨cur, h3⟩
theorem OwnA.cell (h : OwnA w B (.slice (some ⟨g, 0, none⟩) L.length cap) L) {i : Nat} {p : Int × Rg} (hp : L[i]? = some p) (j : Nat) (hj : j < 5) : w.cell? ⟨g, i * 5 + j, none⟩ = (al p)[j]? := row_cell (f := al) (n := 5) al_len h rfl hp j hj
end
theorem infoA : (Try.prog.info? 81).map (fun i => (i.zero, i.size, i.bytes)) = some (some (.agg (al (0, ⟨0, 0, 0, 0⟩)).toArray), 5, 20) := by kernel_rfl
section
variable {ops : Array Oper} {rest : List Oper} {o : Oper} {a : Act} {w : World} {Q : Exit → Act → World → Prop}
/-- One pair more, which lies in a block of its own. -/
theorem appendA (hgd : o.guard = none) (s x : Operand) (ho : o.op = .call { callee := .builtin .append, args := #[s, x], argTypes := #[25, 25] })
    {B g : Nat} {v : Value} {L : List (Int × Rg)} {p : Int × Rg} {ty : TypeId} {fr : Nat × Nat} (hs : a.eval s = v) (hO : OwnA w B v L) (hx : a.eval x = .slice (some ⟨g, 0, none⟩) 1 1) (hy : w.heap[g]? = some (.cells (al p).toArray ty fr)) (hk : L.length < 100000) (hB : B ≤ w.heap.size)
    (h : ∀ v' w', OwnA w' B v' (L ++ [p]) → Off (fun b => v.ownBlock = some b) w w' → wpList Try.prog ops Q rest (a.put o.dst v') w') : wpList Try.prog ops Q (o :: rest) a w := by
  obtain ⟨i0, hi, hz0, hz1, hz2⟩ := info_parts infoA
  refine wpList_append_own w hgd s x _ ho B 81 i0 _ 5 20 Try.underlying25 hi hz0 hz1 hz2 rfl (by decide) v L.length _ hs hO ⟨g, 0, none⟩ 1 1 (al p) hx rfl (fun j u hu => ?_) (al_one p) (by unfold maxLen; omega) (by omega) hB fun v' w' h3 h4 _ => ?_
  · rw [Addr.add_lit, Nat.zero_add, cell_of_row w g j _ _ _ hy]
    simpa using hu
  · refine h v' w' ?_ (Off.ofGrown h4 fun k e => e)
    unfold OwnA
    simpa using h3
/-- All of another row. -/
theorem appendAllA (hgd : o.guard = none) (s x : Operand) (ho : o.op = .call { callee := .builtin .append, args := #[s, x], argTypes := #[25, 25] })
    {B C g cap : Nat} {v : Value} {L : List (Int × Rg)} (hs : a.eval s = v) (hO : OwnA w B v []) (hx : a.eval x = .slice (some ⟨g, 0, none⟩) L.length cap) (hR : OwnA w C (.slice (some ⟨g, 0, none⟩) L.length cap) L) (hk : L.length < 100000) (hB : B ≤ w.heap.size)
    (h : ∀ v' w', OwnA w' B v' L → Off (fun b => v.ownBlock = some b) w w' → wpList Try.prog ops Q rest (a.put o.dst v') w') : wpList Try.prog ops Q (o :: rest) a w := by
  obtain ⟨i0, hi, hz0, hz1, hz2⟩ := info_parts infoA
  have hl : (L.flatMap al).length = L.length * 5 := flat_len al 5 al_len L
  refine wpList_append_own w hgd s x _ ho B 81 i0 _ 5 20 Try.underlying25 hi hz0 hz1 hz2 rfl (by decide) v 0 _ hs hO ⟨g, 0, none⟩ L.length cap (L.flatMap al) hx hl (fun j u hu => ?_) (fun u hu => ?_) (by unfold maxLen; omega) (by omega) hB fun v' w' h3 h4 _ => ?_
  · have hj : j < L.length * 5 := by rw [← hl]; exact (List.getElem?_eq_some_iff.1 hu).1
    rw [Addr.add_lit, Nat.zero_add, hR.cellAt j hj]
    exact hu
  · obtain ⟨p, _, hp⟩ := List.mem_flatMap.1 hu
    exact al_one p u hp
  · refine h v' w' ?_ (Off.ofGrown h4 fun k e => e)
    unfold OwnA
    simpa using h3
end
end Go.Proofs.Ytafegmmcgghgaaa.B
namespace Go.Proofs.Ytafegmmcgghgaaa.B
set_option linter.unusedVariables false
set_option linter.unusedSimpArgs false
open Go.ChangeShapes Go.WideShapes Go.RowKit Go.Sort
theorem aFindBad (off : Int) (v : Value) (w : World) (h0 : 0 ≤ off) (h : (off % 4 != 0) = true) :
    Calls Try.prog 30 #[v, .int .u32 off] w fun e w' => e = .returned (.tuple #[.int .i64 0, .int .i64 11]) ∧ w = w' := by
  go_enter Try.func30, Try.ntmps30
  go_wp2_with fail
  go_ret2
  exact ⟨rfl, rfl⟩
theorem aFindNone (off : Int) {B : Nat} {v : Value} {L : List (Int × Rg)} {w : World} (h0 : 0 ≤ off) (h : (off % 4 != 0) = false) (hO : OwnA w B v L) (hno : ∀ p ∈ L, p.1 ≠ off) (hl : L.length < 100000) :
    Calls Try.prog 30 #[v, .int .u32 off] w fun e w' => e = .returned (.tuple #[.int .i64 0, .int .i64 10]) ∧ w = w' := by
  rcases hO.cases with ⟨rfl, rfl⟩ | ⟨g, cap, rfl, hB, hnc, hcm, hgl, _⟩
  · go_enter Try.func30, Try.ntmps30
    go_wp2_with fail
    refine wp_loop_rounds 1 ?_
    rw [rounds_succ]
    go_wp2_with fail
    go_ret2
    exact ⟨rfl, rfl⟩
  · unfold maxLen at hcm
    have HO := Lib.hid hO
    have HN := Lib.hid hno
    clear hO hno
    go_enter Try.func30, Try.ntmps30
    go_wp2_with fail
    go_loopw [6] (fun i wr => ∃ k : Nat, k ≤ L.length ∧ i = .int .i64 k ∧ wr = w) (fun i wr => L.length - (intOf i).toNat)
    case atStart => exact ⟨0, by omega, rfl, rfl⟩
    case round =>
      obtain ⟨k, hk, rfl, rfl⟩ := hrel
      by_cases hlt : k < L.length
      · obtain ⟨p, hp⟩ : ∃ p, L[k]? = some p := ⟨L[k], List.getElem?_eq_getElem hlt⟩
        have c0 := HO.out.cell hp 0 (by decide)
        have hne : (p.1 == off) = false := by simpa using HN.out p (List.mem_of_getElem? hp)
        simp only [al, List.getElem?_cons_zero, Nat.add_zero] at c0
        clear hp
        go_wp2_with fail
        go_roundw
        case rel => exact ⟨k + 1, by omega, by go_num, by trivial⟩
        case measure => simp [intOf]; omega
      · obtain rfl : k = L.length := by omega
        go_wp2_with fail
        go_ret2
        exact ⟨rfl, rfl⟩
theorem aFind (off : Int) (i : Nat) (r : Rg) {B g cap : Nat} {L : List (Int × Rg)} {w : World} (h0 : 0 ≤ off) (h : (off % 4 != 0) = false) (hO : OwnA w B (.slice (some ⟨g, 0, none⟩) L.length cap) L) (hc : L.length ≤ cap) (hm : cap ≤ maxLen) (hi : L[i]? = some (off, r)) (hn : (L.map (·.1)).Nodup) (hl : L.length < 100000) :
    Calls Try.prog 30 #[.slice (some ⟨g, 0, none⟩) L.length cap, .int .u32 off] w fun e w' => e = .returned (.tuple #[.int .i64 i, .int .i64 0]) ∧ w = w' := by
  unfold maxLen at hm
  have hil : i < L.length := (List.getElem?_eq_some_iff.1 hi).1
  have hno : ∀ k p, k < i → L[k]? = some p → p.1 ≠ off := fun k p hk hp e => by
    have h1 : (L.map (·.1))[k]? = some off := by simp [hp, e]
    have h2 : (L.map (·.1))[i]? = some off := by simp [hi]
    have hkl : k < (L.map (·.1)).length := (List.getElem?_eq_some_iff.1 h1).1
    have hil' : i < (L.map (·.1)).length := (List.getElem?_eq_some_iff.1 h2).1
    have := (List.getElem_inj (h₀ := hkl) (h₁ := hil') hn).1 (by rw [(List.getElem?_eq_some_iff.1 h1).2, (List.getElem?_eq_some_iff.1 h2).2])
    omega
  have HO := Lib.hid hO
  have HI := Lib.hid hi
  have HN := Lib.hid hno
  clear hO hno hi hn
  go_enter Try.func30, Try.ntmps30
  go_wp2_with fail
  go_loopw [6] (fun j wr => ∃ k : Nat, k ≤ i ∧ j = .int .i64 k ∧ wr = w) (fun j wr => L.length - (intOf j).toNat)
  case atStart => exact ⟨0, by omega, rfl, rfl⟩
  case round =>
    obtain ⟨k, hk, rfl, rfl⟩ := hrel
    by_cases hlt : k < i
    · obtain ⟨p, hp⟩ : ∃ p, L[k]? = some p := ⟨L[k], List.getElem?_eq_getElem (by omega)⟩
      have c0 := HO.out.cell hp 0 (by decide)
      have hne : (p.1 == off) = false := by simpa using HN.out k p hlt hp
      simp only [al, List.getElem?_cons_zero, Nat.add_zero] at c0
      clear hp
      go_wp2_with fail
      go_roundw
      case rel => exact ⟨k + 1, by omega, by go_num, by trivial⟩
      case measure => simp [intOf]; omega
    · obtain rfl : k = i := by omega
      have c0 := HO.out.cell HI.out 0 (by decide)
      simp only [al, List.getElem?_cons_zero, Nat.add_zero] at c0
      have hq : (off == off) = true := by simp
      go_wp2_with fail
      go_ret2
      exact ⟨rfl, rfl⟩
theorem aLoadBad (off : Int) (v : Value) (w : World) (h0 : 0 ≤ off) (h : (off % 4 != 0) = true) :
    Calls Try.prog 8 #[v, .int .u32 off] w fun e w' => e = .returned (.tuple #[.int .u32 0, .int .i64 11]) ∧ w = w' := by
  go_enter Try.func8, Try.ntmps8
  go_wp2_with fail
  refine (aFindBad off v w h0 h).mono ?_
  rintro e w' ⟨rfl, rfl⟩
  go_wp2_with fail
  go_ret2
  exact ⟨rfl, rfl⟩
theorem aLoadNone (off : Int) {B : Nat} {v : Value} {L : List (Int × Rg)} {w : World} (h0 : 0 ≤ off) (h : (off % 4 != 0) = false) (hO : OwnA w B v L) (hno : ∀ p ∈ L, p.1 ≠ off) (hl : L.length < 100000) :
    Calls Try.prog 8 #[v, .int .u32 off] w fun e w' => e = .returned (.tuple #[.int .u32 0, .int .i64 10]) ∧ w = w' := by
  have C := Lib.hid (aFindNone off h0 h hO hno hl)
  clear hO hno
  go_enter Try.func8, Try.ntmps8
  go_wp2_with fail
  refine C.out.mono ?_
  rintro e w' ⟨rfl, rfl⟩
  go_wp2_with fail
  go_ret2
  exact ⟨rfl, rfl⟩
theorem aLoad (off : Int) (i : Nat) (r : Rg) {B g cap : Nat} {L : List (Int × Rg)} {w : World} (h0 : 0 ≤ off) (h : (off % 4 != 0) = false) (hO : OwnA w B (.slice (some ⟨g, 0, none⟩) L.length cap) L) (hc : L.length ≤ cap) (hm : cap ≤ maxLen) (hi : L[i]? = some (off, r)) (hn : (L.map (·.1)).Nodup) (hl : L.length < 100000) :
    Calls Try.prog 8 #[.slice (some ⟨g, 0, none⟩) L.length cap, .int .u32 off] w fun e w' => e = .returned (.tuple #[.int .u32 r.v, .int .i64 0]) ∧ w = w' := by
  have C := Lib.hid (aFind off i r h0 h hO hc hm hi hn hl)
  have c1 := hO.cell hi 1 (by decide)
  simp only [al, List.getElem?_cons_zero, List.getElem?_cons_succ] at c1
  have hil : i < L.length := (List.getElem?_eq_some_iff.1 hi).1
  unfold maxLen at hm
  clear hO hi hn
  go_enter Try.func8, Try.ntmps8
  go_wp2_with fail
  refine C.out.mono ?_
  rintro e w' ⟨rfl, rfl⟩
  go_wp2_with fail
  go_ret2
  exact ⟨rfl, rfl⟩
end Go.Proofs.Ytafegmmcgghgaaa.B
namespace Go.Proofs.Ytafegmmcgghgaaa.B
set_option linter.unusedVariables false
set_option linter.unusedSimpArgs false
open Go.ChangeShapes Go.WideShapes Go.RowKit Go.Sort
theorem iR2 : (Try.prog.info? 33).map (·.size) = some 4 := by kernel_rfl
theorem splice_flat (L : List (Int × Rg)) (i : Nat) (off : Int) (r r' : Rg) (cur : Array Value) (hi : L[i]? = some (off, r')) (ht : cur.toList.take (L.length * 5) = L.flatMap al) :
    (spliced cur (i * 5 + 1) [.int .u32 r.v, .int .u32 r.s, .int .u32 r.r, .int .u32 r.c]).toList.take (L.length * 5) = (L.set i (off, r)).flatMap al := by
  have hil : i < L.length := (List.getElem?_eq_some_iff.1 hi).1
  have hsp : L = L.take i ++ (off, r') :: L.drop (i + 1) := by
    have h1 := List.take_append_drop i L
    rw [List.drop_eq_getElem_cons hil] at h1
    rw [(List.getElem?_eq_some_iff.1 hi).2] at h1
    exact h1.symm
  have hst : L.set i (off, r) = L.take i ++ (off, r) :: L.drop (i + 1) := by
    rw [List.set_eq_take_append_cons_drop, if_pos hil]
  have hA : ((L.take i).flatMap al).length = i * 5 := by rw [flat_len al 5 al_len]; simp; omega
  have hF : L.flatMap al = (L.take i).flatMap al ++ (al (off, r') ++ (L.drop (i + 1)).flatMap al) := by
    conv => lhs; rw [hsp]
    rw [List.flatMap_append, List.flatMap_cons]
  have hG : (L.set i (off, r)).flatMap al = (L.take i).flatMap al ++ (al (off, r) ++ (L.drop (i + 1)).flatMap al) := by
    rw [hst, List.flatMap_append, List.flatMap_cons]
  have hlenG : ((L.set i (off, r)).flatMap al).length = L.length * 5 := by rw [flat_len al 5 al_len]; simp
  have hcur : cur.toList = (L.take i).flatMap al ++ (al (off, r') ++ ((L.drop (i + 1)).flatMap al ++ cur.toList.drop (L.length * 5))) := by
    conv => lhs; rw [← List.take_append_drop (L.length * 5) cur.toList]
    rw [ht, hF]; simp
  generalize hR : cur.toList.drop (L.length * 5) = R at hcur
  unfold spliced
  rw [hcur, ← hA, List.take_length_add_append, show ((L.take i).flatMap al).length + 1 + ([Value.int .u32 r.v, .int .u32 r.s, .int .u32 r.r, .int .u32 r.c] : List Value).length = ((L.take i).flatMap al).length + 5 by simp, List.drop_length_add_append]
  have h5 : (al (off, r') ++ ((L.drop (i + 1)).flatMap al ++ R)).drop 5 = (L.drop (i + 1)).flatMap al ++ R := rfl
  have h6 : (al (off, r') ++ ((L.drop (i + 1)).flatMap al ++ R)).take 1 = [.int .u32 off] := rfl
  rw [h5, h6]
  have h7 : ((L.take i).flatMap al ++ [Value.int .u32 off] ++ [Value.int .u32 r.v, .int .u32 r.s, .int .u32 r.r, .int .u32 r.c] ++ ((L.drop (i + 1)).flatMap al ++ R)) = (L.set i (off, r)).flatMap al ++ R := by
    rw [hG]; simp [al]
  show (List.take (L.length * 5) ((L.take i).flatMap al ++ [Value.int .u32 off] ++ [Value.int .u32 r.v, .int .u32 r.s, .int .u32 r.r, .int .u32 r.c] ++ ((L.drop (i + 1)).flatMap al ++ R))) = _
  rw [h7, ← hlenG, List.take_left']
  rfl
section
variable {ops : Array Oper} {rest : List Oper} {o : Oper} {a : Act} {w : World} {Q : Exit → Act → World → Prop}
theorem storeA (hgd : o.guard = none) (x y : Operand) (ho : o.op = .store 33 x y) {B g cap i : Nat} {L : List (Int × Rg)} {off : Int} {r r' : Rg} (hx : a.eval x = .pointer (some ⟨g, i * 5 + 1, none⟩)) (hy : a.eval y = r.val)
    (hO : OwnA w B (.slice (some ⟨g, 0, none⟩) L.length cap) L) (hi : L[i]? = some (off, r'))
    (h : ∀ w', OwnA w' B (.slice (some ⟨g, 0, none⟩) L.length cap) (L.set i (off, r)) → Off (· = g) w w' → wpList Try.prog ops Q rest (a.put o.dst undef) w') : wpList Try.prog ops Q (o :: rest) a w := by
  have hil : i < L.length := (List.getElem?_eq_some_iff.1 hi).1
  rcases hO.2 with ⟨h1, _⟩ | ⟨g', cap', cur, h1, hB, hg, hnc, hcm, hcs, htk⟩
  · cases h1
  · cases h1
    refine wpList_store_part hgd _ x y ho g (i * 5 + 1) hx [.int .u32 r.v, .int .u32 r.s, .int .u32 r.r, .int .u32 r.c] hy hg iR2 (by simp; omega) (fun v hv => ?_) (h _ ?_ ⟨rfl, rfl, rfl, by simp, fun b _ hs => setRow_other w g b _ hs⟩)
    · simp only [List.mem_cons, List.not_mem_nil, or_false] at hv
      rcases hv with rfl | rfl | rfl | rfl <;> rfl
    · have hln : (L.set i (off, r)).length = L.length := by simp
      refine ⟨flat_len al 5 al_len _, .inr ⟨g, cap, _, by rw [hln], hB, row_set _ hg, by rw [hln]; exact hnc, hcm, ?_, by rw [hln]; exact splice_flat L i off r r' cur hi htk⟩⟩
      simp [spliced]; omega
end
set_option maxRecDepth 100000 in
set_option maxHeartbeats 1600000 in
theorem aWith (off : Int) (i : Nat) (r r' : Rg) {B g cap : Nat} {L : List (Int × Rg)} {w : World} (hO : OwnA w B (.slice (some ⟨g, 0, none⟩) L.length cap) L) (hc : L.length ≤ cap) (hm : cap ≤ maxLen) (hi : L[i]? = some (off, r')) (hl : L.length < 100000) :
    Calls Try.prog 34 #[.slice (some ⟨g, 0, none⟩) L.length cap, .int .i64 i, r.val] w
      fun e w' => ∃ g' cap', e = .returned (.slice (some ⟨g', 0, none⟩) L.length cap') ∧ OwnA w' w.heap.size (.slice (some ⟨g', 0, none⟩) L.length cap') (L.set i (off, r)) ∧ L.length ≤ cap' ∧ cap' ≤ maxLen ∧ Below w.heap.size w w' := by
  have hil : i < L.length := (List.getElem?_eq_some_iff.1 hi).1
  unfold maxLen at hm
  have hb1 := trA (tr0 w) (.cells #[.int .u32 r.v, .int .u32 r.s, .int .u32 r.r, .int .u32 r.c] 33 (0, 0))
  have hX := blk_new w (.cells #[.int .u32 r.v, .int .u32 r.s, .int .u32 r.r, .int .u32 r.c] 33 (0, 0))
  have O1 := hO.below hb1
  have HI := Lib.hid hi
  clear hO hi
  unfold Rg.val
  go_enter Try.func34, Try.ntmps34
  go_upto_region 1 with (fail)
  have hs1 : w.heap.size < (w.alloc (.cells #[.int .u32 r.v, .int .u32 r.s, .int .u32 r.r, .int .u32 r.c] 33 (0, 0))).heap.size := lt_of_block hX
  generalize w.alloc (.cells #[.int .u32 r.v, .int .u32 r.s, .int .u32 r.r, .int .u32 r.c] 33 (0, 0)) = W at *
  have OO : OwnA (W.alloc (.cells #[] 81 (0, 0))) (w.heap.size + 1) (.slice (some ⟨W.heap.size, 0, none⟩) 0 0) [] := World.ownsRow_made (base := w.heap.size + 1) (e := 81) (size := 5) W #[] 0 (by omega) (by decide) rfl
  have hb2 := trA (tr0 W) (.cells #[] 81 (0, 0))
  have O2 := O1.below hb2
  have B2 := tr hb1 hb2
  have X2 := blk_below hb2 hX hs1
  have hB2s : w.heap.size + 1 ≤ (W.alloc (.cells #[] 81 (0, 0))).heap.size := by have := hb2.size; omega
  clear O1 hX hb1 hb2
  go_upto_region 2 with (refine appendAllA rfl (.tmp 8) (.tmp 9) rfl (v := .slice (some ⟨W.heap.size, 0, none⟩) 0 0) rfl OO rfl O2 hl hB2s ?_; intro v' W5 O5 ho5)
  have ho6 : Off (· = W.heap.size) (W.alloc (.cells #[] 81 (0, 0))) W5 := ho5.mono fun k _ e => (Option.some.inj e).symm
  have X5 := ho6.at X2 (fun e => by omega)
  have B5 := Off.toBelow B2 ho6 (fun b hb e => by omega) (Nat.le_refl _)
  clear OO O2 X2 B2 hB2s ho5 ho6
  rcases O5.cases with ⟨_, h0⟩ | ⟨g', cap', rfl, hg', hnc', hcm', hgl', _⟩
  · subst h0; simp at hil
  · unfold maxLen at hcm'
    have y0 := blk_cell X5 0
    have y1 := blk_cell X5 1
    have y2 := blk_cell X5 2
    have y3 := blk_cell X5 3
    simp only [List.getElem?_toArray, List.getElem?_cons_zero, List.getElem?_cons_succ] at y0 y1 y2 y3
    go_upto_region 3 with (refine storeA rfl (.tmp 15) (.tmp 13) rfl (r := r) rfl rfl O5 HI.out ?_; intro w6 O6 ho6)
    have B6 := Off.toBelow B5 ho6 (fun b hb e => by omega) (Nat.le_refl _)
    have O7 : OwnA w6 w.heap.size (.slice (some ⟨g', 0, none⟩) L.length cap') (L.set i (off, r)) := O6.base (fun k hk => by have := (O6.block hk).1; omega)
    clear O5 O6 ho6 B5 X5 y0 y1 y2 y3
    go_wp2_with fail
    go_ret
    exact ⟨g', cap', rfl, O7, hnc', by unfold maxLen; omega, B6⟩
end Go.Proofs.Ytafegmmcgghgaaa.B
namespace Go.Proofs.Ytafegmmcgghgaaa.B
set_option linter.unusedVariables false
set_option linter.unusedSimpArgs false
open Go.ChangeShapes Go.WideShapes Go.RowKit
theorem Raise (a s r c v : Int) (w : World) (a0 : 0 ≤ a) (a1 : a < 4294967296) (v0 : 0 ≤ v) (v1 : v < 4294967296) :
    Calls Try.prog 43 #[.agg #[.int .u32 a, .int .u32 s, .int .u32 r, .int .u32 c], .int .u32 v] w
      fun e w' => e = .returned (.agg #[.int .u32 (tnV a v 0), .int .u32 s, .int .u32 r, .int .u32 c]) ∧ Below w.heap.size w w' := by
  go_enter Try.func43, Try.ntmps43
  go_wp2
  refine bodyPost_ret (v := .agg #[.int .u32 (tnV a v 0), .int .u32 s, .int .u32 r, .int .u32 c]) ?_ rfl ?_
  · simp [results, Try.results43, go_sem]
    exact raise_code a v a0 a1 v0 v1
  · exact ⟨rfl, ((Below.refl _ _).alloc (Nat.le_refl _) _).alloc (by simp) _⟩
theorem Again (a s r c : Int) (w : World) :
    Calls Try.prog 45 #[.agg #[.int .u32 a, .int .u32 s, .int .u32 r, .int .u32 c]] w
      fun e w' => e = .returned (.agg #[.int .u32 s, .int .u32 s, .int .u32 r, .int .u32 c]) ∧ Below w.heap.size w w' := by
  go_enter Try.func45, Try.ntmps45
  go_wp2
  refine bodyPost_ret (v := .agg #[.int .u32 s, .int .u32 s, .int .u32 r, .int .u32 c]) ?_ rfl ?_
  · simp [results, Try.results45, go_sem]
  · exact ⟨rfl, ((Below.refl _ _).alloc (Nat.le_refl _) _).alloc (by simp) _⟩
end Go.Proofs.Ytafegmmcgghgaaa.B
namespace Go.Proofs.Ytafegmmcgghgaaa.B
set_option linter.unusedVariables false
set_option linter.unusedSimpArgs false
open Go.ChangeShapes Go.WideShapes Go.RowKit
def hv (n : Int) (k : Nat) : Int := n / 2 ^ k
theorem hv_nonneg {n : Int} (h : 0 ≤ n) (k : Nat) : 0 ≤ hv n k := div_pow_nonneg n k h
theorem hv_le {n : Int} (h : 0 ≤ n) (k : Nat) : hv n k ≤ n := Int.ediv_le_self _ h
theorem hv_succ (n : Int) (k : Nat) : hv n (k + 1) = hv n k / 2 := by
  unfold hv; rw [Int.pow_succ, Int.ediv_ediv_of_nonneg (Int.le_of_lt (Int.pow_pos (by decide)))]
theorem Bit (n i : Int) (w : World) (h0 : 0 ≤ n) (h1 : n < 18446744073709551616) (i0 : 0 ≤ i) (i1 : i < 64) :
    Calls Try.prog 70 #[.int .u64 n, .int .i64 i] w fun e w' => e = .returned (.bool (bit n i.toNat)) ∧ w = w' := by
  obtain ⟨m, rfl⟩ := Int.eq_ofNat_of_zero_le i0
  rw [Int.toNat_natCast]
  go_enter Try.func70, Try.ntmps70
  go_wp2
  go_loop [0, 5] (fun v i => ∃ k : Nat, k ≤ m ∧ i = .int .i64 k ∧ v = .int .u64 (hv n k)) (fun _ i => m - (intOf i).toNat)
  case atStart => exact ⟨0, by omega, rfl, by simp [hv]⟩
  case round =>
    obtain ⟨k, hk, rfl, rfl⟩ := hrel
    have p1 := hv_nonneg h0 k
    have p2 := hv_le h0 k
    by_cases hlt : k < m
    · go_wp2
      go_round
      case rel => exact ⟨k + 1, by omega, by go_num, by rw [hv_succ]⟩
      case measure => simp [intOf]; omega
    · go_wp2
      go_ret
      exact ⟨ret_bool (by rw [show k = m by omega]; rfl), rfl⟩
end Go.Proofs.Ytafegmmcgghgaaa.B
namespace Go.Proofs.Ytafegmmcgghgaaa.B
set_option linter.unusedVariables false
set_option linter.unusedSimpArgs false
open Go.ChangeShapes Go.WideShapes Go.RowKit
theorem rbit (n : Int) (k : Nat) (w : World) (h0 : 0 ≤ n) (h1 : n < 4294967296) (hk : k < 64) :
    Calls Try.prog 57 #[.int .u32 n, .int .i64 k] w fun e w' => e = .returned (.bool (bit n k)) ∧ w = w' := by
  go_enter Try.func57, Try.ntmps57
  go_wp2_with fail
  refine (Bit _ _ _ (by omega) (by omega) (by omega) (by omega)).mono ?_
  rintro e w' ⟨rfl, rfl⟩
  go_wp2_with fail
  go_ret
  exact ⟨rfl, rfl⟩
theorem rAgain (a s r c : Int) (w : World) :
    Calls Try.prog 46 #[.agg #[.int .u32 a, .int .u32 s, .int .u32 r, .int .u32 c]] w
      fun e w' => e = .returned (.agg #[.int .u32 s, .int .u32 s, .int .u32 r, .int .u32 c]) ∧ Below w.heap.size w w' := by
  go_enter Try.func46, Try.ntmps46
  go_wp2
  refine bodyPost_ret (v := .agg #[.int .u32 s, .int .u32 s, .int .u32 r, .int .u32 c]) ?_ rfl ?_
  · simp [results, Try.results46, go_sem]
  · exact ⟨rfl, ((Below.refl _ _).alloc (Nat.le_refl _) _).alloc (by simp) _⟩
theorem rOnly (a s r c : Int) (w : World) :
    Calls Try.prog 33 #[.agg #[.int .u32 a, .int .u32 s, .int .u32 r, .int .u32 c]] w
      fun e w' => e = .returned (.bool (only r c)) ∧ Below w.heap.size w w' := by
  cases h1 : (r == 0)
  all_goals
    cases h2 : (c == 0)
    all_goals
      go_enter Try.func33, Try.ntmps33
      go_wp2
      go_ret
      exact ⟨ret_bool (by unfold only; rw [h1, h2]; rfl), (Below.refl _ _).alloc (Nat.le_refl _) _⟩
set_option maxRecDepth 100000 in
set_option maxHeartbeats 1600000 in
theorem rStore (a s r c v : Int) (w : World) (a0 : 0 ≤ a) (a1 : a < 4294967296) (r0 : 0 ≤ r) (r1 : r < 4294967296) (c0 : 0 ≤ c) (c1 : c < 4294967296) (v0 : 0 ≤ v) (v1 : v < 4294967296) :
    Calls Try.prog 35 #[.agg #[.int .u32 a, .int .u32 s, .int .u32 r, .int .u32 c], .int .u32 v] w
      fun e w' => e = .returned (.agg #[.int .u32 (stV a r c v), .int .u32 s, .int .u32 r, .int .u32 c]) ∧ Below w.heap.size w w' := by
  go_enter Try.func35, Try.ntmps35
  go_wp2_with fail
  go_loop [5, 6, 7] (fun out unit i => ∃ (k : Nat) (x y : Int), k ≤ 32 ∧ i = .int .i64 k ∧ out = .int .u32 x ∧ unit = .int .u32 y ∧ Hid (x = ob (stB a r c v) k) ∧ Hid (y = un k)) (fun _ _ i => 32 - (intOf i).toNat)
  case atStart => exact ⟨0, _, _, by omega, rfl, rfl, rfl, Lib.hid rfl, Lib.hid rfl⟩
  case round =>
    rename_i hw0
    clear hw0
    obtain ⟨k, x, y, hk, rfl, rfl, rfl, hx, hy⟩ := hrel
    have u : 0 ≤ y ∧ y < 4294967296 := by rw [hy.out]; exact un_bounds k
    have o : 0 ≤ x ∧ x < 4294967296 := by rw [hx.out]; exact ob_bounds (stB a r c v) k hk
    obtain ⟨u0, u1⟩ := u
    obtain ⟨o0, o1⟩ := o
    have hu := Lib.hid (un_succ k)
    by_cases hlt : k < 32
    · have ho : x + y < 4294967296 := by rw [hx.out, hy.out]; exact ob_un (stB a r c v) k hlt
      cases hs : stB a r c v k
      all_goals
        first
        | have hn := Lib.hid (ob_yes (stB a r c v) k hlt hs)
        | have hn := Lib.hid (ob_no (stB a r c v) k hs)
        have HS := Lib.hid hs
        clear hs
        cases h1 : bit r k
        all_goals
        cases h2 : bit c k
        all_goals
        cases h3 : bit v k
        all_goals
        cases h4 : bit a k
        all_goals
          first
          | (exfalso; have := HS.out; unfold stB at this; rw [h1, h2, h3, h4] at this; revert this; decide)
          | (go_wp2_with (go_at_call 57; refine (rbit _ _ _ (by omega) (by omega) (by omega)).mono ?_; rintro e w' ⟨rfl, rfl⟩; first | rw [h1] | rw [h2] | rw [h3] | rw [h4])
             go_round
             case rel => exact ⟨k + 1, _, _, by omega, by go_num, rfl, rfl, Lib.hid (by rw [hn.out, hx.out]; try rw [hy.out]), Lib.hid (by rw [hu.out, hy.out])⟩
             case measure => simp [intOf]; omega)
    · have he : x = stV a r c v := by rw [hx.out, show k = 32 by omega]; rfl
      have hE := Lib.hid he
      clear he
      go_wp2_with fail
      refine bodyPost_ret (v := .agg #[.int .u32 (stV a r c v), .int .u32 s, .int .u32 r, .int .u32 c]) ?_ rfl ?_
      · simp [results, Try.results35, go_sem, hE.out]
      · exact ⟨rfl, ((Below.refl _ _).alloc (Nat.le_refl _) _).alloc (by simp) _⟩
set_option maxRecDepth 100000 in
set_option maxHeartbeats 1600000 in
theorem rTurn (a s r c v u : Int) (w : World) (a0 : 0 ≤ a) (a1 : a < 4294967296) (v0 : 0 ≤ v) (v1 : v < 4294967296) (x0 : 0 ≤ u) (x1 : u < 4294967296) :
    Calls Try.prog 40 #[.agg #[.int .u32 a, .int .u32 s, .int .u32 r, .int .u32 c], .int .u32 v, .int .u32 u] w
      fun e w' => e = .returned (.agg #[.int .u32 (tnV a v u), .int .u32 s, .int .u32 r, .int .u32 c]) ∧ Below w.heap.size w w' := by
  go_enter Try.func40, Try.ntmps40
  go_wp2_with fail
  go_loop [7, 8, 9] (fun out unit i => ∃ (k : Nat) (x y : Int), k ≤ 32 ∧ i = .int .i64 k ∧ out = .int .u32 x ∧ unit = .int .u32 y ∧ Hid (x = ob (tnB a v u) k) ∧ Hid (y = un k)) (fun _ _ i => 32 - (intOf i).toNat)
  case atStart => exact ⟨0, _, _, by omega, rfl, rfl, rfl, Lib.hid rfl, Lib.hid rfl⟩
  case round =>
    rename_i hw0
    clear hw0
    obtain ⟨k, x, y, hk, rfl, rfl, rfl, hx, hy⟩ := hrel
    have hub : 0 ≤ y ∧ y < 4294967296 := by rw [hy.out]; exact un_bounds k
    have o : 0 ≤ x ∧ x < 4294967296 := by rw [hx.out]; exact ob_bounds (tnB a v u) k hk
    obtain ⟨u0, u1⟩ := hub
    obtain ⟨o0, o1⟩ := o
    have hu := Lib.hid (un_succ k)
    by_cases hlt : k < 32
    · have ho : x + y < 4294967296 := by rw [hx.out, hy.out]; exact ob_un (tnB a v u) k hlt
      cases hs : tnB a v u k
      all_goals
        first
        | have hn := Lib.hid (ob_yes (tnB a v u) k hlt hs)
        | have hn := Lib.hid (ob_no (tnB a v u) k hs)
        have HS := Lib.hid hs
        clear hs
        cases h1 : bit a k
        all_goals
        cases h2 : bit v k
        all_goals
        cases h3 : bit u k
        all_goals
          first
          | (exfalso; have := HS.out; unfold tnB at this; rw [h1, h2, h3] at this; revert this; decide)
          | (go_wp2_with (go_at_call 57; refine (rbit _ _ _ (by omega) (by omega) (by omega)).mono ?_; rintro e w' ⟨rfl, rfl⟩; first | rw [h1] | rw [h2] | rw [h3])
             go_round
             case rel => exact ⟨k + 1, _, _, by omega, by go_num, rfl, rfl, Lib.hid (by rw [hn.out, hx.out]; try rw [hy.out]), Lib.hid (by rw [hu.out, hy.out])⟩
             case measure => simp [intOf]; omega)
    · have he : x = tnV a v u := by rw [hx.out, show k = 32 by omega]; rfl
      have hE := Lib.hid he
      clear he
      go_wp2_with fail
      refine bodyPost_ret (v := .agg #[.int .u32 (tnV a v u), .int .u32 s, .int .u32 r, .int .u32 c]) ?_ rfl ?_
      · simp [results, Try.results40, go_sem, hE.out]
      · exact ⟨rfl, ((Below.refl _ _).alloc (Nat.le_refl _) _).alloc (by simp) _⟩
end Go.Proofs.Ytafegmmcgghgaaa.B
namespace Go.Proofs.Ytafegmmcgghgaaa.B
set_option linter.unusedVariables false
set_option linter.unusedSimpArgs false
open Go.ChangeShapes Go.WideShapes Go.RowKit Go.Sort
def Rg.turn (x : Rg) (u d : Int) : Rg := ⟨tnV x.v u d, x.s, x.r, x.c⟩
theorem Rg.turn_wf {x : Rg} (h : x.wf) (u d : Int) : (x.turn u d).wf := ⟨tnV_bounds _ _ _, h.2.1, h.2.2.1, h.2.2.2⟩
set_option maxHeartbeats 1600000 in
theorem fTurn1 (x : Rg) (u d : Int) (ub db : Nat) (w : World) (hx : x.wf) (u0 : 0 ≤ u) (u1 : u < 4294967296) (d0 : 0 ≤ d) (d1 : d < 4294967296) (hu : w.cell? ⟨ub, 0, none⟩ = some (.int .u32 u)) (hul : ub < w.heap.size) (hd : w.cell? ⟨db, 0, none⟩ = some (.int .u32 d)) (hdl : db < w.heap.size) :
    Calls Try.prog 41 #[x.val, .pointer (some ⟨ub, 0, none⟩), .pointer (some ⟨db, 0, none⟩)] w fun e w' => e = .returned (x.turn u d).val ∧ Below w.heap.size w w' := by
  obtain ⟨a, s, r, c⟩ := x
  obtain ⟨⟨a0, a1⟩, _, ⟨r0, r1⟩, ⟨c0, c1⟩⟩ := hx
  simp only at a0 a1 r0 r1 c0 c1
  unfold Rg.val Rg.turn
  have hX := b2_0 w (.cells #[.int .u32 a, .int .u32 s, .int .u32 r, .int .u32 c] 28 (0, 0)) (.cells #[.int .u32 0, .int .u32 0, .int .u32 0, .int .u32 0] 28 (0, 0))
  have hY := b2_1 w (.cells #[.int .u32 a, .int .u32 s, .int .u32 r, .int .u32 c] 28 (0, 0)) (.cells #[.int .u32 0, .int .u32 0, .int .u32 0, .int .u32 0] 28 (0, 0))
  have hB := trA (trA (tr0 w) (.cells #[.int .u32 a, .int .u32 s, .int .u32 r, .int .u32 c] 28 (0, 0))) (.cells #[.int .u32 0, .int .u32 0, .int .u32 0, .int .u32 0] 28 (0, 0))
  have hu2 := (hB.cell (p := ⟨ub, 0, none⟩) hul).trans hu
  have hd2 := (hB.cell (p := ⟨db, 0, none⟩) hdl).trans hd
  go_enter Try.func41, Try.ntmps41
  go_upto_region 1 with (fail)
  generalize ((w.alloc (.cells #[.int .u32 a, .int .u32 s, .int .u32 r, .int .u32 c] 28 (0, 0))).alloc (.cells #[.int .u32 0, .int .u32 0, .int .u32 0, .int .u32 0] 28 (0, 0))) = W at *
  have x0 := blk_cell hX 0
  have x1 := blk_cell hX 1
  have x2 := blk_cell hX 2
  have x3 := blk_cell hX 3
  simp only [List.getElem?_toArray, List.getElem?_cons_zero, List.getElem?_cons_succ] at x0 x1 x2 x3
  have hg := gcell
  have hf := gfrozen
  have hxl := blk_lt hX
  have hul2 : ub < W.heap.size := Nat.lt_of_lt_of_le hul hB.size
  have hdl2 : db < W.heap.size := Nat.lt_of_lt_of_le hdl hB.size
  have hbd := tnV_bounds a u 0
  have C1 := Lib.hid (fun w' => Raise a s r c u w' a0 a1 u0 u1)
  have C2 := Lib.hid (fun w' => by have := Fall (tnV a u 0) s r c d w' hbd.1 hbd.2 d0 d1; rw [turn_turn] at this; exact this)
  have HX := Lib.hid hX
  have HY := Lib.hid hY
  clear hX hY hbd hu hd
  refine wp_region_tail_below 5 (by kernel_rfl) (by kernel_rfl) ?_
  simp only [List.take_succ_cons, List.take_zero, List.drop_succ_cons, List.drop_zero]
  repeat (go_big_quiet_step (first
    | (go_at_call 43; exact Calls.regrown_of (C1.out _))
    | (go_at_call 42; exact Calls.regrown_of (C2.out _))))
  refine wpQuiet_nil ?_
  intro _ hw'
  obtain ⟨⟨dq, osq⟩, hw''⟩ := hw'
  subst hw''
  have hY2 := blk_below (below_regrown W dq osq) HY.out (blk_lt HY.out)
  have hB2 := trG hB dq osq
  clear hg hf x0 x1 x2 x3 hu2 hd2
  generalize grow (redrawn W dq) osq = W2 at *
  have f0 := blk_free hY2 0
  have f1 := blk_free hY2 1
  have f2 := blk_free hY2 2
  have f3 := blk_free hY2 3
  have y0 := blk_cell hY2 0
  have y1 := blk_cell hY2 1
  have y2 := blk_cell hY2 2
  have y3 := blk_cell hY2 3
  simp only [List.getElem?_toArray, List.getElem?_cons_zero, List.getElem?_cons_succ] at y0 y1 y2 y3
  have HY2 := Lib.hid hY2
  clear hY2
  go_wp2_with fail
  have hZ := blk_set (blk_set (blk_set (blk_set HY2.out 0 (.int .u32 (tnV a u d))) 1 (.int .u32 s)) 2 (.int .u32 r)) 3 (.int .u32 c)
  have hBZ : Below w.heap.size w ((((W2.setCell ⟨w.heap.size + 1, 0, none⟩ (.int .u32 (tnV a u d))).setCell ⟨w.heap.size + 1, 1, none⟩ (.int .u32 s)).setCell ⟨w.heap.size + 1, 2, none⟩ (.int .u32 r)).setCell ⟨w.heap.size + 1, 3, none⟩ (.int .u32 c)) :=
    (((hB2.setCell (Nat.le_add_right _ _) _).setCell (Nat.le_add_right _ _) _).setCell (Nat.le_add_right _ _) _).setCell (Nat.le_add_right _ _) _
  generalize ((((W2.setCell ⟨w.heap.size + 1, 0, none⟩ (.int .u32 (tnV a u d))).setCell ⟨w.heap.size + 1, 1, none⟩ (.int .u32 s)).setCell ⟨w.heap.size + 1, 2, none⟩ (.int .u32 r)).setCell ⟨w.heap.size + 1, 3, none⟩ (.int .u32 c)) = Y at hZ hBZ ⊢
  have z0 := blk_cell hZ 0
  have z1 := blk_cell hZ 1
  have z2 := blk_cell hZ 2
  have z3 := blk_cell hZ 3
  simp at z0 z1 z2 z3
  refine bodyPost_ret (v := .agg #[.int .u32 (tnV a u d), .int .u32 s, .int .u32 r, .int .u32 c]) ?_ rfl ⟨rfl, hBZ⟩
  simp [results, Try.results41, go_sem, z0, z1, z2, z3]
set_option maxHeartbeats 1600000 in
theorem fChangeT (off : Int) (x : Rg) (u d : Int) (ub db f m : Nat) (M : List (Int × Rg)) (w : World) (u0 : 0 ≤ u) (u1 : u < 4294967296) (d0 : 0 ≤ d) (d1 : d < 4294967296) (h0 : 0 ≤ off) (h1 : off < 4294967296) (h : (off % 4 != 0) = false) (hF : FileAt w f m M) (hin : (off, x) ∈ M)
    (hv : w.cell? ⟨ub, 0, none⟩ = some (.int .u32 u)) (hl : ub < w.heap.size) (hve : w.cell? ⟨db, 0, none⟩ = some (.int .u32 d)) (hle : db < w.heap.size) :
    Calls Try.prog 37 #[.pointer (some ⟨f, 0, none⟩), .int .u32 off, .func (.func 41) #[] #[.pointer (some ⟨ub, 0, none⟩), .pointer (some ⟨db, 0, none⟩)]] w
      fun e w' => e = .returned (.int .i64 0) ∧ FileAt w' f m (putF off (x.turn u d) M) ∧ Off (· = m) w w' := by
  have hfm : f ≠ m := fun e => by obtain ⟨_, _, hb, _⟩ := hF.map; rw [← e, hF.cell] at hb; cases hb
  have hxw : x.wf := hF.wf _ hin
  have hlf := hF.ltf
  go_enter Try.func37, Try.ntmps37
  go_wp2_with fail
  refine (fFind off x f m M _ h0 h hF hin).mono ?_
  rintro e w1 ⟨rfl, hb⟩
  have hF1 := hF.below hb
  have hc := blk_cell hF1.cell 0
  simp only [List.getElem?_toArray, List.getElem?_cons_zero] at hc
  have hlf1 := hF1.ltf
  have hv1 : w1.cell? ⟨ub, 0, none⟩ = some (.int .u32 u) := (hb.cell (p := ⟨ub, 0, none⟩) hl).trans hv
  have hl1 : ub < w1.heap.size := Nat.lt_of_lt_of_le hl hb.size
  have hve1 : w1.cell? ⟨db, 0, none⟩ = some (.int .u32 d) := (hb.cell (p := ⟨db, 0, none⟩) hle).trans hve
  have hle1 : db < w1.heap.size := Nat.lt_of_lt_of_le hle hb.size
  have HF := Lib.hid hF1
  have HB := Lib.hid hb
  clear hF hF1 hb hv hve
  obtain ⟨a, s, r, c⟩ := x
  unfold Rg.val
  have hcl : ∀ (dz : Nat) (os : Array Obj),
      Calls Try.prog 41 #[.agg #[.int .u32 a, .int .u32 s, .int .u32 r, .int .u32 c], .pointer (some ⟨ub, 0, none⟩), .pointer (some ⟨db, 0, none⟩)] (grow (redrawn (w1.alloc (.cells #[.int .u32 a, .int .u32 s, .int .u32 r, .int .u32 c] 28)) dz) os)
        fun e w' => e = .returned (.agg #[.int .u32 (tnV a u d), .int .u32 s, .int .u32 r, .int .u32 c]) ∧ Below (grow (redrawn (w1.alloc (.cells #[.int .u32 a, .int .u32 s, .int .u32 r, .int .u32 c] 28)) dz) os).heap.size (grow (redrawn (w1.alloc (.cells #[.int .u32 a, .int .u32 s, .int .u32 r, .int .u32 c] 28)) dz) os) w' := by
    intro dz os
    have hsz := (below_regrown (w1.alloc (.cells #[.int .u32 a, .int .u32 s, .int .u32 r, .int .u32 c] 28)) dz os).size
    refine fTurn1 ⟨a, s, r, c⟩ u d ub db _ hxw u0 u1 d0 d1 ?_ ?_ ?_ ?_
    · rw [gcell _ _ _ _ _ (by simp; omega)]; exact (World.cell?_alloc_old _ _ _ (by simp; omega)).trans hv1
    · exact Nat.lt_of_lt_of_le (by simp; omega) hsz
    · rw [gcell _ _ _ _ _ (by simp; omega)]; exact (World.cell?_alloc_old _ _ _ (by simp; omega)).trans hve1
    · exact Nat.lt_of_lt_of_le (by simp; omega) hsz
  go_wp2_with fail
  have hg := gcell
  have hf := gfrozen
  have hs1 : f < w1.heap.size + 1 := by omega
  refine wp_region_tail_below 9 (by kernel_rfl) (by kernel_rfl) ?_
  simp only [List.take_succ_cons, List.take_zero, List.drop_succ_cons, List.drop_zero]
  repeat (go_big_quiet_step (first
    | (go_at_call 41; exact Calls.regrown_of (hcl _ _))))
  refine wpQuiet_nil ?_
  intro _ hw'
  obtain ⟨⟨dq, osq⟩, hw''⟩ := hw'
  subst hw''
  have hb2 := trG (trA (tr0 w1) (.cells #[.int .u32 a, .int .u32 s, .int .u32 r, .int .u32 c] 28)) dq osq
  have hM2 := HF.out.map.below hb2 HF.out.ltm
  go_wp2_with (at_mapUpdate; refine wpList_put placeKey rfl _ _ _ _ rfl Try.underlying75 rfl hM2 off _ rfl rfl ⟨h0, h1⟩ ?_; intro w3 hM3 ho3)
  go_ret
  refine ⟨rfl, ?_, ((Off.ofBelow HB.out).next (Off.ofBelow hb2) (fun _ _ h => h)).trans ho3⟩
  exact HF.out.put (x := Rg.turn ⟨a, s, r, c⟩ u d) (Rg.turn_wf hxw u d) hfm hM3 ((ho3.block f (Nat.lt_of_lt_of_le hlf1 hb2.size) hfm).trans (hb2.block f hlf1))
end Go.Proofs.Ytafegmmcgghgaaa.B
namespace Go.Proofs.Ytafegmmcgghgaaa.B
set_option linter.unusedVariables false
set_option linter.unusedSimpArgs false
open Go.ChangeShapes Go.WideShapes Go.RowKit Go.Sort
section
variable {B g cap : Nat} {v : Value} {L : List (Int × Rg)} {w : World}
theorem aBitsBad (off u d : Int) (v : Value) (w : World) (h0 : 0 ≤ off) (h : (off % 4 != 0) = true) :
    Calls Try.prog 12 #[v, .int .u32 off, .int .u32 u, .int .u32 d] w fun e w' => e = .returned (.tuple #[v, .int .i64 11]) ∧ w = w' := by
  go_enter Try.func12, Try.ntmps12
  go_wp2_with fail
  refine (aFindBad off v w h0 h).mono ?_
  rintro e w' ⟨rfl, rfl⟩
  go_wp2_with fail
  go_ret2
  exact ⟨rfl, rfl⟩
theorem aBitsNone (off u d : Int) (h0 : 0 ≤ off) (h : (off % 4 != 0) = false) (hO : OwnA w B v L) (hno : ∀ p ∈ L, p.1 ≠ off) (hl : L.length < 100000) :
    Calls Try.prog 12 #[v, .int .u32 off, .int .u32 u, .int .u32 d] w fun e w' => e = .returned (.tuple #[v, .int .i64 10]) ∧ w = w' := by
  have C := Lib.hid (aFindNone off h0 h hO hno hl)
  clear hO hno
  go_enter Try.func12, Try.ntmps12
  go_wp2_with fail
  refine C.out.mono ?_
  rintro e w' ⟨rfl, rfl⟩
  go_wp2_with fail
  go_ret2
  exact ⟨rfl, rfl⟩
theorem aBits (off : Int) (i : Nat) (r : Rg) (u d : Int) (u0 : 0 ≤ u) (u1 : u < 4294967296) (d0 : 0 ≤ d) (d1 : d < 4294967296) (hr : r.wf) (h0 : 0 ≤ off) (h : (off % 4 != 0) = false) (hO : OwnA w B (.slice (some ⟨g, 0, none⟩) L.length cap) L) (hc : L.length ≤ cap) (hm : cap ≤ maxLen) (hi : L[i]? = some (off, r)) (hn : (L.map (·.1)).Nodup) (hl : L.length < 100000) :
    Calls Try.prog 12 #[.slice (some ⟨g, 0, none⟩) L.length cap, .int .u32 off, .int .u32 u, .int .u32 d] w
      fun e w' => ∃ g' cap', e = .returned (.tuple #[.slice (some ⟨g', 0, none⟩) L.length cap', .int .i64 0]) ∧ OwnA w' w.heap.size (.slice (some ⟨g', 0, none⟩) L.length cap') (L.set i (off, r.turn u d)) ∧ L.length ≤ cap' ∧ cap' ≤ maxLen ∧ Below w.heap.size w w' := by
  have C := Lib.hid (aFind off i r h0 h hO hc hm hi hn hl)
  have c1 := hO.cell hi 1 (by decide)
  have c2 := hO.cell hi 2 (by decide)
  have c3 := hO.cell hi 3 (by decide)
  have c4 := hO.cell hi 4 (by decide)
  simp only [al, List.getElem?_cons_zero, List.getElem?_cons_succ] at c1 c2 c3 c4
  have hil : i < L.length := (List.getElem?_eq_some_iff.1 hi).1
  have CW := Lib.hid (fun (w1 : World) (hO1 : OwnA w1 B (.slice (some ⟨g, 0, none⟩) L.length cap) L) => aWith off i (r.turn u d) r hO1 hc hm hi hl)
  have HO := Lib.hid hO
  unfold maxLen at hm
  clear hO hi hn
  obtain ⟨a, s, wr, cl⟩ := r
  obtain ⟨⟨a0, a1⟩, ⟨s0, s1⟩, ⟨r0, r1⟩, ⟨e0, e1⟩⟩ := hr
  simp only at a0 a1 s0 s1 r0 r1 e0 e1 c1 c2 c3 c4
  have CT := Lib.hid (rTurn a s wr cl u d w a0 a1 u0 u1 d0 d1)
  unfold Rg.turn Rg.val at CW
  unfold Rg.turn
  simp only at CW ⊢
  go_enter Try.func12, Try.ntmps12
  go_wp2_with fail
  refine C.out.mono ?_
  rintro e w' ⟨rfl, rfl⟩
  go_wp2_with fail
  refine CT.out.mono ?_
  rintro e w1 ⟨rfl, hb⟩
  go_wp2_with fail
  refine (CW.out _ (HO.out.below hb)).mono ?_
  rintro e w2 ⟨g', cap', rfl, O2, hc2, hm2, hb2⟩
  have B2 := tr hb hb2
  have O3 := O2.base (fun k hk => Nat.le_trans hb.size (O2.block hk).1)
  clear O2 hb hb2
  go_wp2_with fail
  go_ret2
  exact ⟨g', cap', rfl, O3, hc2, hm2, B2⟩
theorem aWriteBad (off x : Int) (v : Value) (w : World) (h0 : 0 ≤ off) (h : (off % 4 != 0) = true) :
    Calls Try.prog 10 #[v, .int .u32 off, .int .u32 x] w fun e w' => e = .returned (.tuple #[v, .int .i64 11]) ∧ w = w' := by
  go_enter Try.func10, Try.ntmps10
  go_wp2_with fail
  refine (aFindBad off v w h0 h).mono ?_
  rintro e w' ⟨rfl, rfl⟩
  go_wp2_with fail
  go_ret2
  exact ⟨rfl, rfl⟩
theorem aWriteNone (off x : Int) (h0 : 0 ≤ off) (h : (off % 4 != 0) = false) (hO : OwnA w B v L) (hno : ∀ p ∈ L, p.1 ≠ off) (hl : L.length < 100000) :
    Calls Try.prog 10 #[v, .int .u32 off, .int .u32 x] w fun e w' => e = .returned (.tuple #[v, .int .i64 10]) ∧ w = w' := by
  have C := Lib.hid (aFindNone off h0 h hO hno hl)
  clear hO hno
  go_enter Try.func10, Try.ntmps10
  go_wp2_with fail
  refine C.out.mono ?_
  rintro e w' ⟨rfl, rfl⟩
  go_wp2_with fail
  go_ret2
  exact ⟨rfl, rfl⟩
theorem aWrite (off : Int) (i : Nat) (r : Rg) (x : Int) (x0 : 0 ≤ x) (x1 : x < 4294967296) (ho : only r.r r.c = false) (hr : r.wf) (h0 : 0 ≤ off) (h : (off % 4 != 0) = false) (hO : OwnA w B (.slice (some ⟨g, 0, none⟩) L.length cap) L) (hc : L.length ≤ cap) (hm : cap ≤ maxLen) (hi : L[i]? = some (off, r)) (hn : (L.map (·.1)).Nodup) (hl : L.length < 100000) :
    Calls Try.prog 10 #[.slice (some ⟨g, 0, none⟩) L.length cap, .int .u32 off, .int .u32 x] w
      fun e w' => ∃ g' cap', e = .returned (.tuple #[.slice (some ⟨g', 0, none⟩) L.length cap', .int .i64 0]) ∧ OwnA w' w.heap.size (.slice (some ⟨g', 0, none⟩) L.length cap') (L.set i (off, r.put x)) ∧ L.length ≤ cap' ∧ cap' ≤ maxLen ∧ Below w.heap.size w w' := by
  have C := Lib.hid (aFind off i r h0 h hO hc hm hi hn hl)
  have c1 := hO.cell hi 1 (by decide)
  have c2 := hO.cell hi 2 (by decide)
  have c3 := hO.cell hi 3 (by decide)
  have c4 := hO.cell hi 4 (by decide)
  simp only [al, List.getElem?_cons_zero, List.getElem?_cons_succ] at c1 c2 c3 c4
  have hil : i < L.length := (List.getElem?_eq_some_iff.1 hi).1
  have CW := Lib.hid (fun (w1 : World) (hO1 : OwnA w1 B (.slice (some ⟨g, 0, none⟩) L.length cap) L) => aWith off i (r.put x) r hO1 hc hm hi hl)
  have HO := Lib.hid hO
  have HI := Lib.hid hi
  unfold maxLen at hm
  clear hO hi hn
  obtain ⟨a, s, wr, cl⟩ := r
  obtain ⟨⟨a0, a1⟩, ⟨s0, s1⟩, ⟨r0, r1⟩, ⟨e0, e1⟩⟩ := hr
  simp only at a0 a1 s0 s1 r0 r1 e0 e1 c1 c2 c3 c4 ho
  have CN := Lib.hid (by have := rOnly a s wr cl w; rw [ho] at this; exact this)
  have CT := Lib.hid (fun w => rStore a s wr cl x w a0 a1 r0 r1 e0 e1 x0 x1)
  unfold Rg.put Rg.val at CW
  unfold Rg.put
  simp only at CW ⊢
  go_enter Try.func10, Try.ntmps10
  go_wp2_with fail
  refine C.out.mono ?_
  rintro e w' ⟨rfl, rfl⟩
  go_wp2_with fail
  refine CN.out.mono ?_
  rintro e w0 ⟨rfl, hb0⟩
  have hO0 := HO.out.below hb0
  have c1 := hO0.cell HI.out 1 (by decide)
  have c2 := hO0.cell HI.out 2 (by decide)
  have c3 := hO0.cell HI.out 3 (by decide)
  have c4 := hO0.cell HI.out 4 (by decide)
  simp only [al, List.getElem?_cons_zero, List.getElem?_cons_succ] at c1 c2 c3 c4
  have HO0 := Lib.hid hO0
  clear hO0
  go_wp2_with fail
  refine (CT.out _).mono ?_
  rintro e w1 ⟨rfl, hb⟩
  have hb := tr hb0 hb
  clear hb0
  go_wp2_with fail
  refine (CW.out _ (HO.out.below hb)).mono ?_
  rintro e w2 ⟨g', cap', rfl, O2, hc2, hm2, hb2⟩
  have B2 := tr hb hb2
  have O3 := O2.base (fun k hk => Nat.le_trans hb.size (O2.block hk).1)
  clear O2 hb hb2
  go_wp2_with fail
  go_ret2
  exact ⟨g', cap', rfl, O3, hc2, hm2, B2⟩
theorem aWriteOnly (off : Int) (i : Nat) (r : Rg) (x : Int) (x0 : 0 ≤ x) (x1 : x < 4294967296) (ho : only r.r r.c = true) (hr : r.wf) (h0 : 0 ≤ off) (h : (off % 4 != 0) = false) (hO : OwnA w B (.slice (some ⟨g, 0, none⟩) L.length cap) L) (hc : L.length ≤ cap) (hm : cap ≤ maxLen) (hi : L[i]? = some (off, r)) (hn : (L.map (·.1)).Nodup) (hl : L.length < 100000) :
    Calls Try.prog 10 #[.slice (some ⟨g, 0, none⟩) L.length cap, .int .u32 off, .int .u32 x] w fun e w' => e = .returned (.tuple #[.slice (some ⟨g, 0, none⟩) L.length cap, .int .i64 12]) ∧ Below w.heap.size w w' := by
  have C := Lib.hid (aFind off i r h0 h hO hc hm hi hn hl)
  have c1 := hO.cell hi 1 (by decide)
  have c2 := hO.cell hi 2 (by decide)
  have c3 := hO.cell hi 3 (by decide)
  have c4 := hO.cell hi 4 (by decide)
  simp only [al, List.getElem?_cons_zero, List.getElem?_cons_succ] at c1 c2 c3 c4
  have hil : i < L.length := (List.getElem?_eq_some_iff.1 hi).1
  have CW := Lib.hid (fun (w1 : World) (hO1 : OwnA w1 B (.slice (some ⟨g, 0, none⟩) L.length cap) L) => aWith off i (r.put x) r hO1 hc hm hi hl)
  have HO := Lib.hid hO
  have HI := Lib.hid hi
  unfold maxLen at hm
  clear hO hi hn
  obtain ⟨a, s, wr, cl⟩ := r
  obtain ⟨⟨a0, a1⟩, ⟨s0, s1⟩, ⟨r0, r1⟩, ⟨e0, e1⟩⟩ := hr
  simp only at a0 a1 s0 s1 r0 r1 e0 e1 c1 c2 c3 c4 ho
  have CN := Lib.hid (by have := rOnly a s wr cl w; rw [ho] at this; exact this)
  have CT := Lib.hid (fun w => rStore a s wr cl x w a0 a1 r0 r1 e0 e1 x0 x1)
  go_enter Try.func10, Try.ntmps10
  go_wp2_with fail
  refine C.out.mono ?_
  rintro e w' ⟨rfl, rfl⟩
  go_wp2_with fail
  refine CN.out.mono ?_
  rintro e w0 ⟨rfl, hb0⟩
  go_wp2_with fail
  go_ret2
  exact ⟨rfl, hb0⟩
end
end Go.Proofs.Ytafegmmcgghgaaa.B
namespace Go.Proofs.Ytafegmmcgghgaaa.B
set_option linter.unusedVariables false
set_option linter.unusedSimpArgs false
open Go.ChangeShapes Go.WideShapes Go.RowKit Go.Sort
theorem fChangeBad (off : Int) (fv : Value) (fb : Nat) (w : World) (h0 : 0 ≤ off) (h : (off % 4 != 0) = true) :
    Calls Try.prog 37 #[.pointer (some ⟨fb, 0, none⟩), .int .u32 off, fv] w fun e w' => e = .returned (.int .i64 11) ∧ Below w.heap.size w w' := by
  go_enter Try.func37, Try.ntmps37
  go_wp2_with fail
  refine (fFindBad _ _ _ h0 h).mono ?_
  rintro e w1 ⟨rfl, hb⟩
  go_wp2_with fail
  go_ret
  exact ⟨rfl, trA hb _⟩
theorem fChangeNone (off : Int) (fv : Value) (f m : Nat) (M : List (Int × Rg)) (w : World) (h0 : 0 ≤ off) (h1 : off < 4294967296) (h : (off % 4 != 0) = false) (hF : FileAt w f m M) (hno : ∀ p ∈ M, p.1 ≠ off) :
    Calls Try.prog 37 #[.pointer (some ⟨f, 0, none⟩), .int .u32 off, fv] w fun e w' => e = .returned (.int .i64 10) ∧ Below w.heap.size w w' := by
  have HF := Lib.hid hF
  have HN := Lib.hid hno
  clear hF hno
  go_enter Try.func37, Try.ntmps37
  go_wp2_with fail
  refine (fFindNone off f m M _ h0 h1 h HF.out HN.out).mono ?_
  rintro e w1 ⟨rfl, hb⟩
  go_wp2_with fail
  go_ret
  exact ⟨rfl, trA hb _⟩
theorem fTurn (off : Int) (x : Rg) (u d : Int) (f m : Nat) (M : List (Int × Rg)) (w : World) (u0 : 0 ≤ u) (u1 : u < 4294967296) (d0 : 0 ≤ d) (d1 : d < 4294967296) (h0 : 0 ≤ off) (h1 : off < 4294967296) (h : (off % 4 != 0) = false) (hF : FileAt w f m M) (hin : (off, x) ∈ M) :
    Calls Try.prog 13 #[.pointer (some ⟨f, 0, none⟩), .int .u32 off, .int .u32 u, .int .u32 d] w
      fun e w' => e = .returned (.int .i64 0) ∧ FileAt w' f m (putF off (x.turn u d) M) ∧ Off (· = m) w w' := by
  have hmf : ∀ (fn : Fn) (first cap : Array Value) (w : World), (Instr.makeFunc fn first cap).run Try.prog w = .ok (.func fn first cap) w := fun _ _ _ _ => rfl
  have hlm := hF.ltm
  have hb := trA (trA (tr0 w) (.cells #[.int .u32 u] 26 (0, 0))) (.cells #[.int .u32 d] 26 (0, 0))
  have hv := blk_cell (b2_0 w (.cells #[.int .u32 u] 26 (0, 0)) (.cells #[.int .u32 d] 26 (0, 0))) 0
  have hve := blk_cell (b2_1 w (.cells #[.int .u32 u] 26 (0, 0)) (.cells #[.int .u32 d] 26 (0, 0))) 0
  simp only [List.getElem?_toArray, List.getElem?_cons_zero] at hv hve
  have C := Lib.hid (fChangeT off x u d w.heap.size (w.heap.size + 1) f m M _ u0 u1 d0 d1 h0 h1 h (hF.below hb) hin hv (by simp; omega) hve (by simp))
  have HB := Lib.hid hb
  clear hF hb hv hve
  go_enter Try.func13, Try.ntmps13
  go_wp2_with fail
  refine C.out.mono ?_
  rintro e w3 ⟨rfl, hF3, ho3⟩
  go_wp2_with fail
  go_ret
  exact ⟨rfl, hF3, (Off.ofBelow HB.out).trans ho3⟩
theorem fTurnBad (off u d : Int) (fb : Nat) (w : World) (h0 : 0 ≤ off) (h : (off % 4 != 0) = true) :
    Calls Try.prog 13 #[.pointer (some ⟨fb, 0, none⟩), .int .u32 off, .int .u32 u, .int .u32 d] w fun e w' => e = .returned (.int .i64 11) ∧ Below w.heap.size w w' := by
  have hmf : ∀ (fn : Fn) (first cap : Array Value) (w : World), (Instr.makeFunc fn first cap).run Try.prog w = .ok (.func fn first cap) w := fun _ _ _ _ => rfl
  go_enter Try.func13, Try.ntmps13
  go_wp2_with fail
  refine (fChangeBad _ _ _ _ h0 h).mono ?_
  rintro e w1 ⟨rfl, hb⟩
  go_wp2_with fail
  go_ret
  exact ⟨rfl, tr (trA (trA (tr0 w) _) _) hb⟩
theorem fTurnNone (off u d : Int) (f m : Nat) (M : List (Int × Rg)) (w : World) (h0 : 0 ≤ off) (h1 : off < 4294967296) (h : (off % 4 != 0) = false) (hF : FileAt w f m M) (hno : ∀ p ∈ M, p.1 ≠ off) :
    Calls Try.prog 13 #[.pointer (some ⟨f, 0, none⟩), .int .u32 off, .int .u32 u, .int .u32 d] w fun e w' => e = .returned (.int .i64 10) ∧ Below w.heap.size w w' := by
  have hmf : ∀ (fn : Fn) (first cap : Array Value) (w : World), (Instr.makeFunc fn first cap).run Try.prog w = .ok (.func fn first cap) w := fun _ _ _ _ => rfl
  have HF := Lib.hid (hF.below (trA (trA (tr0 w) (.cells #[.int .u32 u] 26 (0, 0))) (.cells #[.int .u32 d] 26 (0, 0))))
  have HN := Lib.hid hno
  clear hF hno
  go_enter Try.func13, Try.ntmps13
  go_wp2_with fail
  refine (fChangeNone off _ f m M _ h0 h1 h HF.out HN.out).mono ?_
  rintro e w1 ⟨rfl, hb⟩
  go_wp2_with fail
  go_ret
  exact ⟨rfl, tr (trA (trA (tr0 w) _) _) hb⟩
theorem fStoreBad (off v : Int) (fb : Nat) (w : World) (h0 : 0 ≤ off) (h : (off % 4 != 0) = true) :
    Calls Try.prog 11 #[.pointer (some ⟨fb, 0, none⟩), .int .u32 off, .int .u32 v] w fun e w' => e = .returned (.int .i64 11) ∧ Below w.heap.size w w' := by
  have hmf : ∀ (fn : Fn) (first cap : Array Value) (w : World), (Instr.makeFunc fn first cap).run Try.prog w = .ok (.func fn first cap) w := fun _ _ _ _ => rfl
  go_enter Try.func11, Try.ntmps11
  go_wp2_with fail
  refine (fFindBad _ _ _ h0 h).mono ?_
  rintro e w1 ⟨rfl, hb⟩
  go_wp2_with fail
  refine (fChangeBad _ _ _ _ h0 h).mono ?_
  rintro e w2 ⟨rfl, hb2⟩
  go_wp2_with fail
  go_ret
  exact ⟨rfl, tr (trA (tr (trA (tr0 w) _) hb) _) hb2⟩
theorem fStoreNone (off v : Int) (f m : Nat) (M : List (Int × Rg)) (w : World) (h0 : 0 ≤ off) (h1 : off < 4294967296) (h : (off % 4 != 0) = false) (hF : FileAt w f m M) (hno : ∀ p ∈ M, p.1 ≠ off) :
    Calls Try.prog 11 #[.pointer (some ⟨f, 0, none⟩), .int .u32 off, .int .u32 v] w fun e w' => e = .returned (.int .i64 10) ∧ Below w.heap.size w w' := by
  have hmf : ∀ (fn : Fn) (first cap : Array Value) (w : World), (Instr.makeFunc fn first cap).run Try.prog w = .ok (.func fn first cap) w := fun _ _ _ _ => rfl
  have HF := Lib.hid hF
  have HN := Lib.hid hno
  clear hF hno
  go_enter Try.func11, Try.ntmps11
  go_wp2_with fail
  refine (fFindNone off f m M _ h0 h1 h (HF.out.below (trA (tr0 w) _)) HN.out).mono ?_
  rintro e w1 ⟨rfl, hb⟩
  have hb1 := tr (trA (tr0 w) _) hb
  clear hb
  go_wp2_with fail
  refine (fChangeNone off _ f m M _ h0 h1 h (HF.out.below (trA hb1 _)) HN.out).mono ?_
  rintro e w2 ⟨rfl, hb2⟩
  go_wp2_with fail
  go_ret
  exact ⟨rfl, tr (trA hb1 _) hb2⟩
theorem fStoreOnly (off : Int) (x : Rg) (v : Int) (f m : Nat) (M : List (Int × Rg)) (w : World) (h0 : 0 ≤ off) (h : (off % 4 != 0) = false) (hF : FileAt w f m M) (hin : (off, x) ∈ M) (ho : only x.r x.c = true) :
    Calls Try.prog 11 #[.pointer (some ⟨f, 0, none⟩), .int .u32 off, .int .u32 v] w fun e w' => e = .returned (.int .i64 12) ∧ Below w.heap.size w w' := by
  have hF2 := hF.below (trA (tr0 w) (.cells #[.int .u32 v] 26 (0, 0)))
  have C := Lib.hid (fFind off x f m M _ h0 h hF2 hin)
  clear hF hF2 hin
  obtain ⟨a, s, r, c⟩ := x
  unfold Rg.val at C
  simp only at ho
  go_enter Try.func11, Try.ntmps11
  go_wp2_with fail
  refine C.out.mono ?_
  rintro e w1 ⟨rfl, hb⟩
  go_wp2_with fail
  refine (Only a s r c _).mono ?_
  rintro e w2 ⟨rfl, hb2⟩
  rw [ho]
  go_wp2_with fail
  go_ret
  exact ⟨rfl, tr (trA (tr (trA (tr0 w) _) hb) _) hb2⟩
end Go.Proofs.Ytafegmmcgghgaaa.B
namespace Go.Proofs.Ytafegmmcgghgaaa.B
set_option linter.unusedVariables false
set_option linter.unusedSimpArgs false
open Go.ChangeShapes Go.WideShapes Go.RowKit Go.Sort Go.MapKept
def Rg.again (x : Rg) : Rg := ⟨x.s, x.s, x.r, x.c⟩
theorem Rg.again_wf {x : Rg} (h : x.wf) : x.again.wf := ⟨h.2.1, h.2.1, h.2.2.1, h.2.2.2⟩
theorem Rg.again_same {x : Rg} (h : x.v = x.s) : x.again = x := by cases x; simp only at h; subst h; rfl
theorem FileAt.perm {w : World} {f m : Nat} {M M' : List (Int × Rg)} (h : FileAt w f m M) (hp : M.Perm M') : FileAt w f m M' :=
  ⟨h.cell, h.map.perm (hp.map _), fun p hq => h.wf p (hp.mem_iff.2 hq)⟩
theorem FileAt.keys {w : World} {f m : Nat} {M : List (Int × Rg)} (h : FileAt w f m M) : (M.map (·.1)).Nodup := by
  have := h.map.nodup
  rw [List.map_map] at this
  exact this
theorem split_hitR {x : Int} {v : Rg} : ∀ {M : List (Int × Rg)}, (M.map (·.1)).Nodup → (x, v) ∈ M → M.Perm ((x, v) :: M.filter fun p => decide (p.1 ≠ x))
  | [], _, h => by cases h
  | q :: M, hn, h => by
    simp only [List.map_cons, List.nodup_cons] at hn
    rcases List.mem_cons.1 h with rfl | h'
    · have : M.filter (fun p => decide (p.1 ≠ x)) = M := List.filter_eq_self.2 fun p hp => by
        have : p.1 ≠ x := fun e => hn.1 (by rw [← e]; exact List.mem_map.2 ⟨p, hp, rfl⟩)
        simpa using this
      rw [List.filter_cons, if_neg (by simp), this]
    · have hq : q.1 ≠ x := fun e => hn.1 (by rw [e]; exact List.mem_map.2 ⟨_, h', rfl⟩)
      rw [List.filter_cons, if_pos (by simpa using hq)]
      exact ((split_hitR hn.2 h').cons q).trans (List.Perm.swap _ _ _)
theorem key_val {M : List (Int × Rg)} (hn : (M.map (·.1)).Nodup) {p q : Int × Rg} (hp : p ∈ M) (hq : q ∈ M) (e : p.1 = q.1) : p = q := by
  induction M with
  | nil => cases hp
  | cons a M ih =>
    simp only [List.map_cons, List.nodup_cons] at hn
    rcases List.mem_cons.1 hp with rfl | hp' <;> rcases List.mem_cons.1 hq with rfl | hq'
    · rfl
    · exact absurd (List.mem_map.2 ⟨q, hq', e.symm⟩) hn.1
    · exact absurd (List.mem_map.2 ⟨p, hp', e⟩) hn.1
    · exact ih hn.2 hp' hq'
theorem putF_perm {M : List (Int × Rg)} {x : Int} {r : Rg} (hn : (M.map (·.1)).Nodup) (hin : (x, r) ∈ M) (y : Rg) : (putF x y M).Perm (M.map fun p => if p.1 = x then (p.1, y) else p) := by
  have h1 := (split_hitR hn hin).map fun p => if p.1 = x then (p.1, y) else p
  rw [List.map_cons, if_pos rfl] at h1
  have h2 : (M.filter fun p => decide (p.1 ≠ x)).map (fun p => if p.1 = x then (p.1, y) else p) = M.filter fun p => decide (p.1 ≠ x) := by
    conv => rhs; rw [← List.map_id (M.filter fun p => decide (p.1 ≠ x))]
    refine List.map_congr_left fun p hp => ?_
    have : p.1 ≠ x := by simpa using (List.mem_filter.1 hp).2
    rw [if_neg this]; rfl
  rw [h2] at h1
  exact h1.symm
/-- Registers of these offsets as behind a reset. -/
def ag (T : List Int) (p : Int × Rg) : Int × Rg := if p.1 ∈ T then (p.1, p.2.again) else p
theorem ag_key (T : List Int) (p : Int × Rg) : (ag T p).1 = p.1 := by unfold ag; split <;> rfl
theorem ag_keys (T : List Int) (M : List (Int × Rg)) : (M.map (ag T)).map (·.1) = M.map (·.1) := by
  rw [List.map_map]; exact List.map_congr_left fun p _ => ag_key T p
theorem ag_nil (M : List (Int × Rg)) : M.map (ag []) = M := by
  conv => rhs; rw [← List.map_id M]
  exact List.map_congr_left fun p _ => rfl
theorem ag_in {T : List Int} {M : List (Int × Rg)} {x : Int} {r : Rg} (hin : (x, r) ∈ M) (hx : x ∉ T) : (x, r) ∈ M.map (ag T) := List.mem_map.2 ⟨(x, r), hin, if_neg hx⟩
theorem ag_next {T : List Int} {M : List (Int × Rg)} {x : Int} {r : Rg} (hn : (M.map (·.1)).Nodup) (hin : (x, r) ∈ M) (hx : x ∉ T) :
    ((M.map (ag T)).map fun p => if p.1 = x then (p.1, r.again) else p) = M.map (ag (T ++ [x])) := by
  rw [List.map_map]
  refine List.map_congr_left fun p hp => ?_
  show (if (ag T p).1 = x then ((ag T p).1, r.again) else ag T p) = ag (T ++ [x]) p
  rw [ag_key]
  by_cases e : p.1 = x
  · have : p = (x, r) := key_val hn hp hin e
    subst this
    rw [if_pos rfl]; unfold ag; rw [if_pos (by simp)]
  · rw [if_neg e]; unfold ag
    by_cases hT : p.1 ∈ T
    · rw [if_pos hT, if_pos (by simp [hT])]
    · rw [if_neg hT, if_neg (by simp [hT, e])]
theorem ag_skip {T : List Int} {M : List (Int × Rg)} {x : Int} {r : Rg} (hn : (M.map (·.1)).Nodup) (hin : (x, r) ∈ M) (hx : x ∉ T) (hr : r.again = r) : M.map (ag T) = M.map (ag (T ++ [x])) := by
  refine List.map_congr_left fun p hp => ?_
  unfold ag
  by_cases e : p.1 = x
  · have : p = (x, r) := key_val hn hp hin e
    subst this
    rw [if_neg hx, if_pos (by simp), hr]
  · by_cases hT : p.1 ∈ T
    · rw [if_pos hT, if_pos (by simp [hT])]
    · rw [if_neg hT, if_neg (by simp [hT, e])]
theorem ag_all {T : List Int} {M : List (Int × Rg)} (h : ∀ p ∈ M, p.1 ∈ T) : M.map (ag T) = M.map fun p => (p.1, p.2.again) :=
  List.map_congr_left fun p hp => if_pos (h p hp)
set_option maxRecDepth 100000 in
set_option maxHeartbeats 3200000 in
theorem fAgain (hSort : SortSaid) (hNil : SortNil) {w : World} {f m : Nat} {M : List (Int × Rg)} (h : FileAt w f m M) (hl : M.length < 100000) :
    Calls Try.prog 14 #[.pointer (some ⟨f, 0, none⟩)] w
      fun e w' => e = .returned (.tuple #[]) ∧ FileAt w' f m (M.map fun p => (p.1, p.2.again)) ∧ Off (· = m) w w' := by
  have hn := h.keys
  have HN := Lib.hid hn
  have hml := h.ltm
  have hfm : f ≠ m := fun e => by obtain ⟨_, _, hb, _⟩ := h.map; rw [← e, h.cell] at hb; cases hb
  have CO := Lib.hid (fOffsets hSort hNil h hl)
  have HF := Lib.hid h
  clear hn h
  go_enter Try.func14, Try.ntmps14
  go_wp2_with fail
  go_step3
  go_wp2_with fail
  go_step3
  go_wp2_with fail
  refine CO.out.mono ?_
  rintro e w1 ⟨V, xs, rfl, hS, hp, hsrt, hB⟩
  have hF1 := HF.out.below hB
  have hO1 : Off (· = m) w w1 := Off.ofBelow hB
  have hnd : xs.Nodup := hp.nodup_iff.2 HN.out
  have hall : ∀ p ∈ M, p.1 ∈ xs := fun p hp' => hp.mem_iff.2 (List.mem_map.2 ⟨p, hp', rfl⟩)
  have hkey : ∀ x ∈ xs, ∃ r, (x, r) ∈ M := fun x hx => by
    obtain ⟨⟨a, r⟩, hq, rfl⟩ := List.mem_map.1 (hp.mem_iff.1 hx)
    exact ⟨r, hq⟩
  have hlen : xs.length < 100000 := by have := hp.length_eq; simp at this; omega
  have HND := Lib.hid hnd
  have HALL := Lib.hid hall
  have HKEY := Lib.hid hkey
  clear CO HF hp hsrt hnd hall hkey hB
  rcases hS with ⟨rfl, rfl⟩ | ⟨g, cap, rfl, hg, hnc, hcm, hD⟩
  · go_wp2_with fail
    refine wp_loop_rounds 1 ?_
    rw [rounds_succ]
    go_wp2_with fail
    rw [Exit.noGoto_normal]
    go_end0
    refine ⟨rfl, ?_, hO1⟩
    have : M = [] := by
      cases M with
      | nil => rfl
      | cons p M => exact absurd (HALL.out p List.mem_cons_self) (by simp)
    subst this
    exact hF1
  · unfold maxLen at hcm
    go_wp2_with fail
    go_loopw [8] (fun i wr => ∃ k : Nat, k ≤ xs.length ∧ i = .int .i64 k ∧ FileAt wr f m (M.map (ag (xs.take k))) ∧ Off (· = m) w wr ∧ DAt wr g xs.toArray) (fun i wr => xs.length - (intOf i).toNat)
    case atStart => exact ⟨0, by omega, rfl, by rw [List.take_zero, ag_nil]; exact hF1, hO1, hD⟩
    case round =>
      clear hF1 hO1 hD
      obtain ⟨k, hk, rfl, hF, hO, hD⟩ := hrel
      by_cases hlt : k < xs.length
      · obtain ⟨x, hx⟩ : ∃ x, xs[k]? = some x := ⟨xs[k], List.getElem?_eq_getElem hlt⟩
        have hxm : x ∈ xs := List.mem_of_getElem? hx
        obtain ⟨r, hr⟩ := HKEY.out x hxm
        have hxt : xs.take (k + 1) = xs.take k ++ [x] := by
          rw [List.take_add_one, hx]; rfl
        have hno : x ∉ xs.take k := by
          intro hin
          have := HND.out
          rw [← List.take_append_drop k xs, List.nodup_append] at this
          refine this.2.2 x hin x ?_ rfl
          rw [List.drop_eq_getElem_cons hlt]
          have : xs[k] = x := by rw [List.getElem?_eq_getElem hlt] at hx; exact Option.some.inj hx
          rw [this]; exact List.mem_cons_self
        have c1 := hD.c k (by simpa using hlt)
        have hxk : xs.toArray[k]! = x := by
          rw [getElem!_pos xs.toArray k (by simpa using hlt)]
          have : xs[k] = x := by rw [List.getElem?_eq_getElem hlt] at hx; exact Option.some.inj hx
          simpa using this
        rw [hxk] at c1
        have hcf := blk_cell hF.cell 0
        simp only [List.getElem?_toArray, List.getElem?_cons_zero] at hcf
        have hin2 := ag_in hr hno
        have HF := Lib.hid hF
        have HO := Lib.hid hO
        have HD := Lib.hid hD
        have hM := hF.map
        have hin' := mem_val hin2
        have hrw := hF.wf _ hin2
        have hfl := hF.ltf
        clear hF hO hD hx hxk
        obtain ⟨v, s, wm, c⟩ := r
        unfold Rg.val at hin'
        have hok : ok32 x := hM.oks _ hin'
        have hkn : ((M.map (ag (xs.take k))).map (·.1)).Nodup := by rw [ag_keys]; exact HN.out
        have hgm : g ≠ m := by omega
        cases hvs : (v == s)
        · have HP := Lib.hid (putF_perm hkn hin2 (Rg.again ⟨v, s, wm, c⟩))
          have HX := Lib.hid (ag_next HN.out hr hno)
          have HW := Lib.hid (Rg.again_wf hrw)
          clear hkn hin2 hr hno hrw
          go_wp2_with (at_lookup; refine wpList_hit placeKey rfl _ _ _ rfl Try.underlying75 rfl hM x _ rfl hin' ?_)
          have hb1 := trA (tr0 wr) (.cells #[.int .u32 v, .int .u32 s, .int .u32 wm, .int .u32 c] 28 (0, 0))
          have hXb := blk_new wr (.cells #[.int .u32 v, .int .u32 s, .int .u32 wm, .int .u32 c] 28 (0, 0))
          have y0 := blk_cell hXb 0
          have y1 := blk_cell hXb 1
          have y2 := blk_cell hXb 2
          have y3 := blk_cell hXb 3
          simp only [List.getElem?_toArray, List.getElem?_cons_zero, List.getElem?_cons_succ] at y0 y1 y2 y3
          have hyl := blk_lt hXb
          have hcf2 := (hb1.cell (p := ⟨f, 0, none⟩) hfl).trans hcf
          have hfl2 : f < (wr.alloc (.cells #[.int .u32 v, .int .u32 s, .int .u32 wm, .int .u32 c] 28 (0, 0))).heap.size := by have := hb1.size; omega
          clear hXb c1 hcf hM hin'
          generalize wr.alloc (.cells #[.int .u32 v, .int .u32 s, .int .u32 wm, .int .u32 c] 28 (0, 0)) = W at *
          have hg2 := gcell
          have hf2 := gfrozen
          refine wp_region_tail_below 8 (by kernel_rfl) (by kernel_rfl) ?_
          simp only [List.take_succ_cons, List.take_zero, List.drop_succ_cons, List.drop_zero]
          repeat (go_big_quiet_step (first
            | (go_at_call 45; exact Calls.regrown_of (Again v s wm c _))))
          refine wpQuiet_nil ?_
          intro _ hw'
          obtain ⟨⟨dq, osq⟩, hw''⟩ := hw'
          subst hw''
          have hb2 := trG hb1 dq osq
          have hM2 := HF.out.map.below hb2 HF.out.ltm
          clear y0 y1 y2 y3 hcf2 hg2 hf2
          generalize grow (redrawn W dq) osq = W2 at *
          go_wp2_with (at_mapUpdate; refine wpList_put placeKey rfl _ _ _ _ rfl Try.underlying75 rfl hM2 x (Rg.again ⟨v, s, wm, c⟩).val rfl rfl hok ?_; intro w3 hM3 ho3)
          have hFN : FileAt w3 f m (M.map (ag (xs.take (k + 1)))) := by
            rw [hxt, ← HX.out]
            exact (HF.out.put HW.out hfm hM3 ((ho3.block f (Nat.lt_of_lt_of_le hfl hb2.size) hfm).trans (hb2.block f hfl))).perm HP.out
          have hON := (HO.out.trans (Off.ofBelow hb2)).trans ho3
          have hDN := (HD.out.below hb2).off ho3 hgm
          clear HF HO HD hM2 hM3 hb2 ho3
          go_wp2_with fail
          go_roundw
          case rel => exact ⟨k + 1, by omega, by go_num, hFN, hON, hDN⟩
          case measure => simp [intOf]; omega
        · have hvs2 : v = s := by simpa using hvs
          have HX := Lib.hid (ag_skip HN.out hr hno (Rg.again_same (x := ⟨v, s, wm, c⟩) hvs2))
          clear hkn hin2 hr hno hrw hvs2
          go_wp2_with (at_lookup; refine wpList_hit placeKey rfl _ _ _ rfl Try.underlying75 rfl hM x _ rfl hin' ?_)
          have hb1 := trA (tr0 wr) (.cells #[.int .u32 v, .int .u32 s, .int .u32 wm, .int .u32 c] 28 (0, 0))
          have hFN : FileAt (wr.alloc (.cells #[.int .u32 v, .int .u32 s, .int .u32 wm, .int .u32 c] 28 (0, 0))) f m (M.map (ag (xs.take (k + 1)))) := by
            rw [hxt, ← HX.out]
            exact HF.out.below hb1
          have hON := HO.out.trans (Off.ofBelow hb1)
          have hDN := HD.out.below hb1
          go_roundw
          case rel => exact ⟨k + 1, by omega, by go_num, hFN, hON, hDN⟩
          case measure => simp [intOf]; omega
      · obtain rfl : k = xs.length := by omega
        have hFin : FileAt wr f m (M.map fun p => (p.1, p.2.again)) := by
          rw [List.take_length] at hF
          rw [← ag_all HALL.out]; exact hF
        have HF := Lib.hid hFin
        clear hF hFin
        go_wp2_with fail
        rw [Exit.noGoto_normal]
        go_end0
        exact ⟨rfl, HF.out, hO⟩
end Go.Proofs.Ytafegmmcgghgaaa.B
namespace Go.Proofs.Ytafegmmcgghgaaa.B
set_option linter.unusedVariables false
set_option linter.unusedSimpArgs false
open Go.ChangeShapes Go.WideShapes Go.RowKit Go.Sort
def agA (p : Int × Rg) : Int × Rg := (p.1, p.2.again)
set_option maxRecDepth 100000 in
set_option maxHeartbeats 3200000 in
theorem aAll {B : Nat} {v : Value} {L : List (Int × Rg)} {w : World} (hO : OwnA w B v L) (hl : L.length < 100000) :
    Calls Try.prog 15 #[v] w fun e w' => ∃ v', e = .returned v' ∧ OwnA w' w.heap.size v' (L.map agA) ∧ Below w.heap.size w w' := by
  rcases hO.cases with ⟨rfl, rfl⟩ | ⟨g, cap, rfl, hB, hnc, hcm, hgl, _⟩
  · go_enter Try.func15, Try.ntmps15
    go_wp2_with fail
    refine wp_loop_rounds 1 ?_
    rw [rounds_succ]
    go_wp2_with fail
    go_ret
    exact ⟨_, rfl, ownA_nil _ _, tr0 w⟩
  · unfold maxLen at hcm
    obtain ⟨i0, hi0, hz0, hz1, hz2⟩ := info_parts infoA
    have HI0 := Lib.hid hi0
    have HZ0 := Lib.hid hz0
    have HZ1 := Lib.hid hz1
    have HZ2 := Lib.hid hz2
    clear hi0 hz0 hz1 hz2
    have HO0 := Lib.hid hO
    clear hO
    go_enter Try.func15, Try.ntmps15
    go_wp2_with fail
    go_loopw [3, 4] (fun u i wr => ∃ k : Nat, k ≤ L.length ∧ i = .int .i64 k ∧ OwnA wr w.heap.size u ((L.take k).map agA) ∧ Below w.heap.size w wr) (fun u i wr => L.length - (intOf i).toNat)
    case atStart => exact ⟨0, by omega, rfl, by rw [List.take_zero]; exact ownA_nil _ _, tr0 w⟩
    case round =>
      obtain ⟨k, hk, rfl, O, hBl⟩ := hrel
      by_cases hlt : k < L.length
      · obtain ⟨p, hp⟩ : ∃ p, L[k]? = some p := ⟨L[k], List.getElem?_eq_getElem hlt⟩
        have hxt : (L.take (k + 1)).map agA = (L.take k).map agA ++ [agA p] := by rw [List.take_add_one, hp]; simp
        have HL := Lib.hid (HO0.out.below hBl)
        have HP := Lib.hid hp
        have c0 := HL.out.cell hp 0 (by decide)
        have c1 := HL.out.cell hp 1 (by decide)
        have c2 := HL.out.cell hp 2 (by decide)
        have c3 := HL.out.cell hp 3 (by decide)
        have c4 := HL.out.cell hp 4 (by decide)
        obtain ⟨off, ⟨a, s, wm, c⟩⟩ := p
        simp only [al, List.getElem?_cons_zero, List.getElem?_cons_succ, Nat.add_zero] at c0 c1 c2 c3 c4
        have HO := Lib.hid O
        have HBl := Lib.hid hBl
        have HX := Lib.hid hxt
        have hlo : ((L.take k).map agA).length = k := by simp; omega
        have hsz : w.heap.size ≤ wr.heap.size := hBl.size
        clear O hp hxt hBl
        go_wp2_with fail
        go_region_law (first
          | (go_simp
             refine (rAgain a s wm c _).mono ?_
             rintro e w6 ⟨rfl, hb6⟩
             dsimp only
             have hb7 := tr (trD (tr0 wr)) hb6
             clear c0 c1 c2 c3 c4
             have c0 := (HL.out.below hb7).cell HP.out 0 (by decide)
             simp only [al, List.getElem?_cons_zero, Nat.add_zero] at c0)
          | (refine step_append_own rfl (.tmp 11) (.tmp 24) 25 rfl w.heap.size 81 i0 _ 5 20 Try.underlying25 HI0.out HZ0.out HZ1.out HZ2.out rfl (by decide) _ k _ rfl (by have := (HO.out.below hb7).below (trA (tr0 w6) (.cells (al (agA (off, ⟨a, s, wm, c⟩))).toArray 81 (0, 0))); unfold OwnA at this; rw [hlo] at this; exact this) ⟨w6.heap.size, 0, none⟩ 1 1 (al (agA (off, ⟨a, s, wm, c⟩))) rfl rfl (fun j u hu => by rw [Addr.add_lit, Nat.zero_add, cell_of_row _ w6.heap.size j _ _ _ (blk_new w6 _)]; have hu2 : ([.int .u32 off, .int .u32 s, .int .u32 s, .int .u32 wm, .int .u32 c] : List Value)[j]? = some u := hu; simpa using hu2) (al_one _) (by unfold maxLen; omega) (by omega) (by have := hb7.size; simp; omega) ?_
             intro v' w8 h8 g8 _ _))
        all_goals
          have O8 : OwnA w8 w.heap.size v' ((L.take (k + 1)).map agA) := by
            rw [HX.out]
            unfold OwnA
            rw [List.length_append, hlo, List.flatMap_append]
            simpa using h8
          have B8 := Off.toBelow (trA (tr HBl.out hb7) (.cells (al (agA (off, ⟨a, s, wm, c⟩))).toArray 81 (0, 0))) (Off.ofGrown g8 fun k e => e) (fun b hb e => by have := (HO.out.block e).1; omega) (Nat.le_refl _)
          clear HO h8 g8 hb7 hb6
          go_wp2_with fail
          go_roundw
          case rel => exact ⟨k + 1, by omega, by go_num, O8, B8⟩
          case measure => simp [intOf]; omega
      · obtain rfl : k = L.length := by omega
        rw [List.take_length] at O
        go_wp2_with fail
        go_ret
        exact ⟨_, rfl, O, hBl⟩
end Go.Proofs.Ytafegmmcgghgaaa.B
namespace Go.Proofs.Ytafegmmcgghgaaa.B
set_option linter.unusedVariables false
set_option linter.unusedSimpArgs false
open Go.ChangeShapes Go.WideShapes Go.RowKit Go.Sort
def insA (x : Int) (r : Rg) : List (Int × Rg) → List (Int × Rg)
  | [] => [(x, r)]
  | p :: L => if x < p.1 then (x, r) :: p :: L else p :: insA x r L
theorem aDefineBad (off : Int) (r : Rg) (v : Value) (w : World) (h0 : 0 ≤ off) (h : (off % 4 != 0) = true) :
    Calls Try.prog 6 #[v, .int .u32 off, r.val] w fun e w' => e = .returned (.tuple #[v, .int .i64 11]) ∧ Below w.heap.size w w' := by
  unfold Rg.val
  go_enter Try.func6, Try.ntmps6
  go_wp2_with fail
  refine (aFindBad off v _ h0 h).mono ?_
  rintro e w' ⟨rfl, rfl⟩
  go_wp2_with fail
  go_ret2
  exact ⟨rfl, trA (tr0 w) _⟩
theorem aDefineMeet (off : Int) (i : Nat) (r x : Rg) {B g cap : Nat} {L : List (Int × Rg)} {w : World} (h0 : 0 ≤ off) (h : (off % 4 != 0) = false) (hO : OwnA w B (.slice (some ⟨g, 0, none⟩) L.length cap) L) (hc : L.length ≤ cap) (hm : cap ≤ maxLen) (hi : L[i]? = some (off, x)) (hn : (L.map (·.1)).Nodup) (hl : L.length < 100000) :
    Calls Try.prog 6 #[.slice (some ⟨g, 0, none⟩) L.length cap, .int .u32 off, r.val] w fun e w' => e = .returned (.tuple #[.slice (some ⟨g, 0, none⟩) L.length cap, .int .i64 15]) ∧ Below w.heap.size w w' := by
  have C := Lib.hid (aFind off i x h0 h (hO.below (trA (tr0 w) (.cells #[.int .u32 r.v, .int .u32 r.s, .int .u32 r.r, .int .u32 r.c] 33 (0, 0)))) hc hm hi hn hl)
  clear hO hi hn
  unfold Rg.val
  go_enter Try.func6, Try.ntmps6
  go_wp2_with fail
  refine C.out.mono ?_
  rintro e w' ⟨rfl, rfl⟩
  go_wp2_with fail
  go_ret2
  exact ⟨rfl, trA (tr0 w) _⟩
/-- Where the loop stands. -/
def InsSo (x : Int) (r : Rg) (L X : List (Int × Rg)) (i : Nat) (b : Bool) : Prop := (b = false ∧ X = L.take i ∧ insA x r L = L.take i ++ insA x r (L.drop i)) ∨ (b = true ∧ X ++ L.drop i = insA x r L)
theorem ins_start (x : Int) (r : Rg) (L : List (Int × Rg)) : InsSo x r L [] 0 false := .inl ⟨rfl, by simp, by simp⟩
theorem ins_len {x : Int} {r : Rg} {L X : List (Int × Rg)} {i : Nat} {b : Bool} (h : InsSo x r L X i b) (hi : i ≤ L.length) : X.length ≤ L.length + 1 := by
  have hl : ∀ M : List (Int × Rg), (insA x r M).length = M.length + 1 := by
    intro M
    induction M with
    | nil => rfl
    | cons p M ih => unfold insA; split <;> simp [ih]
  rcases h with ⟨_, rfl, _⟩ | ⟨_, h⟩
  · simp; omega
  · have := congrArg List.length h
    rw [hl] at this
    simp at this; omega
theorem ins_yes {x : Int} {r : Rg} {L X : List (Int × Rg)} {i : Nat} {p : Int × Rg} (h : InsSo x r L X i false) (hp : L[i]? = some p) (hx : x < p.1) : InsSo x r L (X ++ [(x, r)] ++ [p]) (i + 1) true := by
  have hil : i < L.length := (List.getElem?_eq_some_iff.1 hp).1
  have hd : L.drop i = p :: L.drop (i + 1) := by rw [List.drop_eq_getElem_cons hil, (List.getElem?_eq_some_iff.1 hp).2]
  rcases h with ⟨_, rfl, h⟩ | ⟨h, _⟩
  · refine .inr ⟨rfl, ?_⟩
    rw [h, hd]; unfold insA; rw [if_pos hx]; simp
  · cases h
theorem ins_no {x : Int} {r : Rg} {L X : List (Int × Rg)} {i : Nat} {p : Int × Rg} (h : InsSo x r L X i false) (hp : L[i]? = some p) (hx : ¬ x < p.1) : InsSo x r L (X ++ [p]) (i + 1) false := by
  have hil : i < L.length := (List.getElem?_eq_some_iff.1 hp).1
  have hd : L.drop i = p :: L.drop (i + 1) := by rw [List.drop_eq_getElem_cons hil, (List.getElem?_eq_some_iff.1 hp).2]
  have ht : L.take (i + 1) = L.take i ++ [p] := by rw [List.take_add_one, hp]; rfl
  rcases h with ⟨_, rfl, h⟩ | ⟨h, _⟩
  · refine .inl ⟨rfl, ht.symm, ?_⟩
    conv => lhs; rw [h, hd]; unfold insA
    rw [if_neg hx, ht]; simp
  · cases h
theorem ins_on {x : Int} {r : Rg} {L X : List (Int × Rg)} {i : Nat} {p : Int × Rg} (h : InsSo x r L X i true) (hp : L[i]? = some p) : InsSo x r L (X ++ [p]) (i + 1) true := by
  have hil : i < L.length := (List.getElem?_eq_some_iff.1 hp).1
  have hd : L.drop i = p :: L.drop (i + 1) := by rw [List.drop_eq_getElem_cons hil, (List.getElem?_eq_some_iff.1 hp).2]
  rcases h with ⟨h, _⟩ | ⟨_, h⟩
  · cases h
  · exact .inr ⟨rfl, by rw [← h, hd]; simp⟩
theorem ins_end {x : Int} {r : Rg} {L X : List (Int × Rg)} {b : Bool} (h : InsSo x r L X L.length b) : (b = false ∧ X ++ [(x, r)] = insA x r L) ∨ (b = true ∧ X = insA x r L) := by
  rcases h with ⟨rfl, rfl, h⟩ | ⟨rfl, h⟩
  · exact .inl ⟨rfl, by rw [h]; simp [insA]⟩
  · exact .inr ⟨rfl, by simpa using h⟩
set_option maxRecDepth 100000 in
set_option maxHeartbeats 3200000 in
theorem aDefine0 (off : Int) (r : Rg) {w : World} (h0 : 0 ≤ off) (h : (off % 4 != 0) = false) :
    Calls Try.prog 6 #[.slice none 0 0, .int .u32 off, r.val] w fun e w' => ∃ v', e = .returned (.tuple #[v', .int .i64 0]) ∧ OwnA w' w.heap.size v' (insA off r []) ∧ Below w.heap.size w w' := by
  have hb1 := trA (tr0 w) (.cells #[.int .u32 r.v, .int .u32 r.s, .int .u32 r.r, .int .u32 r.c] 33 (0, 0))
  have hX := blk_new w (.cells #[.int .u32 r.v, .int .u32 r.s, .int .u32 r.r, .int .u32 r.c] 33 (0, 0))
  have C := Lib.hid (fun w' => aFindNone (L := []) (w := w') off h0 h (ownA_nil w' 0) (by simp) (by simp))
  have hs1 := lt_of_block hX
  unfold Rg.val
  go_enter Try.func6, Try.ntmps6
  go_upto_region 1 with (fail)
  generalize w.alloc (.cells #[.int .u32 r.v, .int .u32 r.s, .int .u32 r.r, .int .u32 r.c] 33 (0, 0)) = W at *
  go_wp2_with fail
  refine (C.out _).mono ?_
  rintro e w' ⟨rfl, rfl⟩
  clear C
  go_wp2_with fail
  go_loopw [10, 11, 12] (fun u b i wr => i = .int .i64 0 ∧ b = .bool false ∧ OwnA wr w.heap.size u [] ∧ wr.heap[w.heap.size]? = some (.cells #[.int .u32 r.v, .int .u32 r.s, .int .u32 r.r, .int .u32 r.c] 33 (0, 0)) ∧ Below w.heap.size w wr) (fun _ _ _ _ => 0)
  case atStart => exact ⟨rfl, rfl, ownA_nil _ _, hX, hb1⟩
  case round =>
    clear hX hb1
    obtain ⟨rfl, rfl, O, hX, hB2⟩ := hrel
    have y0 := blk_cell hX 0
    have y1 := blk_cell hX 1
    have y2 := blk_cell hX 2
    have y3 := blk_cell hX 3
    simp only [List.getElem?_toArray, List.getElem?_cons_zero, List.getElem?_cons_succ] at y0 y1 y2 y3
    have hY := blk_new wr (.cells (al (off, r)).toArray 81 (0, 0))
    have hbA := trA (tr0 wr) (.cells (al (off, r)).toArray 81 (0, 0))
    have hb2 := tr hB2 hbA
    have hbs := hb2.size
    have OV := O.below hbA
    clear O hbA hX hB2
    go_wp2_with (refine appendA rfl (.tmp 58) (.tmp 62) rfl rfl OV rfl hY (by decide) hbs ?_; intro v' w5 O5 ho5)
    have B5 := Off.toBelow hb2 ho5 (fun b hb e => by have := (OV.block e).1; omega) (Nat.le_refl _)
    go_ret2
    exact ⟨_, rfl, O5, B5⟩
set_option maxRecDepth 100000 in
set_option maxHeartbeats 3200000 in
theorem aDefine1 (off : Int) (r : Rg) {B g cap : Nat} {L : List (Int × Rg)} {w : World} (h0 : 0 ≤ off) (h : (off % 4 != 0) = false) (hcm : cap ≤ maxLen) (hnc : L.length ≤ cap) (hO : OwnA w B (.slice (some ⟨g, 0, none⟩) L.length cap) L) (hno : ∀ p ∈ L, p.1 ≠ off) (hl : L.length < 90000) :
    Calls Try.prog 6 #[.slice (some ⟨g, 0, none⟩) L.length cap, .int .u32 off, r.val] w fun e w' => ∃ v', e = .returned (.tuple #[v', .int .i64 0]) ∧ OwnA w' w.heap.size v' (insA off r L) ∧ Below w.heap.size w w' := by
  have hb1 := trA (tr0 w) (.cells #[.int .u32 r.v, .int .u32 r.s, .int .u32 r.r, .int .u32 r.c] 33 (0, 0))
  have hX := blk_new w (.cells #[.int .u32 r.v, .int .u32 r.s, .int .u32 r.r, .int .u32 r.c] 33 (0, 0))
  have O1 := hO.below hb1
  have C := Lib.hid (aFindNone off h0 h O1 hno (by omega))
  have hs1 := lt_of_block hX
  have hgw : ∀ b, (Value.slice (some ⟨g, 0, none⟩) L.length cap).ownBlock = some b → b < w.heap.size := fun b hb => (hO.block hb).2
  have hgl := (O1.block rfl).2
  clear hO hno
  unfold Rg.val
  go_enter Try.func6, Try.ntmps6
  go_upto_region 1 with (fail)
  generalize w.alloc (.cells #[.int .u32 r.v, .int .u32 r.s, .int .u32 r.r, .int .u32 r.c] 33 (0, 0)) = W at *
  go_wp2_with fail
  refine C.out.mono ?_
  rintro e w' ⟨rfl, rfl⟩
  unfold maxLen at hcm
  go_wp2_with fail
  go_loopw [10, 11, 12] (fun u b i wr => ∃ (k : Nat) (pt : Bool) (X : List (Int × Rg)), k ≤ L.length ∧ i = .int .i64 k ∧ b = .bool pt ∧ Hid (InsSo off r L X k pt) ∧ OwnA wr (w.heap.size + 1) u X ∧ OwnA wr B (.slice (some ⟨g, 0, none⟩) L.length cap) L ∧ Below w.heap.size w wr ∧ wr.heap[w.heap.size]? = some (.cells #[.int .u32 r.v, .int .u32 r.s, .int .u32 r.r, .int .u32 r.c] 33 (0, 0))) (fun u b i wr => L.length - (intOf i).toNat)
  case atStart => exact ⟨0, false, [], by omega, rfl, rfl, Lib.hid (ins_start off r L), ownA_nil _ _, O1, hb1, hX⟩
  case round =>
    clear C O1 hb1 hX
    obtain ⟨k, pt, X, hk, rfl, rfl, HI, O, HL, hB2, hX⟩ := hrel
    by_cases hlt : k < L.length
    · obtain ⟨p, hp⟩ : ∃ p, L[k]? = some p := ⟨L[k], List.getElem?_eq_getElem hlt⟩
      have hlen := ins_len HI.out hk
      have HP := Lib.hid hp
      have c0 := HL.cell hp 0 (by decide)
      have c1 := HL.cell hp 1 (by decide)
      have c2 := HL.cell hp 2 (by decide)
      have c3 := HL.cell hp 3 (by decide)
      have c4 := HL.cell hp 4 (by decide)
      simp only [al, List.getElem?_cons_zero, List.getElem?_cons_succ, Nat.add_zero] at c0 c1 c2 c3 c4
      clear hp
      obtain ⟨po, ⟨pa, ps, pw, pc⟩⟩ := p
      simp only at c0 c1 c2 c3 c4
      have hwl := lt_of_block hX
      cases pt
      · by_cases hx : off < po
        · have y0 := blk_cell hX 0
          have y1 := blk_cell hX 1
          have y2 := blk_cell hX 2
          have y3 := blk_cell hX 3
          simp only [List.getElem?_toArray, List.getElem?_cons_zero, List.getElem?_cons_succ] at y0 y1 y2 y3
          have HI2 := Lib.hid (ins_yes HI.out HP.out hx)
          have hbA := trA (tr0 wr) (.cells (al (off, r)).toArray 81 (0, 0))
          have OO := O.below hbA
          have HL2 := HL.below hbA
          have hX2 := blk_below hbA hX hwl
          have hY := blk_new wr (.cells (al (off, r)).toArray 81 (0, 0))
          have hb2 := tr hB2 hbA
          have hbs : w.heap.size + 1 ≤ (wr.alloc (.cells (al (off, r)).toArray 81 (0, 0))).heap.size := by have := hbA.size; omega
          have hgd : ∀ b, g = b → B ≤ b ∧ b < wr.heap.size := fun b e => by subst e; exact HL.block rfl
          clear O HL hX hB2 hbA HI
          go_upto_region 13 with (refine appendA rfl (.tmp 43) (.tmp 47) rfl rfl OO rfl hY (by omega) hbs ?_; intro v' w5 O5 ho5)
          have HL5 := HL2.off ho5 (fun q e hS => by have h1 := (OO.block hS).1; have h2 := hgw q e; omega)
          have hX5 := ho5.at hX2 (fun hS => by have h1 := (OO.block hS).1; omega)
          have B5 := Off.toBelow hb2 ho5 (fun q hq e => by have := (OO.block e).1; omega) (Nat.le_refl _)
          have hs5 : w.heap.size + 1 ≤ w5.heap.size := by have := lt_of_block hX5; omega
          clear HL2 hX2 OO ho5 hb2 hY c0 c1 c2 c3 c4
          have c0 := HL5.cell HP.out 0 (by decide)
          have c1 := HL5.cell HP.out 1 (by decide)
          have c2 := HL5.cell HP.out 2 (by decide)
          have c3 := HL5.cell HP.out 3 (by decide)
          have c4 := HL5.cell HP.out 4 (by decide)
          simp only [al, List.getElem?_cons_zero, List.getElem?_cons_succ, Nat.add_zero] at c0 c1 c2 c3 c4
          have hbC := trA (tr0 w5) (.cells (al (po, ⟨pa, ps, pw, pc⟩)).toArray 81 (0, 0))
          have P5 := O5.below hbC
          have HL6 := HL5.below hbC
          have hX6 := blk_below hbC hX5 (lt_of_block hX5)
          have hZ := blk_new w5 (.cells (al (po, ⟨pa, ps, pw, pc⟩)).toArray 81 (0, 0))
          have hb6 := tr B5 hbC
          have hbt : w.heap.size + 1 ≤ (w5.alloc (.cells (al (po, ⟨pa, ps, pw, pc⟩)).toArray 81 (0, 0))).heap.size := by have := hbC.size; omega
          clear O5 HL5 hX5 B5 hbC y0 y1 y2 y3
          go_wp2_with (refine appendA rfl (.tmp 49) (.tmp 54) rfl rfl P5 rfl hZ (by simp; omega) hbt ?_; intro v7 w7 O7 ho7)
          have HL7 := HL6.off ho7 (fun q e hS => by have h1 := (P5.block hS).1; have h2 := hgw q e; omega)
          have hX7 := ho7.at hX6 (fun hS => by have h1 := (P5.block hS).1; omega)
          have B7 := Off.toBelow hb6 ho7 (fun q hq e => by have := (P5.block e).1; omega) (Nat.le_refl _)
          clear HL6 hX6 P5 ho7 hb6 hZ
          go_wp2_with fail
          go_roundw
          case measure => simp [intOf]; omega
          case rel => exact ⟨k + 1, true, _, by omega, by first | rfl | go_num, by first | rfl | go_num, HI2, O7, HL7, B7, hX7⟩
        · have HI2 := Lib.hid (ins_no HI.out HP.out hx)
          have hbC := trA (tr0 wr) (.cells (al (po, ⟨pa, ps, pw, pc⟩)).toArray 81 (0, 0))
          have P5 := O.below hbC
          have HL6 := HL.below hbC
          have hX6 := blk_below hbC hX hwl
          have hZ := blk_new wr (.cells (al (po, ⟨pa, ps, pw, pc⟩)).toArray 81 (0, 0))
          have hb6 := tr hB2 hbC
          have hbt : w.heap.size + 1 ≤ (wr.alloc (.cells (al (po, ⟨pa, ps, pw, pc⟩)).toArray 81 (0, 0))).heap.size := by have := hbC.size; omega
          clear O HL hX hB2 hbC HI
          go_wp2_with (refine appendA rfl (.tmp 49) (.tmp 54) rfl rfl P5 rfl hZ (by omega) hbt ?_; intro v7 w7 O7 ho7)
          have HL7 := HL6.off ho7 (fun q e hS => by have h1 := (P5.block hS).1; have h2 := hgw q e; omega)
          have hX7 := ho7.at hX6 (fun hS => by have h1 := (P5.block hS).1; omega)
          have B7 := Off.toBelow hb6 ho7 (fun q hq e => by have := (P5.block e).1; omega) (Nat.le_refl _)
          clear HL6 hX6 P5 ho7 hb6 hZ
          go_wp2_with fail
          go_roundw
          case measure => simp [intOf]; omega
          case rel => exact ⟨k + 1, false, _, by omega, by first | rfl | go_num, by first | rfl | go_num, HI2, O7, HL7, B7, hX7⟩
      · have HI2 := Lib.hid (ins_on HI.out HP.out)
        have hbC := trA (tr0 wr) (.cells (al (po, ⟨pa, ps, pw, pc⟩)).toArray 81 (0, 0))
        have P5 := O.below hbC
        have HL6 := HL.below hbC
        have hX6 := blk_below hbC hX hwl
        have hZ := blk_new wr (.cells (al (po, ⟨pa, ps, pw, pc⟩)).toArray 81 (0, 0))
        have hb6 := tr hB2 hbC
        have hbt : w.heap.size + 1 ≤ (wr.alloc (.cells (al (po, ⟨pa, ps, pw, pc⟩)).toArray 81 (0, 0))).heap.size := by have := hbC.size; omega
        clear O HL hX hB2 hbC HI
        go_wp2_with (refine appendA rfl (.tmp 49) (.tmp 54) rfl rfl P5 rfl hZ (by omega) hbt ?_; intro v7 w7 O7 ho7)
        have HL7 := HL6.off ho7 (fun q e hS => by have h1 := (P5.block hS).1; have h2 := hgw q e; omega)
        have hX7 := ho7.at hX6 (fun hS => by have h1 := (P5.block hS).1; omega)
        have B7 := Off.toBelow hb6 ho7 (fun q hq e => by have := (P5.block e).1; omega) (Nat.le_refl _)
        clear HL6 hX6 P5 ho7 hb6 hZ
        go_wp2_with fail
        go_roundw
        case measure => simp [intOf]; omega
        case rel => exact ⟨k + 1, true, _, by omega, by first | rfl | go_num, by first | rfl | go_num, HI2, O7, HL7, B7, hX7⟩
    · obtain rfl : k = L.length := by omega
      rcases ins_end HI.out with ⟨rfl, hE⟩ | ⟨rfl, hE⟩
      · have y0 := blk_cell hX 0
        have y1 := blk_cell hX 1
        have y2 := blk_cell hX 2
        have y3 := blk_cell hX 3
        simp only [List.getElem?_toArray, List.getElem?_cons_zero, List.getElem?_cons_succ] at y0 y1 y2 y3
        have HE := Lib.hid hE
        have hlen := ins_len HI.out (Nat.le_refl _)
        have hbA := trA (tr0 wr) (.cells (al (off, r)).toArray 81 (0, 0))
        have OO := O.below hbA
        have hY := blk_new wr (.cells (al (off, r)).toArray 81 (0, 0))
        have hb2 := tr hB2 hbA
        have hbs : w.heap.size + 1 ≤ (wr.alloc (.cells (al (off, r)).toArray 81 (0, 0))).heap.size := by have := lt_of_block hX; have := hbA.size; omega
        clear hE O HL hX hB2 hbA HI
        go_wp2_with (refine appendA rfl (.tmp 58) (.tmp 62) rfl rfl OO rfl hY (by omega) hbs ?_; intro v' w5 O5 ho5)
        have B5 := Off.toBelow hb2 ho5 (fun b hb e => by have := (OO.block e).1; omega) (Nat.le_refl _)
        rw [HE.out] at O5
        have O6 : OwnA w5 w.heap.size v' (insA off r L) := O5.base (fun b hb => by have := (O5.block hb).1; omega)
        go_ret2
        exact ⟨_, rfl, O6, B5⟩
      · subst hE
        have O6 := O.base (C := w.heap.size) (fun b hb => by have := (O.block hb).1; omega)
        go_wp2_with fail
        go_ret2
        exact ⟨_, rfl, O6, hB2⟩
theorem aDefine (off : Int) (r : Rg) {B : Nat} {v : Value} {L : List (Int × Rg)} {w : World} (h0 : 0 ≤ off) (h : (off % 4 != 0) = false) (hO : OwnA w B v L) (hno : ∀ p ∈ L, p.1 ≠ off) (hl : L.length < 90000) :
    Calls Try.prog 6 #[v, .int .u32 off, r.val] w fun e w' => ∃ v', e = .returned (.tuple #[v', .int .i64 0]) ∧ OwnA w' w.heap.size v' (insA off r L) ∧ Below w.heap.size w w' := by
  rcases hO.cases with ⟨rfl, rfl⟩ | ⟨g, cap, rfl, hB, hnc, hcm, hgl, _⟩
  · exact aDefine0 off r h0 h
  · exact aDefine1 off r h0 h hcm hnc hO hno hl
end Go.Proofs.Ytafegmmcgghgaaa.B
namespace Go.Proofs.Ytafegmmcgghgaaa.B
set_option linter.unusedVariables false
set_option linter.unusedSimpArgs false
open Go.ChangeShapes Go.WideShapes Go.RowKit Go.Sort Go.MapKept
/-- Registers at offsets that may be, rising. -/
structure Ris (L : List (Int × Rg)) : Prop where
  so : (L.map (·.1)).Pairwise (· < ·)
  al : ∀ p ∈ L, 0 ≤ p.1 ∧ p.1 < 4294967296 ∧ (p.1 % 4 != 0) = false
theorem Ris.nodup {L : List (Int × Rg)} (h : Ris L) : (L.map (·.1)).Nodup := h.so.imp fun h e => by omega
theorem keys_one {xs : List Int} {L : List (Int × Rg)} (h : Ris L) (hp : xs.Perm (L.map (·.1))) (hs : xs.Pairwise (· ≤ ·)) : xs = L.map (·.1) :=
  List.Perm.eq_of_pairwise (le := fun a b => a ≤ b) (fun a b _ _ h1 h2 => Int.le_antisymm h1 h2) hs (h.so.imp fun h => Int.le_of_lt h) hp
theorem keys_at {L : List (Int × Rg)} {k : Nat} {p : Int × Rg} (h : L[k]? = some p) : (L.map (·.1)).toArray[k]! = p.1 := by
  have : (L.map (·.1))[k]? = some p.1 := by rw [List.getElem?_map, h]; rfl
  simp [this]
set_option maxRecDepth 100000 in
set_option maxHeartbeats 3200000 in
theorem rAlike (hSort : SortSaid) (hNil : SortNil) {w : World} {f m B : Nat} {v : Value} {L : List (Int × Rg)} (hF : FileAt w f m L) (hO : OwnA w B v L) (hR : Ris L) (hl : L.length < 100000) :
    Calls Try.prog 17 #[.pointer (some ⟨f, 0, none⟩), v] w fun e w' => e = .returned (.bool true) ∧ Below w.heap.size w w' := by
  have C := Lib.hid (fOffsets hSort hNil hF hl)
  have HO := Lib.hid hO
  have HF := Lib.hid hF
  have HR := Lib.hid hR
  have hvl : (v = .slice none 0 0 ∧ L = []) ∨ ∃ g cap, v = .slice (some ⟨g, 0, none⟩) L.length cap ∧ L.length ≤ cap ∧ cap ≤ maxLen ∧ g < w.heap.size := by
    rcases hO.cases with h | ⟨g, cap, h1, _, h3, h4, h5, _⟩
    · exact .inl h
    · exact .inr ⟨g, cap, h1, h3, h4, h5⟩
  clear hO hF hR hSort hNil
  go_enter Try.func17, Try.ntmps17
  go_wp2_with fail
  refine C.out.mono ?_
  rintro e w1 ⟨u, xs, rfl, hS, hp, hso, hb⟩
  obtain rfl := keys_one HR.out hp hso
  clear hp hso C
  have hlen : (L.map (·.1)).length = L.length := by simp
  by_cases hL : L = []
  · subst hL
    have B1 := hb
    clear hb HO HF HR
    rcases hvl with ⟨rfl, _⟩ | ⟨g, cap, rfl, hnc, hcm, hg⟩
    all_goals
      rcases hS with ⟨rfl, _⟩ | ⟨g', cap', rfl, _, hnc', hcm', D⟩
      all_goals
        go_wp2_with fail
        refine wp_loop_rounds 1 ?_
        rw [rounds_succ]
        go_wp2_with fail
        go_ret
        exact ⟨rfl, B1⟩
  · have hpos : 0 < L.length := List.length_pos_iff.2 hL
    rcases hvl with ⟨_, h⟩ | ⟨g, cap, rfl, hnc, hcm, hg⟩
    · exact absurd h hL
    rcases hS with ⟨_, h⟩ | ⟨g', cap', rfl, _, hnc', hcm', D⟩
    · rw [h] at hlen; simp at hlen; omega
    rw [hlen] at hnc' ⊢
    unfold maxLen at hcm hcm'
    have HK := Lib.hid (fun k p (h : L[k]? = some p) => keys_at h)
    have hds : (L.map (·.1)).toArray.size = L.length := by simp
    generalize (L.map (·.1)).toArray = d at *
    have O1 := HO.out.below hb
    have F1 := HF.out.below hb
    clear HO HF hL hpos hlen
    go_wp2_with fail
    go_loopw [6] (fun i wr => ∃ k : Nat, k ≤ L.length ∧ i = .int .i64 k ∧ FileAt wr f m L ∧ OwnA wr B (.slice (some ⟨g, 0, none⟩) L.length cap) L ∧ DAt wr g' d ∧ Below w.heap.size w wr) (fun i wr => L.length - (intOf i).toNat)
    case atStart => exact ⟨0, by omega, rfl, F1, O1, D, hb⟩
    case round =>
      clear F1 O1 D hb
      obtain ⟨k, hk, rfl, F, O, D, hB⟩ := hrel
      by_cases hlt : k < L.length
      · obtain ⟨p, hp⟩ : ∃ p, L[k]? = some p := ⟨L[k], List.getElem?_eq_getElem hlt⟩
        have hkd : k < d.size := by omega
        have cd := D.c k hkd
        have hkp := HK.out k p hp
        rw [hkp] at cd
        obtain ⟨p0, p1, p2⟩ := HR.out.al p (List.mem_of_getElem? hp)
        have CL := Lib.hid (fLoad p.1 p.2 f m L wr p0 p2 F (List.mem_of_getElem? hp))
        have HO := Lib.hid O
        have HF := Lib.hid F
        have HD := Lib.hid D
        have HP := Lib.hid hp
        clear F O D hp hkp p2
        obtain ⟨po, ⟨pa, ps, pw, pc⟩⟩ := p
        simp only at p0 p1 CL cd
        go_wp2_with fail
        refine CL.out.mono ?_
        rintro e w6 ⟨rfl, hb6⟩
        have B6 := tr hB hb6
        have O6 := HO.out.below hb6
        have F6 := HF.out.below hb6
        have D6 := HD.out.below hb6
        have c0 := O6.cell HP.out 0 (by decide)
        have c1 := O6.cell HP.out 1 (by decide)
        simp only [al, List.getElem?_cons_zero, List.getElem?_cons_succ, Nat.add_zero] at c0 c1
        have cd6 := D6.c k hkd
        rw [HK.out k _ HP.out] at cd6
        simp only at cd6
        have hgl := (O6.block rfl).2
        have hgl' := D6.lt
        have hg := gcell
        have z1 : (po != po) = false := by simp
        have z2 : (pa != pa) = false := by simp
        have HB6 := Lib.hid B6
        have HO6 := Lib.hid O6
        have HF6 := Lib.hid F6
        have HD6 := Lib.hid D6
        clear cd hB hb6 B6 O6 F6 D6 HO HF HD CL
        go_wp2_with fail
        refine wp_region_quiet_below (by kernel_rfl) (by kernel_rfl) ?_
        repeat (go_big_quiet_step (fail))
        refine wpQuiet_nil ?_
        intro _ hw'
        obtain ⟨⟨dq, osq⟩, hw''⟩ := hw'
        subst hw''
        have hbr := below_regrown w6 dq osq
        have B7 := tr HB6.out hbr
        have O7 := HO6.out.below hbr
        have F7 := HF6.out.below hbr
        have D7 := HD6.out.below hbr
        clear c0 c1 cd6 hgl hgl' hg HB6 HO6 HF6 HD6
        go_wp2_with fail
        go_roundw
        case measure => simp [intOf]; omega
        case rel => exact ⟨k + 1, by omega, by go_num, F7, O7, D7, B7⟩
      · obtain rfl : k = L.length := by omega
        clear F O D
        go_wp2_with fail
        go_ret
        exact ⟨rfl, hB⟩
end Go.Proofs.Ytafegmmcgghgaaa.B
namespace Go.Proofs.Ytafegmmcgghgaaa.B
set_option linter.unusedVariables false
set_option linter.unusedSimpArgs false
open Go.ChangeShapes Go.WideShapes Go.RowKit Go.Sort Go.MapKept
set_option maxRecDepth 100000 in
theorem fClone (m : Nat) (w : World) (M : List (Int × Value)) (hm : mapP w ek ok32 m M) :
    Calls Try.prog 47 #[.map (some m)] w
      fun e w' => e = .returned (.map (some w.heap.size)) ∧ mapP w' ek ok32 w.heap.size M ∧ Below w.heap.size w w' := by
  obtain ⟨es, c, hb, h1, h2, h3⟩ := hm
  have hq := fun w => run_eql_map_nil_sl (P := Try.prog) w 75 _ _ (some m) Try.underlying75
  have HK := Lib.hid (show mapP (w.alloc (.map es c)) ek ok32 w.heap.size M from ⟨es, c, blk_new w _, h1, h2, h3⟩)
  clear h1 h2 h3
  go_enter Try.func47, Try.ntmps47
  go_wp2
  rw [run_callFunc_extern Try.func59 (by kernel_rfl) (by kernel_rfl) (by kernel_rfl) (e := Extern.MapsClone.clone) (by kernel_rfl), run_maps_clone_sl w 75 hb]
  simp only [Result.andThen]
  rw [Oper.upon_value]
  go_wp2
  rw [run_typeAssert_map_sl _ 75 20 _ _ _ Try.underlying75]
  simp only [Result.andThen]
  rw [Oper.upon_value]
  go_wp2
  go_ret
  exact ⟨rfl, HK.out, trA (tr0 w) _⟩
theorem fCopy {w : World} {f m : Nat} {M : List (Int × Rg)} (h : FileAt w f m M) :
    Calls Try.prog 16 #[.pointer (some ⟨f, 0, none⟩)] w
      fun e w' => ∃ f' m', e = .returned (.pointer (some ⟨f', 0, none⟩)) ∧ FileAt w' f' m' M ∧ w.heap.size ≤ f' ∧ w.heap.size ≤ m' ∧ Below w.heap.size w w' := by
  have c0 := blk_cell h.cell 0
  simp only [List.getElem?_toArray, List.getElem?_cons_zero] at c0
  have HC := Lib.hid (fClone m w _ h.map)
  have HW := Lib.hid h.wf
  clear h
  go_enter Try.func16, Try.ntmps16
  go_wp2_with fail
  refine HC.out.mono ?_
  rintro e w1 ⟨rfl, hM, hb⟩
  have hs := hb.size
  have hF : FileAt (w1.alloc (.cells #[.map (some w.heap.size)] 77 (0, 0))) w1.heap.size w.heap.size M := ⟨blk_new w1 _, hM.below (trA (tr0 w1) _) hM.lt, HW.out⟩
  have hB := trA hb (.cells #[.map (some w.heap.size)] 77 (0, 0))
  clear hM hb
  go_wp2_with fail
  go_ret
  exact ⟨_, _, rfl, hF, hs, Nat.le_refl _, hB⟩
end Go.Proofs.Ytafegmmcgghgaaa.B
namespace Go.Proofs.Ytafegmmcgghgaaa.B
set_option linter.unusedVariables false
set_option linter.unusedSimpArgs false
open Go.ChangeShapes Go.WideShapes Go.RowKit Go.Sort Go.MapKept
theorem insA_perm (x : Int) (r : Rg) : ∀ L : List (Int × Rg), ((x, r) :: L).Perm (insA x r L)
  | [] => List.Perm.refl _
  | p :: L => by
    unfold insA
    split
    · exact List.Perm.refl _
    · exact (List.Perm.swap p (x, r) L).trans ((insA_perm x r L).cons p)
theorem insA_so (x : Int) (r : Rg) : ∀ L : List (Int × Rg), (L.map (·.1)).Pairwise (· < ·) → (∀ p ∈ L, p.1 ≠ x) → ((insA x r L).map (·.1)).Pairwise (· < ·)
  | [], _, _ => by simp [insA]
  | p :: L, h, hx => by
    rw [List.map_cons, List.pairwise_cons] at h
    unfold insA
    split
    · rename_i hlt
      rw [List.map_cons, List.map_cons, List.pairwise_cons, List.pairwise_cons]
      refine ⟨fun y hy => ?_, h⟩
      rcases List.mem_cons.1 hy with rfl | hy
      · exact hlt
      · exact Int.lt_trans hlt (h.1 y hy)
    · rename_i hlt
      rw [List.map_cons, List.pairwise_cons]
      refine ⟨fun y hy => ?_, insA_so x r L h.2 fun q hq => hx q (List.mem_cons_of_mem _ hq)⟩
      obtain ⟨q, hq, rfl⟩ := List.mem_map.1 hy
      rcases List.mem_cons.1 ((insA_perm x r L).symm.subset hq) with rfl | hq
      · have := hx p List.mem_cons_self
        omega
      · exact h.1 _ (List.mem_map.2 ⟨q, hq, rfl⟩)
theorem insA_len (x : Int) (r : Rg) (L : List (Int × Rg)) : (insA x r L).length = L.length + 1 := by
  rw [← (insA_perm x r L).length_eq]; rfl
theorem Ris.ins {L : List (Int × Rg)} (h : Ris L) {x : Int} (r : Rg) (hx : ∀ p ∈ L, p.1 ≠ x) (x0 : 0 ≤ x) (x1 : x < 4294967296) (ha : (x % 4 != 0) = false) : Ris (insA x r L) :=
  ⟨insA_so x r L h.so hx, fun p hp => by
    rcases List.mem_cons.1 ((insA_perm x r L).symm.subset hp) with rfl | hq
    · exact ⟨x0, x1, ha⟩
    · exact h.al p hq⟩
theorem set_keys {L : List (Int × Rg)} {i : Nat} {x : Int} {r y : Rg} (hi : L[i]? = some (x, r)) : (L.set i (x, y)).map (·.1) = L.map (·.1) := by
  refine List.ext_getElem? fun j => ?_
  rw [List.getElem?_map, List.getElem?_map, List.getElem?_set]
  split
  · rename_i e
    subst e
    rw [hi]
    simp [(List.getElem?_eq_some_iff.1 hi).1]
  · rfl
theorem Ris.set {L : List (Int × Rg)} (h : Ris L) {i : Nat} {x : Int} {r : Rg} (hi : L[i]? = some (x, r)) (y : Rg) : Ris (L.set i (x, y)) := by
  have hk := set_keys (y := y) hi
  refine ⟨by rw [hk]; exact h.so, fun p hp => ?_⟩
  have : p.1 ∈ L.map (·.1) := by rw [← hk]; exact List.mem_map.2 ⟨p, hp, rfl⟩
  obtain ⟨q, hq, e⟩ := List.mem_map.1 this
  rw [← e]; exact h.al q hq
theorem Ris.apart {L : List (Int × Rg)} (h : Ris L) {i j : Nat} {p q : Int × Rg} (hi : L[i]? = some p) (hj : L[j]? = some q) (e : p.1 = q.1) : i = j := by
  have hil := (List.getElem?_eq_some_iff.1 hi).1
  have hjl := (List.getElem?_eq_some_iff.1 hj).1
  have g1 : (L.map (·.1))[i]? = some p.1 := by rw [List.getElem?_map, hi]; rfl
  have g2 : (L.map (·.1))[j]? = some q.1 := by rw [List.getElem?_map, hj]; rfl
  have hs := List.pairwise_iff_getElem.1 h.so
  have i1 : i < (L.map (·.1)).length := by simpa using hil
  have j1 : j < (L.map (·.1)).length := by simpa using hjl
  have v1 : (L.map (·.1))[i] = p.1 := (List.getElem?_eq_some_iff.1 g1).2
  have v2 : (L.map (·.1))[j] = q.1 := (List.getElem?_eq_some_iff.1 g2).2
  rcases Nat.lt_trichotomy i j with hlt | he | hlt
  · have := hs i j i1 j1 hlt; omega
  · exact he
  · have := hs j i j1 i1 hlt; omega
theorem put_set {L : List (Int × Rg)} (h : Ris L) {i : Nat} {x : Int} {r : Rg} (hi : L[i]? = some (x, r)) (y : Rg) : (L.map fun p => if p.1 = x then (p.1, y) else p) = L.set i (x, y) := by
  refine List.ext_getElem? fun j => ?_
  rw [List.getElem?_map, List.getElem?_set]
  split
  · rename_i e
    subst e
    rw [hi]
    simp [(List.getElem?_eq_some_iff.1 hi).1]
  · rename_i e
    cases hj : L[j]? with
    | none => rfl
    | some q =>
      have hne : q.1 ≠ x := fun e2 => e (h.apart hi hj e2.symm)
      simp [hne]
theorem Ris.again {L : List (Int × Rg)} (h : Ris L) : Ris (L.map agA) := by
  have hk : (L.map agA).map (·.1) = L.map (·.1) := by rw [List.map_map]; rfl
  refine ⟨by rw [hk]; exact h.so, fun p hp => ?_⟩
  obtain ⟨q, hq, rfl⟩ := List.mem_map.1 hp
  exact h.al q hq
/-- Where an offset is, if it is there. -/
theorem there (L : List (Int × Rg)) (x : Int) : (∀ p ∈ L, p.1 ≠ x) ∨ ∃ (i : Nat) (r : Rg), L[i]? = some (x, r) := by
  by_cases h : ∃ p ∈ L, p.1 = x
  · obtain ⟨p, hp, rfl⟩ := h
    obtain ⟨i, hi⟩ := List.mem_iff_getElem?.1 hp
    exact .inr ⟨i, p.2, hi⟩
  · exact .inl fun p hp e => h ⟨p, hp, e⟩
section
variable {w w' : World} {B f m : Nat} {v : Value} {L L' : List (Int × Rg)}
theorem own_apart (hF : FileAt w f m L) (hO : OwnA w B v L') {b : Nat} (hb : v.ownBlock = some b) : b ≠ m := by
  rintro rfl
  obtain ⟨cur, h1⟩ := hO.ty hb
  obtain ⟨es, clock, h2, _⟩ := hF.map
  rw [h1] at h2
  cases h2
/-- A file and a row: the file's registers are L, the row's L'. -/
structure FrAt (w : World) (B f m : Nat) (v : Value) (L L' : List (Int × Rg)) : Prop where
  F : FileAt w f m L
  O : OwnA w B v L'
  R : Ris L'
  hm : B ≤ m
  hB : B ≤ w.heap.size
theorem FrAt.below (h : FrAt w B f m v L L') (hb : Below w.heap.size w w') : FrAt w' B f m v L L' :=
  ⟨h.F.below hb, h.O.below hb, h.R, h.hm, Nat.le_trans h.hB hb.size⟩
theorem FrAt.step {M : List (Int × Rg)} (h : FrAt w B f m v L L') (hF : FileAt w' f m M) (ho : Off (· = m) w w') : FrAt w' B f m v M L' :=
  ⟨hF, h.O.off ho fun k hk => own_apart h.F h.O hk, h.R, h.hm, Nat.le_trans h.hB ho.size⟩
theorem nonslice (h : OwnA w B v L) {i : Nat} {p : Int × Rg} (hi : L[i]? = some p) : ∃ g cap, v = .slice (some ⟨g, 0, none⟩) L.length cap ∧ L.length ≤ cap ∧ cap ≤ maxLen := by
  rcases h.cases with ⟨_, rfl⟩ | ⟨g, cap, h1, _, h3, h4, _⟩
  · simp at hi
  · exact ⟨g, cap, h1, h3, h4⟩
theorem doDefine (off : Int) (r : Rg) (hr : r.wf) (h0 : 0 ≤ off) (h1 : off < 4294967296) (h : FrAt w B f m v L L) (hl : L.length < 90000) :
    ∃ (E : Int) (L' : List (Int × Rg)), L'.length ≤ L.length + 1 ∧
      Calls Try.prog 6 #[v, .int .u32 off, r.val] w (fun e w' => ∃ v', e = .returned (.tuple #[v', .int .i64 E]) ∧ FrAt w' B f m v' L L' ∧ Below w.heap.size w w') ∧
      ∀ w1 v1, FrAt w1 B f m v1 L L' → Calls Try.prog 7 #[.pointer (some ⟨f, 0, none⟩), .int .u32 off, r.val] w1 (fun e w' => e = .returned (.int .i64 E) ∧ FrAt w' B f m v1 L' L' ∧ Off (· = m) w1 w') := by
  cases ha : (off % 4 != 0)
  · rcases there L off with hno | ⟨i, x, hi⟩
    · refine ⟨0, insA off r L, by rw [insA_len]; exact Nat.le_refl _, ?_, fun w1 v1 k => ?_⟩
      · refine (aDefine off r h0 ha h.O hno hl).mono ?_
        rintro e w' ⟨v', rfl, O, hb⟩
        exact ⟨v', rfl, ⟨h.F.below hb, O.base (fun b hb2 => Nat.le_trans h.hB (O.block hb2).1), h.R.ins r hno h0 h1 ha, h.hm, Nat.le_trans h.hB hb.size⟩, hb⟩
      · refine (fDefine off r f m L w1 hr h0 h1 ha k.F hno).mono ?_
        rintro e w' ⟨rfl, F, ho⟩
        exact ⟨rfl, k.step (F.perm (insA_perm off r L)) ho, ho⟩
    · obtain ⟨g, cap, rfl, hc, hm⟩ := nonslice h.O hi
      refine ⟨15, L, Nat.le_succ _, ?_, fun w1 v1 k => ?_⟩
      · refine (aDefineMeet off i r x h0 ha h.O hc hm hi h.R.nodup (by omega)).mono ?_
        rintro e w' ⟨rfl, hb⟩
        exact ⟨_, rfl, h.below hb, hb⟩
      · refine (fDefineMeet off r x f m L w1 h0 ha k.F (List.mem_of_getElem? hi)).mono ?_
        rintro e w' ⟨rfl, hb⟩
        exact ⟨rfl, k.below hb, Off.ofBelow hb⟩
  · refine ⟨11, L, Nat.le_succ _, ?_, fun w1 v1 k => ?_⟩
    · refine (aDefineBad off r v w h0 ha).mono ?_
      rintro e w' ⟨rfl, hb⟩
      exact ⟨_, rfl, h.below hb, hb⟩
    · refine (fDefineBad off r f w1 h0 ha).mono ?_
      rintro e w' ⟨rfl, hb⟩
      exact ⟨rfl, k.below hb, Off.ofBelow hb⟩
theorem doLoad (off : Int) (h0 : 0 ≤ off) (h1 : off < 4294967296) (h : FrAt w B f m v L L) (hl : L.length < 90000) :
    ∃ (x E : Int), Calls Try.prog 8 #[v, .int .u32 off] w (fun e w' => e = .returned (.tuple #[.int .u32 x, .int .i64 E]) ∧ w = w') ∧
      Calls Try.prog 9 #[.pointer (some ⟨f, 0, none⟩), .int .u32 off] w (fun e w' => e = .returned (.tuple #[.int .u32 x, .int .i64 E]) ∧ Below w.heap.size w w') := by
  cases ha : (off % 4 != 0)
  · rcases there L off with hno | ⟨i, x, hi⟩
    · exact ⟨0, 10, aLoadNone off h0 ha h.O hno (by omega), fLoadNone off f m L w h0 h1 ha h.F hno⟩
    · obtain ⟨g, cap, rfl, hc, hm⟩ := nonslice h.O hi
      exact ⟨x.v, 0, aLoad off i x h0 ha h.O hc hm hi h.R.nodup (by omega), fLoad off x f m L w h0 ha h.F (List.mem_of_getElem? hi)⟩
  · exact ⟨0, 11, aLoadBad off v w h0 ha, fLoadBad off f w h0 ha⟩
theorem doTurn (off u d : Int) (u0 : 0 ≤ u) (u1 : u < 4294967296) (d0 : 0 ≤ d) (d1 : d < 4294967296) (h0 : 0 ≤ off) (h1 : off < 4294967296) (h : FrAt w B f m v L L) (hl : L.length < 90000) :
    ∃ (E : Int) (L' : List (Int × Rg)), L'.length ≤ L.length + 1 ∧
      Calls Try.prog 12 #[v, .int .u32 off, .int .u32 u, .int .u32 d] w (fun e w' => ∃ v', e = .returned (.tuple #[v', .int .i64 E]) ∧ FrAt w' B f m v' L L' ∧ Below w.heap.size w w') ∧
      ∀ w1 v1, FrAt w1 B f m v1 L L' → Calls Try.prog 13 #[.pointer (some ⟨f, 0, none⟩), .int .u32 off, .int .u32 u, .int .u32 d] w1 (fun e w' => e = .returned (.int .i64 E) ∧ FrAt w' B f m v1 L' L' ∧ Off (· = m) w1 w') := by
  cases ha : (off % 4 != 0)
  · rcases there L off with hno | ⟨i, x, hi⟩
    · refine ⟨10, L, Nat.le_succ _, ?_, fun w1 v1 k => ?_⟩
      · refine (aBitsNone off u d h0 ha h.O hno (by omega)).mono ?_
        rintro e w' ⟨rfl, rfl⟩
        exact ⟨_, rfl, h, tr0 w⟩
      · refine (fTurnNone off u d f m L w1 h0 h1 ha k.F hno).mono ?_
        rintro e w' ⟨rfl, hb⟩
        exact ⟨rfl, k.below hb, Off.ofBelow hb⟩
    · obtain ⟨g, cap, rfl, hc, hm⟩ := nonslice h.O hi
      refine ⟨0, L.set i (off, x.turn u d), by simp, ?_, fun w1 v1 k => ?_⟩
      · refine (aBits off i x u d u0 u1 d0 d1 (h.F.wf _ (List.mem_of_getElem? hi)) h0 ha h.O hc hm hi h.R.nodup (by omega)).mono ?_
        rintro e w' ⟨g', cap', rfl, O, hc', hm', hb⟩
        exact ⟨_, rfl, ⟨h.F.below hb, O.base (fun b hb2 => Nat.le_trans h.hB (O.block hb2).1), h.R.set hi _, h.hm, Nat.le_trans h.hB hb.size⟩, hb⟩
      · refine (fTurn off x u d f m L w1 u0 u1 d0 d1 h0 h1 ha k.F (List.mem_of_getElem? hi)).mono ?_
        rintro e w' ⟨rfl, F, ho⟩
        refine ⟨rfl, k.step ?_ ho, ho⟩
        rw [← put_set h.R hi]
        exact F.perm (putF_perm h.R.nodup (List.mem_of_getElem? hi) _)
  · refine ⟨11, L, Nat.le_succ _, ?_, fun w1 v1 k => ?_⟩
    · refine (aBitsBad off u d v w h0 ha).mono ?_
      rintro e w' ⟨rfl, rfl⟩
      exact ⟨_, rfl, h, tr0 w⟩
    · refine (fTurnBad off u d f w1 h0 ha).mono ?_
      rintro e w' ⟨rfl, hb⟩
      exact ⟨rfl, k.below hb, Off.ofBelow hb⟩
theorem doWrite (off x : Int) (x0 : 0 ≤ x) (x1 : x < 4294967296) (h0 : 0 ≤ off) (h1 : off < 4294967296) (h : FrAt w B f m v L L) (hl : L.length < 90000) :
    ∃ (E : Int) (L' : List (Int × Rg)), L'.length ≤ L.length + 1 ∧
      Calls Try.prog 10 #[v, .int .u32 off, .int .u32 x] w (fun e w' => ∃ v', e = .returned (.tuple #[v', .int .i64 E]) ∧ FrAt w' B f m v' L L' ∧ Below w.heap.size w w') ∧
      ∀ w1 v1, FrAt w1 B f m v1 L L' → Calls Try.prog 11 #[.pointer (some ⟨f, 0, none⟩), .int .u32 off, .int .u32 x] w1 (fun e w' => e = .returned (.int .i64 E) ∧ FrAt w' B f m v1 L' L' ∧ Off (· = m) w1 w') := by
  cases ha : (off % 4 != 0)
  · rcases there L off with hno | ⟨i, y, hi⟩
    · refine ⟨10, L, Nat.le_succ _, ?_, fun w1 v1 k => ?_⟩
      · refine (aWriteNone off x h0 ha h.O hno (by omega)).mono ?_
        rintro e w' ⟨rfl, rfl⟩
        exact ⟨_, rfl, h, tr0 w⟩
      · refine (fStoreNone off x f m L w1 h0 h1 ha k.F hno).mono ?_
        rintro e w' ⟨rfl, hb⟩
        exact ⟨rfl, k.below hb, Off.ofBelow hb⟩
    · obtain ⟨g, cap, rfl, hc, hm⟩ := nonslice h.O hi
      have hy := h.F.wf _ (List.mem_of_getElem? hi)
      cases hon : only y.r y.c
      · refine ⟨0, L.set i (off, y.put x), by simp, ?_, fun w1 v1 k => ?_⟩
        · refine (aWrite off i y x x0 x1 hon hy h0 ha h.O hc hm hi h.R.nodup (by omega)).mono ?_
          rintro e w' ⟨g', cap', rfl, O, hc', hm', hb⟩
          exact ⟨_, rfl, ⟨h.F.below hb, O.base (fun b hb2 => Nat.le_trans h.hB (O.block hb2).1), h.R.set hi _, h.hm, Nat.le_trans h.hB hb.size⟩, hb⟩
        · refine (fStore off y x f m L w1 x0 x1 h0 h1 ha k.F (List.mem_of_getElem? hi) hon).mono ?_
          rintro e w' ⟨rfl, F, ho⟩
          refine ⟨rfl, k.step ?_ ho, ho⟩
          rw [← put_set h.R hi]
          exact F.perm (putF_perm h.R.nodup (List.mem_of_getElem? hi) _)
      · refine ⟨12, L, Nat.le_succ _, ?_, fun w1 v1 k => ?_⟩
        · refine (aWriteOnly off i y x x0 x1 hon hy h0 ha h.O hc hm hi h.R.nodup (by omega)).mono ?_
          rintro e w' ⟨rfl, hb⟩
          exact ⟨_, rfl, h.below hb, hb⟩
        · refine (fStoreOnly off y x f m L w1 h0 ha k.F (List.mem_of_getElem? hi) hon).mono ?_
          rintro e w' ⟨rfl, hb⟩
          exact ⟨rfl, k.below hb, Off.ofBelow hb⟩
  · refine ⟨11, L, Nat.le_succ _, ?_, fun w1 v1 k => ?_⟩
    · refine (aWriteBad off x v w h0 ha).mono ?_
      rintro e w' ⟨rfl, rfl⟩
      exact ⟨_, rfl, h, tr0 w⟩
    · refine (fStoreBad off x f w1 h0 ha).mono ?_
      rintro e w' ⟨rfl, hb⟩
      exact ⟨rfl, k.below hb, Off.ofBelow hb⟩
theorem FrAt.offm (h : FrAt w B f m v L L') {q : Nat} (ho : Off (· = q) w w') (hf : f ≠ q) (hm : m ≠ q) (hv : ∀ b, v.ownBlock = some b → b ≠ q) : FrAt w' B f m v L L' :=
  ⟨h.F.off ho hf hm, h.O.off ho hv, h.R, h.hm, Nat.le_trans h.hB ho.size⟩
/-- The file's own side, whatever comes out. -/
theorem oneDefine (off : Int) (r : Rg) (hr : r.wf) (h0 : 0 ≤ off) (h1 : off < 4294967296) (hF : FileAt w f m L) (hR : Ris L) :
    ∃ (E : Int) (L' : List (Int × Rg)), L'.length ≤ L.length + 1 ∧ Ris L' ∧
      Calls Try.prog 7 #[.pointer (some ⟨f, 0, none⟩), .int .u32 off, r.val] w (fun e w' => e = .returned (.int .i64 E) ∧ FileAt w' f m L' ∧ Off (· = m) w w') := by
  cases ha : (off % 4 != 0)
  · rcases there L off with hno | ⟨i, x, hi⟩
    · refine ⟨0, insA off r L, by rw [insA_len]; exact Nat.le_refl _, hR.ins r hno h0 h1 ha, ?_⟩
      refine (fDefine off r f m L w hr h0 h1 ha hF hno).mono ?_
      rintro e w' ⟨rfl, F, ho⟩
      exact ⟨rfl, F.perm (insA_perm off r L), ho⟩
    · refine ⟨15, L, Nat.le_succ _, hR, ?_⟩
      refine (fDefineMeet off r x f m L w h0 ha hF (List.mem_of_getElem? hi)).mono ?_
      rintro e w' ⟨rfl, hb⟩
      exact ⟨rfl, hF.below hb, Off.ofBelow hb⟩
  · refine ⟨11, L, Nat.le_succ _, hR, ?_⟩
    refine (fDefineBad off r f w h0 ha).mono ?_
    rintro e w' ⟨rfl, hb⟩
    exact ⟨rfl, hF.below hb, Off.ofBelow hb⟩
theorem oneTurn (off u d : Int) (u0 : 0 ≤ u) (u1 : u < 4294967296) (d0 : 0 ≤ d) (d1 : d < 4294967296) (h0 : 0 ≤ off) (h1 : off < 4294967296) (hF : FileAt w f m L) (hR : Ris L) :
    ∃ (E : Int) (L' : List (Int × Rg)), L'.length ≤ L.length + 1 ∧ Ris L' ∧
      Calls Try.prog 13 #[.pointer (some ⟨f, 0, none⟩), .int .u32 off, .int .u32 u, .int .u32 d] w (fun e w' => e = .returned (.int .i64 E) ∧ FileAt w' f m L' ∧ Off (· = m) w w') := by
  cases ha : (off % 4 != 0)
  · rcases there L off with hno | ⟨i, x, hi⟩
    · refine ⟨10, L, Nat.le_succ _, hR, ?_⟩
      refine (fTurnNone off u d f m L w h0 h1 ha hF hno).mono ?_
      rintro e w' ⟨rfl, hb⟩
      exact ⟨rfl, hF.below hb, Off.ofBelow hb⟩
    · refine ⟨0, L.set i (off, x.turn u d), by simp, hR.set hi _, ?_⟩
      refine (fTurn off x u d f m L w u0 u1 d0 d1 h0 h1 ha hF (List.mem_of_getElem? hi)).mono ?_
      rintro e w' ⟨rfl, F, ho⟩
      refine ⟨rfl, ?_, ho⟩
      rw [← put_set hR hi]
      exact F.perm (putF_perm hR.nodup (List.mem_of_getElem? hi) _)
  · refine ⟨11, L, Nat.le_succ _, hR, ?_⟩
    refine (fTurnBad off u d f w h0 ha).mono ?_
    rintro e w' ⟨rfl, hb⟩
    exact ⟨rfl, hF.below hb, Off.ofBelow hb⟩
end
end Go.Proofs.Ytafegmmcgghgaaa.B
