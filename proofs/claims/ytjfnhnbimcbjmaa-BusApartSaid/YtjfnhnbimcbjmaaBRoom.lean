/- Package bus: is there room for a region? -/
import Derived.Test.YtjfnhnbimcbjmaaBSort
namespace Go.Proofs.Ytjfnhnbimcbjmaa.B
set_option linter.unusedVariables false
set_option linter.unusedSimpArgs false
open Go.ChangeShapes Go.WideShapes Go.RowKit Go.Sort Go.Shelf
theorem zMeets (b s : Int) (B : Nat) (w : World) (b0 : 0 ≤ b) (b1 : b < 4294967296) (s0 : 0 ≤ s) (s1 : s < 4294967296) (hB : B < w.heap.size) (h0 : w.cell? ⟨B, 0, none⟩ = some (.int .u32 b)) (h1 : w.cell? ⟨B, 1, none⟩ = some (.int .u32 s))
    (x : Int × Int) (hx : (0 ≤ x.1 ∧ x.1 < 4294967296) ∧ 0 ≤ x.2 ∧ x.2 < 4294967296) (W : World) (hb : Below w.heap.size w W) :
    Calls Try.prog 42 #[.agg #[.int .u32 x.1, .int .u32 x.2], .pointer (some ⟨B, 0, none⟩)] W fun e w' => e = .returned (.bool (meetB b s x.1 x.2)) ∧ Below w.heap.size w w' := by
  obtain ⟨c, t⟩ := x
  obtain ⟨⟨c0, c1⟩, t0, t1⟩ := hx
  simp only at c0 c1 t0 t1
  have hc0 : W.cell? ⟨B, 0, none⟩ = some (.int .u32 b) := (hb.cell (p := ⟨B, 0, none⟩) hB).trans h0
  have hc1 : W.cell? ⟨B, 1, none⟩ = some (.int .u32 s) := (hb.cell (p := ⟨B, 1, none⟩) hB).trans h1
  have hBW : B < W.heap.size := Nat.lt_of_lt_of_le hB hb.size
  have hne : B ≠ W.heap.size := by omega
  have HB := Lib.hid hb
  clear h0 h1 hb
  go_enter Try.func42, Try.ntmps42
  go_wp2_with fail
  refine (zMeet b s c t _ b0 b1 s0 s1 c0 c1 t0 t1).mono ?_
  rintro e w1 ⟨rfl, hb1⟩
  go_wp2_with fail
  go_ret
  exact ⟨rfl, (HB.out.alloc HB.out.size _).trans (hb1.mono (Nat.le_trans HB.out.size (by simp)))⟩
/-- Of no regions none meets. -/
theorem zAnyNil (F : Value) (w : World) :
    Calls Try.prog 41 #[.slice none 0 0, F] w fun e w' => e = .returned (.bool false) ∧ w = w' := by
  have h1 : Calls Try.prog 53 #[.slice none 0 0, F] w fun e w' => e = .returned (.int .i64 (-1)) ∧ w = w' := by
    go_enter Try.func53, Try.ntmps53
    go_wp2_with fail
    refine wp_loop_rounds 1 ?_
    rw [rounds_succ]
    go_wp2_with fail
    go_ret
    exact ⟨rfl, rfl⟩
  go_enter Try.func41, Try.ntmps41
  go_wp2_with fail
  refine h1.mono ?_
  rintro e w1 ⟨rfl, rfl⟩
  go_wp2_with fail
  go_ret
  exact ⟨rfl, rfl⟩
/-- Does one of the regions meet it? -/
def anyMeet (b s : Int) (R : List (Int × Int)) : Bool := R.any fun x => meetB b s x.1 x.2
/-- Words of 32 bits. -/
abbrev U32 := { n : Int // 0 ≤ n ∧ n < 4294967296 }
instance : Inhabited (U32 × U32) := ⟨⟨0, by omega⟩, ⟨0, by omega⟩⟩
def encU (x : U32 × U32) : List Value := regCells (x.1.1, x.2.1)
theorem zAny (b s : Int) (B : Nat) (R : List (Int × Int)) (g cap : Nat) (w : World) (b0 : 0 ≤ b) (b1 : b < 4294967296) (s0 : 0 ≤ s) (s1 : s < 4294967296) (hB : B < w.heap.size) (h0 : w.cell? ⟨B, 0, none⟩ = some (.int .u32 b)) (h1 : w.cell? ⟨B, 1, none⟩ = some (.int .u32 s))
    (hR : ∀ x ∈ R, (0 ≤ x.1 ∧ x.1 < 4294967296) ∧ 0 ≤ x.2 ∧ x.2 < 4294967296) (hn : R.length ≤ 9223372036854775807)
    (ho : w.ownsRow 0 24 2 (.slice (some ⟨g, 0, none⟩) R.length cap) R.length (R.flatMap regCells)) :
    Calls Try.prog 41 #[.slice (some ⟨g, 0, none⟩) R.length cap, .func (.func 42) #[] #[.pointer (some ⟨B, 0, none⟩)]] w
      fun e w' => e = .returned (.bool (anyMeet b s R)) ∧ Below w.heap.size w w' := by
  have eg : ∀ args w, (callFunc 42 args).run Try.prog w = .ok (.enter 42 args) w := enters_of Try.func42 (by kernel_rfl) rfl
  obtain ⟨U, hU⟩ : ∃ U : List (U32 × U32), U.map (fun x => (x.1.1, x.2.1)) = R := by
    refine ⟨R.pmap (fun x (hx : (0 ≤ x.1 ∧ x.1 < 4294967296) ∧ 0 ≤ x.2 ∧ x.2 < 4294967296) => (⟨x.1, hx.1⟩, ⟨x.2, hx.2⟩)) hR, ?_⟩
    rw [List.map_pmap]
    simp
  have hl : U.length = R.length := by rw [← hU]; simp
  have hcon := AnyQ.slices_ContainsFunc Try.anyReg 2 Try.isAgg24 Try.sizeOf24 encU (fun _ => rfl) (fun x => meetB b s x.1.1 x.2.1) 42 #[.pointer (some ⟨B, 0, none⟩)] eg g 0 R.length cap U w
    (fun W x hb => zMeets b s B w b0 b1 s0 s1 hB h0 h1 (x.1.1, x.2.1) ⟨x.1.2, x.2.2⟩ W hb) (by omega) hn (ho.lt g rfl).2 (fun j hj i v hi => by
      have hjr : j < R.length := by omega
      have hi2 : i < 2 := by
        have := (List.getElem?_eq_some_iff.1 hi).1
        simpa [encU, regCells] using this
      have := row_cell (f := regCells) (n := 2) (fun _ => rfl) ho rfl (k := j) (x := R[j]) (List.getElem?_eq_getElem hjr) i hi2
      rw [Nat.zero_add, this]
      rw [getElem!_pos U j hj] at hi
      have e1 : R[j] = (U[j].1.1, U[j].2.1) := by simp [← hU]
      rw [e1]
      exact hi)
  change Calls Try.prog 41 _ _ _ at hcon
  refine hcon.mono ?_
  rintro e w' ⟨rfl, hb⟩
  refine ⟨ret_bool ?_, hb⟩
  unfold anyMeet
  rw [← hl, List.take_length, ← hU, List.any_map]
  rfl
theorem zRoomMany (p bm : Nat) (rv sv : Value) (R : List (Int × Int)) (L : List Seat) (b s : Int) (w : World) (hB : BusAt w p bm rv sv R L) (hn : 64 ≤ R.length) :
    Calls Try.prog 29 #[.pointer (some ⟨p, 0, none⟩), .agg #[.int .u32 b, .int .u32 s]] w fun e w' => e = .returned (.int .i64 6) ∧ Below w.heap.size w w' := by
  have hc := blk_cell hB.cell 0
  simp only [List.getElem?_toArray, List.getElem?_cons_zero] at hc
  have hlt := hB.ltp
  rcases row_form hB.regs with ⟨h1, h2⟩ | ⟨g, cap, h1, h2, h3, _⟩
  · omega
  · subst h1
    unfold maxLen at h3
    have hi : (64 : Int) ≤ (R.length : Int) := by omega
    clear hB
    go_enter Try.func29, Try.ntmps29
    go_wp2_with fail
    go_ret
    exact ⟨rfl, trA (tr0 w) _⟩
theorem zRoom (p bm : Nat) (rv sv : Value) (R : List (Int × Int)) (L : List Seat) (b s : Int) (v : Bool) (w : World) (hB : BusAt w p bm rv sv R L) (hn : R.length < 64) (hR : ∀ x ∈ R, (0 ≤ x.1 ∧ x.1 < 4294967296) ∧ 0 ≤ x.2 ∧ x.2 < 4294967296)
    (b0 : 0 ≤ b) (b1 : b < 4294967296) (s0 : 0 ≤ s) (s1 : s < 4294967296) (hv : anyMeet b s R = v) :
    Calls Try.prog 29 #[.pointer (some ⟨p, 0, none⟩), .agg #[.int .u32 b, .int .u32 s]] w fun e w' => e = .returned (.int .i64 (if v then 15 else 0)) ∧ Below w.heap.size w w' := by
  have hmf : ∀ (fn : Fn) (first cap : Array Value) (w : World), (Instr.makeFunc fn first cap).run Try.prog w = .ok (.func fn first cap) w := fun _ _ _ _ => rfl
  have hc := blk_cell hB.cell 0
  simp only [List.getElem?_toArray, List.getElem?_cons_zero] at hc
  have hlt := hB.ltp
  rcases row_form hB.regs with ⟨h1, h2⟩ | ⟨g, cap, h1, h2, h3, _⟩
  · subst h1
    have : R = [] := List.eq_nil_of_length_eq_zero h2
    subst this
    have : v = false := by rw [← hv]; rfl
    subst this
    clear hB
    go_enter Try.func29, Try.ntmps29
    go_wp2_with fail
    refine (zAnyNil _ _).mono ?_
    rintro e w1 ⟨rfl, rfl⟩
    go_wp2_with fail
    go_ret
    exact ⟨rfl, trA (tr0 w) _⟩
  · subst h1
    have hi : ¬ (64 : Int) ≤ (R.length : Int) := by omega
    have hreg := hB.regs.alloc (.cells #[.int .u32 b, .int .u32 s] 24)
    have hbx0 := blk_cell (blk_new w (.cells #[.int .u32 b, .int .u32 s] 24)) 0
    have hbx1 := blk_cell (blk_new w (.cells #[.int .u32 b, .int .u32 s] 24)) 1
    have hany := zAny b s w.heap.size R g cap (w.alloc (.cells #[.int .u32 b, .int .u32 s] 24)) b0 b1 s0 s1 (by simp) hbx0 hbx1 hR (by omega) hreg
    rw [hv] at hany
    have HR := Lib.hid hR
    clear hB hreg hbx0 hbx1 hR hv
    cases v
    all_goals
      go_enter Try.func29, Try.ntmps29
      go_wp2_with fail
      refine hany.mono ?_
      rintro e w1 ⟨rfl, hb⟩
      go_wp2_with fail
      go_ret
      exact ⟨rfl, tr (trA (tr0 w) _) hb⟩
end Go.Proofs.Ytjfnhnbimcbjmaa.B
