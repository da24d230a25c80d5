/- Package bus: Load, Store, Find. -/
import Derived.Test.YtjfnhnbimcbjmaaBusS
namespace Go.Proofs.Ytjfnhnbimcbjmaa.B
set_option linter.unusedVariables false
set_option linter.unusedSimpArgs false
open Go.ChangeShapes Go.WideShapes Go.RowKit Go.Sort
theorem mkf : ∀ (fn : Fn) (first cap : Array Value) (w : World), (Instr.makeFunc fn first cap).run Try.prog w = .ok (.func fn first cap) w := fun _ _ _ _ => rfl
/-- An access without a device. -/
theorem zLoadErr (pa : Option Addr) (a E : Int) (w : World) (hE : (E != 0) = true)
    (hf : ∀ w', Below w.heap.size w w' → Calls Try.prog 35 #[.pointer pa, .int .u32 a] w' fun e w'' => e = .returned (.tuple #[zeroSeatV, .int .i64 E]) ∧ Below w'.heap.size w' w'') :
    Calls Try.prog 18 #[.pointer pa, .int .u32 a] w fun e w' => e = .returned (.tuple #[.int .u32 0, .int .i64 E]) ∧ Below w.heap.size w w' := by
  have hmf := mkf
  go_enter Try.func18, Try.ntmps18
  go_wp2_with fail
  refine (zReachErr pa a E _ _ hE hf).mono ?_
  rintro e w1 ⟨rfl, hb⟩
  go_wp2_with fail
  go_ret2
  exact ⟨rfl, hb⟩
theorem zStoreErr (pa : Option Addr) (a E v : Int) (w : World) (hE : (E != 0) = true)
    (hf : ∀ w', Below w.heap.size w w' → Calls Try.prog 35 #[.pointer pa, .int .u32 a] w' fun e w'' => e = .returned (.tuple #[zeroSeatV, .int .i64 E]) ∧ Below w'.heap.size w' w'') :
    Calls Try.prog 20 #[.pointer pa, .int .u32 a, .int .u32 v] w fun e w' => e = .returned (.int .i64 E) ∧ Below w.heap.size w w' := by
  have hmf := mkf
  go_enter Try.func20, Try.ntmps20
  go_wp2_with fail
  refine (zReachErr pa a E _ _ hE (fun w' h => hf w' (tr (trA (tr0 w) _) h))).mono ?_
  rintro e w1 ⟨rfl, hb⟩
  go_wp2_with fail
  go_ret
  exact ⟨rfl, tr (trA (tr0 w) _) hb⟩
/-- The end of Find. -/
theorem findX_ret {w Y : World} {tmps : Array Value} {b s o e : Int} (h4 : tmps[4]? = some (.pointer (some ⟨w.heap.size, 0, none⟩))) (h5 : tmps[5]? = some (.int .u32 o)) (h6 : tmps[6]? = some (.int .i64 e))
    (hY : Y.heap[w.heap.size]? = some (.cells #[.int .u32 b, .int .u32 s] 24 (0, 0))) {Q : World → Prop} (hQ : Q Y) :
    bodyPost Try.prog Try.f22 (fun e' w' => e' = .returned (.tuple #[.agg #[.int .u32 b, .int .u32 s], .int .u32 o, .int .i64 e]) ∧ Q w') Exit.ret { tmps := tmps, defers := [] } Y := by
  have hy0 := blk_cell hY 0
  have hy1 := blk_cell hY 1
  simp at hy0 hy1
  refine bodyPost_ret (v := .tuple #[.agg #[.int .u32 b, .int .u32 s], .int .u32 o, .int .i64 e]) ?_ rfl ⟨rfl, hQ⟩
  simp [results, Try.results22, go_sem, h4, h5, h6, hy0, hy1]
theorem zFindXErr (pa : Option Addr) (a E : Int) (w : World) (hE : (E != 0) = true)
    (hf : ∀ w', Below w.heap.size w w' → Calls Try.prog 35 #[.pointer pa, .int .u32 a] w' fun e w'' => e = .returned (.tuple #[zeroSeatV, .int .i64 E]) ∧ Below w'.heap.size w' w'') :
    Calls Try.prog 22 #[.pointer pa, .int .u32 a] w fun e w' => e = .returned (.tuple #[.agg #[.int .u32 0, .int .u32 0], .int .u32 0, .int .i64 E]) ∧ Below w.heap.size w w' := by
  unfold zeroSeatV at hf
  go_enter Try.func22, Try.ntmps22
  go_wp2_with fail
  refine (hf _ (trA (tr0 w) _)).mono ?_
  rintro e w1 ⟨rfl, hb⟩
  have hX := blk_below hb (blk_new w _) (by simp)
  have hx0 := blk_cell hX 0
  have hx1 := blk_cell hX 1
  simp only [List.getElem?_toArray, List.getElem?_cons_zero, List.getElem?_cons_succ] at hx0 hx1
  have hf0 := blk_free hX 0
  have hf1 := blk_free hX 1
  have HX := Lib.hid hX
  have hl := lt_of_block hX
  have hbw := tr (trA (tr0 w) _) hb
  clear hX hb hf
  go_wp2_with fail
  exact findX_ret rfl rfl rfl ((blk_old _ _ (by simpa using hl)).trans (blk_set (blk_set HX.out 0 _) 1 _)) (trA ((hbw.setCell (Nat.le_refl _) _).setCell (Nat.le_refl _) _) _)
theorem zFindX (p bm : Nat) (rv sv : Value) (R : List (Int × Int)) (L : List Seat) (a b s : Int) (f : Nat) (w : World) (a0 : 0 ≤ a) (a1 : a < 4294967296) (h : (a % 4 != 0) = false) (hB : BusAt w p bm rv sv R L)
    (hfd : findL a L = (.agg #[.int .u32 b, .int .u32 s, .iface 38 (.pointer (some ⟨f, 0, none⟩))], 0)) (hb0 : 0 ≤ b) (hba : b ≤ a) :
    Calls Try.prog 22 #[.pointer (some ⟨p, 0, none⟩), .int .u32 a] w fun e w' => e = .returned (.tuple #[.agg #[.int .u32 b, .int .u32 s], .int .u32 (a - b), .int .i64 0]) ∧ Below w.heap.size w w' := by
  go_enter Try.func22, Try.ntmps22
  go_wp2_with fail
  refine (zFind a _ _ p bm rv sv R L _ a0 a1 h (hB.ofBelow (trA (tr0 w) _)) hfd).mono ?_
  rintro e w1 ⟨rfl, hb⟩
  have hX := blk_below hb (blk_new w _) (by simp)
  have hl := lt_of_block hX
  have hbw := tr (trA (tr0 w) _) hb
  clear hb
  go_upto_region 2 with (fail)
  have hX1 := (blk_old w1 (.cells #[.int .u32 b, .int .u32 s, .iface 38 (.pointer (some ⟨f, 0, none⟩))] 86) hl).trans hX
  have hS1 := blk_new w1 (.cells #[.int .u32 b, .int .u32 s, .iface 38 (.pointer (some ⟨f, 0, none⟩))] 86)
  have hbW := trA hbw (.cells #[.int .u32 b, .int .u32 s, .iface 38 (.pointer (some ⟨f, 0, none⟩))] 86)
  generalize (w1.alloc (.cells #[.int .u32 b, .int .u32 s, .iface 38 (.pointer (some ⟨f, 0, none⟩))] 86)) = W at *
  have hx0 := blk_cell hX1 0
  have hx1 := blk_cell hX1 1
  have hs0 := blk_cell hS1 0
  have hs1 := blk_cell hS1 1
  simp only [List.getElem?_toArray, List.getElem?_cons_zero, List.getElem?_cons_succ] at hx0 hx1 hs0 hs1
  have hf0 := blk_free hX1 0
  have hf1 := blk_free hX1 1
  have HX := Lib.hid hX1
  clear hX1 hS1 hX
  go_wp2_with fail
  go_region
  go_wp2_with fail
  exact findX_ret (Y := World.drew _) rfl rfl rfl (blk_set (blk_set HX.out 0 _) 1 _) (trD ((hbW.setCell (Nat.le_refl _) _).setCell (Nat.le_refl _) _))
/-- A load that a file answers. -/
theorem zLoad (p bm : Nat) (rv sv : Value) (R : List (Int × Int)) (L : List Seat) (a b s : Int) (f m : Nat) (M : List (Int × Rg)) (x : Rg) (w : World) (a0 : 0 ≤ a) (a1 : a < 4294967296) (h : (a % 4 != 0) = false) (hB : BusAt w p bm rv sv R L)
    (hfd : findL a L = (.agg #[.int .u32 b, .int .u32 s, .iface 38 (.pointer (some ⟨f, 0, none⟩))], 0)) (hb0 : 0 ≤ b) (hba : b ≤ a) (hF : FileAt w f m M) (hin : (a - b, x) ∈ M) (hoff : ((a - b) % 4 != 0) = false) (hfp : f ≠ p) (hmp : m ≠ p) :
    Calls Try.prog 18 #[.pointer (some ⟨p, 0, none⟩), .int .u32 a] w fun e w' => e = .returned (.tuple #[.int .u32 x.v, .int .i64 0]) ∧ Below w.heap.size w w' := by
  have hmf := mkf
  go_enter Try.func18, Try.ntmps18
  go_wp2_with fail
  refine (zReach p bm rv sv R L a b s x.v f (fun _ => False) (fun _ => True) _ a0 a1 h hB hfd hb0 hba (fun h => h) (fun _ h => h.elim) (fun w' ho => ?_) (fun _ _ _ _ => trivial)).mono ?_
  · refine (fLoad (a - b) x f m M w' (by omega) hoff (hF.off ho hfp hmp) hin).mono ?_
    rintro e w2 ⟨rfl, hb⟩
    exact ⟨rfl, Off.ofBelow hb, trivial⟩
  rintro e w1 ⟨rfl, ho, _⟩
  go_wp2_with fail
  go_ret2
  exact ⟨rfl, ho.below (fun _ _ h => h) (Nat.le_refl _)⟩
/-- The closure of a store. -/
theorem zClosS (off : Int) (x : Rg) (v : Int) (f m vb : Nat) (M : List (Int × Rg)) (w : World) (v0 : 0 ≤ v) (v1 : v < 4294967296) (h0 : 0 ≤ off) (h1 : off < 4294967296) (h : (off % 4 != 0) = false) (hF : FileAt w f m M) (hin : (off, x) ∈ M) (ho : only x.r x.c = false)
    (hv : w.cell? ⟨vb, 0, none⟩ = some (.int .u32 v)) :
    Calls Try.prog 34 #[.iface 38 (.pointer (some ⟨f, 0, none⟩)), .int .u32 off, .pointer (some ⟨vb, 0, none⟩)] w
      fun e w' => e = .returned (.tuple #[.int .u32 0, .int .i64 0]) ∧ FileAt w' f m (putF off (x.put v) M) ∧ Off (· = m) w w' := by
  have hm : ∀ (n : Nat) (w : World), (method (n + 1) 38 (.pointer (some ⟨f, 0, none⟩)) "Store").run Try.prog w = .ok (105, .pointer (some ⟨f, 0, none⟩)) w := fun _ _ => by kernel_rfl
  go_enter Try.func34, Try.ntmps34
  go_wp2_with fail
  refine (fStore off x v f m M _ v0 v1 h0 h1 h hF hin ho).mono ?_
  rintro e w1 ⟨rfl, hF1, ho1⟩
  go_wp2_with fail
  go_ret2
  exact ⟨rfl, hF1, ho1⟩
/-- A store that a file answers. -/
theorem zStore (p bm : Nat) (rv sv : Value) (R : List (Int × Int)) (L : List Seat) (a b s v : Int) (f m : Nat) (M : List (Int × Rg)) (x : Rg) (w : World) (a0 : 0 ≤ a) (a1 : a < 4294967296) (v0 : 0 ≤ v) (v1 : v < 4294967296) (h : (a % 4 != 0) = false) (hB : BusAt w p bm rv sv R L)
    (hfd : findL a L = (.agg #[.int .u32 b, .int .u32 s, .iface 38 (.pointer (some ⟨f, 0, none⟩))], 0)) (hb0 : 0 ≤ b) (hba : b ≤ a) (hF : FileAt w f m M) (hin : (a - b, x) ∈ M) (ho : only x.r x.c = false) (hoff : ((a - b) % 4 != 0) = false) (hfp : f ≠ p) (hmp : m ≠ p) :
    Calls Try.prog 20 #[.pointer (some ⟨p, 0, none⟩), .int .u32 a, .int .u32 v] w fun e w' => e = .returned (.int .i64 0) ∧ Off (· = m) w w' ∧ FileAt w' f m (putF (a - b) (x.put v) M) := by
  have hmf := mkf
  have hlp := hB.ltp
  have hlm := hF.ltm
  have hlf := hF.ltf
  go_enter Try.func20, Try.ntmps20
  go_wp2_with fail
  refine (zReachS p bm rv sv R L a b s 0 f w.heap.size (· = m) (fun u => FileAt u f m (putF (a - b) (x.put v) M)) _ a0 a1 h (hB.ofBelow (trA (tr0 w) _)) hfd hb0 hba (fun h => hmp h.symm) (fun k h => by simp; omega) (fun w' ho' => ?_) (fun u u' hu hu' => ?_)).mono ?_
  · refine (zClosS (a - b) x v f m w.heap.size M w' v0 v1 (by omega) (by omega) hoff ((hF.below (trA (tr0 w) _)).off ho' hfp hmp) hin ho ?_).mono ?_
    · rw [ho'.cell (by simp) (by show ¬ w.heap.size = p; omega)]; exact blk_cell (blk_new w (.cells #[.int .u32 v] 22)) 0
    rintro e w2 ⟨rfl, hF2, ho2⟩
    exact ⟨rfl, ho2, hF2⟩
  · refine hu.off hu' ?_ ?_ <;> (intro hc; simp at hc; omega)
  rintro e w1 ⟨rfl, ho1, hF1⟩
  go_wp2_with fail
  go_ret
  exact ⟨rfl, (Off.ofAlloc w _).trans ho1, hF1⟩
end Go.Proofs.Ytjfnhnbimcbjmaa.B
