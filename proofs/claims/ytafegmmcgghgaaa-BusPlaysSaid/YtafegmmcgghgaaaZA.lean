/- Several texts in one: Rows of things of several cells each: where each lies. A bus whose regions lie in the first page: what it looks up. A bus of any regions and devices: its pages, and what it looks up. A bus of any regions: its pages by themselves, and a seat more in one of them. 'm[k] = f(m[k])' in one statement: the entry is found, then laid; append as a step of a region that draws its order. Package bus: what a region that is put asks, whatever the pages: keys, zeros, a row of regions that grows. A bus of any regions: a region and its device are put into all their pages. A bus of any regions: put, walked. -/
import Derived.Test.YtafegmmcgghgaaaMap
import Derived.Test.YtafegmmcgghgaaaBusC
import Derived.Laws.AppendOwn
import Derived.Laws.OwnMore
import Derived.Deep.RegionLaw
import Derived.Maps.AppendAt
import Derived.Deep.Cut
import Derived.Deep.CutRange
namespace Go.Proofs.Ytafegmmcgghgaaa.B
set_option linter.unusedVariables false
set_option linter.unusedSimpArgs false
open Go.ChangeShapes Go.WideShapes Go.RowKit Go.Sort
theorem flat_len {α : Type} (f : α → List Value) (n : Nat) (h : ∀ x, (f x).length = n) : ∀ L : List α, (L.flatMap f).length = L.length * n
  | [] => by simp
  | x :: L => by rw [List.flatMap_cons, List.length_append, h, flat_len f n h L, List.length_cons, Nat.add_mul]; omega
theorem flat_at {α : Type} (f : α → List Value) (n : Nat) (h : ∀ x, (f x).length = n) : ∀ (L : List α) (k j : Nat) (x : α), L[k]? = some x → j < n → (L.flatMap f)[k * n + j]? = (f x)[j]?
  | [], k, j, x, hx, _ => by simp at hx
  | y :: L, 0, j, x, hx, hj => by
    simp at hx; subst hx
    rw [List.flatMap_cons, Nat.zero_mul, Nat.zero_add, List.getElem?_append_left (by rw [h]; exact hj)]
  | y :: L, k + 1, j, x, hx, hj => by
    rw [List.flatMap_cons, List.getElem?_append_right (by rw [h, Nat.add_mul]; omega), h, show (k + 1) * n + j - n = k * n + j by rw [Nat.add_mul]; omega]
    exact flat_at f n h L k j x (by simpa using hx) hj
/-- The cells of an owned row of things. -/
theorem row_cell {α : Type} {f : α → List Value} {n : Nat} (h : ∀ x, (f x).length = n) {w : World} {base : Nat} {e : TypeId} {v : Value} {L : List α} (ho : w.ownsRow base e n v L.length (L.flatMap f)) {g cap : Nat} (hv : v = .slice (some ⟨g, 0, none⟩) L.length cap)
    {k : Nat} {x : α} (hx : L[k]? = some x) (j : Nat) (hj : j < n) : w.cell? ⟨g, k * n + j, none⟩ = (f x)[j]? := by
  subst hv
  have hk : k < L.length := (List.getElem?_eq_some_iff.1 hx).1
  have hb : k * n + j < L.length * n := by
    have : (k + 1) * n ≤ L.length * n := Nat.mul_le_mul_right n hk
    rw [Nat.add_mul] at this; omega
  rw [ho.cellAt _ hb]
  exact flat_at f n h L k j x hx hj
theorem row_form {w : World} {base : Nat} {e : TypeId} {n m : Nat} {v : Value} {xs : List Value} (ho : w.ownsRow base e n v m xs) :
    (v = .slice none 0 0 ∧ m = 0) ∨ ∃ g cap, v = .slice (some ⟨g, 0, none⟩) m cap ∧ m ≤ cap ∧ cap ≤ maxLen ∧ g < w.heap.size ∧ ∃ cur, w.heap[g]? = some (.cells cur e (0, 0)) := by
  rcases ho.2 with h | ⟨g, cap, cur, h1, _, h2, h3, h4, _, _⟩
  · exact .inl h
  · exact .inr ⟨g, cap, h1, h3, h4, lt_of_block h2, cur, h2⟩
end Go.Proofs.Ytafegmmcgghgaaa.B
namespace Go.Proofs.Ytafegmmcgghgaaa.B
set_option linter.unusedVariables false
set_option linter.unusedSimpArgs false
open Go.ChangeShapes Go.WideShapes Go.RowKit Go.Sort
/-- A region and its device. -/
structure Seat where
  b : Int
  s : Int
  f : Nat
/-- A file as a device. -/
def Seat.d (x : Seat) : Value := .iface 23 (.pointer (some ⟨x.f, 0, none⟩))
def Seat.cells (x : Seat) : List Value := [.int .u32 x.b, .int .u32 x.s, x.d]
def Seat.val (x : Seat) : Value := .agg #[.int .u32 x.b, .int .u32 x.s, x.d]
def regCells (x : Int × Int) : List Value := [.int .u32 x.1, .int .u32 x.2]
/-- Regions as they may stand in the first page. -/
def Seat.wf (x : Seat) : Prop := 0 ≤ x.b ∧ 0 < x.s ∧ x.b + x.s ≤ 16777216
structure BusAt (w : World) (p bm : Nat) (rv sv : Value) (R : List (Int × Int)) (L : List Seat) : Prop where
  cell : w.heap[p]? = some (.cells #[rv, .map (some bm), .int .i64 0] 102 (0, 0))
  regs : w.ownsRow 0 55 2 rv R.length (R.flatMap regCells)
  map : mapP w ek ok32 bm (if L = [] then [] else [(0, sv)])
  seats : w.ownsRow 0 109 3 sv L.length (L.flatMap Seat.cells)
  wf : ∀ x ∈ L, x.wf
  nilv : L = [] → sv = .slice none 0 0
theorem BusAt.ltp {w : World} {p bm : Nat} {rv sv : Value} {R : List (Int × Int)} {L : List Seat} (h : BusAt w p bm rv sv R L) : p < w.heap.size := lt_of_block h.cell
theorem row_keep {w w' : World} {base : Nat} {e : TypeId} {n m : Nat} {v : Value} {xs : List Value} (h : w.ownsRow base e n v m xs) (hk : ∀ g, v.ownBlock = some g → w'.heap[g]? = w.heap[g]?) : w'.ownsRow base e n v m xs := by
  refine ⟨h.1, ?_⟩
  rcases h.2 with h2 | ⟨g, cap, cur, rfl, h3, h4, h5⟩
  · exact .inl h2
  · exact .inr ⟨g, cap, cur, rfl, h3, (hk g rfl).trans h4, h5⟩
theorem row_obj {w : World} {base : Nat} {e : TypeId} {n m : Nat} {v : Value} {xs : List Value} (h : w.ownsRow base e n v m xs) {k : Nat} (hk : v.ownBlock = some k) : ∃ cur, w.heap[k]? = some (.cells cur e (0, 0)) := by
  rcases h.2 with ⟨rfl, _⟩ | ⟨g, cap, cur, rfl, _, h3, _⟩
  · cases hk
  · cases hk; exact ⟨cur, h3⟩
/-- The blocks of a bus. -/
def busBlocks (p bm : Nat) (rv sv : Value) (k : Nat) : Prop := k = p ∨ k = bm ∨ rv.ownBlock = some k ∨ sv.ownBlock = some k
theorem BusAt.kept {w w' : World} {p bm : Nat} {rv sv : Value} {R : List (Int × Int)} {L : List Seat} (h : BusAt w p bm rv sv R L) (hk : ∀ k, busBlocks p bm rv sv k → w'.heap[k]? = w.heap[k]?) : BusAt w' p bm rv sv R L :=
  ⟨(hk p (.inl rfl)).trans h.cell, row_keep h.regs fun g hg => hk g (.inr (.inr (.inl hg))), h.map.kept (hk bm (.inr (.inl rfl))), row_keep h.seats fun g hg => hk g (.inr (.inr (.inr hg))), h.wf, h.nilv⟩
theorem BusAt.lt {w : World} {p bm : Nat} {rv sv : Value} {R : List (Int × Int)} {L : List Seat} (h : BusAt w p bm rv sv R L) (k : Nat) (hk : busBlocks p bm rv sv k) : k < w.heap.size := by
  rcases hk with rfl | rfl | hk | hk
  · exact h.ltp
  · exact h.map.lt
  · exact (h.regs.lt k hk).2
  · exact (h.seats.lt k hk).2
theorem BusAt.ofBelow {w w' : World} {p bm : Nat} {rv sv : Value} {R : List (Int × Int)} {L : List Seat} (h : BusAt w p bm rv sv R L) (hb : Below w.heap.size w w') : BusAt w' p bm rv sv R L :=
  h.kept fun k hk => hb.block k (h.lt k hk)
theorem BusAt.ofOff {S : Nat → Prop} {w w' : World} {p bm : Nat} {rv sv : Value} {R : List (Int × Int)} {L : List Seat} (h : BusAt w p bm rv sv R L) (hb : Off S w w') (hS : ∀ k, busBlocks p bm rv sv k → ¬ S k) : BusAt w' p bm rv sv R L :=
  h.kept fun k hk => hb.block k (h.lt k hk) (hS k hk)
/-- What the first page's lookup tells. -/
theorem BusAt.page {w : World} {p bm : Nat} {rv sv : Value} {R : List (Int × Int)} {L : List Seat} (h : BusAt w p bm rv sv R L) (a : Int) (a0 : 0 ≤ a) (a1 : a < 4294967296) :
    ∀ w', w'.heap[bm]? = w.heap[bm]? → (Instr.lookup 100 (.map (some bm)) (ek (a / 16777216)) false).run Try.prog w' = .ok (if a < 16777216 then sv else .slice none 0 0) w' := by
  intro w' hw
  have hm := h.map.kept hw
  have hz : (zeroValue 126).run Try.prog w' = .ok (.slice none 0 0) w' := by kernel_rfl
  have hok : ok32 (a / 16777216) := ⟨by omega, by omega⟩
  by_cases hL : L = []
  · subst hL
    have hsv := h.nilv rfl
    rw [if_pos rfl] at hm
    have := hm.miss pageKey Try.underlying100 (x := a / 16777216) (fun _ hp => by cases hp) hok hz false
    simpa [hsv] using this
  · rw [if_neg hL] at hm
    by_cases ha : a < 16777216
    · have : a / 16777216 = 0 := by omega
      rw [if_pos ha, this]
      simpa using hm.hit pageKey Try.underlying100 (x := 0) (v := sv) (by simp) false
    · rw [if_neg ha]
      have := hm.miss pageKey Try.underlying100 (x := a / 16777216) (fun p hp => by simp at hp; subst hp; simp; omega) hok hz false
      simpa using this
def zeroSeatV : Value := .agg #[.int .u32 0, .int .u32 0, .nilIface]
theorem zFindBad (a : Int) (pv : Option Addr) (w : World) (a0 : 0 ≤ a) (h : (a % 4 != 0) = true) :
    Calls Try.prog 55 #[.pointer pv, .int .u32 a] w fun e w' => e = .returned (.tuple #[zeroSeatV, .int .i64 11]) ∧ Below w.heap.size w w' := by
  go_enter Try.func55, Try.ntmps55
  go_wp2_with fail
  go_step3
  go_wp2_with fail
  rw [Exit.noGoto_ret]
  refine bodyPost_ret (v := .tuple #[zeroSeatV, .int .i64 11]) ?_ rfl ?_
  · simp [results, Try.results55, go_sem, zeroSeatV]
  · exact ⟨rfl, trA (tr0 w) _⟩
theorem zFindNil (a : Int) (w : World) (a0 : 0 ≤ a) (h : (a % 4 != 0) = false) :
    Calls Try.prog 55 #[.pointer none, .int .u32 a] w fun e w' => e = .returned (.tuple #[zeroSeatV, .int .i64 10]) ∧ Below w.heap.size w w' := by
  go_enter Try.func55, Try.ntmps55
  go_wp2_with fail
  go_step3
  go_wp2_with fail
  rw [Exit.noGoto_ret]
  refine bodyPost_ret (v := .tuple #[zeroSeatV, .int .i64 10]) ?_ rfl ?_
  · simp [results, Try.results55, go_sem, zeroSeatV]
  · exact ⟨rfl, trA (tr0 w) _⟩
/-- The end of find: the seat is stored where the result lies, and told. -/
theorem seat_ret {w W : World} {tmps : Array Value} {c0 c1 c2 d0 d1 d2 : Value} {e : Int} (h4 : tmps[4]? = some (.pointer (some ⟨w.heap.size, 0, none⟩))) (h5 : tmps[5]? = some (.int .i64 e))
    (hX : W.heap[w.heap.size]? = some (.cells #[d0, d1, d2] 109 (0, 0))) (hb : Below w.heap.size w W) :
    bodyPost Try.prog Try.f55 (fun e' w' => e' = .returned (.tuple #[.agg #[c0, c1, c2], .int .i64 e]) ∧ Below w.heap.size w w') Exit.ret { tmps := tmps, defers := [] }
      (((W.setCell ⟨w.heap.size, 0, none⟩ c0).setCell ⟨w.heap.size, 1, none⟩ c1).setCell ⟨w.heap.size, 2, none⟩ c2) := by
  have hY := blk_set (blk_set (blk_set hX 0 c0) 1 c1) 2 c2
  have hbY : Below w.heap.size w (((W.setCell ⟨w.heap.size, 0, none⟩ c0).setCell ⟨w.heap.size, 1, none⟩ c1).setCell ⟨w.heap.size, 2, none⟩ c2) := ((hb.setCell (Nat.le_refl _) _).setCell (Nat.le_refl _) _).setCell (Nat.le_refl _) _
  generalize (((W.setCell ⟨w.heap.size, 0, none⟩ c0).setCell ⟨w.heap.size, 1, none⟩ c1).setCell ⟨w.heap.size, 2, none⟩ c2) = Y at hY hbY ⊢
  have hy0 := blk_cell hY 0
  have hy1 := blk_cell hY 1
  have hy2 := blk_cell hY 2
  simp at hy0 hy1 hy2
  refine bodyPost_ret (v := .tuple #[.agg #[c0, c1, c2], .int .i64 e]) ?_ rfl ⟨rfl, hbY⟩
  simp [results, Try.results55, go_sem, hy0, hy1, hy2, h4, h5]
def W2 (w : World) : World := (w.alloc (.cells #[.int .u32 0, .int .u32 0, .nilIface] 109)).alloc (.cells #[.int .u32 0, .int .u32 0, .nilIface] 109)
theorem page_grown {w : World} {p bm : Nat} {rv sv : Value} {R : List (Int × Int)} {L : List Seat} (h : BusAt w p bm rv sv R L) (a : Int) (a0 : 0 ≤ a) (a1 : a < 4294967296) (V : Value) (hV : (if a < 16777216 then sv else .slice none 0 0) = V) :
    ∀ d os, (Instr.lookup 100 (.map (some bm)) (.agg #[.int .u32 (a / 16777216)]) false).run Try.prog (grow (redrawn ((w.alloc (.cells #[.int .u32 0, .int .u32 0, .nilIface] 109)).alloc (.cells #[.int .u32 0, .int .u32 0, .nilIface] 109)) d) os)
      = .ok V (grow (redrawn ((w.alloc (.cells #[.int .u32 0, .int .u32 0, .nilIface] 109)).alloc (.cells #[.int .u32 0, .int .u32 0, .nilIface] 109)) d) os) := by
  intro d os
  rw [← hV]
  have hlt : bm < w.heap.size := h.map.lt
  refine h.page a a0 a1 _ ?_
  rw [(below_regrown _ d os).block bm (by simp; omega), blk_old _ _ (by simp; omega), blk_old _ _ hlt]
theorem zFindEmpty (a : Int) (p bm : Nat) (rv sv : Value) (R : List (Int × Int)) (L : List Seat) (w : World) (a0 : 0 ≤ a) (a1 : a < 4294967296) (h : (a % 4 != 0) = false) (hB : BusAt w p bm rv sv R L) (hV : (if a < 16777216 then sv else .slice none 0 0) = .slice none 0 0) :
    Calls Try.prog 55 #[.pointer (some ⟨p, 0, none⟩), .int .u32 a] w fun e w' => e = .returned (.tuple #[zeroSeatV, .int .i64 10]) ∧ Below w.heap.size w w' := by
  have hg := gcell
  have hf := gfrozen
  have hc := blk_cell hB.cell 1
  simp only [List.getElem?_toArray, List.getElem?_cons_zero, List.getElem?_cons_succ] at hc
  have hlt := hB.ltp
  have hp2 : p < w.heap.size + 1 + 1 := by omega
  have hl := page_grown hB a a0 a1 _ hV
  clear hV hB
  go_enter Try.func55, Try.ntmps55
  go_wp2_with fail
  go_step3
  go_wp2_with fail
  go_step3
  go_wp2_with fail
  refine wp_region_quiet_below (by kernel_rfl) (by kernel_rfl) ?_
  repeat (go_big_quiet_step (first
    | (go_at_call 64; exact Calls.regrown_of (zPageOf _ _ a0 a1))))
  refine wpQuiet_nil ?_
  intro _ hw'
  obtain ⟨⟨dq, osq⟩, hw''⟩ := hw'
  subst hw''
  go_wp2_with fail
  refine wp_loop_rounds 1 ?_
  rw [rounds_succ]
  go_wp2_with fail
  rw [Exit.noGoto_ret]
  have hX : (grow (redrawn ((w.alloc (.cells #[.int .u32 0, .int .u32 0, .nilIface] 109)).alloc (.cells #[.int .u32 0, .int .u32 0, .nilIface] 109)) dq) osq).heap[w.heap.size]? = some (.cells #[.int .u32 0, .int .u32 0, .nilIface] 109 (0, 0)) :=
    blk_below (below_regrown _ _ _) ((blk_old _ _ (by simp)).trans (blk_new w _)) (by simp; omega)
  exact seat_ret rfl rfl hX (trG (trA (trA (tr0 w) _) _) _ _)
/-- What find tells of an address. -/
def findL (a : Int) (L : List Seat) : Value × Int := match L.find? (fun x => hasB x.b x.s a) with
  | some x => (x.val, 0)
  | none => (zeroSeatV, 10)
set_option maxHeartbeats 1600000 in
theorem zFindRow (a : Int) (V : Value) (E : Int) (p bm : Nat) (rv : Value) (g cap : Nat) (R : List (Int × Int)) (L : List Seat) (w : World) (a0 : 0 ≤ a) (a1 : a < 16777216) (h : (a % 4 != 0) = false) (hB : BusAt w p bm rv (.slice (some ⟨g, 0, none⟩) L.length cap) R L) (hcap : L.length ≤ cap) (hmax : cap ≤ 9223372036854775807) (hVE : findL a L = (V, E)) :
    Calls Try.prog 55 #[.pointer (some ⟨p, 0, none⟩), .int .u32 a] w fun e w' => e = .returned (.tuple #[V, .int .i64 E]) ∧ Below w.heap.size w w' := by
  have HVE := Lib.hid hVE
  clear hVE
  have hg := gcell
  have hf := gfrozen
  have hc := blk_cell hB.cell 1
  simp only [List.getElem?_toArray, List.getElem?_cons_zero, List.getElem?_cons_succ] at hc
  have hlt := hB.ltp
  have hp2 : p < w.heap.size + 1 + 1 := by omega
  have hl := page_grown hB a a0 (by omega) _ (if_pos a1)
  have HB := Lib.hid hB
  clear hB
  go_enter Try.func55, Try.ntmps55
  go_wp2_with fail
  go_step3
  go_wp2_with fail
  go_step3
  go_wp2_with fail
  refine wp_region_quiet_below (by kernel_rfl) (by kernel_rfl) ?_
  repeat (go_big_quiet_step (first
    | (go_at_call 64; exact Calls.regrown_of (zPageOf _ _ a0 (by omega)))))
  refine wpQuiet_nil ?_
  intro _ hw'
  obtain ⟨⟨dq, osq⟩, hw''⟩ := hw'
  subst hw''
  clear hl hg hf
  go_wp2_with fail
  go_loopw [7, 26] (fun e i wr => ∃ k : Nat, k ≤ L.length ∧ e = .int .i64 10 ∧ i = .int .i64 k ∧ L.find? (fun x => hasB x.b x.s a) = (L.drop k).find? (fun x => hasB x.b x.s a) ∧
      Below (w.heap.size + 2) ((w.alloc (.cells #[.int .u32 0, .int .u32 0, .nilIface] 109)).alloc (.cells #[.int .u32 0, .int .u32 0, .nilIface] 109)) wr) (fun _ i _ => L.length - (intOf i).toNat)
  case atStart => exact ⟨0, by omega, rfl, rfl, rfl, (below_regrown _ _ _).mono (by simp)⟩
  case round =>
    obtain ⟨k, hk, rfl, rfl, hfd, hbel⟩ := hrel
    have HF := Lib.hid hfd
    clear hfd
    have hX : wr.heap[w.heap.size]? = some (.cells #[.int .u32 0, .int .u32 0, .nilIface] 109 (0, 0)) :=
      blk_below hbel ((blk_old _ _ (by simp)).trans (blk_new w _)) (by omega)
    have hX1 : wr.heap[w.heap.size + 1]? = some (.cells #[.int .u32 0, .int .u32 0, .nilIface] 109 (0, 0)) :=
      blk_below hbel (by simpa using blk_new (w.alloc (.cells #[.int .u32 0, .int .u32 0, .nilIface] 109)) (.cells #[.int .u32 0, .int .u32 0, .nilIface] 109)) (by omega)
    have hbw : Below w.heap.size w wr := (trA (trA (tr0 w) _) _).trans (hbel.mono (Nat.le_add_right _ _))
    have hsz := lt_of_block hX1
    by_cases hlt : k < L.length
    · obtain ⟨x, hx⟩ : ∃ x, L[k]? = some x := ⟨L[k], List.getElem?_eq_getElem hlt⟩
      have hgb : g < w.heap.size := (HB.out.seats.lt g rfl).2
      have hr0 := (hbw.cell (p := ⟨g, k * 3 + 0, none⟩) hgb).trans (row_cell (f := Seat.cells) (n := 3) (fun _ => rfl) HB.out.seats rfl hx 0 (by decide))
      have hr1 := (hbw.cell (p := ⟨g, k * 3 + 1, none⟩) hgb).trans (row_cell (f := Seat.cells) (n := 3) (fun _ => rfl) HB.out.seats rfl hx 1 (by decide))
      have hr2 := (hbw.cell (p := ⟨g, k * 3 + 2, none⟩) hgb).trans (row_cell (f := Seat.cells) (n := 3) (fun _ => rfl) HB.out.seats rfl hx 2 (by decide))
      simp only [Nat.add_zero, Seat.cells, Seat.d, List.getElem?_cons_zero, List.getElem?_cons_succ] at hr0 hr1 hr2
      have hwf := HB.out.wf x (List.mem_of_getElem? hx)
      obtain ⟨xb, xs, xf⟩ := x
      obtain ⟨q0, q1, q2⟩ := hwf
      simp only at q0 q1 q2 hr0 hr1 hr2
      have hdrop : L.drop k = ⟨xb, xs, xf⟩ :: L.drop (k + 1) := by
        rw [List.drop_eq_getElem_cons hlt]; congr 1
        exact (List.getElem?_eq_some_iff.1 hx).2
      have hX0 := Lib.hid hX
      have hX2 := Lib.hid hX1
      have hD := Lib.hid hdrop
      clear hX hX1 hx hdrop
      cases hh : hasB xb xs a
      · have HH := Lib.hid hh
        clear hh
        go_wp2_with (go_at_call 69; refine (zHasAs xb xs a false _ q0 (by omega) (by omega) (by omega) a0 (by omega) HH.out).mono ?_; rintro e w1 ⟨rfl, hb1⟩)
        go_roundw
        case rel =>
          refine ⟨k + 1, by omega, rfl, by go_num, ?_, hbel.trans (((Below.refl _ _).alloc (by omega) _).trans (hb1.mono (by simp; omega)))⟩
          rw [HF.out, hD.out, List.find?_cons, HH.out]
        case measure => simp [intOf]; omega
      · have HH := Lib.hid hh
        clear hh
        obtain ⟨rfl, rfl⟩ : Value.agg #[.int .u32 xb, .int .u32 xs, .iface 23 (.pointer (some ⟨xf, 0, none⟩))] = V ∧ 0 = E := by
          have h1 := HVE.out
          unfold findL at h1
          rw [HF.out, hD.out, List.find?_cons, HH.out] at h1
          exact Prod.mk.inj h1
        go_wp2_with fail
        refine (zHasAs xb xs a true _ q0 (by omega) (by omega) (by omega) a0 (by omega) HH.out).mono ?_
        rintro e w1 ⟨rfl, hb1⟩
        have hS := blk_below hb1 (blk_new wr _) (by simp)
        have hX3 := blk_below hb1 ((blk_old _ _ (by omega)).trans hX2.out) (by simp; omega)
        have hX4 := blk_below hb1 ((blk_old _ _ (by omega)).trans hX0.out) (by simp; omega)
        have hs0 := blk_cell hS 0
        have hs1 := blk_cell hS 1
        have hs2 := blk_cell hS 2
        have hx0 := blk_cell hX3 0
        have hx1 := blk_cell hX3 1
        have hx2 := blk_cell hX3 2
        have hy0 := blk_cell hX4 0
        have hy1 := blk_cell hX4 1
        have hy2 := blk_cell hX4 2
        simp only [List.getElem?_toArray, List.getElem?_cons_zero, List.getElem?_cons_succ] at hs0 hs1 hs2 hx0 hx1 hx2 hy0 hy1 hy2
        have hfx0 := blk_free hX3 0
        have hfx1 := blk_free hX3 1
        have hfx2 := blk_free hX3 2
        have hfy0 := blk_free hX4 0
        have hfy1 := blk_free hX4 1
        have hfy2 := blk_free hX4 2
        have hbw1 : Below w.heap.size w w1 := tr (trA hbw _) hb1
        have hS' := Lib.hid hS
        have hX3' := Lib.hid hX3
        have hX4' := Lib.hid hX4
        clear hS hX3 hX4 hb1
        go_wp2_with fail
        rw [Exit.noGoto_ret]
        exact seat_ret rfl rfl (by rw [Below.heap_setCell _ _ _ _ (by simp), Below.heap_setCell _ _ _ _ (by simp), Below.heap_setCell _ _ _ _ (by simp)]; exact hX4'.out) (((hbw1.setCell (by simp) _).setCell (by simp) _).setCell (by simp) _)
    · have hx0 := blk_cell hX1 0
      have hx1 := blk_cell hX1 1
      have hx2 := blk_cell hX1 2
      have hy0 := blk_cell hX 0
      have hy1 := blk_cell hX 1
      have hy2 := blk_cell hX 2
      simp only [List.getElem?_toArray, List.getElem?_cons_zero, List.getElem?_cons_succ] at hx0 hx1 hx2 hy0 hy1 hy2
      have hf0 := blk_free hX 0
      have hf1 := blk_free hX 1
      have hf2 := blk_free hX 2
      have hX0 := Lib.hid hX
      clear hX hX1
      go_wp2_with fail
      rw [Exit.noGoto_ret]
      have : L.drop k = [] := List.drop_of_length_le (by omega)
      obtain ⟨rfl, rfl⟩ : zeroSeatV = V ∧ 10 = E := by
        have h1 := HVE.out
        unfold findL at h1
        rw [HF.out, this] at h1
        exact Prod.mk.inj h1
      exact seat_ret rfl rfl hX0.out hbw
/-- What find tells, of any address that is a multiple of 4. -/
theorem zFind (a : Int) (V : Value) (E : Int) (p bm : Nat) (rv sv : Value) (R : List (Int × Int)) (L : List Seat) (w : World) (a0 : 0 ≤ a) (a1 : a < 4294967296) (h : (a % 4 != 0) = false) (hB : BusAt w p bm rv sv R L) (hVE : findL a L = (V, E)) :
    Calls Try.prog 55 #[.pointer (some ⟨p, 0, none⟩), .int .u32 a] w fun e w' => e = .returned (.tuple #[V, .int .i64 E]) ∧ Below w.heap.size w w' := by
  have none : (16777216 ≤ a ∨ L = []) → zeroSeatV = V ∧ 10 = E := by
    intro hn
    have : L.find? (fun x => hasB x.b x.s a) = .none := by
      rcases hn with hn | rfl
      · refine List.find?_eq_none.2 fun x hx => ?_
        have := hB.wf x hx
        unfold Seat.wf at this
        unfold hasB
        simp
        omega
      · rfl
    unfold findL at hVE
    rw [this] at hVE
    exact Prod.mk.inj hVE
  rcases row_form hB.seats with ⟨h1, h2⟩ | ⟨g, cap, h1, h2, h3, _⟩
  · obtain ⟨rfl, rfl⟩ := none (.inr (List.eq_nil_of_length_eq_zero h2))
    exact zFindEmpty a p bm rv sv R L w a0 a1 h hB (by rw [h1]; simp)
  · by_cases ha : a < 16777216
    · subst h1
      unfold maxLen at h3
      exact zFindRow a V E p bm rv g cap R L w a0 ha h hB h2 (by omega) hVE
    · obtain ⟨rfl, rfl⟩ := none (.inl (by omega))
      exact zFindEmpty a p bm rv sv R L w a0 a1 h hB (if_neg ha)
end Go.Proofs.Ytafegmmcgghgaaa.B
namespace Go.Proofs.Ytafegmmcgghgaaa.B
set_option linter.unusedVariables false
set_option linter.unusedSimpArgs false
open Go.ChangeShapes Go.WideShapes Go.RowKit Go.Sort
/-- A region and its device, a value of some type. -/
structure Su where
  b : Int
  s : Int
  ty : TypeId
  dv : Value
def Su.d (x : Su) : Value := .iface x.ty x.dv
def Su.cells (x : Su) : List Value := [.int .u32 x.b, .int .u32 x.s, x.d]
def Su.val (x : Su) : Value := .agg #[.int .u32 x.b, .int .u32 x.s, x.d]
def Su.wf (x : Su) : Prop := 0 ≤ x.b ∧ (0 < x.s ∧ x.s < 4294967296) ∧ x.b + x.s ≤ 4294967296
/-- Does a region have addresses in a page? -/
def Su.on (x : Su) (u : Int) : Prop := x.b / 16777216 ≤ u ∧ u ≤ (x.b + (x.s - 1)) / 16777216
/-- A page's row. -/
def rowV (ks : List Int) (pv : Int → Value) (u : Int) : Value := if u ∈ ks then pv u else .slice none 0 0
/-- Block p is a bus's: its regions, and its pages ks with the rows pv of the seats Lp. -/
structure UBus (w : World) (p bm : Nat) (rv : Value) (R : List (Int × Int)) (ks : List Int) (pv : Int → Value) (Lp : Int → List Su) : Prop where
  cell : w.heap[p]? = some (.cells #[rv, .map (some bm), .int .i64 0] 102 (0, 0))
  regs : w.ownsRow 0 55 2 rv R.length (R.flatMap regCells)
  map : mapP w ek ok32 bm (ks.map fun u => (u, pv u))
  rows : ∀ u, u ∈ ks → w.ownsRow 0 109 3 (pv u) (Lp u).length ((Lp u).flatMap Su.cells)
  nos : ∀ u, u ∉ ks → Lp u = []
  disj : ∀ u, u ∈ ks → ∀ v, v ∈ ks → u ≠ v → ∀ k, (pv u).ownBlock = some k → (pv v).ownBlock ≠ some k
  wf : ∀ u, ∀ x ∈ Lp u, x.wf
  kl : ks.length ≤ 256 * R.length
  ll : ∀ u, (Lp u).length ≤ R.length
def uBlocks (p bm : Nat) (rv : Value) (ks : List Int) (pv : Int → Value) (k : Nat) : Prop := k = p ∨ k = bm ∨ rv.ownBlock = some k ∨ ∃ u, u ∈ ks ∧ (pv u).ownBlock = some k
section
variable {w w' : World} {p bm : Nat} {rv : Value} {R : List (Int × Int)} {ks : List Int} {pv : Int → Value} {Lp : Int → List Su}
theorem UBus.ltp (h : UBus w p bm rv R ks pv Lp) : p < w.heap.size := lt_of_block h.cell
theorem UBus.kept (h : UBus w p bm rv R ks pv Lp) (hk : ∀ k, uBlocks p bm rv ks pv k → w'.heap[k]? = w.heap[k]?) : UBus w' p bm rv R ks pv Lp :=
  ⟨(hk p (.inl rfl)).trans h.cell, row_keep h.regs fun g hg => hk g (.inr (.inr (.inl hg))), h.map.kept (hk bm (.inr (.inl rfl))), fun u hu => row_keep (h.rows u hu) fun g hg => hk g (.inr (.inr (.inr ⟨u, hu, hg⟩))), h.nos, h.disj, h.wf, h.kl, h.ll⟩
theorem UBus.lt (h : UBus w p bm rv R ks pv Lp) (k : Nat) (hk : uBlocks p bm rv ks pv k) : k < w.heap.size := by
  rcases hk with rfl | rfl | hk | ⟨u, hu, hk⟩
  · exact h.ltp
  · exact h.map.lt
  · exact (h.regs.lt k hk).2
  · exact ((h.rows u hu).lt k hk).2
theorem UBus.ofBelow (h : UBus w p bm rv R ks pv Lp) (hb : Below w.heap.size w w') : UBus w' p bm rv R ks pv Lp := h.kept fun k hk => hb.block k (h.lt k hk)
theorem UBus.ofOff {S : Nat → Prop} (h : UBus w p bm rv R ks pv Lp) (hb : Off S w w') (hS : ∀ k, uBlocks p bm rv ks pv k → ¬ S k) : UBus w' p bm rv R ks pv Lp := h.kept fun k hk => hb.block k (h.lt k hk) (hS k hk)
theorem UBus.page (h : UBus w p bm rv R ks pv Lp) (a : Int) (a0 : 0 ≤ a) (a1 : a < 4294967296) :
    ∀ w', w'.heap[bm]? = w.heap[bm]? → (Instr.lookup 100 (.map (some bm)) (.agg #[.int .u32 (a / 16777216)]) false).run Try.prog w' = .ok (rowV ks pv (a / 16777216)) w' := by
  intro w' hw
  have hm := h.map.kept hw
  have hok : ok32 (a / 16777216) := ⟨by omega, by omega⟩
  have hz : (zeroValue 126).run Try.prog w' = .ok (.slice none 0 0) w' := by kernel_rfl
  unfold rowV
  by_cases hu : a / 16777216 ∈ ks
  · rw [if_pos hu]
    simpa [ek] using hm.hit pageKey Try.underlying100 (x := a / 16777216) (v := pv (a / 16777216)) (List.mem_map.2 ⟨_, hu, rfl⟩) false
  · rw [if_neg hu]
    have := hm.miss pageKey Try.underlying100 (x := a / 16777216) (fun q hq e => by obtain ⟨v, hv, rfl⟩ := List.mem_map.1 hq; exact hu (by rw [← e]; exact hv)) hok hz false
    simpa [ek] using this
end
theorem upage_grown {w : World} {p bm : Nat} {rv : Value} {R : List (Int × Int)} {ks : List Int} {pv : Int → Value} {Lp : Int → List Su} (h : UBus w p bm rv R ks pv Lp) (a : Int) (a0 : 0 ≤ a) (a1 : a < 4294967296) (V : Value) (hV : rowV ks pv (a / 16777216) = V) :
    ∀ d os, (Instr.lookup 100 (.map (some bm)) (.agg #[.int .u32 (a / 16777216)]) false).run Try.prog (grow (redrawn ((w.alloc (.cells #[.int .u32 0, .int .u32 0, .nilIface] 109)).alloc (.cells #[.int .u32 0, .int .u32 0, .nilIface] 109)) d) os)
      = .ok V (grow (redrawn ((w.alloc (.cells #[.int .u32 0, .int .u32 0, .nilIface] 109)).alloc (.cells #[.int .u32 0, .int .u32 0, .nilIface] 109)) d) os) := by
  intro d os
  rw [← hV]
  have hlt : bm < w.heap.size := h.map.lt
  refine h.page a a0 a1 _ ?_
  rw [(below_regrown _ d os).block bm (by simp; omega), blk_old _ _ (by simp; omega), blk_old _ _ hlt]
theorem uFindEmpty (a : Int) (p bm : Nat) (rv : Value) (R : List (Int × Int)) (ks : List Int) (pv : Int → Value) (Lp : Int → List Su) (w : World) (a0 : 0 ≤ a) (a1 : a < 4294967296) (h : (a % 4 != 0) = false) (hB : UBus w p bm rv R ks pv Lp) (hV : rowV ks pv (a / 16777216) = .slice none 0 0) :
    Calls Try.prog 55 #[.pointer (some ⟨p, 0, none⟩), .int .u32 a] w fun e w' => e = .returned (.tuple #[zeroSeatV, .int .i64 10]) ∧ Below w.heap.size w w' := by
  have hg := gcell
  have hf := gfrozen
  have hc := blk_cell hB.cell 1
  simp only [List.getElem?_toArray, List.getElem?_cons_zero, List.getElem?_cons_succ] at hc
  have hlt := hB.ltp
  have hp2 : p < w.heap.size + 1 + 1 := by omega
  have hl := upage_grown hB a a0 a1 _ hV
  clear hV hB
  go_enter Try.func55, Try.ntmps55
  go_wp2_with fail
  go_step3
  go_wp2_with fail
  go_step3
  go_wp2_with fail
  refine wp_region_quiet_below (by kernel_rfl) (by kernel_rfl) ?_
  repeat (go_big_quiet_step (first
    | (go_at_call 64; exact Calls.regrown_of (zPageOf _ _ a0 a1))))
  refine wpQuiet_nil ?_
  intro _ hw'
  obtain ⟨⟨dq, osq⟩, hw''⟩ := hw'
  subst hw''
  go_wp2_with fail
  refine wp_loop_rounds 1 ?_
  rw [rounds_succ]
  go_wp2_with fail
  rw [Exit.noGoto_ret]
  have hX : (grow (redrawn ((w.alloc (.cells #[.int .u32 0, .int .u32 0, .nilIface] 109)).alloc (.cells #[.int .u32 0, .int .u32 0, .nilIface] 109)) dq) osq).heap[w.heap.size]? = some (.cells #[.int .u32 0, .int .u32 0, .nilIface] 109 (0, 0)) :=
    blk_below (below_regrown _ _ _) ((blk_old _ _ (by simp)).trans (blk_new w _)) (by simp; omega)
  exact seat_ret rfl rfl hX (trG (trA (trA (tr0 w) _) _) _ _)
/-- What find tells of an address. -/
def findU (a : Int) (L : List Su) : Value × Int := match L.find? (fun x => hasB x.b x.s a) with
  | some x => (x.val, 0)
  | none => (zeroSeatV, 10)
set_option maxHeartbeats 1600000 in
theorem uFindRow (a : Int) (V : Value) (E : Int) (p bm : Nat) (rv : Value) (g cap : Nat) (R : List (Int × Int)) (ks : List Int) (pv : Int → Value) (Lp : Int → List Su) (L : List Su) (w : World) (a0 : 0 ≤ a) (a1 : a < 4294967296) (h : (a % 4 != 0) = false) (hB : UBus w p bm rv R ks pv Lp) (hV : rowV ks pv (a / 16777216) = .slice (some ⟨g, 0, none⟩) L.length cap) (hrow : w.ownsRow 0 109 3 (.slice (some ⟨g, 0, none⟩) L.length cap) L.length (L.flatMap Su.cells)) (hwfs : ∀ x ∈ L, x.wf) (hcap : L.length ≤ cap) (hmax : cap ≤ 9223372036854775807) (hVE : findU a L = (V, E)) :
    Calls Try.prog 55 #[.pointer (some ⟨p, 0, none⟩), .int .u32 a] w fun e w' => e = .returned (.tuple #[V, .int .i64 E]) ∧ Below w.heap.size w w' := by
  have HVE := Lib.hid hVE
  clear hVE
  have hg := gcell
  have hf := gfrozen
  have hc := blk_cell hB.cell 1
  simp only [List.getElem?_toArray, List.getElem?_cons_zero, List.getElem?_cons_succ] at hc
  have hlt := hB.ltp
  have hp2 : p < w.heap.size + 1 + 1 := by omega
  have hl := upage_grown hB a a0 (by omega) _ hV
  have HRW := Lib.hid hrow
  have HWF := Lib.hid hwfs
  clear hB hV hrow hwfs
  go_enter Try.func55, Try.ntmps55
  go_wp2_with fail
  go_step3
  go_wp2_with fail
  go_step3
  go_wp2_with fail
  refine wp_region_quiet_below (by kernel_rfl) (by kernel_rfl) ?_
  repeat (go_big_quiet_step (first
    | (go_at_call 64; exact Calls.regrown_of (zPageOf _ _ a0 (by omega)))))
  refine wpQuiet_nil ?_
  intro _ hw'
  obtain ⟨⟨dq, osq⟩, hw''⟩ := hw'
  subst hw''
  clear hl hg hf
  go_wp2_with fail
  go_loopw [7, 26] (fun e i wr => ∃ k : Nat, k ≤ L.length ∧ e = .int .i64 10 ∧ i = .int .i64 k ∧ L.find? (fun x => hasB x.b x.s a) = (L.drop k).find? (fun x => hasB x.b x.s a) ∧
      Below (w.heap.size + 2) ((w.alloc (.cells #[.int .u32 0, .int .u32 0, .nilIface] 109)).alloc (.cells #[.int .u32 0, .int .u32 0, .nilIface] 109)) wr) (fun _ i _ => L.length - (intOf i).toNat)
  case atStart => exact ⟨0, by omega, rfl, rfl, rfl, (below_regrown _ _ _).mono (by simp)⟩
  case round =>
    obtain ⟨k, hk, rfl, rfl, hfd, hbel⟩ := hrel
    have HF := Lib.hid hfd
    clear hfd
    have hX : wr.heap[w.heap.size]? = some (.cells #[.int .u32 0, .int .u32 0, .nilIface] 109 (0, 0)) :=
      blk_below hbel ((blk_old _ _ (by simp)).trans (blk_new w _)) (by omega)
    have hX1 : wr.heap[w.heap.size + 1]? = some (.cells #[.int .u32 0, .int .u32 0, .nilIface] 109 (0, 0)) :=
      blk_below hbel (by simpa using blk_new (w.alloc (.cells #[.int .u32 0, .int .u32 0, .nilIface] 109)) (.cells #[.int .u32 0, .int .u32 0, .nilIface] 109)) (by omega)
    have hbw : Below w.heap.size w wr := (trA (trA (tr0 w) _) _).trans (hbel.mono (Nat.le_add_right _ _))
    have hsz := lt_of_block hX1
    by_cases hlt : k < L.length
    · obtain ⟨x, hx⟩ : ∃ x, L[k]? = some x := ⟨L[k], List.getElem?_eq_getElem hlt⟩
      have hgb : g < w.heap.size := (HRW.out.lt g rfl).2
      have hr0 := (hbw.cell (p := ⟨g, k * 3 + 0, none⟩) hgb).trans (row_cell (f := Su.cells) (n := 3) (fun _ => rfl) HRW.out rfl hx 0 (by decide))
      have hr1 := (hbw.cell (p := ⟨g, k * 3 + 1, none⟩) hgb).trans (row_cell (f := Su.cells) (n := 3) (fun _ => rfl) HRW.out rfl hx 1 (by decide))
      have hr2 := (hbw.cell (p := ⟨g, k * 3 + 2, none⟩) hgb).trans (row_cell (f := Su.cells) (n := 3) (fun _ => rfl) HRW.out rfl hx 2 (by decide))
      simp only [Nat.add_zero, Su.cells, Su.d, List.getElem?_cons_zero, List.getElem?_cons_succ] at hr0 hr1 hr2
      have hwf := HWF.out x (List.mem_of_getElem? hx)
      obtain ⟨xb, xs, xt, xv⟩ := x
      obtain ⟨q0, q1, q2⟩ := hwf
      simp only at q0 q1 q2 hr0 hr1 hr2
      have hdrop : L.drop k = ⟨xb, xs, xt, xv⟩ :: L.drop (k + 1) := by
        rw [List.drop_eq_getElem_cons hlt]; congr 1
        exact (List.getElem?_eq_some_iff.1 hx).2
      have hX0 := Lib.hid hX
      have hX2 := Lib.hid hX1
      have hD := Lib.hid hdrop
      clear hX hX1 hx hdrop
      cases hh : hasB xb xs a
      · have HH := Lib.hid hh
        clear hh
        go_wp2_with (go_at_call 69; refine (zHasAs xb xs a false _ q0 (by omega) (by omega) (by omega) a0 (by omega) HH.out).mono ?_; rintro e w1 ⟨rfl, hb1⟩)
        go_roundw
        case rel =>
          refine ⟨k + 1, by omega, rfl, by go_num, ?_, hbel.trans (((Below.refl _ _).alloc (by omega) _).trans (hb1.mono (by simp; omega)))⟩
          rw [HF.out, hD.out, List.find?_cons, HH.out]
        case measure => simp [intOf]; omega
      · have HH := Lib.hid hh
        clear hh
        obtain ⟨rfl, rfl⟩ : Value.agg #[.int .u32 xb, .int .u32 xs, .iface xt xv] = V ∧ 0 = E := by
          have h1 := HVE.out
          unfold findU at h1
          rw [HF.out, hD.out, List.find?_cons, HH.out] at h1
          exact Prod.mk.inj h1
        go_wp2_with fail
        refine (zHasAs xb xs a true _ q0 (by omega) (by omega) (by omega) a0 (by omega) HH.out).mono ?_
        rintro e w1 ⟨rfl, hb1⟩
        have hS := blk_below hb1 (blk_new wr _) (by simp)
        have hX3 := blk_below hb1 ((blk_old _ _ (by omega)).trans hX2.out) (by simp; omega)
        have hX4 := blk_below hb1 ((blk_old _ _ (by omega)).trans hX0.out) (by simp; omega)
        have hs0 := blk_cell hS 0
        have hs1 := blk_cell hS 1
        have hs2 := blk_cell hS 2
        have hx0 := blk_cell hX3 0
        have hx1 := blk_cell hX3 1
        have hx2 := blk_cell hX3 2
        have hy0 := blk_cell hX4 0
        have hy1 := blk_cell hX4 1
        have hy2 := blk_cell hX4 2
        simp only [List.getElem?_toArray, List.getElem?_cons_zero, List.getElem?_cons_succ] at hs0 hs1 hs2 hx0 hx1 hx2 hy0 hy1 hy2
        have hfx0 := blk_free hX3 0
        have hfx1 := blk_free hX3 1
        have hfx2 := blk_free hX3 2
        have hfy0 := blk_free hX4 0
        have hfy1 := blk_free hX4 1
        have hfy2 := blk_free hX4 2
        have hbw1 : Below w.heap.size w w1 := tr (trA hbw _) hb1
        have hS' := Lib.hid hS
        have hX3' := Lib.hid hX3
        have hX4' := Lib.hid hX4
        clear hS hX3 hX4 hb1
        go_wp2_with fail
        rw [Exit.noGoto_ret]
        exact seat_ret rfl rfl (by rw [Below.heap_setCell _ _ _ _ (by simp), Below.heap_setCell _ _ _ _ (by simp), Below.heap_setCell _ _ _ _ (by simp)]; exact hX4'.out) (((hbw1.setCell (by simp) _).setCell (by simp) _).setCell (by simp) _)
    · have hx0 := blk_cell hX1 0
      have hx1 := blk_cell hX1 1
      have hx2 := blk_cell hX1 2
      have hy0 := blk_cell hX 0
      have hy1 := blk_cell hX 1
      have hy2 := blk_cell hX 2
      simp only [List.getElem?_toArray, List.getElem?_cons_zero, List.getElem?_cons_succ] at hx0 hx1 hx2 hy0 hy1 hy2
      have hf0 := blk_free hX 0
      have hf1 := blk_free hX 1
      have hf2 := blk_free hX 2
      have hX0 := Lib.hid hX
      clear hX hX1
      go_wp2_with fail
      rw [Exit.noGoto_ret]
      have : L.drop k = [] := List.drop_of_length_le (by omega)
      obtain ⟨rfl, rfl⟩ : zeroSeatV = V ∧ 10 = E := by
        have h1 := HVE.out
        unfold findU at h1
        rw [HF.out, this] at h1
        exact Prod.mk.inj h1
      exact seat_ret rfl rfl hX0.out hbw
/-- What find tells, of any address that is a multiple of 4. -/
theorem uFind (a : Int) (V : Value) (E : Int) (p bm : Nat) (rv : Value) (R : List (Int × Int)) (ks : List Int) (pv : Int → Value) (Lp : Int → List Su) (w : World) (a0 : 0 ≤ a) (a1 : a < 4294967296) (h : (a % 4 != 0) = false) (hB : UBus w p bm rv R ks pv Lp) (hVE : findU a (Lp (a / 16777216)) = (V, E)) :
    Calls Try.prog 55 #[.pointer (some ⟨p, 0, none⟩), .int .u32 a] w fun e w' => e = .returned (.tuple #[V, .int .i64 E]) ∧ Below w.heap.size w w' := by
  have hwfs := hB.wf (a / 16777216)
  by_cases hu : a / 16777216 ∈ ks
  · have hrow := hB.rows _ hu
    have hV : rowV ks pv (a / 16777216) = pv (a / 16777216) := if_pos hu
    generalize Lp (a / 16777216) = L at *
    rcases row_form hrow with ⟨h1, h2⟩ | ⟨g, cap, h1, h2, h3, _⟩
    · have : L = [] := List.eq_nil_of_length_eq_zero h2
      subst this
      obtain ⟨rfl, rfl⟩ : zeroSeatV = V ∧ 10 = E := by unfold findU at hVE; exact Prod.mk.inj hVE
      exact uFindEmpty a p bm rv R ks pv Lp w a0 a1 h hB (hV.trans h1)
    · rw [h1] at hrow hV
      unfold maxLen at h3
      exact uFindRow a V E p bm rv g cap R ks pv Lp L w a0 a1 h hB hV hrow hwfs h2 (by omega) hVE
  · rw [hB.nos _ hu] at hVE
    obtain ⟨rfl, rfl⟩ : zeroSeatV = V ∧ 10 = E := by unfold findU at hVE; exact Prod.mk.inj hVE
    exact uFindEmpty a p bm rv R ks pv Lp w a0 a1 h hB (if_neg hu)
end Go.Proofs.Ytafegmmcgghgaaa.B
namespace Go.Proofs.Ytafegmmcgghgaaa.B
set_option linter.unusedVariables false
set_option linter.unusedSimpArgs false
open Go.ChangeShapes Go.WideShapes Go.RowKit Go.Sort
structure Pgs (w : World) (bm : Nat) (ks : List Int) (pv : Int → Value) (L : Int → List Su) : Prop where
  map : mapP w ek ok32 bm (ks.map fun u => (u, pv u))
  rows : ∀ u, u ∈ ks → w.ownsRow 0 109 3 (pv u) (L u).length ((L u).flatMap Su.cells)
  nos : ∀ u, u ∉ ks → L u = []
  disj : ∀ u, u ∈ ks → ∀ v, v ∈ ks → u ≠ v → ∀ k, (pv u).ownBlock = some k → (pv v).ownBlock ≠ some k
theorem UBus.pgs {w : World} {p bm : Nat} {rv : Value} {R : List (Int × Int)} {ks : List Int} {pv : Int → Value} {Lp : Int → List Su} (h : UBus w p bm rv R ks pv Lp) : Pgs w bm ks pv Lp := ⟨h.map, h.rows, h.nos, h.disj⟩
section
variable {w w' : World} {bm : Nat} {ks : List Int} {pv : Int → Value} {L : Int → List Su}
theorem Pgs.lt (h : Pgs w bm ks pv L) {u : Int} (hu : u ∈ ks) {k : Nat} (hk : (pv u).ownBlock = some k) : k < w.heap.size := ((h.rows u hu).lt k hk).2
theorem Pgs.nm (h : Pgs w bm ks pv L) {u : Int} (hu : u ∈ ks) {k : Nat} (hk : (pv u).ownBlock = some k) : k ≠ bm := by
  rintro rfl
  obtain ⟨_, _, hb, _⟩ := h.map
  obtain ⟨c, hc⟩ := row_obj (h.rows u hu) hk
  rw [hb] at hc; cases hc
theorem Pgs.rowNm (h : Pgs w bm ks pv L) (u : Int) {k : Nat} (hk : (rowV ks pv u).ownBlock = some k) : k < w.heap.size ∧ k ≠ bm := by
  unfold rowV at hk
  by_cases hu : u ∈ ks
  · rw [if_pos hu] at hk; exact ⟨h.lt hu hk, h.nm hu hk⟩
  · rw [if_neg hu] at hk; cases hk
theorem Pgs.row (h : Pgs w bm ks pv L) (u : Int) : w.ownsRow 0 109 3 (rowV ks pv u) (L u).length ((L u).flatMap Su.cells) := by
  unfold rowV
  by_cases hu : u ∈ ks
  · rw [if_pos hu]; exact h.rows u hu
  · rw [if_neg hu, h.nos u hu]; exact World.ownsRow_nil _ _ _ _
theorem Pgs.kept (h : Pgs w bm ks pv L) (hm : w'.heap[bm]? = w.heap[bm]?) (hk : ∀ u, u ∈ ks → ∀ k, (pv u).ownBlock = some k → w'.heap[k]? = w.heap[k]?) : Pgs w' bm ks pv L :=
  ⟨h.map.kept hm, fun u hu => row_keep (h.rows u hu) (hk u hu), h.nos, h.disj⟩
/-- The pages with a seat more in one of them. -/
def ksOf (ks : List Int) (u : Int) : List Int := u :: ks.filter fun v => decide (v ≠ u)
def pvOf (pv : Int → Value) (u : Int) (v : Value) : Int → Value := fun i => if i = u then v else pv i
def lpOf (L : Int → List Su) (u : Int) (x : Su) : Int → List Su := fun i => if i = u then L i ++ [x] else L i
theorem ks_map (ks : List Int) (pv : Int → Value) (u : Int) (v : Value) : putM u v (ks.map fun i => (i, pv i)) = (ksOf ks u).map fun i => (i, pvOf pv u v i) := by
  unfold putM ksOf pvOf
  rw [List.map_cons, if_pos rfl, List.filter_map]
  congr 1
  refine List.map_congr_left fun i hi => ?_
  have : i ≠ u := by simpa using (List.mem_filter.1 hi).2
  rw [if_neg this]
theorem mem_ksOf {ks : List Int} {u i : Int} : i ∈ ksOf ks u ↔ i = u ∨ i ∈ ks := by
  unfold ksOf
  simp only [List.mem_cons, List.mem_filter, decide_eq_true_eq]
  by_cases e : i = u <;> simp [e]
theorem ksOf_len (ks : List Int) (u : Int) : (ksOf ks u).length ≤ ks.length + 1 := by
  unfold ksOf; simp only [List.length_cons]; have := List.length_filter_le (fun v => decide (v ≠ u)) ks; omega
/-- What has become of the pages behind a seat that is put into one. -/
def StepSo (bm : Nat) (ks : List Int) (pv : Int → Value) (L : Int → List Su) (u : Int) (x : Su) (W w4 : World) : Prop :=
  ∃ v' : Value, Pgs w4 bm (ksOf ks u) (pvOf pv u v') (lpOf L u x) ∧ Off (fun j => j = bm ∨ (rowV ks pv u).ownBlock = some j) W w4 ∧ (v'.ownBlock = (rowV ks pv u).ownBlock ∨ ∃ j, v'.ownBlock = some j ∧ W.heap.size ≤ j)
theorem step_so {W w1 w2 w3 w4 : World} {C : Obj} {u : Int} {x : Su} {v' : Value} (h : Pgs W bm ks pv L) (hw1 : w1 = (W.alloc C).drew) (h12 : Off (· = bm) w1 w2) (h23 : w2.grownBy w3 (rowV ks pv u).ownBlock)
    (hown : w3.ownsRow 0 109 3 v' ((L u).length + 1) ((L u).flatMap Su.cells ++ x.cells)) (hat : v'.ownBlock = (rowV ks pv u).ownBlock ∨ v'.ownBlock = some w2.heap.size)
    (hm : mapP w4 ek ok32 bm (putM u v' (ks.map fun i => (i, pv i)))) (h34 : Off (· = bm) w3 w4) : StepSo bm ks pv L u x W w4 := by
  have ho1 : Off (fun k => k = bm ∨ (rowV ks pv u).ownBlock = some k) W w1 := by subst hw1; exact (Off.ofAlloc W C).trans ⟨rfl, rfl, rfl, Nat.le_refl _, fun _ _ _ => rfl⟩
  have ho2 : Off (fun k => k = bm ∨ (rowV ks pv u).ownBlock = some k) W w2 := ho1.andThen h12 (fun _ _ h => h) (fun _ _ h => .inl h)
  have ho3 : Off (fun k => k = bm ∨ (rowV ks pv u).ownBlock = some k) W w3 := ho2.andThen (T := fun k => (rowV ks pv u).ownBlock = some k) (Off.ofGrown h23 fun k e => e) (fun _ _ h => h) (fun _ _ h => .inr h)
  have ho4 : Off (fun k => k = bm ∨ (rowV ks pv u).ownBlock = some k) W w4 := ho3.andThen h34 (fun _ _ h => h) (fun _ _ h => .inl h)
  have hs2 : W.heap.size ≤ w2.heap.size := ho2.size
  have hvb : ∀ g, v'.ownBlock = some g → g ≠ bm := by
    rintro g hg rfl
    rcases hat with e | e
    · exact (h.rowNm u (e ▸ hg)).2 rfl
    · rw [hg] at e; have := Option.some.inj e; have := h.map.lt; omega
  have hother : ∀ i, i ∈ ks → i ≠ u → ∀ k, (pv i).ownBlock = some k → ¬ (k = bm ∨ (rowV ks pv u).ownBlock = some k) := by
    rintro i hi hiu k hk (e | e)
    · exact h.nm hi hk e
    · unfold rowV at e
      by_cases hu : u ∈ ks
      · rw [if_pos hu] at e; exact h.disj i hi u hu hiu k hk e
      · rw [if_neg hu] at e; cases e
  rw [ks_map] at hm
  refine ⟨v', ⟨hm, fun i hi => ?_, fun i hi => ?_, fun i hi j hj hij k hk => ?_⟩, ho4, ?_⟩
  · by_cases e : i = u
    · subst e
      unfold pvOf lpOf
      rw [if_pos rfl, if_pos rfl, List.length_append, List.flatMap_append]
      simp only [List.length_singleton, List.flatMap_cons, List.flatMap_nil, List.append_nil]
      exact row_keep hown fun g hg => h34.block g (hown.lt g hg).2 (hvb g hg)
    · have hik : i ∈ ks := (mem_ksOf.1 hi).resolve_left e
      unfold pvOf lpOf
      rw [if_neg e, if_neg e]
      exact row_keep (h.rows i hik) fun g hg => ho4.block g (h.lt hik hg) (hother i hik e g hg)
  · have hi' : ¬ (i = u ∨ i ∈ ks) := fun q => hi (mem_ksOf.2 q)
    unfold lpOf
    rw [if_neg fun e => hi' (.inl e)]
    exact h.nos i fun e => hi' (.inr e)
  · have hone : ∀ i, i ∈ ks → i ≠ u → ∀ k, (pv i).ownBlock = some k → v'.ownBlock ≠ some k := by
      intro i hi hiu k hk e
      rcases hat with g | g
      · exact hother i hi hiu k hk (.inr (g ▸ e))
      · rw [e] at g; have := Option.some.inj g; have := h.lt hi hk; omega
    unfold pvOf at hk ⊢
    by_cases ei : i = u
    · rw [if_pos ei] at hk
      have hj' : j ≠ u := fun e => hij (ei.trans e.symm)
      rw [if_neg hj']
      intro e
      exact hone j ((mem_ksOf.1 hj).resolve_left hj') hj' k e hk
    · rw [if_neg ei] at hk
      have hik := (mem_ksOf.1 hi).resolve_left ei
      by_cases ej : j = u
      · rw [if_pos ej]; exact hone i hik ei k hk
      · rw [if_neg ej]; exact h.disj i hik j ((mem_ksOf.1 hj).resolve_left ej) hij k hk
  · exact hat.imp id fun e => ⟨_, e, hs2⟩
end
end Go.Proofs.Ytafegmmcgghgaaa.B
namespace Go.Proofs.Ytafegmmcgghgaaa.B
set_option linter.unusedVariables false
set_option linter.unusedSimpArgs false
open Go.ChangeShapes Go.WideShapes Go.RowKit Go.Sort Go.MapKept
open Go.ChangeMaps (setBlock modify_eq_set set_perm)
/-! 'm[k] = f(m[k])' in one statement: the entry is found, then laid. -/
section
variable {P : Program} {k : TypeId} {κ : Type} {ek : κ → Value} {ok : κ → Prop} {w : World} {b : Nat} {M : List (κ × Value)}
theorem mapP.entry [DecidableEq κ] (K : KeyE P k ek ok) (KL : WideMaps.KeyLaw P k) {t e : TypeId} (ht : P.underlying t = some (.map k e)) (h : mapP w ek ok b M) (x : κ) (hok : ok x) (hsz : M.length ≤ maxLen) {z : Value} (hz : ∀ u : World, (zeroValue e).run P u = .ok z u) :
    ∃ (v0 : Value) (st : Nat) (w2 : World), (Instr.mapEntry t (.map (some b)) (ek x)).run P w = .ok (.tuple #[v0, .int .i64 st]) w2 ∧ Off (· = b) w w2 ∧ ((x, v0) ∈ M ∨ (∀ p ∈ M, p.1 ≠ x) ∧ v0 = z) ∧
      ∀ (w3 : World) (val : Value), w3.heap[b]? = w2.heap[b]? → ∃ w4, (Instr.entryStore t (.map (some b)) (.int .i64 st) val).run P w3 = .ok () w4 ∧ mapP w4 ek ok b (putM x val M) ∧ Off (· = b) w3 w4 := by
  have hlt := h.lt
  have hup := fun v => h.update K ht x v hok
  obtain ⟨es, clock, hb, hS, h3, h4⟩ := h
  obtain ⟨l, hl⟩ := K.reads x hok
  have hlen : es.size = M.length := by have := h3.length_eq; simpa using this
  have F : WideElems.Fit (H := Unit) P k (fun _ => some (.nil, [])) es clock := ⟨by omega, hS, fun e he => by
    obtain ⟨l', hl'⟩ := es_reads K h3 h4 e he
    unfold WideElems.rd
    rw [hl']
    exact ⟨_, rfl⟩⟩
  obtain ⟨v0, st, es1, clock1, hrun, hv, hst⟩ := WideElems.entry_then_store KL ht hz hb F hl
  refine ⟨v0, st, _, hrun, off_setBlock w b _ rfl, ?_, fun w3 val hw3 => ?_⟩
  · rcases hv with ⟨e0, he0, hk0, rfl⟩ | ⟨hno, rfl⟩
    · left
      have : (e0.key, e0.val) ∈ M.map fun p => (ek p.1, p.2) := h3.mem_iff.1 (List.mem_map.2 ⟨e0, he0, rfl⟩)
      obtain ⟨p, hp, hq⟩ := List.mem_map.1 this
      have h1 := K.inj _ _ ((Prod.mk.inj hq).1.trans hk0)
      have h2 := (Prod.mk.inj hq).2
      rw [← h1, ← h2]; exact hp
    · right
      refine ⟨fun p hp e1 => ?_, rfl⟩
      have : (ek p.1, p.2) ∈ es.toList.map fun e => (e.key, e.val) := h3.mem_iff.2 (List.mem_map.2 ⟨p, hp, rfl⟩)
      obtain ⟨e2, he2, hq⟩ := List.mem_map.1 this
      exact hno e2 he2 (by rw [← e1]; exact (Prod.mk.inj hq).1)
  · rw [setBlock_self w b _ hlt] at hw3
    obtain ⟨es', clock', hr1, hr2⟩ := hst w3 val hw3
    obtain ⟨es2, clock2, hr3, hm⟩ := hup val
    rw [hr2] at hr3
    have he : (setBlock w b (.map es' clock')).heap[b]? = (setBlock w b (.map es2 clock2)).heap[b]? := by
      have := hr3
      simp only [Result.ok.injEq, true_and] at this
      rw [this]
    rw [setBlock_self w b _ hlt, setBlock_self w b _ hlt] at he
    refine ⟨_, hr1, hm.kept ?_, off_setBlock w3 b _ rfl⟩
    rw [setBlock_self w3 b _ (lt_of_block hw3), setBlock_self w b _ hlt]
    exact he
end
/-- append to a slice of the call's own, as one step of a region that draws. -/
theorem step_append_own {P : Program} {ops : Array Oper} {o : Oper} {a : Act} {w : World} {K : Act → World → Prop} {Q : Exit → Act → World → Prop} {E : Prop}
    (hg : o.guard = none) (s x : Operand) (t : TypeId) (hop : o.op = Op.call { callee := Callee.builtin Builtin.append, args := #[s, x], argTypes := #[t, t] })
    (base : Nat) (e : TypeId) (i : TypeInfo) (z : Value) (size bytes : Nat) (ht : P.underlying t = some (.slice e)) (hi : P.info? e = some i) (hz : i.zero = some z)
    (hsize : i.size = size) (hby : i.bytes = bytes) (hzs : z.cells.size = size) (hsz : 0 < size)
    (v : Value) (n : Nat) (xs : List Value) (hs : a.eval s = v) (hown : w.ownsRow base e size v n xs)
    (ad : Addr) (m c : Nat) (news : List Value) (hx : a.eval x = .slice (some ad) m c) (hl : news.length = m * size) (hnews : ∀ j u, news[j]? = some u → w.cell? (ad.add j) = some u) (h1 : ∀ u ∈ news, u.oneCell' = true)
    (h63 : n + m ≤ maxLen) (hbytes : (n + m) * bytes ≤ 140737488355328) (hbase : base ≤ w.heap.size)
    (hK : ∀ v' w', w'.ownsRow base e size v' (n + m) (xs ++ news) → w.grownBy w' v.ownBlock → (v' = .slice none 0 0 ↔ v = .slice none 0 0 ∧ m = 0) → (v'.ownBlock = v.ownBlock ∨ v'.ownBlock = some w.heap.size) → K (a.put o.dst v') w') :
    if Region.wanted o (yielded ops a.tmps) = true then Oper.wp P o a w K Q else E := by
  have hw : Region.wanted o (yielded ops a.tmps) = true := by simp [Region.wanted, hg]
  rw [if_pos hw]
  obtain ⟨v', w', hr, h2, h3, h4, h5⟩ := run_append_own_at (P := P) w base t o.type e i z size bytes ht hi hz hsize hby hzs hsz v n xs hown ad m c news hl hnews h1 h63 hbytes hbase
  unfold Oper.wp execOp
  simp only [hop, resolve, invoke, builtin, Sem.run_bind, Sem.run_pure, Result.andThen_ok, List.map_toArray, List.map_cons, List.map_nil, hs, hx, hr]
  exact hK _ _ h2 h3 h4 h5
end Go.Proofs.Ytafegmmcgghgaaa.B
namespace Go.Proofs.Ytafegmmcgghgaaa.B
set_option linter.unusedVariables false
set_option linter.unusedSimpArgs false
open Go.ChangeShapes Go.WideShapes Go.RowKit Go.Sort
theorem pageLawK : WideMaps.KeyLaw Try.prog 124 := deep_law_laid laidT (m := 2) (by omega) (of_decide_eq_true (by kernel_rfl)) (by kernel_rfl) (by rw [Try.underlying124])
theorem infoSeat : (Try.prog.info? 109).map (fun i => (i.zero, i.size, i.bytes)) = some (some (.agg #[.int .u32 0, .int .u32 0, .nilIface]), 3, 24) := by kernel_rfl
theorem infoReg : (Try.prog.info? 55).map (fun i => (i.zero, i.size, i.bytes)) = some (some (.agg #[.int .u32 0, .int .u32 0]), 2, 8) := by kernel_rfl
theorem zeroSeats (u : World) : (zeroValue 126).run Try.prog u = .ok (.slice none 0 0) u := by kernel_rfl
theorem cells3 {w : World} {B : Nat} {c0 c1 c2 : Value} {t : TypeId} (h : w.heap[B]? = some (.cells #[c0, c1, c2] t (0, 0))) : ∀ j u, [c0, c1, c2][j]? = some u → w.cell? ((⟨B, 0, none⟩ : Addr).add j) = some u := by
  intro j u hj
  have h1 := blk_cell h j
  match j, hj with
  | 0, hj => simp at hj; subst hj; simpa [Addr.add] using h1
  | 1, hj => simp at hj; subst hj; simpa [Addr.add] using h1
  | 2, hj => simp at hj; subst hj; simpa [Addr.add] using h1
  | j + 3, hj => simp at hj
theorem cells2 {w : World} {B : Nat} {c0 c1 : Value} {t : TypeId} (h : w.heap[B]? = some (.cells #[c0, c1] t (0, 0))) : ∀ j u, [c0, c1][j]? = some u → w.cell? ((⟨B, 0, none⟩ : Addr).add j) = some u := by
  intro j u hj
  have h1 := blk_cell h j
  match j, hj with
  | 0, hj => simp at hj; subst hj; simpa [Addr.add] using h1
  | 1, hj => simp at hj; subst hj; simpa [Addr.add] using h1
  | j + 2, hj => simp at hj
/-- What has become of the list of regions behind one that is appended. -/
def RegsSo (p bm : Nat) (rv : Value) (R : List (Int × Int)) (b s : Int) (w w' : World) : Prop :=
  ∃ (g cap : Nat), w'.heap[p]? = some (.cells #[.slice (some ⟨g, 0, none⟩) (R.length + 1) cap, .map (some bm), .int .i64 0] 102 (0, 0)) ∧ w'.ownsRow 0 55 2 (.slice (some ⟨g, 0, none⟩) (R.length + 1) cap) (R.length + 1) (R.flatMap regCells ++ regCells (b, s)) ∧
    Off (fun k => k = p ∨ rv.ownBlock = some k) w w' ∧ (rv.ownBlock = some g ∨ w.heap.size ≤ g)
theorem regs_so {p bm : Nat} {rv : Value} {R : List (Int × Int)} {b s : Int} {g cap : Nat} {w w1 w3 : World} {C : Obj} (hp : w.heap[p]? = some (.cells #[rv, .map (some bm), .int .i64 0] 102 (0, 0))) (hrp : ∀ k, rv.ownBlock = some k → k ≠ p)
    (hw1 : w1 = (w.alloc C).drew) (h13 : w1.grownBy w3 rv.ownBlock) (hown : w3.ownsRow 0 55 2 (.slice (some ⟨g, 0, none⟩) (R.length + 1) cap) (R.length + 1) (R.flatMap regCells ++ regCells (b, s)))
    (hat : some g = rv.ownBlock ∨ some g = some w1.heap.size) : RegsSo p bm rv R b s w (w3.setCell ⟨p, 0, none⟩ (.slice (some ⟨g, 0, none⟩) (R.length + 1) cap)) := by
  have hlp := lt_of_block hp
  have ho1 : Off (fun k => k = p ∨ rv.ownBlock = some k) w w1 := by subst hw1; exact ⟨rfl, rfl, rfl, (Off.ofAlloc (S := fun k => k = p ∨ rv.ownBlock = some k) w C).size, fun k hk hs => (Off.ofAlloc (S := fun k => k = p ∨ rv.ownBlock = some k) w C).block k hk hs⟩
  have hsz : w1.heap.size = w.heap.size + 1 := by subst hw1; show (w.alloc C).heap.size = _; simp
  have hp1 : w1.heap[p]? = w.heap[p]? := by subst hw1; exact blk_old w C hlp
  have hp3 : w3.heap[p]? = some (.cells #[rv, .map (some bm), .int .i64 0] 102 (0, 0)) := ((h13.block p (by omega) (fun e => hrp p e.symm rfl)).trans hp1).trans hp
  have hg : g ≠ p := by
    rcases hat with h | h
    · exact hrp g h.symm
    · simp at h; omega
  refine ⟨g, cap, by simpa using blk_set hp3 0 (.slice (some ⟨g, 0, none⟩) (R.length + 1) cap), row_keep hown fun k hk => ?_, (ho1.andThen (T := fun k => rv.ownBlock = some k) (Off.ofGrown h13 fun k e => e) (fun _ _ h => h) (fun _ _ h => .inr h)).andThen (T := (· = p)) (Off.ofSetCell _ _ _ rfl) (fun _ _ h => h) (fun _ _ h => .inl h), ?_⟩
  · have : k = g := by simp [Value.ownBlock] at hk; exact hk.symm
    subst this
    exact Below.heap_setCell _ _ _ _ hg
  · rcases hat with h | h
    · exact .inl h.symm
    · simp at h; right; omega
theorem regs_mid {p bm : Nat} {rv v' : Value} {R : List (Int × Int)} {b s : Int} {w w3 : World} {C : Obj} (hp : w.heap[p]? = some (.cells #[rv, .map (some bm), .int .i64 0] 102 (0, 0))) (hrp : ∀ k, rv.ownBlock = some k → k ≠ p)
    (h13 : ((w.alloc C).drew).grownBy w3 rv.ownBlock) (hown : w3.ownsRow 0 55 2 v' (R.length + 1) (R.flatMap regCells ++ [.int .u32 b, .int .u32 s]))
    (hat : v'.ownBlock = rv.ownBlock ∨ v'.ownBlock = some (w.alloc C).drew.heap.size) :
    ∃ g cap, v' = .slice (some ⟨g, 0, none⟩) (R.length + 1) cap ∧ w3.cell? ⟨p, 0, none⟩ = some rv ∧ w3.frozen? ⟨p, 0, none⟩ = false ∧ RegsSo p bm rv R b s w (w3.setCell ⟨p, 0, none⟩ (.slice (some ⟨g, 0, none⟩) (R.length + 1) cap)) := by
  rcases row_form hown with ⟨_, h⟩ | ⟨g, cap, rfl, _⟩
  · omega
  · have hlp := lt_of_block hp
    have hp3 : w3.heap[p]? = some (.cells #[rv, .map (some bm), .int .i64 0] 102 (0, 0)) := ((h13.block p (by show p < (w.alloc C).heap.size; simp; omega) (fun e => hrp p e.symm rfl)).trans (blk_old w C hlp)).trans hp
    exact ⟨g, cap, rfl, by simpa using blk_cell hp3 0, blk_free hp3 0, regs_so hp hrp rfl h13 hown hat⟩
theorem one2 (b s : Int) : ∀ u ∈ [Value.int .u32 b, Value.int .u32 s], u.oneCell' = true := by
  intro u hu; simp at hu; rcases hu with rfl | rfl <;> rfl
end Go.Proofs.Ytafegmmcgghgaaa.B
namespace Go.Proofs.Ytafegmmcgghgaaa.B
set_option linter.unusedVariables false
set_option linter.unusedSimpArgs false
open Go.ChangeShapes Go.WideShapes Go.RowKit Go.Sort
/-- The pages' seats, with one more in the pages from one on, as far as a second one; in all its pages. -/
def lpTo (L : Int → List Su) (x : Su) (u0 k : Int) : Int → List Su := fun u => if u0 ≤ u ∧ u < k then L u ++ [x] else L u
def lpAll (L : Int → List Su) (x : Su) : Int → List Su := fun u => if x.b / 16777216 ≤ u ∧ u ≤ (x.b + (x.s - 1)) / 16777216 then L u ++ [x] else L u
theorem lpTo_start (L : Int → List Su) (x : Su) (u0 : Int) : lpTo L x u0 u0 = L := by funext u; unfold lpTo; rw [if_neg (by omega)]
theorem lpTo_next (L : Int → List Su) (x : Su) {u0 k : Int} (h : u0 ≤ k) : lpOf (lpTo L x u0 k) k x = lpTo L x u0 (k + 1) := by
  funext u; unfold lpOf lpTo
  by_cases e : u = k
  · subst e; rw [if_pos rfl, if_neg (by omega), if_pos (by omega)]
  · rw [if_neg e]
    by_cases g : u0 ≤ u ∧ u < k
    · rw [if_pos g, if_pos (by omega)]
    · rw [if_neg g, if_neg (by omega)]
theorem lpTo_end (L : Int → List Su) (x : Su) : lpTo L x (x.b / 16777216) ((x.b + (x.s - 1)) / 16777216 + 1) = lpAll L x := by
  funext u; unfold lpTo lpAll
  by_cases g : x.b / 16777216 ≤ u ∧ u ≤ (x.b + (x.s - 1)) / 16777216
  · rw [if_pos g, if_pos (by omega)]
  · rw [if_neg g, if_neg (by omega)]
/-- The loop's head: so many pages are done. -/
structure PutAt (W : World) (bm : Nat) (R : List (Int × Int)) (ks : List Int) (pv : Int → Value) (Lp : Int → List Su) (x : Su) (u0 k : Int) (ab : Nat) (ks' : List Int) (pv' : Int → Value) (wr : World) : Prop where
  pg : Pgs wr bm ks' pv' (lpTo Lp x u0 k)
  kl : (ks'.length : Int) ≤ 256 * R.length + (k - u0)
  news : ∀ u, u ∈ ks' → ∀ j, (pv' u).ownBlock = some j → (∃ v, v ∈ ks ∧ (pv v).ownBlock = some j) ∨ W.heap.size ≤ j
  off : Off (fun j => j = bm ∨ ∃ v, v ∈ ks ∧ (pv v).ownBlock = some j) W wr
  at_ : wr.heap[ab]? = some (.cells #[.int .u32 k] 124 (0, 0))
theorem put_next {W wr wc : World} {bm : Nat} {R : List (Int × Int)} {ks ks' : List Int} {pv pv' : Int → Value} {Lp : Int → List Su} {x : Su} {u0 k : Int} {ab : Nat} (h : PutAt W bm R ks pv Lp x u0 k ab ks' pv' wr) (h0 : u0 ≤ k) (hs : StepSo bm ks' pv' (lpTo Lp x u0 k) k x wr wc) :
    ∃ pv'', PutAt W bm R ks pv Lp x u0 (k + 1) wc.heap.size (ksOf ks' k) pv'' (wc.alloc (.cells #[.int .u32 (k + 1)] 124)) := by
  obtain ⟨v', hp, ho, hat⟩ := hs
  have hrow : ∀ j, (rowV ks' pv' k).ownBlock = some j → (∃ v, v ∈ ks ∧ (pv v).ownBlock = some j) ∨ W.heap.size ≤ j := by
    intro j hj
    unfold rowV at hj
    by_cases hu : k ∈ ks'
    · rw [if_pos hu] at hj; exact h.news k hu j hj
    · rw [if_neg hu] at hj; cases hj
  have hoff : Off (fun j => j = bm ∨ ∃ v, v ∈ ks ∧ (pv v).ownBlock = some j) W wc := h.off.next ho fun i hi hx => by
    rcases hx with hx | hx
    · exact .inl hx
    · rcases hrow i hx with g | g
      · exact .inr g
      · omega
  rw [lpTo_next Lp x h0] at hp
  refine ⟨pvOf pv' k v', ⟨hp.kept (blk_old wc _ hp.map.lt) fun u hu j hj => blk_old wc _ (hp.lt hu hj), ?_, ?_, hoff.trans (Off.ofAlloc _ _), blk_new wc _⟩⟩
  · have := ksOf_len ks' k; have := h.kl; omega
  · intro u hu j hj
    unfold pvOf at hj
    by_cases e : u = k
    · rw [if_pos e] at hj
      rcases hat with g | ⟨j', g, hj'⟩
      · exact hrow j (g ▸ hj)
      · rw [hj] at g; have := Option.some.inj g; have := h.off.size; right; omega
    · rw [if_neg e] at hj
      exact h.news u ((mem_ksOf.1 hu).resolve_left e) j hj
/-- The number in the cell that a pointer points at. -/
def cellI (w : World) : Value → Int
  | .pointer (some a) => match w.cell? a with | some (.int _ n) => n | _ => 0
  | _ => 0
theorem cellI_at {w : World} {b : Nat} {k : IntKind} {n : Int} (h : w.cell? ⟨b, 0, none⟩ = some (.int k n)) : cellI w (.pointer (some ⟨b, 0, none⟩)) = n := by unfold cellI; simp [h]
theorem one3' (b s : Int) (xt : TypeId) (xv : Value) : ∀ u ∈ [Value.int .u32 b, Value.int .u32 s, Value.iface xt xv], u.oneCell' = true := by
  intro u hu; simp at hu; rcases hu with rfl | rfl | rfl <;> rfl
/-- What slices.SortFunc does to the regions. -/
def SortSpec : Prop := ∀ (R : List (Int × Int)) (g cap : Nat) (w : World), w.ownsRow 0 55 2 (.slice (some ⟨g, 0, none⟩) R.length cap) R.length (R.flatMap regCells) → R.length < 4611686018427387904 →
    Calls Try.prog 65 #[.slice (some ⟨g, 0, none⟩) R.length cap, .func (.func 66) #[] #[]] w
      fun e w' => e = .returned (.tuple #[]) ∧ ∃ R' : List (Int × Int), R'.Perm R ∧ R'.Pairwise (fun x y => x.1 ≤ y.1) ∧ w'.ownsRow 0 55 2 (.slice (some ⟨g, 0, none⟩) R.length cap) R.length (R'.flatMap regCells) ∧ Off (· = g) w w'
/-- What has become of a bus behind a seat that is put. -/
def UPut (p bm : Nat) (rv : Value) (R : List (Int × Int)) (ks : List Int) (pv : Int → Value) (Lp : Int → List Su) (x : Su) (w w' : World) : Prop :=
  ∃ (rv' : Value) (R' : List (Int × Int)) (ks' : List Int) (pv' : Int → Value), UBus w' p bm rv' R' ks' pv' (lpAll Lp x) ∧ R'.Perm (R ++ [(x.b, x.s)]) ∧ R'.Pairwise (fun x y => x.1 ≤ y.1) ∧ Off (uBlocks p bm rv ks pv) w w' ∧
    (∀ k, uBlocks p bm rv' ks' pv' k → uBlocks p bm rv ks pv k ∨ w.heap.size ≤ k)
structure UApart (p bm : Nat) (rv : Value) (ks : List Int) (pv : Int → Value) : Prop where
  pm : p ≠ bm
  rp : ∀ k, rv.ownBlock = some k → k ≠ p
  rm : ∀ k, rv.ownBlock = some k → k ≠ bm
  sp : ∀ u, u ∈ ks → ∀ k, (pv u).ownBlock = some k → k ≠ p
  rs : ∀ u, u ∈ ks → ∀ k, (pv u).ownBlock = some k → rv.ownBlock ≠ some k
theorem UBus.apart {w : World} {p bm : Nat} {rv : Value} {R : List (Int × Int)} {ks : List Int} {pv : Int → Value} {Lp : Int → List Su} (h : UBus w p bm rv R ks pv Lp) : UApart p bm rv ks pv := by
  obtain ⟨_, _, hm, _⟩ := h.map
  refine ⟨?_, fun k hk => ?_, fun k hk => ?_, fun u hu k hk => ?_, fun u hu k hk hk2 => ?_⟩
  · rintro rfl; rw [h.cell] at hm; cases hm
  · rintro rfl; obtain ⟨c, hc⟩ := row_obj h.regs hk; rw [h.cell] at hc; simp at hc
  · rintro rfl; obtain ⟨c, hc⟩ := row_obj h.regs hk; rw [hm] at hc; cases hc
  · rintro rfl; obtain ⟨c, hc⟩ := row_obj (h.rows u hu) hk; rw [h.cell] at hc; simp at hc
  · obtain ⟨c, hc⟩ := row_obj h.regs hk2; obtain ⟨d, hd⟩ := row_obj (h.rows u hu) hk; rw [hc] at hd; simp at hd
theorem uput_so {p bm g3 cap3 : Nat} {rv : Value} {R R' : List (Int × Int)} {ks ks' : List Int} {pv pv' : Int → Value} {Lp : Int → List Su} {x : Su} {u1 : Int} {ab : Nat} {w W V Y X : World} (hB : UBus w p bm rv R ks pv Lp) (hbW : Below w.heap.size w W) (hP : PutAt W bm R ks pv Lp x (x.b / 16777216) (u1 + 1) ab ks' pv' V)
    (hu1 : (x.b + (x.s - 1)) / 16777216 = u1) (hx : x.wf)
    (hP3 : Y.heap[p]? = some (.cells #[.slice (some ⟨g3, 0, none⟩) (R.length + 1) cap3, .map (some bm), .int .i64 0] 102 (0, 0))) (hO3 : Off (fun k => k = p ∨ rv.ownBlock = some k) V Y) (hat3 : rv.ownBlock = some g3 ∨ V.heap.size ≤ g3)
    (hperm : R'.Perm (R ++ [(x.b, x.s)])) (hsorted : R'.Pairwise (fun x y => x.1 ≤ y.1)) (hown5 : X.ownsRow 0 55 2 (.slice (some ⟨g3, 0, none⟩) (R.length + 1) cap3) (R.length + 1) (R'.flatMap regCells)) (hO5 : Off (· = g3) Y X) : UPut p bm rv R ks pv Lp x w X := by
  have hA := hB.apart
  have hRl : R'.length = R.length + 1 := by have := hperm.length_eq; simpa using this
  have hwW := hbW.size
  have hWV := hP.off.size
  have hbml := hB.map.lt
  have hpl := hB.ltp
  have hgp : g3 ≠ p := by
    rcases hat3 with h | h
    · exact hA.rp g3 h
    · omega
  have hgm : g3 ≠ bm := by
    rcases hat3 with h | h
    · exact hA.rm g3 h
    · omega
  obtain ⟨x0, ⟨x1, x1'⟩, x2⟩ := hx
  have hrl : ∀ k, rv.ownBlock = some k → k < w.heap.size := fun k hk => (hB.regs.lt k hk).2
  have hpk : ∀ u, u ∈ ks' → ∀ k, (pv' u).ownBlock = some k → k ≠ p ∧ rv.ownBlock ≠ some k ∧ k ≠ g3 := by
    intro u hu k hk
    have hkV := hP.pg.lt hu hk
    rcases hP.news u hu k hk with ⟨v, hv, hj⟩ | hj
    · refine ⟨hA.sp v hv k hj, hA.rs v hv k hj, ?_⟩
      rintro rfl
      rcases hat3 with h | h
      · exact hA.rs v hv _ hj h
      · omega
    · refine ⟨by omega, fun e => by have := hrl k e; omega, ?_⟩
      rintro rfl
      rcases hat3 with h | h
      · have := hrl _ h; omega
      · omega
  have hPX : Pgs X bm ks' pv' (lpTo Lp x (x.b / 16777216) (u1 + 1)) := by
    refine hP.pg.kept ?_ fun u hu k hk => ?_
    · have hm := hP.pg.map.lt
      rw [hO5.block bm (Nat.lt_of_lt_of_le hm hO3.size) (fun h => hgm h.symm), hO3.block bm hm (fun h => h.elim (fun h => hA.pm h.symm) (fun h => hA.rm bm h rfl))]
    · obtain ⟨h1, h2, h3⟩ := hpk u hu k hk
      have hkV := hP.pg.lt hu hk
      rw [hO5.block k (Nat.lt_of_lt_of_le hkV hO3.size) h3, hO3.block k hkV (fun h => h.elim h1 h2)]
  rw [← hu1, lpTo_end] at hPX
  have hle : ∀ u, (lpAll Lp x u).length ≤ (Lp u).length + 1 := fun u => by unfold lpAll; split <;> simp
  refine ⟨.slice (some ⟨g3, 0, none⟩) (R.length + 1) cap3, R', ks', pv', ⟨hO5.at hP3 (fun h => hgp h.symm), by rw [hRl]; exact hown5, hPX.map, hPX.rows, hPX.nos, hPX.disj, fun u y hy => ?_, ?_, fun u => ?_⟩, hperm, hsorted, ?_, ?_⟩
  · unfold lpAll at hy
    split at hy
    · rcases List.mem_append.1 hy with h | h
      · exact hB.wf u y h
      · simp at h; subst h; exact ⟨x0, ⟨x1, x1'⟩, x2⟩
    · exact hB.wf u y hy
  · have := hP.kl; rw [hRl]; omega
  · have := hle u; have := hB.ll u; rw [hRl]; omega
  · have o1 : Off (uBlocks p bm rv ks pv) w W := Off.ofBelow hbW
    have o2 := o1.andThen hP.off (U := uBlocks p bm rv ks pv) (fun _ _ h => h) (fun i _ h => h.elim (fun h => .inr (.inl h)) (fun ⟨v, hv, h⟩ => .inr (.inr (.inr ⟨v, hv, h⟩))))
    have o3 := o2.andThen hO3 (U := uBlocks p bm rv ks pv) (fun _ _ h => h) (fun i _ h => h.elim (fun h => .inl h) (fun h => .inr (.inr (.inl h))))
    refine o3.andThen hO5 (fun _ _ h => h) (fun i hi h => ?_)
    subst h
    rcases hat3 with h | h
    · exact .inr (.inr (.inl h))
    · omega
  · intro k hk
    rcases hk with h | h | h | ⟨u, hu, h⟩
    · exact .inl (.inl h)
    · exact .inl (.inr (.inl h))
    · have : k = g3 := by simp [Value.ownBlock] at h; exact h.symm
      subst this
      rcases hat3 with h | h
      · exact .inl (.inr (.inr (.inl h)))
      · right; omega
    · rcases hP.news u hu k h with ⟨v, hv, hj⟩ | hj
      · exact .inl (.inr (.inr (.inr ⟨v, hv, hj⟩)))
      · right; omega
end Go.Proofs.Ytafegmmcgghgaaa.B
namespace Go.Proofs.Ytafegmmcgghgaaa.B
set_option linter.unusedVariables false
set_option linter.unusedSimpArgs false
open Go.ChangeShapes Go.WideShapes Go.RowKit Go.Sort
set_option maxRecDepth 100000 in
set_option maxHeartbeats 6400000 in
theorem uPut (hsort : SortSpec) (p bm : Nat) (rv : Value) (R : List (Int × Int)) (ks : List Int) (pv : Int → Value) (Lp : Int → List Su) (b s : Int) (xt : TypeId) (xv : Value) (w : World) (hB : UBus w p bm rv R ks pv Lp) (hn : R.length < 64) (hx : Su.wf ⟨b, s, xt, xv⟩) :
    Calls Try.prog 51 #[.pointer (some ⟨p, 0, none⟩), .agg #[.int .u32 b, .int .u32 s, .iface xt xv]] w fun e w' => e = .returned (.tuple #[]) ∧ UPut p bm rv R ks pv Lp ⟨b, s, xt, xv⟩ w w' := by
  have hx' := hx
  obtain ⟨x0, ⟨x1, x1'⟩, x2⟩ := hx'
  simp only at x0 x1 x1' x2
  obtain ⟨u0, hu0⟩ : ∃ u0, b / 16777216 = u0 := ⟨_, rfl⟩
  obtain ⟨u1, hu1⟩ : ∃ u1, (b + (s - 1)) / 16777216 = u1 := ⟨_, rfl⟩
  have hu : 0 ≤ u0 ∧ u0 ≤ u1 ∧ u1 ≤ 255 := by omega
  obtain ⟨g0, g1, g2⟩ := hu
  have HP0 := Lib.hid (fun w => by have := zPageOf b w (by omega) (by omega); rw [hu0] at this; exact this)
  have HP1 := Lib.hid (fun w => by have := zPageOf (b + (s - 1)) w (by omega) (by omega); rw [hu1] at this; exact this)
  have HU0 := Lib.hid hu0
  have HU1 := Lib.hid hu1
  have HS := Lib.hid hsort
  clear hu0 hu1 hsort
  go_enter Try.func51, Try.ntmps51
  go_wp2_with fail
  refine (HP1.out _).mono ?_
  rintro e w1 ⟨rfl, hb1⟩
  have hX := blk_below hb1 (blk_new w _) (by simp)
  have hl1 := lt_of_block hX
  have hc0 := blk_cell hX 0
  simp only [List.getElem?_toArray, List.getElem?_cons_zero] at hc0
  have hbw1 := tr (trA (tr0 w) _) hb1
  clear hb1
  go_upto_region 2 with (fail)
  go_wp2_with fail
  refine (HP0.out _).mono ?_
  rintro e w2 ⟨rfl, hb2⟩
  have hX2 := blk_below hb2 ((blk_old _ _ hl1).trans hX) (by simp; omega)
  have hY2 := blk_below hb2 (blk_new w1 _) (by simp)
  have hbw2 := tr (trA hbw1 _) hb2
  have hl2 := lt_of_block hX2
  have hl3 := lt_of_block hY2
  clear hb2
  go_upto_region 3 with (fail)
  have hW0 := (blk_old w2 (.cells #[.int .u32 u0] 124) hl2).trans hX2
  have hW1 := (blk_old w2 (.cells #[.int .u32 u0] 124) hl3).trans hY2
  have hW2 := blk_new w2 (.cells #[.int .u32 u0] 124)
  have hbW := trA hbw2 (.cells #[.int .u32 u0] 124)
  clear hX hc0 hX2 hY2 hbw1 hbw2
  have hlast : w.heap.size < w1.heap.size := hl1
  generalize w2.alloc (.cells #[.int .u32 u0] 124) = W at *
  generalize w2.heap.size = at1 at *
  generalize w1.heap.size = last1 at *
  clear w1 w2
  have hBW := hB.ofBelow hbW
  have hAP := hB.apart
  have hbml := hB.map.lt
  have hpl := hB.ltp
  have hksl : ∀ v, v ∈ ks → ∀ j, (pv v).ownBlock = some j → j < w.heap.size := fun v hv j hj => ((hB.rows v hv).lt j hj).2
  have hlW0 := lt_of_block hW0
  have hlW1 := lt_of_block hW1
  have H0 : PutAt W bm R ks pv Lp ⟨b, s, xt, xv⟩ u0 u0 at1 ks pv W := ⟨by rw [lpTo_start]; exact hBW.pgs, by have := hB.kl; omega, fun u hu j hj => .inl ⟨u, hu, hj⟩, Off.refl _ _, hW2⟩
  have HW0 := Lib.hid hW0
  have HW1 := Lib.hid hW1
  have HBW := Lib.hid hBW
  have HBW0 := Lib.hid hB
  have HbW := Lib.hid hbW
  have HKS := Lib.hid hksl
  have HAP := Lib.hid hAP
  clear hW0 hW1 hW2 hBW hB hbW hksl hAP
  go_loopw [5] (fun at_ wr => ∃ (k : Int) (ab : Nat) (ks' : List Int) (pv' : Int → Value), at_ = .pointer (some ⟨ab, 0, none⟩) ∧ u0 ≤ k ∧ k ≤ u1 + 1 ∧ PutAt W bm R ks pv Lp ⟨b, s, xt, xv⟩ u0 k ab ks' pv' wr) (fun at_ wr => (u1 + 1 - cellI wr at_).toNat)
  case atStart => exact ⟨u0, at1, ks, pv, rfl, by omega, by omega, H0⟩
  case round =>
    clear H0
    obtain ⟨k, ab, ks', pv', rfl, k0, k1, hA⟩ := hrel
    have hold : ∀ j, j < W.heap.size → w.heap.size ≤ j → ¬ (j = bm ∨ ∃ v, v ∈ ks ∧ (pv v).ownBlock = some j) := by
      rintro j hj hj2 (h | ⟨v, hv, h⟩)
      · omega
      · have := HKS.out v hv j h; omega
    have hZ0 := hA.off.at HW0.out (hold _ hlW0 (Nat.le_refl _))
    have hZ1 := hA.off.at HW1.out (hold _ hlW1 (by omega))
    have hZP := hA.off.at HBW.out.cell (fun h => h.elim (fun h => HAP.out.pm h) (fun ⟨v, hv, h⟩ => HAP.out.sp v hv p h rfl))
    have hc0 := blk_cell hZ0 0
    have hc1 := blk_cell hZ0 1
    have hc2 := blk_cell hZ0 2
    have hd0 := blk_cell hZ1 0
    have he0 := blk_cell hA.at_ 0
    have hcP := blk_cell hZP 1
    simp only [List.getElem?_toArray, List.getElem?_cons_zero, List.getElem?_cons_succ] at hc0 hc1 hc2 hd0 he0 hcP
    have hci : cellI wr (.pointer (some ⟨ab, 0, none⟩)) = k := cellI_at he0
    have hl0 := lt_of_block hZ0
    have hl1 := lt_of_block hZ1
    have hlp := lt_of_block hZP
    have hlab := lt_of_block hA.at_
    have HZ0 := Lib.hid hZ0
    have HZP := Lib.hid hZP
    clear hZ0 hZ1 hZP
    by_cases hle : k ≤ u1
    · obtain ⟨i0, hi, hz0, hz1, hz2⟩ := info_parts infoSeat
      have hMl : (ks'.map fun u => (u, pv' u)).length ≤ maxLen := by
        have := hA.kl
        rw [List.length_map]; unfold maxLen; omega
      obtain ⟨v0, st, W2, hE, hoE, hv0, hst⟩ := (hA.pg.map.kept (w' := (wr.alloc (.cells #[.int .u32 b, .int .u32 s, .iface xt xv] 109)).drew) (blk_old wr _ hA.pg.map.lt)).entry pageKey pageLawK Try.underlying100 k ⟨by omega, by omega⟩ hMl zeroSeats
      have hv : v0 = rowV ks' pv' k := by
        unfold rowV
        rcases hv0 with h | ⟨h, e⟩
        · obtain ⟨v, hv, he⟩ := List.mem_map.1 h
          obtain ⟨e1, e2⟩ := Prod.mk.inj he
          rw [e1] at hv e2
          rw [if_pos hv, e2]
        · rw [if_neg (fun hk => h (k, pv' k) (List.mem_map.2 ⟨k, hk, rfl⟩) rfl), e]
      have hrow := hA.pg.row k
      have hrn : ∀ j, v0.ownBlock = some j → j < wr.heap.size ∧ j ≠ bm := fun j hj => hA.pg.rowNm k (by rw [← hv]; exact hj)
      rw [← hv] at hrow
      have hLl : (lpTo Lp ⟨b, s, xt, xv⟩ u0 k k).length ≤ 64 := by
        have e : lpTo Lp ⟨b, s, xt, xv⟩ u0 k k = Lp k := by unfold lpTo; rw [if_neg (by omega)]
        rw [e]; have := HBW0.out.ll k; omega
      have hso : ∀ (w3 w4 : World) (v' : Value), W2.grownBy w3 v0.ownBlock → w3.ownsRow 0 109 3 v' ((lpTo Lp ⟨b, s, xt, xv⟩ u0 k k).length + 1) ((lpTo Lp ⟨b, s, xt, xv⟩ u0 k k).flatMap Su.cells ++ [.int .u32 b, .int .u32 s, .iface xt xv]) → (v'.ownBlock = v0.ownBlock ∨ v'.ownBlock = some W2.heap.size) →
          mapP w4 ek ok32 bm (putM k v' (ks'.map fun u => (u, pv' u))) → Off (· = bm) w3 w4 → StepSo bm ks' pv' (lpTo Lp ⟨b, s, xt, xv⟩ u0 k) k ⟨b, s, xt, xv⟩ wr w4 := by
        rw [hv]
        intro w3 w4 v' h23 hown hat hm h34
        exact step_so hA.pg rfl hoE h23 hown hat hm h34
      have hea : wr.heap[ab]? = some (.cells #[.int .u32 k] 124 (0, 0)) := hA.at_
      have hane : ¬ (ab = bm ∨ (rowV ks' pv' k).ownBlock = some ab) := by
        rintro (h | h)
        · obtain ⟨_, _, hb, _⟩ := hA.pg.map; rw [← h, hea] at hb; cases hb
        · obtain ⟨c, hc⟩ := row_obj (hA.pg.row k) h; rw [hea] at hc; simp at hc
      unfold ek at hE
      have hnb : wr.heap.size ≠ bm := by have := hA.pg.map.lt; omega
      have hN := hoE.at (k := wr.heap.size) (blk_new wr (.cells #[.int .u32 b, .int .u32 s, .iface xt xv] 109)) hnb
      generalize hLk : lpTo Lp ⟨b, s, xt, xv⟩ u0 k k = Lk at hrow hLl hso
      have hownW : W2.ownsRow 0 109 3 v0 Lk.length (Lk.flatMap Su.cells) := row_keep hrow fun g hg => by
        rw [hoE.block g (by have := (hrn g hg).1; show g < (wr.alloc _).heap.size; simp; omega) (hrn g hg).2]
        exact blk_old wr _ (hrn g hg).1
      have hnews := cells3 hN
      have hrest : ∀ v' w3, w3.ownsRow 0 109 3 v' (Lk.length + 1) (Lk.flatMap Su.cells ++ [.int .u32 b, .int .u32 s, .iface xt xv]) → W2.grownBy w3 v0.ownBlock → (v'.ownBlock = v0.ownBlock ∨ v'.ownBlock = some W2.heap.size) →
          ∃ w4, (Instr.entryStore 100 (.map (some bm)) (.int .i64 st) v').run Try.prog w3 = .ok () w4 ∧ StepSo bm ks' pv' (lpTo Lp ⟨b, s, xt, xv⟩ u0 k) k ⟨b, s, xt, xv⟩ wr w4 := by
        intro v' w3 hown3 hgr3 hat3
        have hb3 : w3.heap[bm]? = W2.heap[bm]? := hgr3.block bm (Nat.lt_of_lt_of_le (by have := hA.pg.map.lt; show bm < (wr.alloc _).heap.size; simp; omega) hoE.size) (fun e => (hrn bm e.symm).2 rfl)
        obtain ⟨w4, hr4, hm4, ho4⟩ := hst w3 v' hb3
        exact ⟨w4, hr4, hso w3 w4 v' hgr3 hown3 hat3 hm4 ho4⟩
      have HOW := Lib.hid hownW
      have HN := Lib.hid hnews
      have HI := Lib.hid hi
      have HZ := Lib.hid hz0
      have HZ1 := Lib.hid hz1
      have HZ2 := Lib.hid hz2
      have HR := Lib.hid hrest
      have HA := Lib.hid hA
      have HEA := Lib.hid hea
      have HNE := Lib.hid hane
      have HCI := Lib.hid hci
      clear hrest hst hv0 hoE hN hownW hnews hMl hi hz0 hz1 hz2 hA hv hrow hrn hso hLk hea hane hci hold
      go_upto_region 5 with (fail)
      refine wp_asThen fun K5 hK5 => ?_
      go_cut [] from 28 to 39 (fun w' => StepSo bm ks' pv' (lpTo Lp ⟨b, s, xt, xv⟩ u0 k) k ⟨b, s, xt, xv⟩ wr w')
      case first =>
        go_region_law (refine step_append_own rfl (.tmp 33) (.tmp 35) 126 rfl 0 109 i0 (.agg #[.int .u32 0, .int .u32 0, .nilIface]) 3 24 Try.underlying126 HI.out HZ.out HZ1.out HZ2.out rfl (by decide) v0 Lk.length (Lk.flatMap Su.cells) rfl HOW.out ⟨wr.heap.size, 0, none⟩ 1 1 [.int .u32 b, .int .u32 s, .iface xt xv] rfl rfl HN.out (one3' b s xt xv) (by unfold maxLen; omega) (by omega) (Nat.zero_le _) ?_; intro v' w3 hown3 hgr3 hnil3 hat3; obtain ⟨w4, hr4, hp4⟩ := HR.out v' w3 hown3 hgr3 hat3)
        all_goals
          go_wp2_with fail
          go_meet
          case rel => assumption
      case rest =>
        obtain ⟨pv'', hNx⟩ := put_next HA.out k0 hcut
        have hec : wc.heap[ab]? = some (.cells #[.int .u32 k] 124 (0, 0)) := by obtain ⟨_, _, ho, _⟩ := hcut; exact ho.at HEA.out HNE.out
        have he1 := blk_cell hec 0
        simp only [List.getElem?_toArray, List.getElem?_cons_zero] at he1
        have hcn := cellI_at (blk_cell hNx.at_ 0)
        have hlc := lt_of_block hec
        have HNx := Lib.hid hNx
        have HCN := Lib.hid hcn
        refine hK5 _ _ ?_
        clear hE hcut hc0 hc1 hc2 hd0 he0 hcP hec hNx hcn HOW HN HI HZ HZ1 HZ2 HR hK5
        go_wp2_with fail
        go_roundw
        case rel => exact ⟨k + 1, wc.heap.size, ksOf ks' k, pv'', rfl, by omega, by omega, HNx.out⟩
        case measure =>
          have h1 := HCI.out
          have h2 := HCN.out
          simp at h1 h2 ⊢
          rw [h1, h2]
          omega
    · obtain rfl : k = u1 + 1 := by omega
      have hregW := row_keep HBW.out.regs fun g hg => hA.off.block g (HBW.out.regs.lt g hg).2 (fun h => h.elim (HAP.out.rm g hg) (fun ⟨v, hv, h⟩ => HAP.out.rs v hv g h hg))
      go_upto_region 8 with (fail)
      have hp0 := blk_cell HZP.out 0
      simp only [List.getElem?_toArray, List.getElem?_cons_zero, List.getElem?_cons_succ] at hp0
      obtain ⟨i0, hi, hz0, hz1, hz2⟩ := info_parts infoReg
      have hownV : ((wr.alloc (.cells #[.int .u32 b, .int .u32 s] 55)).drew).ownsRow 0 55 2 rv R.length (R.flatMap regCells) := hregW.alloc _
      have hnewsV := cells2 (blk_new wr (.cells #[.int .u32 b, .int .u32 s] 55))
      have HI := Lib.hid hi
      have HZ := Lib.hid hz0
      have HZ1 := Lib.hid hz1
      have HZ2 := Lib.hid hz2
      have HOV := Lib.hid hownV
      have HNV := Lib.hid hnewsV
      have HA := Lib.hid hA
      clear hownV hnewsV hi hz0 hz1 hz2 hA hregW hold he0 hd0 hcP hci
      refine wp_asThen fun K8 hK8 => ?_
      go_cut [] from 40 (fun w' => RegsSo p bm rv R b s wr w')
      case first =>
        go_region_law (refine step_append_own rfl (.tmp 44) (.tmp 47) 72 rfl 0 55 i0 (.agg #[.int .u32 0, .int .u32 0]) 2 8 Try.underlying72 HI.out HZ.out HZ1.out HZ2.out rfl (by decide) rv R.length (R.flatMap regCells) rfl HOV.out ⟨wr.heap.size, 0, none⟩ 1 1 [.int .u32 b, .int .u32 s] rfl rfl HNV.out (one2 b s) (by unfold maxLen; omega) (by omega) (Nat.zero_le _) ?_; intro v' w3 hown3 hgr3 hnil3 hat3; obtain ⟨g3, cap3, rfl, hp03, hf03, hso3⟩ := regs_mid HZP.out HAP.out.rp hgr3 hown3 hat3)
        all_goals
          go_wp2_with fail
          go_meet
          case rel => assumption
      case rest =>
        obtain ⟨g3, cap3, hP3, hown3, ho3, hat3⟩ := hcut
        have hp3 := blk_cell hP3 0
        simp only [List.getElem?_toArray, List.getElem?_cons_zero, List.getElem?_cons_succ] at hp3
        have hlp3 := lt_of_block hP3
        have hlen : (R ++ [(b, s)]).length = R.length + 1 := by simp
        have hown4 : wc.ownsRow 0 55 2 (.slice (some ⟨g3, 0, none⟩) (R ++ [(b, s)]).length cap3) (R ++ [(b, s)]).length ((R ++ [(b, s)]).flatMap regCells) := by
          rw [hlen, List.flatMap_append]; simpa using hown3
        have hsort := HS.out (R ++ [(b, s)]) g3 cap3 wc hown4 (by rw [hlen]; omega)
        rw [hlen] at hsort
        have H3 := Lib.hid hP3
        have HO3 := Lib.hid ho3
        have HAT3 := Lib.hid hat3
        refine hK8 _ _ ?_
        clear hP3 hown3 ho3 hat3 hown4 hlen hK8
        go_wp2_with fail
        refine hsort.mono ?_
        rintro e X ⟨rfl, R', hperm, hsorted, hown5, ho5⟩
        have HX := Lib.hid (uput_so (x := ⟨b, s, xt, xv⟩) HBW0.out HbW.out (by have := HA.out; rw [← HU0.out] at this; exact this) HU1.out hx H3.out HO3.out HAT3.out hperm hsorted hown5 ho5)
        clear hperm hsorted hown5 ho5 hsort
        go_wp2_with fail
        go_end0
        exact ⟨rfl, HX.out⟩
end Go.Proofs.Ytafegmmcgghgaaa.B
