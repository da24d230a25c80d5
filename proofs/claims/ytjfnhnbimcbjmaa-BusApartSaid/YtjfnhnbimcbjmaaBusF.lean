/- A bus whose regions lie in the first page: what it looks up. -/
import Derived.Test.YtjfnhnbimcbjmaaBusC
import Derived.Laws.AppendOwn
import Derived.Laws.OwnMore
namespace Go.Proofs.Ytjfnhnbimcbjmaa.B
set_option linter.unusedVariables false
set_option linter.unusedSimpArgs false
open Go.ChangeShapes Go.WideShapes Go.RowKit Go.Sort
/-- A region and its device. -/
structure Seat where
  b : Int
  s : Int
  f : Nat
/-- A file as a device. -/
def Seat.d (x : Seat) : Value := .iface 38 (.pointer (some ⟨x.f, 0, none⟩))
def Seat.cells (x : Seat) : List Value := [.int .u32 x.b, .int .u32 x.s, x.d]
def Seat.val (x : Seat) : Value := .agg #[.int .u32 x.b, .int .u32 x.s, x.d]
def regCells (x : Int × Int) : List Value := [.int .u32 x.1, .int .u32 x.2]
/-- Regions as they may stand in the first page. -/
def Seat.wf (x : Seat) : Prop := 0 ≤ x.b ∧ 0 < x.s ∧ x.b + x.s ≤ 16777216
structure BusAt (w : World) (p bm : Nat) (rv sv : Value) (R : List (Int × Int)) (L : List Seat) : Prop where
  cell : w.heap[p]? = some (.cells #[rv, .map (some bm), .int .i64 0] 77 (0, 0))
  regs : w.ownsRow 0 24 2 rv R.length (R.flatMap regCells)
  map : mapP w ek ok32 bm (if L = [] then [] else [(0, sv)])
  seats : w.ownsRow 0 86 3 sv L.length (L.flatMap Seat.cells)
  wf : ∀ x ∈ L, x.wf
  nilv : L = [] → sv = .slice none 0 0
theorem flat_len {α : Type} (f : α → List Value) (n : Nat) (h : ∀ x, (f x).length = n) : ∀ L : List α, (L.flatMap f).length = L.length * n
  | [] => by simp
  | x :: L => by rw [List.flatMap_cons, List.length_append, h, flat_len f n h L, List.length_cons, Nat.add_mul]; omega
theorem flat_at {α : Type} (f : α → List Value) (n : Nat) (h : ∀ x, (f x).length = n) : ∀ (L : List α) (k j : Nat) (x : α), L[k]? = some x → j < n → (L.flatMap f)[k * n + j]? = (f x)[j]?
  | [], k, j, x, hx, _ => by simp at hx
  | y :: L, 0, j, x, hx, hj => by
    simp at hx; subst hx
    rw [List.flatMap_cons, Nat.zero_mul, Nat.zero_add, List.getElem?_append_left (by rw [h]; exact hj)]
  | y :: L, k + 1, j, x, hx, hj => by
    rw [List.flatMap_cons, List.getElem?_append_right (by rw [h, Nat.add_mul]; omega), h, show (k + 1) * n + j - n = k * n + j by rw [Nat.add_mul]; omega]
    exact flat_at f n h L k j x (by simpa using hx) hj
/-- The cells of an owned row of things. -/
theorem row_cell {α : Type} {f : α → List Value} {n : Nat} (h : ∀ x, (f x).length = n) {w : World} {base : Nat} {e : TypeId} {v : Value} {L : List α} (ho : w.ownsRow base e n v L.length (L.flatMap f)) {g cap : Nat} (hv : v = .slice (some ⟨g, 0, none⟩) L.length cap)
    {k : Nat} {x : α} (hx : L[k]? = some x) (j : Nat) (hj : j < n) : w.cell? ⟨g, k * n + j, none⟩ = (f x)[j]? := by
  subst hv
  have hk : k < L.length := (List.getElem?_eq_some_iff.1 hx).1
  have hb : k * n + j < L.length * n := by
    have : (k + 1) * n ≤ L.length * n := Nat.mul_le_mul_right n hk
    rw [Nat.add_mul] at this; omega
  rw [ho.cellAt _ hb]
  exact flat_at f n h L k j x hx hj
theorem row_form {w : World} {base : Nat} {e : TypeId} {n m : Nat} {v : Value} {xs : List Value} (ho : w.ownsRow base e n v m xs) :
    (v = .slice none 0 0 ∧ m = 0) ∨ ∃ g cap, v = .slice (some ⟨g, 0, none⟩) m cap ∧ m ≤ cap ∧ cap ≤ maxLen ∧ g < w.heap.size ∧ ∃ cur, w.heap[g]? = some (.cells cur e (0, 0)) := by
  rcases ho.2 with h | ⟨g, cap, cur, h1, _, h2, h3, h4, _, _⟩
  · exact .inl h
  · exact .inr ⟨g, cap, h1, h3, h4, lt_of_block h2, cur, h2⟩
theorem BusAt.ltp {w : World} {p bm : Nat} {rv sv : Value} {R : List (Int × Int)} {L : List Seat} (h : BusAt w p bm rv sv R L) : p < w.heap.size := lt_of_block h.cell
theorem row_keep {w w' : World} {base : Nat} {e : TypeId} {n m : Nat} {v : Value} {xs : List Value} (h : w.ownsRow base e n v m xs) (hk : ∀ g, v.ownBlock = some g → w'.heap[g]? = w.heap[g]?) : w'.ownsRow base e n v m xs := by
  refine ⟨h.1, ?_⟩
  rcases h.2 with h2 | ⟨g, cap, cur, rfl, h3, h4, h5⟩
  · exact .inl h2
  · exact .inr ⟨g, cap, cur, rfl, h3, (hk g rfl).trans h4, h5⟩
/-- The blocks of a bus. -/
def busBlocks (p bm : Nat) (rv sv : Value) (k : Nat) : Prop := k = p ∨ k = bm ∨ rv.ownBlock = some k ∨ sv.ownBlock = some k
theorem BusAt.kept {w w' : World} {p bm : Nat} {rv sv : Value} {R : List (Int × Int)} {L : List Seat} (h : BusAt w p bm rv sv R L) (hk : ∀ k, busBlocks p bm rv sv k → w'.heap[k]? = w.heap[k]?) : BusAt w' p bm rv sv R L :=
  ⟨(hk p (.inl rfl)).trans h.cell, row_keep h.regs fun g hg => hk g (.inr (.inr (.inl hg))), h.map.kept (hk bm (.inr (.inl rfl))), row_keep h.seats fun g hg => hk g (.inr (.inr (.inr hg))), h.wf, h.nilv⟩
theorem BusAt.lt {w : World} {p bm : Nat} {rv sv : Value} {R : List (Int × Int)} {L : List Seat} (h : BusAt w p bm rv sv R L) (k : Nat) (hk : busBlocks p bm rv sv k) : k < w.heap.size := by
  rcases hk with rfl | rfl | hk | hk
  · exact h.ltp
  · exact h.map.lt
  · exact (h.regs.lt k hk).2
  · exact (h.seats.lt k hk).2
theorem BusAt.ofBelow {w w' : World} {p bm : Nat} {rv sv : Value} {R : List (Int × Int)} {L : List Seat} (h : BusAt w p bm rv sv R L) (hb : Below w.heap.size w w') : BusAt w' p bm rv sv R L :=
  h.kept fun k hk => hb.block k (h.lt k hk)
theorem BusAt.ofOff {S : Nat → Prop} {w w' : World} {p bm : Nat} {rv sv : Value} {R : List (Int × Int)} {L : List Seat} (h : BusAt w p bm rv sv R L) (hb : Off S w w') (hS : ∀ k, busBlocks p bm rv sv k → ¬ S k) : BusAt w' p bm rv sv R L :=
  h.kept fun k hk => hb.block k (h.lt k hk) (hS k hk)
/-- What the first page's lookup tells. -/
theorem BusAt.page {w : World} {p bm : Nat} {rv sv : Value} {R : List (Int × Int)} {L : List Seat} (h : BusAt w p bm rv sv R L) (a : Int) (a0 : 0 ≤ a) (a1 : a < 4294967296) :
    ∀ w', w'.heap[bm]? = w.heap[bm]? → (Instr.lookup 75 (.map (some bm)) (ek (a / 16777216)) false).run Try.prog w' = .ok (if a < 16777216 then sv else .slice none 0 0) w' := by
  intro w' hw
  have hm := h.map.kept hw
  have hz : (zeroValue 109).run Try.prog w' = .ok (.slice none 0 0) w' := by kernel_rfl
  have hok : ok32 (a / 16777216) := ⟨by omega, by omega⟩
  by_cases hL : L = []
  · subst hL
    have hsv := h.nilv rfl
    rw [if_pos rfl] at hm
    have := hm.miss pageKey Try.underlying75 (x := a / 16777216) (fun _ hp => by cases hp) hok hz false
    simpa [hsv] using this
  · rw [if_neg hL] at hm
    by_cases ha : a < 16777216
    · have : a / 16777216 = 0 := by omega
      rw [if_pos ha, this]
      simpa using hm.hit pageKey Try.underlying75 (x := 0) (v := sv) (by simp) false
    · rw [if_neg ha]
      have := hm.miss pageKey Try.underlying75 (x := a / 16777216) (fun p hp => by simp at hp; subst hp; simp; omega) hok hz false
      simpa using this
def zeroSeatV : Value := .agg #[.int .u32 0, .int .u32 0, .nilIface]
theorem zFindBad (a : Int) (pv : Option Addr) (w : World) (a0 : 0 ≤ a) (h : (a % 4 != 0) = true) :
    Calls Try.prog 35 #[.pointer pv, .int .u32 a] w fun e w' => e = .returned (.tuple #[zeroSeatV, .int .i64 11]) ∧ Below w.heap.size w w' := by
  go_enter Try.func35, Try.ntmps35
  go_wp2_with fail
  go_step3
  go_wp2_with fail
  rw [Exit.noGoto_ret]
  refine bodyPost_ret (v := .tuple #[zeroSeatV, .int .i64 11]) ?_ rfl ?_
  · simp [results, Try.results35, go_sem, zeroSeatV]
  · exact ⟨rfl, trA (tr0 w) _⟩
theorem zFindNil (a : Int) (w : World) (a0 : 0 ≤ a) (h : (a % 4 != 0) = false) :
    Calls Try.prog 35 #[.pointer none, .int .u32 a] w fun e w' => e = .returned (.tuple #[zeroSeatV, .int .i64 10]) ∧ Below w.heap.size w w' := by
  go_enter Try.func35, Try.ntmps35
  go_wp2_with fail
  go_step3
  go_wp2_with fail
  rw [Exit.noGoto_ret]
  refine bodyPost_ret (v := .tuple #[zeroSeatV, .int .i64 10]) ?_ rfl ?_
  · simp [results, Try.results35, go_sem, zeroSeatV]
  · exact ⟨rfl, trA (tr0 w) _⟩
/-- The end of find: the seat is stored where the result lies, and told. -/
theorem seat_ret {w W : World} {tmps : Array Value} {c0 c1 c2 d0 d1 d2 : Value} {e : Int} (h4 : tmps[4]? = some (.pointer (some ⟨w.heap.size, 0, none⟩))) (h5 : tmps[5]? = some (.int .i64 e))
    (hX : W.heap[w.heap.size]? = some (.cells #[d0, d1, d2] 86 (0, 0))) (hb : Below w.heap.size w W) :
    bodyPost Try.prog Try.f35 (fun e' w' => e' = .returned (.tuple #[.agg #[c0, c1, c2], .int .i64 e]) ∧ Below w.heap.size w w') Exit.ret { tmps := tmps, defers := [] }
      (((W.setCell ⟨w.heap.size, 0, none⟩ c0).setCell ⟨w.heap.size, 1, none⟩ c1).setCell ⟨w.heap.size, 2, none⟩ c2) := by
  have hY := blk_set (blk_set (blk_set hX 0 c0) 1 c1) 2 c2
  have hbY : Below w.heap.size w (((W.setCell ⟨w.heap.size, 0, none⟩ c0).setCell ⟨w.heap.size, 1, none⟩ c1).setCell ⟨w.heap.size, 2, none⟩ c2) := ((hb.setCell (Nat.le_refl _) _).setCell (Nat.le_refl _) _).setCell (Nat.le_refl _) _
  generalize (((W.setCell ⟨w.heap.size, 0, none⟩ c0).setCell ⟨w.heap.size, 1, none⟩ c1).setCell ⟨w.heap.size, 2, none⟩ c2) = Y at hY hbY ⊢
  have hy0 := blk_cell hY 0
  have hy1 := blk_cell hY 1
  have hy2 := blk_cell hY 2
  simp at hy0 hy1 hy2
  refine bodyPost_ret (v := .tuple #[.agg #[c0, c1, c2], .int .i64 e]) ?_ rfl ⟨rfl, hbY⟩
  simp [results, Try.results35, go_sem, hy0, hy1, hy2, h4, h5]
def W2 (w : World) : World := (w.alloc (.cells #[.int .u32 0, .int .u32 0, .nilIface] 86)).alloc (.cells #[.int .u32 0, .int .u32 0, .nilIface] 86)
theorem page_grown {w : World} {p bm : Nat} {rv sv : Value} {R : List (Int × Int)} {L : List Seat} (h : BusAt w p bm rv sv R L) (a : Int) (a0 : 0 ≤ a) (a1 : a < 4294967296) (V : Value) (hV : (if a < 16777216 then sv else .slice none 0 0) = V) :
    ∀ d os, (Instr.lookup 75 (.map (some bm)) (.agg #[.int .u32 (a / 16777216)]) false).run Try.prog (grow (redrawn ((w.alloc (.cells #[.int .u32 0, .int .u32 0, .nilIface] 86)).alloc (.cells #[.int .u32 0, .int .u32 0, .nilIface] 86)) d) os)
      = .ok V (grow (redrawn ((w.alloc (.cells #[.int .u32 0, .int .u32 0, .nilIface] 86)).alloc (.cells #[.int .u32 0, .int .u32 0, .nilIface] 86)) d) os) := by
  intro d os
  rw [← hV]
  have hlt : bm < w.heap.size := h.map.lt
  refine h.page a a0 a1 _ ?_
  rw [(below_regrown _ d os).block bm (by simp; omega), blk_old _ _ (by simp; omega), blk_old _ _ hlt]
theorem zFindEmpty (a : Int) (p bm : Nat) (rv sv : Value) (R : List (Int × Int)) (L : List Seat) (w : World) (a0 : 0 ≤ a) (a1 : a < 4294967296) (h : (a % 4 != 0) = false) (hB : BusAt w p bm rv sv R L) (hV : (if a < 16777216 then sv else .slice none 0 0) = .slice none 0 0) :
    Calls Try.prog 35 #[.pointer (some ⟨p, 0, none⟩), .int .u32 a] w fun e w' => e = .returned (.tuple #[zeroSeatV, .int .i64 10]) ∧ Below w.heap.size w w' := by
  have hg := gcell
  have hf := gfrozen
  have hc := blk_cell hB.cell 1
  simp only [List.getElem?_toArray, List.getElem?_cons_zero, List.getElem?_cons_succ] at hc
  have hlt := hB.ltp
  have hp2 : p < w.heap.size + 1 + 1 := by omega
  have hl := page_grown hB a a0 a1 _ hV
  clear hV hB
  go_enter Try.func35, Try.ntmps35
  go_wp2_with fail
  go_step3
  go_wp2_with fail
  go_step3
  go_wp2_with fail
  refine wp_region_quiet_below (by kernel_rfl) (by kernel_rfl) ?_
  repeat (go_big_quiet_step (first
    | (go_at_call 43; exact Calls.regrown_of (zPageOf _ _ a0 a1))))
  refine wpQuiet_nil ?_
  intro _ hw'
  obtain ⟨⟨dq, osq⟩, hw''⟩ := hw'
  subst hw''
  go_wp2_with fail
  refine wp_loop_rounds 1 ?_
  rw [rounds_succ]
  go_wp2_with fail
  rw [Exit.noGoto_ret]
  have hX : (grow (redrawn ((w.alloc (.cells #[.int .u32 0, .int .u32 0, .nilIface] 86)).alloc (.cells #[.int .u32 0, .int .u32 0, .nilIface] 86)) dq) osq).heap[w.heap.size]? = some (.cells #[.int .u32 0, .int .u32 0, .nilIface] 86 (0, 0)) :=
    blk_below (below_regrown _ _ _) ((blk_old _ _ (by simp)).trans (blk_new w _)) (by simp; omega)
  exact seat_ret rfl rfl hX (trG (trA (trA (tr0 w) _) _) _ _)
/-- What find tells of an address. -/
def findL (a : Int) (L : List Seat) : Value × Int := match L.find? (fun x => hasB x.b x.s a) with
  | some x => (x.val, 0)
  | none => (zeroSeatV, 10)
set_option maxHeartbeats 1600000 in
theorem zFindRow (a : Int) (V : Value) (E : Int) (p bm : Nat) (rv : Value) (g cap : Nat) (R : List (Int × Int)) (L : List Seat) (w : World) (a0 : 0 ≤ a) (a1 : a < 16777216) (h : (a % 4 != 0) = false) (hB : BusAt w p bm rv (.slice (some ⟨g, 0, none⟩) L.length cap) R L) (hcap : L.length ≤ cap) (hmax : cap ≤ 9223372036854775807) (hVE : findL a L = (V, E)) :
    Calls Try.prog 35 #[.pointer (some ⟨p, 0, none⟩), .int .u32 a] w fun e w' => e = .returned (.tuple #[V, .int .i64 E]) ∧ Below w.heap.size w w' := by
  have HVE := Lib.hid hVE
  clear hVE
  have hg := gcell
  have hf := gfrozen
  have hc := blk_cell hB.cell 1
  simp only [List.getElem?_toArray, List.getElem?_cons_zero, List.getElem?_cons_succ] at hc
  have hlt := hB.ltp
  have hp2 : p < w.heap.size + 1 + 1 := by omega
  have hl := page_grown hB a a0 (by omega) _ (if_pos a1)
  have HB := Lib.hid hB
  clear hB
  go_enter Try.func35, Try.ntmps35
  go_wp2_with fail
  go_step3
  go_wp2_with fail
  go_step3
  go_wp2_with fail
  refine wp_region_quiet_below (by kernel_rfl) (by kernel_rfl) ?_
  repeat (go_big_quiet_step (first
    | (go_at_call 43; exact Calls.regrown_of (zPageOf _ _ a0 (by omega)))))
  refine wpQuiet_nil ?_
  intro _ hw'
  obtain ⟨⟨dq, osq⟩, hw''⟩ := hw'
  subst hw''
  clear hl hg hf
  go_wp2_with fail
  go_loopw [7, 26] (fun e i wr => ∃ k : Nat, k ≤ L.length ∧ e = .int .i64 10 ∧ i = .int .i64 k ∧ L.find? (fun x => hasB x.b x.s a) = (L.drop k).find? (fun x => hasB x.b x.s a) ∧
      Below (w.heap.size + 2) ((w.alloc (.cells #[.int .u32 0, .int .u32 0, .nilIface] 86)).alloc (.cells #[.int .u32 0, .int .u32 0, .nilIface] 86)) wr) (fun _ i _ => L.length - (intOf i).toNat)
  case atStart => exact ⟨0, by omega, rfl, rfl, rfl, (below_regrown _ _ _).mono (by simp)⟩
  case round =>
    obtain ⟨k, hk, rfl, rfl, hfd, hbel⟩ := hrel
    have HF := Lib.hid hfd
    clear hfd
    have hX : wr.heap[w.heap.size]? = some (.cells #[.int .u32 0, .int .u32 0, .nilIface] 86 (0, 0)) :=
      blk_below hbel ((blk_old _ _ (by simp)).trans (blk_new w _)) (by omega)
    have hX1 : wr.heap[w.heap.size + 1]? = some (.cells #[.int .u32 0, .int .u32 0, .nilIface] 86 (0, 0)) :=
      blk_below hbel (by simpa using blk_new (w.alloc (.cells #[.int .u32 0, .int .u32 0, .nilIface] 86)) (.cells #[.int .u32 0, .int .u32 0, .nilIface] 86)) (by omega)
    have hbw : Below w.heap.size w wr := (trA (trA (tr0 w) _) _).trans (hbel.mono (Nat.le_add_right _ _))
    have hsz := lt_of_block hX1
    by_cases hlt : k < L.length
    · obtain ⟨x, hx⟩ : ∃ x, L[k]? = some x := ⟨L[k], List.getElem?_eq_getElem hlt⟩
      have hgb : g < w.heap.size := (HB.out.seats.lt g rfl).2
      have hr0 := (hbw.cell (p := ⟨g, k * 3 + 0, none⟩) hgb).trans (row_cell (f := Seat.cells) (n := 3) (fun _ => rfl) HB.out.seats rfl hx 0 (by decide))
      have hr1 := (hbw.cell (p := ⟨g, k * 3 + 1, none⟩) hgb).trans (row_cell (f := Seat.cells) (n := 3) (fun _ => rfl) HB.out.seats rfl hx 1 (by decide))
      have hr2 := (hbw.cell (p := ⟨g, k * 3 + 2, none⟩) hgb).trans (row_cell (f := Seat.cells) (n := 3) (fun _ => rfl) HB.out.seats rfl hx 2 (by decide))
      simp only [Nat.add_zero, Seat.cells, Seat.d, List.getElem?_cons_zero, List.getElem?_cons_succ] at hr0 hr1 hr2
      have hwf := HB.out.wf x (List.mem_of_getElem? hx)
      obtain ⟨xb, xs, xf⟩ := x
      obtain ⟨q0, q1, q2⟩ := hwf
      simp only at q0 q1 q2 hr0 hr1 hr2
      have hdrop : L.drop k = ⟨xb, xs, xf⟩ :: L.drop (k + 1) := by
        rw [List.drop_eq_getElem_cons hlt]; congr 1
        exact (List.getElem?_eq_some_iff.1 hx).2
      have hX0 := Lib.hid hX
      have hX2 := Lib.hid hX1
      have hD := Lib.hid hdrop
      clear hX hX1 hx hdrop
      cases hh : hasB xb xs a
      · have HH := Lib.hid hh
        clear hh
        go_wp2_with (go_at_call 11; refine (zHasAs xb xs a false _ q0 (by omega) (by omega) (by omega) a0 (by omega) HH.out).mono ?_; rintro e w1 ⟨rfl, hb1⟩)
        go_roundw
        case rel =>
          refine ⟨k + 1, by omega, rfl, by go_num, ?_, hbel.trans (((Below.refl _ _).alloc (by omega) _).trans (hb1.mono (by simp; omega)))⟩
          rw [HF.out, hD.out, List.find?_cons, HH.out]
        case measure => simp [intOf]; omega
      · have HH := Lib.hid hh
        clear hh
        obtain ⟨rfl, rfl⟩ : Value.agg #[.int .u32 xb, .int .u32 xs, .iface 38 (.pointer (some ⟨xf, 0, none⟩))] = V ∧ 0 = E := by
          have h1 := HVE.out
          unfold findL at h1
          rw [HF.out, hD.out, List.find?_cons, HH.out] at h1
          exact Prod.mk.inj h1
        go_wp2_with fail
        refine (zHasAs xb xs a true _ q0 (by omega) (by omega) (by omega) a0 (by omega) HH.out).mono ?_
        rintro e w1 ⟨rfl, hb1⟩
        have hS := blk_below hb1 (blk_new wr _) (by simp)
        have hX3 := blk_below hb1 ((blk_old _ _ (by omega)).trans hX2.out) (by simp; omega)
        have hX4 := blk_below hb1 ((blk_old _ _ (by omega)).trans hX0.out) (by simp; omega)
        have hs0 := blk_cell hS 0
        have hs1 := blk_cell hS 1
        have hs2 := blk_cell hS 2
        have hx0 := blk_cell hX3 0
        have hx1 := blk_cell hX3 1
        have hx2 := blk_cell hX3 2
        have hy0 := blk_cell hX4 0
        have hy1 := blk_cell hX4 1
        have hy2 := blk_cell hX4 2
        simp only [List.getElem?_toArray, List.getElem?_cons_zero, List.getElem?_cons_succ] at hs0 hs1 hs2 hx0 hx1 hx2 hy0 hy1 hy2
        have hfx0 := blk_free hX3 0
        have hfx1 := blk_free hX3 1
        have hfx2 := blk_free hX3 2
        have hfy0 := blk_free hX4 0
        have hfy1 := blk_free hX4 1
        have hfy2 := blk_free hX4 2
        have hbw1 : Below w.heap.size w w1 := tr (trA hbw _) hb1
        have hS' := Lib.hid hS
        have hX3' := Lib.hid hX3
        have hX4' := Lib.hid hX4
        clear hS hX3 hX4 hb1
        go_wp2_with fail
        rw [Exit.noGoto_ret]
        exact seat_ret rfl rfl (by rw [Below.heap_setCell _ _ _ _ (by simp), Below.heap_setCell _ _ _ _ (by simp), Below.heap_setCell _ _ _ _ (by simp)]; exact hX4'.out) (((hbw1.setCell (by simp) _).setCell (by simp) _).setCell (by simp) _)
    · have hx0 := blk_cell hX1 0
      have hx1 := blk_cell hX1 1
      have hx2 := blk_cell hX1 2
      have hy0 := blk_cell hX 0
      have hy1 := blk_cell hX 1
      have hy2 := blk_cell hX 2
      simp only [List.getElem?_toArray, List.getElem?_cons_zero, List.getElem?_cons_succ] at hx0 hx1 hx2 hy0 hy1 hy2
      have hf0 := blk_free hX 0
      have hf1 := blk_free hX 1
      have hf2 := blk_free hX 2
      have hX0 := Lib.hid hX
      clear hX hX1
      go_wp2_with fail
      rw [Exit.noGoto_ret]
      have : L.drop k = [] := List.drop_of_length_le (by omega)
      obtain ⟨rfl, rfl⟩ : zeroSeatV = V ∧ 10 = E := by
        have h1 := HVE.out
        unfold findL at h1
        rw [HF.out, this] at h1
        exact Prod.mk.inj h1
      exact seat_ret rfl rfl hX0.out hbw
/-- What find tells, of any address that is a multiple of 4. -/
theorem zFind (a : Int) (V : Value) (E : Int) (p bm : Nat) (rv sv : Value) (R : List (Int × Int)) (L : List Seat) (w : World) (a0 : 0 ≤ a) (a1 : a < 4294967296) (h : (a % 4 != 0) = false) (hB : BusAt w p bm rv sv R L) (hVE : findL a L = (V, E)) :
    Calls Try.prog 35 #[.pointer (some ⟨p, 0, none⟩), .int .u32 a] w fun e w' => e = .returned (.tuple #[V, .int .i64 E]) ∧ Below w.heap.size w w' := by
  have none : (16777216 ≤ a ∨ L = []) → zeroSeatV = V ∧ 10 = E := by
    intro hn
    have : L.find? (fun x => hasB x.b x.s a) = .none := by
      rcases hn with hn | rfl
      · refine List.find?_eq_none.2 fun x hx => ?_
        have := hB.wf x hx
        unfold Seat.wf at this
        unfold hasB
        simp
        omega
      · rfl
    unfold findL at hVE
    rw [this] at hVE
    exact Prod.mk.inj hVE
  rcases row_form hB.seats with ⟨h1, h2⟩ | ⟨g, cap, h1, h2, h3, _⟩
  · obtain ⟨rfl, rfl⟩ := none (.inr (List.eq_nil_of_length_eq_zero h2))
    exact zFindEmpty a p bm rv sv R L w a0 a1 h hB (by rw [h1]; simp)
  · by_cases ha : a < 16777216
    · subst h1
      unfold maxLen at h3
      exact zFindRow a V E p bm rv g cap R L w a0 ha h hB h2 (by omega) hVE
    · obtain ⟨rfl, rfl⟩ := none (.inl (by omega))
      exact zFindEmpty a p bm rv sv R L w a0 a1 h hB (if_neg ha)
end Go.Proofs.Ytjfnhnbimcbjmaa.B
