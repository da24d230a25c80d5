/- The law BusFull: just so many regions. -/
import Derived.Test.YtjfnhnbimcbjmaaL03
namespace Go.Proofs.Ytjfnhnbimcbjmaa.B
set_option linter.unusedVariables false
set_option linter.unusedSimpArgs false
open Go.ChangeShapes Go.WideShapes Go.RowKit Go.Sort Go.Shelf
/-- The seats of the first regions. -/
def seatsTo (s : Int) (f : Nat) (k : Nat) : List Seat := (List.range k).map fun j : Nat => ⟨64 * (j : Int), s, f⟩
def regsTo (s : Int) (k : Nat) : List (Int × Int) := (List.range k).map fun j : Nat => (64 * (j : Int), s)
/-- A bus in the midst of being filled. -/
def FullAt (w0 w : World) (p bm f : Nat) (s : Int) (k : Nat) : Prop :=
  ∃ rv sv R, BusAt w p bm rv sv R (seatsTo s f k) ∧ R.Perm (regsTo s k) ∧ Below w0.heap.size w0 w ∧ ∀ k, busBlocks p bm rv sv k → w0.heap.size ≤ k
theorem set_off {k : Nat} {s : Int} {R : List (Int × Int)} (h : R.Perm (regsTo s k)) (s0 : 0 ≤ s) (s1 : s ≤ 64) (hk : k ≤ 64) :
    (∀ x ∈ R, (0 ≤ x.1 ∧ x.1 < 4294967296) ∧ 0 ≤ x.2 ∧ x.2 < 4294967296) ∧ anyMeet (64 * (k : Int)) s R = false ∧ R.length = k := by
  have hmem : ∀ x ∈ R, ∃ j : Nat, j < k ∧ x = (64 * (j : Int), s) := fun x hx => by
    have := h.mem_iff.1 hx
    unfold regsTo at this
    obtain ⟨j, hj, rfl⟩ := List.mem_map.1 this
    exact ⟨j, List.mem_range.1 hj, rfl⟩
  refine ⟨fun x hx => ?_, ?_, ?_⟩
  · obtain ⟨j, hj, rfl⟩ := hmem x hx
    simp; omega
  · unfold anyMeet
    rw [List.any_eq_false]
    intro x hx
    obtain ⟨j, hj, rfl⟩ := hmem x hx
    unfold meetB
    simp
    (repeat' split) <;> omega
  · have := h.length_eq; simpa [regsTo] using this
theorem full_start (w0 w : World) (p bm f : Nat) (s : Int) (h : BusAt w p bm (.slice none 0 0) (.slice none 0 0) [] []) (hb : Below w0.heap.size w0 w) (hp : w0.heap.size ≤ p) (hm : w0.heap.size ≤ bm) : FullAt w0 w p bm f s 0 :=
  ⟨.slice none 0 0, .slice none 0 0, [], h, by simp [regsTo], hb, fun k hk => by
    rcases hk with rfl | rfl | h | h
    · exact hp
    · exact hm
    · cases h
    · cases h⟩
theorem zFill (w0 : World) (p bm f : Nat) (s : Int) (k : Nat) (w : World) (h : FullAt w0 w p bm f s k) (hk : k < 64) (s0 : 0 < s) (s1 : s ≤ 64) (s2 : (s % 4 != 0) = false) (x : Int) (hx : x = 64 * (k : Int)) :
    Calls Try.prog 16 #[.pointer (some ⟨p, 0, none⟩), .agg #[.int .u32 x, .int .u32 s], .iface 38 (.pointer (some ⟨f, 0, none⟩))] w fun e w' => e = .returned (.int .i64 0) ∧ FullAt w0 w' p bm f s (k + 1) := by
  subst hx
  obtain ⟨rv, sv, R, hB, hp, hb, hnew⟩ := h
  obtain ⟨hR, hm, hl⟩ := set_off hp (by omega) s1 (by omega)
  have hlen : (seatsTo s f k).length = k := by simp [seatsTo]
  refine (zAttach p bm rv sv R _ (64 * (k : Int)) s f w hB (by omega) (by omega) ⟨by simp; omega, by simpa using s0, by simp; omega⟩ hR hm (by simp; omega) s2).mono ?_
  rintro e w' ⟨rfl, rv', sv', R', hB', hp', _, ho', hk'⟩
  refine ⟨rfl, rv', sv', R', ?_, hp'.trans ?_, hb.trans (off_new ho' hnew hb.size), fun j hj => ?_⟩
  · unfold seatsTo at hB' ⊢
    rw [List.range_succ, List.map_append]
    exact hB'
  · unfold regsTo at hp ⊢
    rw [List.range_succ, List.map_append]
    exact hp.append_right _
  · rcases hk' j hj with h1 | h1
    · exact hnew j h1
    · exact Nat.le_trans hb.size h1
/-- All regions, told. -/
theorem zRegions (p bm : Nat) (rv sv : Value) (R : List (Int × Int)) (L : List Seat) (w : World) (hB : BusAt w p bm rv sv R L) (hn : R.length ≤ 64) :
    Calls Try.prog 25 #[.pointer (some ⟨p, 0, none⟩)] w fun e w' => (∃ a cap, e = .returned (.slice a R.length cap)) ∧ Below w.heap.size w w' := by
  have hc := blk_cell hB.cell 0
  simp only [List.getElem?_toArray, List.getElem?_cons_zero] at hc
  have hlt := hB.ltp
  have hcl : Calls Try.prog 38 #[rv] w fun e w' => (∃ a cap, e = .returned (.slice a R.length cap)) ∧ Below w.heap.size w w' := by
    rcases row_form hB.regs with ⟨h1, h2⟩ | ⟨g, cap, h1, h2, h3, _⟩
    · subst h1
      have hcon := AnyE.slices_Clone_nil Try.cloneReg 0 0 w
      change Calls Try.prog 38 _ _ _ at hcon
      refine hcon.mono ?_
      rintro e w' ⟨rfl, rfl⟩
      exact ⟨⟨none, 0, by rw [h2]⟩, tr0 _⟩
    · subst h1
      obtain ⟨i0, hi, hz0, hz1, hz2⟩ := info_parts infoReg
      have hcon := AnyE.slices_Clone Try.cloneReg i0 (.agg #[.int .u32 0, .int .u32 0]) 2 8 hi hz0 hz1 hz2 rfl (by decide) Try.sizeOf24 g 0 R.length cap (R.flatMap regCells) w (flat_len _ 2 (fun _ => rfl) R) (by unfold maxLen; omega) (by omega)
        (fun j u hj => by
          have hjl : j < R.length * 2 := by
            have := (List.getElem?_eq_some_iff.1 hj).1
            rwa [flat_len regCells 2 (fun _ => rfl)] at this
          rw [Nat.zero_add, hB.regs.cellAt j hjl]; exact hj)
        (fun u hu => by
          obtain ⟨x, _, hx⟩ := List.mem_flatMap.1 hu
          simp [regCells] at hx
          rcases hx with rfl | rfl <;> rfl)
      change Calls Try.prog 38 _ _ _ at hcon
      refine hcon.mono ?_
      rintro e w' ⟨v', rfl, hown, hne, hb⟩
      refine ⟨?_, hb⟩
      rcases row_form hown with ⟨h4, _⟩ | ⟨g', cap', h4, _⟩
      · exact absurd h4 hne
      · exact ⟨some ⟨g', 0, none⟩, cap', by rw [h4]⟩
  clear hB
  go_enter Try.func25, Try.ntmps25
  go_wp2_with fail
  refine hcl.mono ?_
  rintro e w' ⟨⟨a, cap, rfl⟩, hb⟩
  go_wp2_with fail
  go_ret
  exact ⟨⟨a, cap, rfl⟩, hb⟩
theorem mod_of (n m : Int) (m0 : 0 < m) (m1 : m ≤ 1000000) : 0 ≤ wrap64 ((IntKind.u64.wrap n).tmod m) ∧ wrap64 ((IntKind.u64.wrap n).tmod m) < m := by
  have h0 := wrap_u64_nonneg n
  have h1 : 0 ≤ (IntKind.u64.wrap n).tmod m := Int.tmod_nonneg _ h0
  have h2 : (IntKind.u64.wrap n).tmod m < m := Int.tmod_lt_of_pos _ m0
  unfold wrap64
  omega
set_option maxRecDepth 100000 in
set_option maxHeartbeats 3200000 in
theorem busFull (n a : Int) (w : World) (n0 : -9223372036854775808 ≤ n) (n1 : n < 9223372036854775808) (a0 : 0 ≤ a) (a1 : a < 4294967296) :
    Calls Try.prog 5 #[.int .i64 n, .int .u32 a] w fun e w' => e = .returned (.bool true) ∧ Below w.heap.size w w' := by
  go_enter Try.func5, Try.ntmps5
  go_wp2_with fail
  refine (zNew _).mono ?_
  rintro e w1 ⟨rfl, hB1, hb1⟩
  go_wp2_with fail
  refine (fNew _).mono ?_
  rintro e w2 ⟨rfl, hF2, hb2⟩
  go_wp2_with fail
  have hF0 := full_start w w2 (w.heap.size + 1) w.heap.size (w1.heap.size + 1) (4 + 4 * (a % 16)) (hB1.ofBelow hb2) (tr hb1 hb2) (by omega) (Nat.le_refl _)
  have hm := mod_of n 71 (by omega) (by omega)
  have s0 : 0 < 4 + 4 * (a % 16) := by omega
  have s1 : 4 + 4 * (a % 16) ≤ 64 := by omega
  have s2 : ((4 + 4 * (a % 16)) % 4 != 0) = false := by
    have : (4 + 4 * (a % 16)) % 4 = 0 := by omega
    rw [this]; rfl
  clear hB1 hb1 hb2 hF2
  generalize wrap64 ((IntKind.u64.wrap n).tmod 71) = N at *
  generalize 4 + 4 * (a % 16) = S at *
  generalize w1.heap.size + 1 = f at *
  generalize w.heap.size + 1 = p at *
  obtain ⟨m0, m1⟩ := hm
  clear w1
  have HF0 := Lib.hid hF0
  clear hF0
  go_loopw [8] (fun i wr => ∃ k : Nat, (k : Int) ≤ N ∧ i = .int .i64 k ∧ FullAt w wr p w.heap.size f S (min k 64)) (fun i _ => (N - intOf i).toNat)
  case atStart => exact ⟨0, by omega, rfl, HF0.out⟩
  case round =>
    obtain ⟨k, hk, rfl, hfull⟩ := hrel
    have HL := Lib.hid hfull
    clear hfull
    by_cases hlt : (k : Int) < N
    · by_cases h64 : (k : Int) < 64
      · go_wp2_with fail
        refine (zFill w p w.heap.size f S k _ (by have := HL.out; rwa [Nat.min_eq_left (by omega)] at this) (by omega) s0 s1 s2 _ (by omega)).mono ?_
        rintro e w3 ⟨rfl, hf3⟩
        have HL3 := Lib.hid hf3
        clear hf3
        go_wp2_with fail
        go_roundw
        case rel => exact ⟨k + 1, by omega, by go_num, by rw [Nat.min_eq_left (by omega)]; exact HL3.out⟩
        case measure => simp [intOf]; omega
      · have hmany : ∀ x, x = 64 * (k : Int) → Calls Try.prog 16 #[.pointer (some ⟨p, 0, none⟩), .agg #[.int .u32 x, .int .u32 S], .iface 38 (.pointer (some ⟨f, 0, none⟩))] wr fun e w' => e = .returned (.int .i64 6) ∧ Below wr.heap.size wr w' := by
          rintro x rfl
          obtain ⟨rv, sv, R, hB, hp, hb, hnew⟩ := HL.out
          rw [Nat.min_eq_right (by omega)] at hB hp
          have hl := (set_off hp (by omega) s1 (by omega)).2.2
          exact zAttachMany p _ rv sv R _ (64 * (k : Int)) S f wr hB (by omega) (by omega) (by omega) (by omega) (by omega) (by simp; omega) s2 (by simp; omega) (by omega)
        have h64' : (64 : Int) ≤ (k : Int) := by omega
        go_wp2_with fail
        refine (hmany _ (by omega)).mono ?_
        rintro e w3 ⟨rfl, hb3⟩
        have hf3 : FullAt w w3 p w.heap.size f S 64 := by
          obtain ⟨rv, sv, R, hB, hp, hb, hnew⟩ := HL.out
          rw [Nat.min_eq_right (by omega)] at hB hp
          exact ⟨rv, sv, R, hB.ofBelow hb3, hp, tr hb hb3, hnew⟩
        have HL3 := Lib.hid hf3
        clear hf3 hb3
        go_wp2_with fail
        go_roundw
        case rel => exact ⟨k + 1, by omega, by go_num, by rw [Nat.min_eq_right (by omega)]; exact HL3.out⟩
        case measure => simp [intOf]; omega
    · have hkN : N = (k : Int) := by omega
      subst hkN
      obtain ⟨rv, sv, R, hB, hp, hb, hnew⟩ := HL.out
      have hl := (set_off hp (by omega) s1 (by omega)).2.2
      have HB := Lib.hid hB
      have HW := Lib.hid hb
      clear hB hp hb hnew
      go_wp2_with fail
      refine (zknown _).mono ?_
      rintro e w3 ⟨rfl, hb3⟩
      have HB3 := Lib.hid (HB.out.ofBelow hb3)
      have HW3 := Lib.hid (tr HW.out hb3)
      clear hb3
      go_wp2_with fail
      refine (zRegions p w.heap.size rv sv R _ _ HB3.out (by omega)).mono ?_
      rintro e w4 ⟨⟨ra, rcap, rfl⟩, hb4⟩
      have HW4 := Lib.hid (tr HW3.out hb4)
      clear hb4
      rw [hl]
      have kbad : ∀ w', Calls Try.prog 28 #[.agg #[.int .u32 1, .int .u32 0]] w' fun e w'' => e = .returned (.int .i64 11) ∧ Below w'.heap.size w' w'' :=
        fun w' => zCheckBad 1 0 w' (by omega) (by omega) (by omega) (by omega) (.inl rfl)
      have krange : ∀ w', Calls Try.prog 28 #[.agg #[.int .u32 4294967292, .int .u32 8]] w' fun e w'' => e = .returned (.int .i64 5) ∧ Below w'.heap.size w' w'' :=
        fun w' => zCheckRange 4294967292 8 w' (by omega) (by omega) (by omega) (by omega) rfl rfl rfl (by omega)
      have kA := fun w' => zAttachBad p 1 0 11 f w' rfl kbad
      have kB := fun w' => zAttachBad p 4294967292 8 5 f w' rfl krange
      have KA := Lib.hid kA
      have KB := Lib.hid kB
      clear kbad krange kA kB
      by_cases h64 : (k : Int) ≤ 64
      · have hmn : min k 64 = k := by omega
        have hmi : min (k : Int) 64 = (k : Int) := by omega
        rw [hmn]
        clear hl hmn h64 hlt hk m0 m1 s0 s1 s2
        go_wp2_with fail
        refine (KA.out _).mono ?_
        rintro e w5 ⟨rfl, hb5⟩
        have HW5 := Lib.hid (tr HW4.out hb5)
        clear hb5
        go_wp2_with fail
        refine (KB.out _).mono ?_
        rintro e w6 ⟨rfl, hb6⟩
        have HW6 := Lib.hid (tr HW5.out hb6)
        clear hb6
        go_wp2_with fail
        go_ret
        exact ⟨rfl, HW6.out⟩
      · have hmn : min k 64 = 64 := by omega
        have hmi : min (k : Int) 64 = 64 := by omega
        rw [hmn]
        clear hl hmn h64 hlt hk m0 m1 s0 s1 s2
        go_wp2_with fail
        refine (KA.out _).mono ?_
        rintro e w5 ⟨rfl, hb5⟩
        have HW5 := Lib.hid (tr HW4.out hb5)
        clear hb5
        go_wp2_with fail
        refine (KB.out _).mono ?_
        rintro e w6 ⟨rfl, hb6⟩
        have HW6 := Lib.hid (tr HW5.out hb6)
        clear hb6
        go_wp2_with fail
        go_ret
        exact ⟨rfl, HW6.out⟩
theorem wBusFull (v0 v1 : Value) (w : World) (h0 : FitsV w (.int .i64) v0) (h1 : FitsV w (.int .u32) v1) :
    Calls Try.prog 5 #[v0, v1] w fun e w' => e = .returned (.bool true) ∧ Below w.heap.size w w' := by
  obtain ⟨n, rfl, n0, n1⟩ := fits_i64 h0
  obtain ⟨a, rfl, a0, a1⟩ := fits_u32 h1
  exact busFull n a w n0 n1 a0 a1
end Go.Proofs.Ytjfnhnbimcbjmaa.B
