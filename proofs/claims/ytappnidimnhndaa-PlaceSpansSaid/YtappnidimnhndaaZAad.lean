/- Several texts in one: Layer 18: the document's Span. Layer 18: PlaceOf. The laws of layer 18, of any arguments that fit, over package place's .. -/
import Derived.Test.YtappnidimnhndaaZAO
import Derived.Test.YtappnidimnhndaaZAab
import Derived.Test.YtappnidimnhndaaZAac
namespace Go.Proofs.Ytappnidimnhndaa.B
set_option linter.unusedVariables false
set_option linter.unusedSimpArgs false
set_option maxRecDepth 100000
open Go.ChangeShapes Go.WideShapes Go.RowKit Go.Sort
theorem Power8 (w : World) : Calls Try.prog 20 #[.int .i64 8] w fun e w' => e = .returned (.int .u64 281474976710656) ∧ w = w' := Power 8 w (by decide) (by decide)
theorem spn_far (b : Int) : spn b (8, 0) = if b / 281474976710656 = 65535 then (0, 0, false) else ((b / 281474976710656 + 1) * 281474976710656, 18446744073709551615, true) := by
 unfold spn
 rw [if_neg (by decide), if_pos rfl]
theorem spn_out (b : Int) {k : Pk} (h1 : ¬ (k.1 = -1 ∧ k.2 = 0)) (h2 : ¬ (k.1 = 8 ∧ k.2 = 0)) (h : k.1 < 0 ∨ 7 < k.1 ∨ k.2 < 1 ∨ 63 < k.2) : spn b k = (0, 0, false) := by
 unfold spn
 rw [if_neg (fun e => h1 (by rw [e]; exact ⟨rfl, rfl⟩)), if_neg (fun e => h2 (by rw [e]; exact ⟨rfl, rfl⟩)), if_pos h]
theorem spn_in (b : Int) {k : Pk} (h0 : 0 ≤ k.1) (h1 : k.1 ≤ 7) (h2 : 1 ≤ k.2) (h3 : k.2 ≤ 63) : spn b k = if k.2 ≤ b / pw k.1.toNat % 64 then (0, 0, false) else (b / pw k.1.toNat / 64 * 64 * pw k.1.toNat + k.2 * pw k.1.toNat, b / pw k.1.toNat / 64 * 64 * pw k.1.toNat + k.2 * pw k.1.toNat + pw k.1.toNat - 1, true) := by
 unfold spn
 rw [if_neg (fun e => by rw [e] at h0; exact absurd h0 (by decide)), if_neg (fun e => by rw [e] at h1; exact absurd h1 (by decide)), if_neg (by omega), pq_pw (by omega)]
theorem span_nums {b s : Int} {j : Nat} (hj : j < 8) (b0 : 0 ≤ b) (b1 : b < 18446744073709551616) (s0 : 1 ≤ s) (s1 : s ≤ 63) : 0 ≤ b / pw j / 64 * 64 * pw j ∧ b / pw j / 64 * 64 * pw j < 18446744073709551616 ∧ 0 ≤ s * pw j ∧ s * pw j < 18446744073709551616 ∧ 0 ≤ b / pw j / 64 * 64 * pw j + s * pw j ∧ b / pw j / 64 * 64 * pw j + s * pw j + pw j ≤ 18446744073709551616 ∧ b / pw j < 18446744073709551616 ∧ 0 ≤ b / pw j := by
 have hj2 : j = 0 ∨ j = 1 ∨ j = 2 ∨ j = 3 ∨ j = 4 ∨ j = 5 ∨ j = 6 ∨ j = 7 := by omega
 rw [← pq_pw (by omega)]
 rcases hj2 with rfl | rfl | rfl | rfl | rfl | rfl | rfl | rfl <;> simp only [pq] <;> omega
def KT (w0 : World) (x y : Int) (w : World) : Prop := w.cell? ⟨w0.heap.size, 0, none⟩ = some (.int .i64 x) ∧ w.cell? ⟨w0.heap.size, 1, none⟩ = some (.int .i64 y) ∧ w0.heap.size < w.heap.size ∧ w.frozen? ⟨w0.heap.size, 0, none⟩ = false ∧ Below w0.heap.size w0 w
theorem KT.of {w0 w : World} {x y : Int} {T : TypeId} (h : w.heap[w0.heap.size]? = some (.cells #[.int .i64 x, .int .i64 y] T (0, 0))) (hb : Below w0.heap.size w0 w) : KT w0 x y w := ⟨by rw [blk_cell h]; rfl, by rw [blk_cell h]; rfl, lt_of_block h, blk_free h 0, hb⟩
theorem KT.new (w : World) (x y : Int) {T : TypeId} : KT w x y (w.alloc (.cells #[.int .i64 x, .int .i64 y] T (0, 0))) := KT.of (blk_new w _) (trA (tr0 w) _)
theorem KT.drew {w0 w : World} {x y : Int} (h : KT w0 x y w) (n : Nat) : KT w0 x y (w.drewN n) := ⟨h.1, h.2.1, h.2.2.1, h.2.2.2.1, below_drewN h.2.2.2.2 n⟩
set_option maxHeartbeats 3200000 in
theorem dSpan (b : Int) (k : Pk) (w : World) (hb : u64q b) (hk : kok k) : Calls Try.prog 8 #[.int .u64 b, kyv k] w fun e w' => e = .returned (.tuple #[.int .u64 (spn b k).1, .int .u64 (spn b k).2.1, .bool (spn b k).2.2]) ∧ Below w.heap.size w w' := by
 obtain ⟨b0, b1⟩ := hb
 obtain ⟨s, t⟩ := k
 obtain ⟨⟨s0, s1⟩, t0, t1⟩ := hk
 simp only at s0 s1 t0 t1
 show Calls Try.prog 8 #[.int .u64 b, .agg #[.int .i64 s, .int .i64 t]] w _
 by_cases hl : s = -1 ∧ t = 0
 · obtain ⟨rfl, rfl⟩ := hl
   rw [spn_late]
   go_enter Try.func8, Try.ntmps8
   go_wp2_with fail
   go_ret3
   exact ⟨rfl, trA (tr0 w) _⟩
 by_cases hf : s = 8 ∧ t = 0
 · obtain ⟨rfl, rfl⟩ := hf
   rw [spn_far]
   by_cases h : b / 281474976710656 = 65535
   all_goals
    simp only [h, if_true, if_false]
    go_enter Try.func8, Try.ntmps8
    go_wp2_with (go_at_call 20; refine (Power8 _).mono ?_; rintro e w' ⟨rfl, rfl⟩)
    go_ret3
    exact ⟨rfl, trA (tr0 w) _⟩
 by_cases ho : s < 0 ∨ 7 < s ∨ t < 1 ∨ 63 < t
 · rw [spn_out b hl hf ho]
   have hw : (s = -1 ∧ ¬ t = 0) ∨ (s = 8 ∧ ¬ t = 0) ∨ (s < 0 ∧ ¬ s = -1) ∨ (7 < s ∧ ¬ s = 8) ∨ (¬ s = -1 ∧ ¬ s = 8 ∧ ¬ s < 0 ∧ ¬ 7 < s ∧ t < 1) ∨ (¬ s = -1 ∧ ¬ s = 8 ∧ ¬ s < 0 ∧ ¬ 7 < s ∧ ¬ t < 1 ∧ 63 < t) := by omega
   clear hl hf ho
   rcases hw with hw | hw | hw | hw | hw | hw
   all_goals
    have f1 : (s == -1 && t == 0) = false := by
     rw [Bool.and_eq_false_iff, beq_eq_false_iff_ne, beq_eq_false_iff_ne]; omega
    have f2 : (s == 8 && t == 0) = false := by
     rw [Bool.and_eq_false_iff, beq_eq_false_iff_ne, beq_eq_false_iff_ne]; omega
   case inl => 
    obtain ⟨rfl, hw⟩ := hw
    have hw2 : (t == 0) = false := beq_eq_false_iff_ne.2 hw
    go_enter Try.func8, Try.ntmps8
    go_wp2_with fail
    go_ret3
    exact ⟨rfl, trA (tr0 w) _⟩
   case inr.inl => 
    obtain ⟨rfl, hw⟩ := hw
    have hw2 : (t == 0) = false := beq_eq_false_iff_ne.2 hw
    go_enter Try.func8, Try.ntmps8
    go_wp2_with fail
    go_ret3
    exact ⟨rfl, trA (tr0 w) _⟩
   all_goals
    have h1 : (s == -1) = false := beq_eq_false_iff_ne.2 (by omega)
    have h2 : (s == 8) = false := beq_eq_false_iff_ne.2 (by omega)
    clear f1 f2
    go_enter Try.func8, Try.ntmps8
    go_wp2_with fail
    go_ret3
    exact ⟨rfl, trA (tr0 w) _⟩
 obtain ⟨j, rfl⟩ := Int.eq_ofNat_of_zero_le (show 0 ≤ s by omega)
 have hj : j < 8 := by omega
 have ht0 : 1 ≤ t := by omega
 have ht1 : t ≤ 63 := by omega
 rw [spn_in b (by show 0 ≤ (j : Int); omega) (by show (j : Int) ≤ 7; omega) ht0 ht1]
 clear hl hf ho
 show Calls _ _ _ _ fun e w' => e = .returned (.tuple #[.int .u64 (ite (t ≤ b / pw (j : Int).toNat % 64) _ _ : Int × Int × Bool).1, .int .u64 _, .bool _]) ∧ _
 rw [Int.toNat_natCast]
 obtain ⟨g1, g2, g3, g4, g5, g6, g7, g8⟩ := span_nums hj b0 b1 ht0 ht1
 have p1 := pw_pos j
 have p2 := pw_le (show j ≤ 8 by omega)
 have HP := Lib.hid (fun w' => by have := Power (j : Int) w' (by omega) (by omega); rwa [Int.toNat_natCast] at this)
 have h1 : ((j : Int) == -1) = false := beq_eq_false_iff_ne.2 (by omega)
 have h2 : ((j : Int) == 8) = false := beq_eq_false_iff_ne.2 (by omega)
 have h3 : ¬ (j : Int) < 0 := by omega
 have h4 : ¬ 7 < (j : Int) := by omega
 have h5 : ¬ t < 1 := by omega
 have h6 : ¬ 63 < t := by omega
 have h7 : IntKind.u64.wrap t = t := by rw [IntKind.wrap_u64]; omega
 by_cases hd : t ≤ b / pw j % 64
 all_goals
  simp only [hd, if_true, if_false]
  go_enter Try.func8, Try.ntmps8
  go_wp2_with fail
  refine (HP.out _).mono ?_
  rintro e w' ⟨rfl, rfl⟩
  go_wp2_with fail
  clear h1 h2 h3 h4 h5 h6 HP
  have G := Lib.hid (And.intro g1 (And.intro g2 (And.intro g3 (And.intro g4 (And.intro g5 g6)))))
  clear g1 g2 g3 g4 g5 g6
  have hz : ¬ pw j = 0 := by omega
  have q1 : IntKind.u64.wrap (b.tdiv (pw j)) = b / pw j := by rw [Int.tdiv_eq_ediv_of_nonneg b0, IntKind.wrap_u64]; omega
  have q2 : IntKind.u64.wrap ((b / pw j).tmod 64) = b / pw j % 64 := by rw [Int.tmod_eq_emod_of_nonneg g8, IntKind.wrap_u64]; omega
  refine wp_region_quiet_lit (by kernel_rfl) (by kernel_rfl) ?_
  repeat (quiet_step (fail))
  refine wpQuiet_nil ?_
  intro w2 hw2
  obtain ⟨k1, k2, k3, k4, k5⟩ : KT w j t w2 := by
   obtain ⟨nq, e2⟩ := hw2
   exact e2 ▸ (KT.new w j t).drew nq
  clear hw2
  have q3 : (b / pw j).tmod 64 = b / pw j % 64 := Int.tmod_eq_emod_of_nonneg g8
  simp only [q3]
  clear q1 q2 q3 h7 g7 g8 hz
 · have hb : decide (t ≤ b / pw j % 64) = true := decide_eq_true hd
   simp only [hb]
   clear hb hd
   go_wp2_with fail
   go_ret3
   exact ⟨rfl, k5⟩
 · have hb : decide (t ≤ b / pw j % 64) = false := decide_eq_false (by omega)
   simp only [hb]
   clear hb hd
   go_wp2_with fail
   obtain ⟨g1, g2, g3, g4, g5, g6⟩ := G.out
   have g8 : 0 ≤ b / pw j := Int.ediv_nonneg b0 (by omega)
   have g7 : b / pw j < 18446744073709551616 := Int.lt_of_le_of_lt (Int.ediv_le_self _ b0) b1
   have h7 : IntKind.u64.wrap t = t := by rw [IntKind.wrap_u64]; omega
   have hz : ¬ pw j = 0 := by omega
   have q1 : IntKind.u64.wrap (b.tdiv (pw j)) = b / pw j := by rw [Int.tdiv_eq_ediv_of_nonneg b0, IntKind.wrap_u64]; omega
   have q2 : (b / pw j).tdiv 64 = b / pw j / 64 := Int.tdiv_eq_ediv_of_nonneg g8
   have q3 : IntKind.u64.wrap (b / pw j / 64) = b / pw j / 64 := by rw [IntKind.wrap_u64]; omega
   have q4 : IntKind.u64.wrap (b / pw j / 64 * 64) = b / pw j / 64 * 64 := by rw [IntKind.wrap_u64]; omega
   have q5 : IntKind.u64.wrap (b / pw j / 64 * 64 * pw j) = b / pw j / 64 * 64 * pw j := by rw [IntKind.wrap_u64]; omega
   have q6 : IntKind.u64.wrap (t * pw j) = t * pw j := by rw [IntKind.wrap_u64]; omega
   have q7 : IntKind.u64.wrap (b / pw j / 64 * 64 * pw j + t * pw j) = b / pw j / 64 * 64 * pw j + t * pw j := by rw [IntKind.wrap_u64]; omega
   clear g1 g2 g3 g4 g5 g6
   have HB := Lib.hid k5
   clear k1 k3 k4 k5 g7 p2 ht0 ht1 b0 b1 t0 t1 s0 s1 hj
   refine wp_region_quiet_lit (by kernel_rfl) (by kernel_rfl) ?_
   repeat (quiet_step (fail))
   refine wpQuiet_nil ?_
   intro w3 hw3
   obtain ⟨nq, e2⟩ := hw3
   subst e2
   have hF : 0 ≤ b / pw j / 64 * 64 * pw j + t * pw j ∧ b / pw j / 64 * 64 * pw j + t * pw j + pw j ≤ 18446744073709551616 := G.out.2.2.2.2
   clear h7 hz q1 q2 q3 q4 q5 q6 q7 g8 G k2
   generalize hFe : b / pw j / 64 * 64 * pw j + t * pw j = F at *
   have HE := Lib.hid hFe
   clear hFe
   have q1 : IntKind.u64.wrap (IntKind.u64.wrap (F + pw j) - 1) = F + pw j - 1 := by rw [IntKind.wrap_u64, IntKind.wrap_u64]; omega
   have q2 : IntKind.u64.wrap (F + pw j - 1) = F + pw j - 1 := by rw [IntKind.wrap_u64]; omega
   clear hF p1
   go_wp2_with fail
   go_ret3
   exact ⟨by rw [HE.out]; rfl, below_drewN HB.out nq⟩
theorem rgt_ways (s t : Int) : (decide (((s, t) : Pk) = (-1, 0)) = true ∧ rgt (s, t) = true) ∨ (decide (((s, t) : Pk) = (-1, 0)) = false ∧ decide (((s, t) : Pk) = (8, 0)) = true ∧ rgt (s, t) = true) ∨
 (decide (((s, t) : Pk) = (-1, 0)) = false ∧ decide (((s, t) : Pk) = (8, 0)) = false ∧ decide (0 ≤ s) = false ∧ rgt (s, t) = false) ∨
 (decide (((s, t) : Pk) = (-1, 0)) = false ∧ decide (((s, t) : Pk) = (8, 0)) = false ∧ decide (0 ≤ s) = true ∧ decide (s < 8) = false ∧ rgt (s, t) = false) ∨
 (decide (((s, t) : Pk) = (-1, 0)) = false ∧ decide (((s, t) : Pk) = (8, 0)) = false ∧ decide (0 ≤ s) = true ∧ decide (s < 8) = true ∧ decide (0 < t) = false ∧ rgt (s, t) = false) ∨
 (decide (((s, t) : Pk) = (-1, 0)) = false ∧ decide (((s, t) : Pk) = (8, 0)) = false ∧ decide (0 ≤ s) = true ∧ decide (s < 8) = true ∧ decide (0 < t) = true ∧ decide (t < 64) = false ∧ rgt (s, t) = false) ∨
 (decide (((s, t) : Pk) = (-1, 0)) = false ∧ decide (((s, t) : Pk) = (8, 0)) = false ∧ decide (0 ≤ s) = true ∧ decide (s < 8) = true ∧ decide (0 < t) = true ∧ decide (t < 64) = true ∧ rgt (s, t) = true) := by
 unfold rgt
 simp only [decide_eq_true_eq, decide_eq_false_iff_not]
 by_cases h1 : ((s, t) : Pk) = (-1, 0)
 · exact .inl ⟨h1, .inl h1⟩
 by_cases h2 : ((s, t) : Pk) = (8, 0)
 · exact .inr (.inl ⟨h1, h2, .inr (.inl h2)⟩)
 simp only [h1, h2, not_false_eq_true, true_and, false_and, false_or]
 omega
set_option maxHeartbeats 3200000 in
theorem placeOf (H : PlaceC) (b d u : Int) (k : Pk) (w : World) (hb : u64q b) (hd : u64q d) (hu : u64q u) (hk : kok k) : Calls Try.prog 3 #[.int .u64 b, .int .u64 d, .int .u64 u, kyv k] w fun e w' => e = .returned (.bool true) ∧ Below w.heap.size w w' := by
 obtain ⟨s, t⟩ := k
 have hT : tch b u (s, t) = ((spn b (s, t)).2.2 && decide ((spn b (s, t)).1 ≤ u)) := rfl
 have O := Lib.hid (fun w => H.of w b d hb hd)
 have DO := Lib.hid (fun w => dOf b d w hb hd)
 have S := Lib.hid (fun w => H.span w b (s, t) hb hk)
 have D := Lib.hid (fun w => dSpan b (s, t) w hb hk)
 have T := Lib.hid (fun w => H.touched w b u (s, t) hb hu hk)
 have R := Lib.hid (fun (w : World) (x y : Int) (r : Bool) (hk : kok (x, y)) (hr : rgt (x, y) = r) => show Calls Try.prog 13 #[.agg #[.int .i64 x, .int .i64 y]] w fun e w' => e = .returned (.bool r) ∧ Below w.heap.size w w' from by subst hr; exact H.right w (x, y) hk)
 have K := Lib.hid (plKnown H)
 have L := Lib.hid (fun w => show Calls Try.prog 9 #[] w fun e w' => e = .returned (.agg #[.int .i64 (-1), .int .i64 0]) ∧ Below w.heap.size w w' from H.late w)
 have F := Lib.hid (fun w => show Calls Try.prog 10 #[] w fun e w' => e = .returned (.agg #[.int .i64 8, .int .i64 0]) ∧ Below w.heap.size w w' from H.far w)
 have rx := plc_right b d
 have kx := plc_kok b d
 rw [hT] at T
 unfold kyv kyl at O DO S D T ⊢
 generalize plc b d = q at *
 obtain ⟨x, y⟩ := q
 generalize spn b (s, t) = g at *
 obtain ⟨A, B, hs⟩ := g
 have RW := Lib.hid (rgt_ways s t)
 clear H hT hb hd hu
 dsimp only at O DO S D T ⊢
 go_enter Try.func3, Try.ntmps3
 go_upto_region 1 with (fail)
 have HK := Lib.hid (show PlB tKy w.heap.size s t (w.alloc (.cells #[.int .i64 s, .int .i64 t] tKy (0, 0))) from blk_new w _)
 have HB := Lib.hid (show Below w.heap.size w (w.alloc (.cells #[.int .i64 s, .int .i64 t] tKy (0, 0))) from trA (tr0 w) _)
 generalize w.alloc (.cells #[.int .i64 s, .int .i64 t] tKy (0, 0)) = W0 at *
 generalize hp : w.heap.size = p at HK ⊢
 go_upto_region 2 with (go_at_call 6; refine (O.out _).mono ?_; rintro e w1 ⟨rfl, hw1⟩)
 have HX := Lib.hid (show PlB tKy w1.heap.size x y (w1.alloc (.cells #[.int .i64 x, .int .i64 y] tKy (0, 0))) from blk_new w1 _)
 replace HK := Lib.hid ((HK.out.below hw1).below (trA (tr0 w1) (.cells #[.int .i64 x, .int .i64 y] tKy (0, 0))))
 replace HB := Lib.hid (trA (tr HB.out hw1) (.cells #[.int .i64 x, .int .i64 y] tKy (0, 0)))
 clear hw1 O
 generalize w1.alloc (.cells #[.int .i64 x, .int .i64 y] tKy (0, 0)) = W at *
 generalize w1.heap.size = p2 at *
 obtain ⟨c0, c1, c2, c3, c4⟩ := HX.out.cells
 obtain ⟨e0, e1, e2, e3, e4⟩ := HK.out.cells
 go_upto_region 4 with (first
  | (go_at_call 7; refine (S.out _).mono ?_; rintro e w2 ⟨rfl, hb⟩; replace HX := Lib.hid (HX.out.below hb); replace HK := Lib.hid (HK.out.below hb); replace HB := Lib.hid (tr HB.out hb); clear hb; obtain ⟨c0, c1, c2, c3, c4⟩ := HX.out.cells; obtain ⟨e0, e1, e2, e3, e4⟩ := HK.out.cells)
  | (go_at_call 8; refine (D.out _).mono ?_; rintro e w3 ⟨rfl, hb⟩; replace HX := Lib.hid (HX.out.below hb); replace HK := Lib.hid (HK.out.below hb); replace HB := Lib.hid (tr HB.out hb); clear hb; obtain ⟨c0, c1, c2, c3, c4⟩ := HX.out.cells; obtain ⟨e0, e1, e2, e3, e4⟩ := HK.out.cells))
 clear S D
 have hgc := gcell
 have hgf := gfrozen
 rcases RW.out with ⟨d1, d2⟩ | ⟨d1, d2, d3⟩ | ⟨d1, d2, d3, d4⟩ | ⟨d1, d2, d3, d4, d5⟩ | ⟨d1, d2, d3, d4, d5, d6⟩ | ⟨d1, d2, d3, d4, d5, d6, d7⟩ | ⟨d1, d2, d3, d4, d5, d6, d7⟩
 all_goals
  clear RW
  refine wp_region_quiet_below (by kernel_rfl) (by kernel_rfl) ?_
  repeat (first
   | go_big_quiet_skip
   | (go_big_quiet_want; first
       | (refine qeqK (.tmp 34) (.tmp 35) _ rfl rfl rfl (by assumption) ?_; go_simp; go_big_quiet_on)
       | (refine qeqK (.tmp 38) (.tmp 39) _ rfl rfl rfl (by assumption) ?_; go_simp; go_big_quiet_on)
       | (go_big_quiet_op; first | go_big_quiet_on | go_big_quiet_call (first | (go_at_call 9; exact Calls.regrown_of (L.out _)) | (go_at_call 10; exact Calls.regrown_of (F.out _)))))
   | (refine wpQuiet_nil ?_))
  intro _ hw'
  obtain ⟨⟨dq, osq⟩, hw''⟩ := hw'
  subst hw''
  replace HX := Lib.hid (HX.out.below (below_regrown w3 dq osq))
  replace HK := Lib.hid (HK.out.below (below_regrown w3 dq osq))
  replace HB := Lib.hid (tr HB.out (below_regrown w3 dq osq))
  obtain ⟨c0, c1, c2, c3, c4⟩ := HX.out.cells
  obtain ⟨e0, e1, e2, e3, e4⟩ := HK.out.cells
  dsimp only at HX HK HB c0 c1 c2 c3 c4 e0 e1 e2 e3 e4 ⊢
  generalize grow (redrawn w3 dq) osq = W4 at *
  go_upto_region 5 with (fail)
 all_goals
  clear L F
  cases hs
 all_goals
  refine wp_region_quiet_below (by kernel_rfl) (by kernel_rfl) ?_
  repeat (first
   | go_big_quiet_skip
   | (go_big_quiet_want; first
       | (refine qeqR (.tmp 64) (.tmp 67) _ rfl rfl rfl (decide_eq_true rfl) ?_; go_simp; go_big_quiet_on)
       | (go_big_quiet_op; first | go_big_quiet_on | go_big_quiet_call (first | (go_at_call 11; exact Calls.regrown_of (K.out _)) | (go_at_call 12; exact Calls.regrown_of (DO.out _)) | (go_at_call 14; exact Calls.regrown_of (T.out _)) | (go_at_call 13; exact Calls.regrown_of (R.out _ _ _ _ (by assumption) (by assumption))))))
   | (refine wpQuiet_nil ?_))
  intro _ hw'
  obtain ⟨⟨dq, osq⟩, hw''⟩ := hw'
  subst hw''
  go_wp2_with fail
  go_ret
  exact ⟨rfl, tr HB.out (below_regrown W4 dq osq)⟩
abbrev shKy : Sh := .pair (.int .i64) (.pair (.int .i64) .unit)
theorem fitsV_ky {w : World} {v : Value} (h : FitsV w shKy v) : ∃ k : Pk, kok k ∧ v = kyv k := by
 obtain ⟨l, rfl, _, _, rfl, ⟨a, rfl, ha⟩, _, _, rfl, ⟨b, rfl, hb⟩, rfl⟩ := h
 have a1 := bounds_i64 ha
 have b1 := bounds_i64 hb
 exact ⟨(a, b), ⟨⟨by show _ ≤ a; omega, by show a < _; omega⟩, ⟨by show _ ≤ b; omega, by show b < _; omega⟩⟩, rfl⟩
theorem wPlaceOfH (H : PlaceC) (v0 v1 v2 v3 : Value) (w : World) (h0 : FitsV w (.int .u64) v0) (h1 : FitsV w (.int .u64) v1) (h2 : FitsV w (.int .u64) v2) (h3 : FitsV w shKy v3) :
 Calls Try.prog 3 #[v0, v1, v2, v3] w fun e w' => e = .returned (.bool true) ∧ Below w.heap.size w w' := by
 obtain ⟨b, rfl, b0, b1⟩ := fits_u64 h0
 obtain ⟨d, rfl, d0, d1⟩ := fits_u64 h1
 obtain ⟨u, rfl, u0, u1⟩ := fits_u64 h2
 obtain ⟨k, hk, rfl⟩ := fitsV_ky h3
 exact placeOf H b d u k w ⟨b0, b1⟩ ⟨d0, d1⟩ ⟨u0, u1⟩ hk
theorem wPlaceSpansH (H : PlaceC) (v0 v1 : Value) (w : World) (h0 : FitsV w (.int .u64) v0) (h1 : FitsV w (.int .u64) v1) :
 Calls Try.prog 4 #[v0, v1] w fun e w' => e = .returned (.bool true) ∧ Below w.heap.size w w' := by
 obtain ⟨b, rfl, b0, b1⟩ := fits_u64 h0
 obtain ⟨d, rfl, d0, d1⟩ := fits_u64 h1
 exact placeSpans H b d w ⟨b0, b1⟩ ⟨d0, d1⟩
theorem wPlaceOrderH (H : PlaceC) (v0 v1 v2 : Value) (w : World) (h0 : FitsV w (.int .u64) v0) (h1 : FitsV w (.int .u64) v1) (h2 : FitsV w (.int .u64) v2) :
 Calls Try.prog 5 #[v0, v1, v2] w fun e w' => e = .returned (.bool true) ∧ Below w.heap.size w w' := by
 obtain ⟨b, rfl, b0, b1⟩ := fits_u64 h0
 obtain ⟨c, rfl, c0, c1⟩ := fits_u64 h1
 obtain ⟨d, rfl, d0, d1⟩ := fits_u64 h2
 exact placeOrder H b c d w ⟨b0, b1⟩ ⟨c0, c1⟩ ⟨d0, d1⟩
theorem wPlaceOf (v0 v1 v2 v3 : Value) (w : World) (h0 : FitsV w (.int .u64) v0) (h1 : FitsV w (.int .u64) v1) (h2 : FitsV w (.int .u64) v2) (h3 : FitsV w shKy v3) :
 Calls Try.prog 3 #[v0, v1, v2, v3] w fun e w' => e = .returned (.bool true) ∧ Below w.heap.size w w' := wPlaceOfH placeC v0 v1 v2 v3 w h0 h1 h2 h3
theorem wPlaceSpans (v0 v1 : Value) (w : World) (h0 : FitsV w (.int .u64) v0) (h1 : FitsV w (.int .u64) v1) :
 Calls Try.prog 4 #[v0, v1] w fun e w' => e = .returned (.bool true) ∧ Below w.heap.size w w' := wPlaceSpansH placeC v0 v1 w h0 h1
theorem wPlaceOrder (v0 v1 v2 : Value) (w : World) (h0 : FitsV w (.int .u64) v0) (h1 : FitsV w (.int .u64) v1) (h2 : FitsV w (.int .u64) v2) :
 Calls Try.prog 5 #[v0, v1, v2] w fun e w' => e = .returned (.bool true) ∧ Below w.heap.size w w' := wPlaceOrderH placeC v0 v1 v2 w h0 h1 h2
end Go.Proofs.Ytappnidimnhndaa.B
