/- The law RstcPlays: whatever a controller is asked. (This text is written by tools/gen_l09p.py.) -/
import Derived.Test.YtahhgeimbdlhpaaL09
import Derived.Deep.Cut
namespace Go.Proofs.Ytahhgeimbdlhpaa.B
set_option linter.unusedVariables false
set_option linter.unusedSimpArgs false
open Go.ChangeShapes Go.WideShapes Go.RowKit Go.Sort Go.MapKept
abbrev tA9 : TypeId := 31
/-- The code's controller, the document's, the act's block. -/
structure Q9 (w wr : World) (p mb : Nat) (t s : Rs) (xb : Nat) (K c o v : Int) : Prop where
  a : SAt wr p tS t
  m : UAt wr mb (bit s.ca) s.la s.ct s.qs
  x : wr.heap[xb]? = some (.cells #[.int .i64 K, .int .i64 c, .int .u32 o, .int .u32 v] tA9 (0, 0))
  b : Below w.heap.size w wr
  hp : w.heap.size ≤ p
  hm : w.heap.size ≤ mb
section
variable {w wr wr' : World} {p mb xb : Nat} {t s : Rs} {K c o v : Int}
theorem Q9.pm (h : Q9 w wr p mb t s xb K c o v) : p ≠ mb := apart_types h.a h.m rfl
theorem Q9.xp (h : Q9 w wr p mb t s xb K c o v) : xb ≠ p := apart_types h.x h.a rfl
theorem Q9.xm (h : Q9 w wr p mb t s xb K c o v) : xb ≠ mb := apart_types h.x h.m rfl
theorem Q9.below (h : Q9 w wr p mb t s xb K c o v) (hb : Below wr.heap.size wr wr') : Q9 w wr' p mb t s xb K c o v :=
  ⟨h.a.below hb, h.m.below hb, blk_below hb h.x (lt_of_block h.x), tr h.b hb, h.hp, h.hm⟩
theorem Q9.offp (h : Q9 w wr p mb t s xb K c o v) {t' : Rs} (ho : Off (· = p) wr wr') (a : SAt wr' p tS t') : Q9 w wr' p mb t' s xb K c o v :=
  ⟨a, h.m.off ho (fun e => h.pm e.symm), ho.at h.x h.xp, off_below h.b ho h.hp (Nat.le_refl _), h.hp, h.hm⟩
/-- Another controller goes on. -/
theorem Q9.turn (h : Q9 w wr p mb t s xb K c o v) {q : Nat} {t' : Rs} (a : SAt wr q tS t') (hq : w.heap.size ≤ q) : Q9 w wr q mb t' s xb K c o v :=
  ⟨a, h.m, h.x, h.b, hq, h.hm⟩
/-- The document's answer laid into a new block, and from there into its own. -/
def put9 (wr : World) (mb : Nat) (s : Rs) : World := ((wr.alloc zU).setRow wr.heap.size (sl (bit s.ca) s.la s.ct s.qs).toArray).setRow mb (sl (bit s.ca) s.la s.ct s.qs).toArray
theorem Q9.put (h : Q9 w wr p mb t s xb K c o v) (s' : Rs) : Q9 w (put9 wr mb s') p mb t s' xb K c o v := by
  have hp := h.a.lt
  have hm := h.m.lt
  have hx := lt_of_block h.x
  have hs := h.b.size
  refine ⟨?_, ?_, ?_, ?_, h.hp, h.hm⟩
  · exact ((h.a.alloc zU).elseRow _ _ (by omega)).elseRow _ _ h.pm
  · exact UAt.row (((h.m.alloc zU).elseRow _ _ (by omega))) _ _ _ _
  · exact row_else _ _ (row_else _ _ ((blk_old wr zU hx).trans h.x) (by omega)) h.xm
  · exact below_setRow (below_setRow (trA h.b zU) _ hs) _ h.hm
theorem put9_mid (wr : World) (s : Rs) : UAt ((wr.alloc zU).setRow wr.heap.size (sl (bit s.ca) s.la s.ct s.qs).toArray) wr.heap.size (bit s.ca) s.la s.ct s.qs := UAt.row (u_new wr _ _ _ _) _ _ _ _
theorem put9_own (h : Q9 w wr p mb t s xb K c o v) (s' : Rs) : UAt ((wr.alloc zU).setRow wr.heap.size (sl (bit s'.ca) s'.la s'.ct s'.qs).toArray) mb (bit s.ca) s.la s.ct s.qs := by
  have hm := h.m.lt
  exact (h.m.alloc zU).elseRow _ _ (by omega)
end
set_option maxRecDepth 100000 in
set_option maxHeartbeats 6400000 in
theorem rstcPlays (w : World) (y : Option Addr) (len cap : Nat) (hy : len = 0 ∨ ∃ b off, y = some ⟨b, off, none⟩ ∧ len ≤ cap ∧ cap ≤ maxLen ∧ b < w.heap.size ∧ ∀ i, i < cap → ∃ K c o v : Int, w.cell? ⟨b, off + i * 4, none⟩ = some (.int .i64 K) ∧ w.cell? ⟨b, off + i * 4 + 1, none⟩ = some (.int .i64 c) ∧ w.cell? ⟨b, off + i * 4 + 2, none⟩ = some (.int .u32 o) ∧ w.cell? ⟨b, off + i * 4 + 3, none⟩ = some (.int .u32 v) ∧
      (-9223372036854775808 ≤ K ∧ K < 9223372036854775808) ∧ (-9223372036854775808 ≤ c ∧ c < 9223372036854775808) ∧ (0 ≤ o ∧ o < 4294967296) ∧ (0 ≤ v ∧ v < 4294967296)) :
    Calls Try.prog 3 #[.slice y len cap] w fun e w' => e = .returned (.bool true) ∧ Below w.heap.size w w' := by
  have HY := Lib.hid hy
  clear hy
  go_enter Try.func3, Try.ntmps3
  go_wp2_with fail
  refine (rsNew w).mono ?_
  rintro e w1 ⟨rfl, A1, B1⟩
  go_wp2_with fail
  refine (uNew _).mono ?_
  rintro e w2 ⟨rfl, hb⟩
  have A2 := A1.below hb
  have B2 := tr B1 hb
  clear A1 B1 hb
  have A3 := (A2.alloc zU).elseRow w2.heap.size (sl (bit rsN.ca) rsN.la rsN.ct rsN.qs).toArray (by have := A2.lt; omega)
  have M3 : UAt ((w2.alloc zU).setRow w2.heap.size (sl (bit rsN.ca) rsN.la rsN.ct rsN.qs).toArray) w2.heap.size (bit rsN.ca) rsN.la rsN.ct rsN.qs := put9_mid w2 rsN
  have B3 := below_setRow (trA B2 zU) (sl (bit rsN.ca) rsN.la rsN.ct rsN.qs).toArray (g := w2.heap.size) B2.size
  have hmb := B2.size
  clear A2 B2
  have T3 := rsN_ok
  unfold ul
  generalize rsN = t0 at *
  go_upto_region 2 with (refine storeUr rfl (.tmp 4) (.tmp 17) rfl rfl (f := bit t0.ca) (la := t0.la) (ct := t0.ct) (qs := t0.qs) rfl (blk_new _ _) rfl ?_)
  rw [zU_eq]
  generalize (w2.alloc zU).setRow w2.heap.size (sl (bit t0.ca) t0.la t0.ct t0.qs).toArray = W at *
  generalize w2.heap.size = mb at *
  go_wp2_with fail
  go_loopw [3, 5] (fun l i wr => ∃ (k p : Nat) (t : Rs), k ≤ len ∧ k ≤ 60 ∧ i = .int .i64 k ∧ l = .pointer (some ⟨p, 0, none⟩) ∧ t.ok ∧ SAt wr p tS t ∧ UAt wr mb (bit t.ca) t.la t.ct t.qs ∧ Below w.heap.size w wr ∧ w.heap.size ≤ p) (fun l i wr => len - (intOf i).toNat)
  case atStart => exact ⟨0, w.heap.size, t0, by omega, by omega, rfl, rfl, T3, A3, M3, B3, Nat.le_refl _⟩
  case round =>
    clear A3 M3 B3 T3
    obtain ⟨k, p, t, hk, hkl, rfl, rfl, ht, A, M, hB, hp⟩ := hrel
    by_cases hlt : k < len ∧ k < 60
    · obtain ⟨hlt, hlm⟩ := hlt
      rcases HY.out with hy | ⟨b, off, rfl, hlc, hcm, hbl, hz⟩
      · omega
      unfold maxLen at hcm
      obtain ⟨K, c, o, v, c0, c1, c2, c3, ⟨k0, k1⟩, ⟨n0, n1⟩, ⟨o0, o1⟩, ⟨v0, v1⟩⟩ := hz k (by omega)
      rw [← hB.cell (p := ⟨b, _, none⟩) (by simpa using hbl)] at c0 c1 c2 c3
      clear hz
      have hbw : b < wr.heap.size := by have := hB.size; omega
      have Q0 : Q9 w (wr.alloc (.cells #[.int .i64 K, .int .i64 c, .int .u32 o, .int .u32 v] tA9 (0, 0))) p mb t t wr.heap.size K c o v :=
        ⟨A.alloc _, M.alloc _, blk_new wr _, trA hB _, hp, hmb⟩
      have HQ := Lib.hid Q0
      clear Q0 A M hB
      go_upto_region 6 with (fail)
      have Q := HQ.out
      clear HQ c0 c1 c2 c3 hbw
      generalize wr.alloc (.cells #[.int .i64 K, .int .i64 c, .int .u32 o, .int .u32 v] tA9 (0, 0)) = W1 at *
      generalize wr.heap.size = xb at *
      have x0 := blk_cell Q.x 0
      have x1 := blk_cell Q.x 1
      have x2 := blk_cell Q.x 2
      have x3 := blk_cell Q.x 3
      simp only [List.getElem?_toArray, List.getElem?_cons_zero, List.getElem?_cons_succ] at x0 x1 x2 x3
      have hK : K = 0 ∨ K = 1 ∨ K = 2 ∨ K = 3 ∨ ((K == 0) = false ∧ (K == 1) = false ∧ (K == 2) = false ∧ (K == 3) = false) := by simp; omega
      rcases hK with rfl | rfl | rfl | rfl | ⟨q0, q1, q2, q3⟩
      · obtain ⟨s, hs⟩ : ∃ s, t.ltc c = s := ⟨_, rfl⟩
        obtain ⟨E, hE⟩ : ∃ E, decide (isC c) = E := ⟨_, rfl⟩
        have T1 := Rs.ltc_ok ht c
        have HD := Lib.hid (fun w => uLatch t c w ht)
        have HC := Lib.hid (fun w a => rsLatch t c p w ht a)
        unfold UPost at HD
        rw [hs, hE] at HD HC
        rw [hs] at T1
        clear hs hE
        have hzz : (E != E) = false := by cases E <;> rfl
        go_wp2_with (refine loadU rfl (.tmp 4) rfl rfl Q.m ?_)
        refine (HD.out _).mono ?_
        rintro e W2 ⟨rfl, hz⟩
        have Q2 := Q.below hz
        have Q3 := Q2.put s
        have O2 := put9_own Q2 s
        clear Q hz x0 x1 x2 x3 HD
        have HQ3 := Lib.hid Q3
        have HO2 := Lib.hid O2
        clear Q3 O2 Q2
        unfold ul
        go_upto_region 10 with (first | (refine storeUr rfl (.tmp 7) (.tmp 41) rfl rfl (f := bit s.ca) (la := s.la) (ct := s.ct) (qs := s.qs) rfl (blk_new _ _) rfl ?_) | (refine loadU rfl (.tmp 7) rfl rfl (put9_mid W2 s) ?_) | (refine storeU rfl (.tmp 4) (.tmp 43) rfl rfl (f := bit s.ca) (la := s.la) (ct := s.ct) (qs := s.qs) rfl HO2.out ?_))
        rw [zU_eq]
        have Q3 := HQ3.out
        clear HQ3 HO2
        unfold put9 at Q3
        generalize ((W2.alloc zU).setRow W2.heap.size (sl (bit s.ca) s.la s.ct s.qs).toArray).setRow mb (sl (bit s.ca) s.la s.ct s.qs).toArray = W3 at *
        have x1 := blk_cell Q3.x 1
        simp only [List.getElem?_toArray, List.getElem?_cons_zero, List.getElem?_cons_succ] at x1
        go_wp2_with fail
        refine (HC.out _ Q3.a).mono ?_
        rintro e W4 ⟨rfl, a4, ho⟩
        have Q4 := Q3.offp ho a4
        clear Q3 a4 ho x1 HC
        go_wp2_with (refine loadUg (.tmp 4) rfl rfl rfl Q4.m ?_)
        refine (rsAlike s p _ T1 Q4.a).mono ?_
        rintro e Wz ⟨rfl, hz⟩
        have QZ := Lib.hid (Q4.below hz)
        clear Q4 hz
        go_wp2_with fail
        go_roundw
        case rel => exact ⟨k + 1, p, s, by omega, by omega, by go_num, rfl, T1, QZ.out.a, QZ.out.m, QZ.out.b, QZ.out.hp⟩
        case measure => simp [intOf]; omega
      · obtain ⟨E, hE⟩ : ∃ E, sErr9 o = E := ⟨_, rfl⟩
        obtain ⟨V, hV⟩ : ∃ V, sVal9 t o = V := ⟨_, rfl⟩
        have HD := Lib.hid (fun w => uLoad t o w ht o0 o1)
        have HC := Lib.hid (fun w a => rsLoad t o p w ht a o0 o1)
        rw [hE, hV] at HD HC
        clear hE hV
        have hz1 : (E != E) = false := by simp
        have hz2 : (V != V) = false := by simp
        go_wp2_with (refine loadU rfl (.tmp 4) rfl rfl Q.m ?_)
        refine (HD.out _).mono ?_
        rintro e W2 ⟨rfl, hz⟩
        have Q2 := Q.below hz
        clear Q hz x0 x1 x2 x3 HD
        have x2 := blk_cell Q2.x 2
        simp only [List.getElem?_toArray, List.getElem?_cons_zero, List.getElem?_cons_succ] at x2
        go_wp2_with fail
        refine (HC.out _ Q2.a).mono ?_
        rintro e W3 ⟨rfl, hz⟩
        have Q3 := Q2.below hz
        clear Q2 hz x2 HC
        go_wp2_with (refine loadUg (.tmp 4) rfl rfl rfl Q3.m ?_)
        refine (rsAlike t p _ ht Q3.a).mono ?_
        rintro e Wz ⟨rfl, hz⟩
        have QZ := Lib.hid (Q3.below hz)
        clear Q3 hz
        go_wp2_with fail
        go_roundw
        case rel => exact ⟨k + 1, p, t, by omega, by omega, by go_num, rfl, ht, QZ.out.a, QZ.out.m, QZ.out.b, QZ.out.hp⟩
        case measure => simp [intOf]; omega
      · obtain ⟨s, hs⟩ : ∃ s, t.sto o v = s := ⟨_, rfl⟩
        obtain ⟨E, hE⟩ : ∃ E, wErr9 o = E := ⟨_, rfl⟩
        have T1 := Rs.sto_ok (o := o) ht v0 v1
        have HD := Lib.hid (fun w => uStore t o v w ht o0 o1 v0 v1)
        have HC := Lib.hid (fun w a => rsStore t o v p w ht a o0 o1 v0 v1)
        unfold UPost at HD
        rw [hs, hE] at HD HC
        rw [hs] at T1
        clear hs hE
        have hzz : (E != E) = false := by simp
        go_wp2_with (refine loadU rfl (.tmp 4) rfl rfl Q.m ?_)
        refine (HD.out _).mono ?_
        rintro e W2 ⟨rfl, hz⟩
        have Q2 := Q.below hz
        have Q3 := Q2.put s
        have O2 := put9_own Q2 s
        clear Q hz x0 x1 x2 x3 HD
        have HQ3 := Lib.hid Q3
        have HO2 := Lib.hid O2
        clear Q3 O2 Q2
        unfold ul
        go_upto_region 20 with (first | (refine storeUr rfl (.tmp 13) (.tmp 83) rfl rfl (f := bit s.ca) (la := s.la) (ct := s.ct) (qs := s.qs) rfl (blk_new _ _) rfl ?_) | (refine loadU rfl (.tmp 13) rfl rfl (put9_mid W2 s) ?_) | (refine storeU rfl (.tmp 4) (.tmp 85) rfl rfl (f := bit s.ca) (la := s.la) (ct := s.ct) (qs := s.qs) rfl HO2.out ?_))
        rw [zU_eq]
        have Q3 := HQ3.out
        clear HQ3 HO2
        unfold put9 at Q3
        generalize ((W2.alloc zU).setRow W2.heap.size (sl (bit s.ca) s.la s.ct s.qs).toArray).setRow mb (sl (bit s.ca) s.la s.ct s.qs).toArray = W3 at *
        have x2 := blk_cell Q3.x 2
        have x3 := blk_cell Q3.x 3
        simp only [List.getElem?_toArray, List.getElem?_cons_zero, List.getElem?_cons_succ] at x2 x3
        go_wp2_with fail
        refine (HC.out _ Q3.a).mono ?_
        rintro e W4 ⟨rfl, a4, ho⟩
        have Q4 := Q3.offp ho a4
        clear Q3 a4 ho x2 x3 HC
        go_wp2_with (refine loadUg (.tmp 4) rfl rfl rfl Q4.m ?_)
        refine (rsAlike s p _ T1 Q4.a).mono ?_
        rintro e Wz ⟨rfl, hz⟩
        have QZ := Lib.hid (Q4.below hz)
        clear Q4 hz
        go_wp2_with fail
        go_roundw
        case rel => exact ⟨k + 1, p, s, by omega, by omega, by go_num, rfl, T1, QZ.out.a, QZ.out.m, QZ.out.b, QZ.out.hp⟩
        case measure => simp [intOf]; omega
      · go_wp2_with fail
        refine (rsCopy t p _ Q.a).mono ?_
        rintro e W2 ⟨rfl, C2, hz⟩
        have hq : w.heap.size ≤ W1.heap.size := Q.b.size
        have hqp : p < W1.heap.size := Q.a.lt
        have Q2 := Q.below hz
        clear Q hz x0 x1 x2 x3
        generalize W1.heap.size = q at *
        go_wp2_with (refine loadUg (.tmp 4) rfl rfl rfl Q2.m ?_)
        refine (rsAlike t q _ ht C2).mono ?_
        rintro e W3 ⟨rfl, hz⟩
        have C3 := C2.below hz
        have Q3 := Q2.below hz
        clear C2 Q2 hz
        go_wp2_with fail
        refine (rsLatch t 16 p _ ht Q3.a).mono ?_
        rintro e W4 ⟨rfl, a4, ho⟩
        have T4 := Rs.ltc_ok ht 16
        have C4 := C3.off ho (show ¬ q = p by omega)
        have Q4 := Q3.offp ho a4
        clear C3 Q3 a4 ho
        generalize t.ltc 16 = t4 at *
        go_wp2_with fail
        refine (rsStore t4 0 4294967295 p _ T4 Q4.a (by omega) (by omega) (by omega) (by omega)).mono ?_
        rintro e W5 ⟨rfl, a5, ho⟩
        have C5 := C4.off ho (show ¬ q = p by omega)
        have Q5 := (Q4.offp ho a5).turn C5 hq
        clear C4 Q4 a5 ho C5
        go_wp2_with (refine loadUg (.tmp 4) rfl rfl rfl Q5.m ?_)
        refine (rsAlike t q _ ht Q5.a).mono ?_
        rintro e Wz ⟨rfl, hz⟩
        have QZ := Lib.hid (Q5.below hz)
        clear Q5 hz
        go_wp2_with fail
        go_roundw
        case rel => exact ⟨k + 1, q, t, by omega, by omega, by go_num, rfl, ht, QZ.out.a, QZ.out.m, QZ.out.b, QZ.out.hp⟩
        case measure => simp [intOf]; omega
      · clear x1 x2 x3
        go_wp2_with (refine loadUg (.tmp 4) rfl rfl rfl Q.m ?_)
        refine (rsAlike t p _ ht Q.a).mono ?_
        rintro e Wz ⟨rfl, hz⟩
        have QZ := Lib.hid (Q.below hz)
        clear Q hz
        go_wp2_with fail
        go_roundw
        case rel => exact ⟨k + 1, p, t, by omega, by omega, by go_num, rfl, ht, QZ.out.a, QZ.out.m, QZ.out.b, QZ.out.hp⟩
        case measure => simp [intOf]; omega
    · clear A M
      by_cases hlt2 : k < len
      all_goals
        go_wp2_with fail
        refine (rsKnown _).mono ?_
        rintro e w1 ⟨rfl, hb1⟩
        go_wp2_with fail
        go_ret
        exact ⟨rfl, tr hB hb1⟩
end Go.Proofs.Ytahhgeimbdlhpaa.B
