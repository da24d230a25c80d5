/- Package clint: find, value, Load. -/
import Derived.Test.YtfkkimbdjobpmaaClintL
namespace Go.Proofs.Ytfkkimbdjobpmaa.B
set_option linter.unusedVariables false
set_option linter.unusedSimpArgs false
open Go.ChangeShapes Go.WideShapes Go.RowKit Go.Sort Go.MapKept
theorem zeroRegister (w : World) : (zeroValue 64).run Try.prog w = .ok (.agg #[.int .i64 0, .int .i64 0]) w := by kernel_rfl
theorem cFindNil (o : Int) (w : World) :
    Calls Try.prog 29 #[.pointer none, .int .u32 o] w fun e w' => e = .returned (.tuple #[.agg #[.int .i64 0, .int .i64 0], .int .i64 10]) ∧ Below w.heap.size w w' := by
  go_enter Try.func29, Try.ntmps29
  go_wp2_with fail
  refine bodyPost_ret (v := .tuple #[.agg #[.int .i64 0, .int .i64 0], .int .i64 10]) ?_ rfl ?_
  · simp [results, Try.results29, go_sem]
  · exact ⟨rfl, trA (tr0 w) _⟩
theorem cFindBad (o : Int) (p : Nat) (w : World) (o0 : 0 ≤ o) (h : (o % 4 != 0) = true) :
    Calls Try.prog 29 #[.pointer (some ⟨p, 0, none⟩), .int .u32 o] w fun e w' => e = .returned (.tuple #[.agg #[.int .i64 0, .int .i64 0], .int .i64 11]) ∧ Below w.heap.size w w' := by
  go_enter Try.func29, Try.ntmps29
  go_wp2_with fail
  refine bodyPost_ret (v := .tuple #[.agg #[.int .i64 0, .int .i64 0], .int .i64 11]) ?_ rfl ?_
  · simp [results, Try.results29, go_sem]
  · exact ⟨rfl, trA (tr0 w) _⟩
theorem cFindNone (o t : Int) (n : Nat) (D S : Nat → Int) (p m : Nat) (w : World) (hc : CAt w p m t n D S) (o0 : 0 ≤ o) (o1 : o < 4294967296) (h : (o % 4 != 0) = false) (hno : ∀ q ∈ lay n, q.1 ≠ o) :
    Calls Try.prog 29 #[.pointer (some ⟨p, 0, none⟩), .int .u32 o] w fun e w' => e = .returned (.tuple #[.agg #[.int .i64 0, .int .i64 0], .int .i64 10]) ∧ Below w.heap.size w w' := by
  have c := hc.cM
  have hM := hc.map.kept (blk_old w (.cells #[.int .i64 0, .int .i64 0] 64) hc.ltm)
  have hl := hc.ltp
  clear hc
  go_enter Try.func29, Try.ntmps29
  go_wp2_with (at_lookup; refine wpList_miss_ok cplaceKey rfl _ _ _ rfl Try.underlying56 rfl hM o _ rfl hno ⟨o0, o1⟩ (zeroRegister _) ?_)
  refine bodyPost_ret (v := .tuple #[.agg #[.int .i64 0, .int .i64 0], .int .i64 10]) ?_ rfl ?_
  · simp [results, Try.results29, go_sem]
  · exact ⟨rfl, trA (trA (tr0 w) _) _⟩
theorem cFind (o t k h : Int) (n : Nat) (D S : Nat → Int) (p m : Nat) (w : World) (hc : CAt w p m t n D S) (o0 : 0 ≤ o) (o4 : (o % 4 != 0) = false) (hin : (o, regV k h) ∈ lay n) :
    Calls Try.prog 29 #[.pointer (some ⟨p, 0, none⟩), .int .u32 o] w fun e w' => e = .returned (.tuple #[.agg #[.int .i64 k, .int .i64 h], .int .i64 0]) ∧ Below w.heap.size w w' := by
  have c := hc.cM
  have hM := hc.map.kept (blk_old w (.cells #[.int .i64 0, .int .i64 0] 64) hc.ltm)
  have hl := hc.ltp
  clear hc
  unfold regV at hin
  go_enter Try.func29, Try.ntmps29
  go_wp2_with (at_lookup; refine wpList_hit_ok cplaceKey rfl _ _ _ rfl Try.underlying56 rfl hM o _ rfl hin ?_)
  refine bodyPost_ret (v := .tuple #[.agg #[.int .i64 k, .int .i64 h], .int .i64 0]) ?_ rfl ?_
  · simp [results, Try.results29, go_sem]
  · exact ⟨rfl, trA (trA (tr0 w) _) _⟩
/-- value, of each kind. -/
def kVal (t : Int) (D S : Nat → Int) (k h : Nat) : Int := match k with
  | 0 => S h
  | 1 => lo (D h)
  | 2 => hi (D h)
  | 3 => lo t
  | _ => hi t
set_option maxHeartbeats 800000 in
theorem cValue (t : Int) (k h n : Nat) (D S : Nat → Int) (p m : Nat) (w : World) (hc : CAt w p m t n D S) (hk : k < 5) (hh : h < 8) :
    Calls Try.prog 30 #[.pointer (some ⟨p, 0, none⟩), .agg #[.int .i64 k, .int .i64 h]] w fun e w' => e = .returned (.int .u32 (kVal t D S k h)) ∧ Below w.heap.size w w' := by
  have hg := gcell
  have hl1 : w.heap.size < w.heap.size + 1 := by omega
  have hl2 : p < w.heap.size + 1 := by have := hc.ltp; omega
  have c0 := hc.c0
  have cD := hc.cD h hh
  have cS := hc.cS h hh
  have hl := hc.ltp
  have t0 := hc.t0
  have t1 := hc.t1
  obtain ⟨d0, d1⟩ := hc.d h
  clear hc
  obtain rfl | rfl | rfl | rfl | rfl : k = 0 ∨ k = 1 ∨ k = 2 ∨ k = 3 ∨ k = 4 := by omega
  · rw [show kVal t D S 0 h = S h from rfl]
    go_enter Try.func30, Try.ntmps30
    go_wp2_with fail
    go_quiet (fail)
    go_wp2_with fail
    go_ret
    exact ⟨rfl, trN (trA (tr0 w) _) _⟩
  · rw [show kVal t D S 1 h = lo (D h) from rfl]
    go_enter Try.func30, Try.ntmps30
    go_wp2_with fail
    refine wp_region_quiet_below (by kernel_rfl) (by kernel_rfl) ?_
    repeat (go_big_quiet_step (first | (go_at_call 34; exact Calls.regrown_of ((Lo _ _ d0 d1).mono fun _ _ h => ⟨h.1, h.2 ▸ tr0 _⟩))))
    refine wpQuiet_nil ?_
    intro _ hw'
    obtain ⟨⟨dq, osq⟩, hw''⟩ := hw'
    subst hw''
    go_wp2_with fail
    go_ret
    exact ⟨rfl, trG (trA (tr0 w) _) _ _⟩
  · rw [show kVal t D S 2 h = hi (D h) from rfl]
    go_enter Try.func30, Try.ntmps30
    go_wp2_with fail
    refine wp_region_quiet_below (by kernel_rfl) (by kernel_rfl) ?_
    repeat (go_big_quiet_step (first | (go_at_call 33; exact Calls.regrown_of ((Hi _ _ d0 d1).mono fun _ _ h => ⟨h.1, h.2 ▸ tr0 _⟩))))
    refine wpQuiet_nil ?_
    intro _ hw'
    obtain ⟨⟨dq, osq⟩, hw''⟩ := hw'
    subst hw''
    go_wp2_with fail
    go_ret
    exact ⟨rfl, trG (trA (tr0 w) _) _ _⟩
  · rw [show kVal t D S 3 h = lo t from rfl]
    go_enter Try.func30, Try.ntmps30
    go_wp2_with (go_at_call 34; refine (Lo _ _ t0 t1).mono ?_; rintro e w' ⟨rfl, rfl⟩)
    go_ret
    exact ⟨rfl, trA (tr0 w) _⟩
  · rw [show kVal t D S 4 h = hi t from rfl]
    go_enter Try.func30, Try.ntmps30
    go_wp2_with (go_at_call 33; refine (Hi _ _ t0 t1).mono ?_; rintro e w' ⟨rfl, rfl⟩)
    go_ret
    exact ⟨rfl, trA (tr0 w) _⟩
theorem cLoadNil (o : Int) (w : World) :
    Calls Try.prog 12 #[.pointer none, .int .u32 o] w fun e w' => e = .returned (.tuple #[.int .u32 0, .int .i64 10]) ∧ Below w.heap.size w w' := by
  go_enter Try.func12, Try.ntmps12
  go_wp2_with fail
  refine (cFindNil _ _).mono ?_
  rintro e w1 ⟨rfl, hb⟩
  go_wp2_with fail
  go_ret2
  exact ⟨rfl, trA hb _⟩
theorem cLoadAt (o t : Int) (k h n : Nat) (D S : Nat → Int) (p m : Nat) (w : World) (hc : CAt w p m t n D S) (hk : k < 5) (hh : h < 8) (o0 : 0 ≤ o) (o4 : (o % 4 != 0) = false) (hin : (o, regV k h) ∈ lay n) :
    Calls Try.prog 12 #[.pointer (some ⟨p, 0, none⟩), .int .u32 o] w fun e w' => e = .returned (.tuple #[.int .u32 (kVal t D S k h), .int .i64 0]) ∧ Below w.heap.size w w' := by
  go_enter Try.func12, Try.ntmps12
  go_wp2_with fail
  refine (cFind o t k h n D S p m _ hc o0 o4 hin).mono ?_
  rintro e w1 ⟨rfl, hb⟩
  have H := Lib.hid (hc.below (trA hb (.cells #[.int .i64 k, .int .i64 h] 64)))
  go_wp2_with fail
  refine (cValue t k h n D S p m _ H.out hk hh).mono ?_
  rintro e w2 ⟨rfl, hb2⟩
  go_wp2_with fail
  go_ret2
  exact ⟨rfl, tr (trA hb _) hb2⟩
theorem lay_soft {n h : Nat} (hn : h < n) : (4 * (h : Int), regV (0 : Nat) h) ∈ lay n := (lay_mem n _).2 (.inr (.inr ⟨h, hn, .inr (.inr rfl)⟩))
theorem lay_low {n h : Nat} (hn : h < n) : (16384 + 8 * (h : Int), regV (1 : Nat) h) ∈ lay n := (lay_mem n _).2 (.inr (.inr ⟨h, hn, .inr (.inl rfl)⟩))
theorem lay_high {n h : Nat} (hn : h < n) : (16384 + 8 * (h : Int) + 4, regV (2 : Nat) h) ∈ lay n := (lay_mem n _).2 (.inr (.inr ⟨h, hn, .inl rfl⟩))
theorem lay_lo (n : Nat) : (49144, regV (3 : Nat) (0 : Nat)) ∈ lay n := (lay_mem n _).2 (.inr (.inl rfl))
theorem lay_hi (n : Nat) : (49148, regV (4 : Nat) (0 : Nat)) ∈ lay n := (lay_mem n _).2 (.inl rfl)
theorem cLoad (o t : Int) (n : Nat) (D S : Nat → Int) (p m : Nat) (w : World) (hc : CAt w p m t n D S) (o0 : 0 ≤ o) (o1 : o < 4294967296) :
    Calls Try.prog 12 #[.pointer (some ⟨p, 0, none⟩), .int .u32 o] w fun e w' => e = .returned (.tuple #[.int .u32 (cVal t n D S o), .int .i64 (cErr n o)]) ∧ Below w.heap.size w w' := by
  have n8 := hc.n1
  rcases at_all n o with h | h | h | ⟨h, hn, e⟩ | ⟨h, hn, e⟩ | ⟨h, hn, e⟩ | ⟨h4, h1, h2, h⟩
  · rw [odd_err h, err_val (by rw [odd_err h]; omega)]
    have h' : (o % 4 != 0) = true := by simpa using h
    go_enter Try.func12, Try.ntmps12
    go_wp2_with fail
    refine (cFindBad _ _ _ o0 h').mono ?_
    rintro e w1 ⟨rfl, hb⟩
    go_wp2_with fail
    go_ret2
    exact ⟨rfl, trA hb _⟩
  · subst h; rw [lo_val, lo_err]; exact cLoadAt _ t 3 0 n D S p m w hc (by omega) (by omega) o0 (by decide) (lay_lo n)
  · subst h; rw [hi_val, hi_err]; exact cLoadAt _ t 4 0 n D S p m w hc (by omega) (by omega) o0 (by decide) (lay_hi n)
  · subst e; rw [soft_val hn n8, soft_err hn]; exact cLoadAt _ t 0 h n D S p m w hc (by omega) (by omega) o0 (ne4 (by omega)) (lay_soft hn)
  · subst e; rw [low_val hn n8, low_err hn]; exact cLoadAt _ t 1 h n D S p m w hc (by omega) (by omega) o0 (ne4 (by omega)) (lay_low hn)
  · subst e; rw [high_val hn n8, high_err hn]; exact cLoadAt _ t 2 h n D S p m w hc (by omega) (by omega) o0 (ne4 (by omega)) (lay_high hn)
  · have he := none_err o0 h4 h1 h2 h
    rw [he, err_val (by rw [he]; omega)]
    have h' : (o % 4 != 0) = false := by simpa using h4
    have hno := lay_none n o h1 h2 h
    have HN := Lib.hid hno
    clear h4 hno h he
    go_enter Try.func12, Try.ntmps12
    go_wp2_with fail
    refine (cFindNone _ _ _ _ _ _ _ _ hc o0 o1 h' HN.out).mono ?_
    rintro e w1 ⟨rfl, hb⟩
    go_wp2_with fail
    go_ret2
    exact ⟨rfl, trA hb _⟩
end Go.Proofs.Ytfkkimbdjobpmaa.B
