/- A part of the proof of a law of layer 12: bl. -/
import Derived.Test.YtpojmmgokgamgaaGreatZYbk
set_option linter.unusedVariables false
set_option linter.unusedSimpArgs false
set_option maxHeartbeats 12800000
set_option maxRecDepth 100000
namespace Go.Proofs.YtpojmmgokgamgaaGreat.B
open Go.Proofs.Tryz
open Go.ChangeShapes Go.WideShapes Go.RowKit Go.Sort
def bsN (k : Nat) : Int := if k = 0 then 33554432 else if k = 1 then 268500992 else if k = 2 then 268566528 else if k = 3 then 268632064 else if k = 4 then 268697600 else 268763136
def zsN (k : Nat) : Int := if k = 0 then 49152 else if k = 1 then 256 else if k = 2 then 20 else if k = 3 then 16 else if k = 4 then 36 else 12
def fI (a : Int) : Int × Int × Bool := match wh a with
 | .odd => (0, 0, false) | .no => (0, 0, false) | .cl o => (0, o, true) | .bk o => (1, o, true) | .dg o => (2, o, true) | .rs o => (3, o, true) | .rk o => (4, o, true) | .ln o => (5, o, true)
theorem six {k : Nat} (h : k < 6) : k = 0 \/ k = 1 \/ k = 2 \/ k = 3 \/ k = 4 \/ k = 5 := by omega
theorem aD8 (k : Nat) : 0 <= bsN k /\ bsN k + zsN k < 4294967296 /\ 0 < zsN k /\ bsN k < 4294967296 /\ zsN k < 4294967296 := by
 unfold bsN zsN
 repeat' split
 all_goals omega
theorem aLF (a : Int) (h4 : a % 4 = 0) (k : Nat) (hk : k < 6) (h0 : bsN k <= a) (h1 : a - bsN k < zsN k) : fI a = ((k : Int), a - bsN k, true) := by
 unfold fI
 rcases six hk with rfl | rfl | rfl | rfl | rfl | rfl <;> simp only [bsN, zsN] at * <;> rcases nV a with ⟨g, e⟩ | ⟨g4, g0, g1, e⟩ | ⟨g4, g0, g1, e⟩ | ⟨g4, g0, g1, e⟩ | ⟨g4, g0, g1, e⟩ | ⟨g4, g0, g1, e⟩ | ⟨g4, g0, g1, e⟩ | ⟨g4, g, e⟩ <;> first | (rw [e]; rfl) | (exfalso; simp at h0 h1; omega)
theorem aNA (a : Int) (h4 : a % 4 = 0) (h : ∀ k, k < 6 -> ¬ (bsN k <= a /\ a - bsN k < zsN k)) : fI a = (0, 0, false) := by
 have h0 := h 0 (by decide)
 have h1 := h 1 (by decide)
 have h2 := h 2 (by decide)
 have h3 := h 3 (by decide)
 have h5 := h 4 (by decide)
 have h6 := h 5 (by decide)
 simp [bsN, zsN] at h0 h1 h2 h3 h5 h6
 unfold fI
 rcases nV a with ⟨g, e⟩ | ⟨g4, g0, g1, e⟩ | ⟨g4, g0, g1, e⟩ | ⟨g4, g0, g1, e⟩ | ⟨g4, g0, g1, e⟩ | ⟨g4, g0, g1, e⟩ | ⟨g4, g0, g1, e⟩ | ⟨g4, g, e⟩ <;> first | (rw [e]; done) | (exfalso; omega)
theorem aGJ (k : Nat) (hk : k < 6) : (#[.int .u32 33554432, .int .u32 268500992, .int .u32 268566528, .int .u32 268632064, .int .u32 268697600, .int .u32 268763136] : Array Value)[k]? = some (.int .u32 (bsN k)) := by
 rcases six hk with rfl | rfl | rfl | rfl | rfl | rfl <;> rfl
theorem aL9 (k : Nat) (hk : k < 6) : (#[.int .u32 49152, .int .u32 256, .int .u32 20, .int .u32 16, .int .u32 36, .int .u32 12] : Array Value)[k]? = some (.int .u32 (zsN k)) := by
 rcases six hk with rfl | rfl | rfl | rfl | rfl | rfl <;> rfl
def oBs : Obj := .cells #[.int .u32 33554432, .int .u32 268500992, .int .u32 268566528, .int .u32 268632064, .int .u32 268697600, .int .u32 268763136] 22 (0, 0)
def oZs : Obj := .cells #[.int .u32 49152, .int .u32 256, .int .u32 20, .int .u32 16, .int .u32 36, .int .u32 12] 22 (0, 0)
theorem aL5 : Obj.cells #[.int .u32 33554432, .int .u32 268500992, .int .u32 268566528, .int .u32 268632064, .int .u32 268697600, .int .u32 268763136] 22 (0, 0) = oBs := rfl
theorem aLy : Obj.cells #[.int .u32 49152, .int .u32 256, .int .u32 20, .int .u32 16, .int .u32 36, .int .u32 12] 22 (0, 0) = oZs := rfl
theorem eJ {p : Nat} {a b c : World} (e : a.heap.size = p) (h : Below p a b) (k : Below b.heap.size b c) : Below p a c := by subst e; exact tr h k
theorem iQ (a : Int) (w : World) (a0 : 0 <= a) (a1 : a < 4294967296) (h4 : a % 4 = 0) :
 Calls prog 98 #[.int .u32 a] w fun e w' => e = .returned (.tuple #[.int .i64 (fI a).1, .int .u32 (fI a).2.1, .bool (fI a).2.2]) /\ Below w.heap.size w w' := by
 have H4 := Hd h4
 clear h4
 go_enter func98, ntmps98
 go_upto_region 3 with (fail)
 rw [aL5, aLy]
 have hb := aE (aE (aI w) oBs) oZs
 have hX := bG w oBs oZs
 have hY := bL w oBs oZs
 generalize (w.alloc oBs).alloc oZs = W at *
 have HB := Hd hb
 have HX := Hd hX
 have HY := Hd hY
 generalize w.heap.size + 1 = q at *
 generalize hpn : w.heap.size = p at *
 have HPN := Hd hpn
 clear hb hX hY hpn
 go_upto_region 4 with (fail)
 go_loopw [7] (fun i wr => ∃ k : Nat, k <= 6 /\ i = .int .i64 k /\ wr.heap[p]? = some oBs /\ wr.heap[q]? = some oZs /\ Below p w wr /\ Hid (∀ j, j < k -> ¬ (bsN j <= a /\ a - bsN j < zsN j))) (fun i _ => 6 - (intOf i).toNat)
 case atStart => exact ⟨0, by omega, rfl, HX.out, HY.out, HB.out, Hd (fun j hj => absurd hj (Nat.not_lt_zero j))⟩
 case round =>
  obtain ⟨k, hk, rfl, hX, hY, hB, hN⟩ := hrel
  by_cases hlt : k < 6
  . have c0 : wr.cell? ⟨p, k, none⟩ = some (.int .u32 (bsN k)) := by rw [aA hX k]; exact aGJ k hlt
    have c1 : wr.cell? ⟨q, k, none⟩ = some (.int .u32 (zsN k)) := by rw [aA hY k]; exact aL9 k hlt
    have lX := lt_of_block hX
    have lY := lt_of_block hY
    have HX := Hd hX
    have HY := Hd hY
    have HB := Hd hB
    obtain ⟨b0, b1, b2, b3, b4⟩ := aD8 k
    have HIT := Hd (aLF a H4.out k hlt)
    generalize hbs : bsN k = bs at *
    generalize hzs : zsN k = zs at *
    have HBS := Hd hbs
    have HZS := Hd hzs
    clear hX hY hB hbs hzs
    by_cases h0 : bs <= a
    . have d0 : decide (bs <= a) = true := decide_eq_true h0
      have e0 : IntKind.u32.wrap (a - bs) = a - bs := by rw [IntKind.wrap_u32]; omega
      by_cases h1 : a - bs < zs
      . have d1 : decide (a - bs < zs) = true := decide_eq_true h1
        have HF := Hd (HIT.out h0 h1)
        clear hN
        go_upto_region 6 with (fail)
        go_quiet (fail)
        have bq := tQ (aI wr) nq
        have HX := Hd (aC bq HX.out lX)
        have HB := Hd (eJ HPN.out HB.out bq)
        generalize wr.drewN nq = w5 at *
        have c0 : w5.cell? ⟨p, k, none⟩ = some (.int .u32 bs) := by rw [<- HBS.out, aA HX.out k]; exact aGJ k hlt
        have lX := lt_of_block HX.out
        clear bq c1 lY
        go_wp2_with fail
        go_quiet (fail)
        have bq2 := tQ (aI w5) nq
        go_wp2_with fail
        go_ret3
        exact ⟨by rw [HF.out]; rfl, by rw [HPN.out]; exact eJ HPN.out HB.out bq2⟩
      . have d1 : decide (a - bs < zs) = false := decide_eq_false h1
        have HN := Hd hN
        clear hN
        go_upto_region 6 with (fail)
        go_quiet (fail)
        have bq := tQ (aI wr) nq
        have HX := Hd (aC bq HX.out lX)
        have HY := Hd (aC bq HY.out lY)
        have HB := Hd (eJ HPN.out HB.out bq)
        generalize wr.drewN nq = w5 at *
        clear bq c0 c1 lX lY
        go_wp2_with fail
        go_roundw
        case rel => exact ⟨k + 1, by omega, by go_num, HX.out, HY.out, HB.out, Hd (fun j hj => by
         by_cases e : j = k
         . subst e
           rw [HBS.out, HZS.out]
           exact fun g => h1 g.2
         . exact HN.out.out j (by omega))⟩
        case measure => simp [intOf]; omega
    . have d0 : decide (bs <= a) = false := decide_eq_false h0
      have HN := Hd hN
      clear hN
      go_upto_region 6 with (fail)
      go_quiet (fail)
      have bq := tQ (aI wr) nq
      have HX := Hd (aC bq HX.out lX)
      have HY := Hd (aC bq HY.out lY)
      have HB := Hd (eJ HPN.out HB.out bq)
      generalize wr.drewN nq = w5 at *
      clear bq c0 c1 lX lY
      go_wp2_with fail
      go_roundw
      case rel => exact ⟨k + 1, by omega, by go_num, HX.out, HY.out, HB.out, Hd (fun j hj => by
       by_cases e : j = k
       . subst e
         rw [HBS.out]
         exact fun g => h0 g.1
       . exact HN.out.out j (by omega))⟩
      case measure => simp [intOf]; omega
  . have HE := Hd (aNA a H4.out (fun j hj => hN.out j (by omega)))
    have HB := Hd hB
    clear hX hY hB hN
    go_wp2_with fail
    go_ret3
    exact ⟨by rw [HE.out]; rfl, by rw [HPN.out]; exact HB.out⟩
theorem aOm (a : Int) (w : World) (h0 : 0 <= a) (h1 : a < 18446744073709551616) :
 Calls prog 173 #[.int .u64 a] w fun e w' => e = .returned (.int .u32 (lo a)) /\ w = w' := by
 exact xM
theorem wV {P : Prop} (h : P := by
 clear he
 go_enter func101, ntmps101
 go_upto_region 1 with (fail)
 rw [dW]
 generalize w.alloc (oV t) = W at *
 go_wp2_with fail
 go_ret2
 exact ⟨rfl, hB⟩
 ) : P := h
theorem mA (t : Wd) (o : Int) (w : World) (h : t.ok) (o0 : 0 <= o) (o1 : o < 4294967296) :
 Calls prog 101 #[.agg (vl t).toArray, .int .u32 o] w fun e w' => e = .returned (.tuple #[.int .u32 (t.val o), .int .i64 (eG o)]) /\ Below w.heap.size w w' := by
 have hB := aE (aI w) (oV t)
 have X : bW (w.alloc (oV t)) w.heap.size t := aD w (oV t)
 have x0 := X.c0
 have x1 := X.c1
 have x3 := X.c3
 have x4 := X.c4
 have x5 := X.c5
 have s0 := h.s0
 have s1 : t.si < 4294967296 := by have := h.s1; have := h.t1; omega
 have hL := Hd (fun w => by have := aOm t.si w s0 (by omega); rw [aAs s0 s1] at this; exact this)
 clear h
 by_cases he : eG o = 0
 . rcases nD o0 he with rfl | rfl | rfl | rfl | rfl
   . have hv : t.val 0 = tk t.en + 2 * tk t.lk := rfl
     rw [hv]
     obtain ⟨en, hen⟩ : ∃ b, t.en = b := ⟨_, rfl⟩
     obtain ⟨lk, hlk⟩ : ∃ b, t.lk = b := ⟨_, rfl⟩
     rw [hen, hlk]
     rw [hen] at x0
     rw [hlk] at x1
     clear hv hen hlk
     cases en <;> cases lk
     all_goals
      go_enter func101, ntmps101
      go_upto_region 1 with (fail)
      rw [dW]
      generalize w.alloc (oV t) = W at *
      go_wp2_with fail
      go_ret2
      exact ⟨rfl, hB⟩
   all_goals
    go_enter func101, ntmps101
    go_upto_region 1 with (fail)
    rw [dW]
    generalize w.alloc (oV t) = W at *
    go_wp2_with (first | (go_at_call 173; refine (hL.out _).mono ?_; rintro e w' ⟨rfl, rfl⟩))
    go_ret2
    exact ⟨rfl, hB⟩
 . rw [Wd.val_none o0 he]
   cases h4 : (o % 4 != 0)
   . by_cases h8 : 20 <= o
     . rw [aAX h4 h8]
       have q0 : (o == 0) = false := by simp; omega
       have q4 : (o == 4) = false := by simp; omega
       have q8 : (o == 8) = false := by simp; omega
       have q12 : (o == 12) = false := by simp; omega
       have q16 : (o == 16) = false := by simp; omega
       exact wV
     . exact absurd (aCu h4 (by omega)) he
   . rw [aAn h4]
     exact wV
end Go.Proofs.YtpojmmgokgamgaaGreat.B
