/- Several texts in one: A board of one's own: what each call does to it. What a bank's Left returns: the least left, and whose it is. The laws of .. -/
import Derived.Test.YtcgmnjajodegmaaGreatZTag
import Derived.Test.YtcgmnjajodegmaaGreatZTam
import Derived.Test.YtcgmnjajodegmaaGreatZTao
import Derived.Test.YtcgmnjajodegmaaGreatZTar
import Derived.Test.YtcgmnjajodegmaaGreatZTav
import Derived.Test.YtcgmnjajodegmaaGreatZTbe
import Derived.Test.YtcgmnjajodegmaaGreatZTbo
import Derived.Test.YtcgmnjajodegmaaGreatZTO
import Derived.OpenShut
import Derived.Deep.Cut
import Derived.Deep.RegionWith
set_option linter.unusedVariables false
set_option linter.unusedSimpArgs false
set_option maxRecDepth 100000
namespace Go.Proofs.YtcgmnjajodegmaaGreat.B
open Go.ChangeShapes Go.WideShapes Go.RowKit Go.Sort
def Has (s : Nat) (w : World) (b n c : Nat) (d : Int) (x : Bx) : Prop := ∃ B : Bp, B.b = b /\ B.n = n /\ B.c = c /\ B.div = d /\ BdAt w B x /\ B.new s
section
variable {s : Nat} {w w' : World} {b n c : Nat} {d : Int} {x y : Bx}
theorem Has.below (H : Has s w b n c d x) (hb : Below w.heap.size w w') : Has s w' b n c d x := by
 obtain ⟨B, h1, h2, h3, h4, h5, h6⟩ := H
 exact ⟨B, h1, h2, h3, h4, h5.below hb, h6⟩
theorem Has.lt (H : Has s w b n c d x) : b < w.heap.size := by
 obtain ⟨B, rfl, h2, h3, h4, h5, h6⟩ := H
 exact h5.lt (.inl (.inl rfl))
theorem Has.ok (H : Has s w b n c d x) : x.ok n c := by
 obtain ⟨B, h1, rfl, rfl, h4, h5, h6⟩ := H
 exact h5.ok
theorem Has.still (H : Has s w b n c d x) : x.still := by
 obtain ⟨B, h1, rfl, rfl, h4, h5, h6⟩ := H
 exact h5.still
theorem Has.like (H : Has s w b n c d x) (l : Bx.like c x y) : Has s w b n c d y := by
 obtain ⟨B, h1, h2, rfl, h4, h5, h6⟩ := H
 exact ⟨B, h1, h2, rfl, h4, h5.like l, h6⟩
theorem left_new {B : Bp} {ev' : Value} {s : Nat} {w : World} (h : B.new s) (hs : s <= w.heap.size) (he : ∀ k, ev'.ownBlock = some k -> B.ev.ownBlock = some k \/ w.heap.size <= k) : ({ B with ev := ev' } : Bp).new s := by
 rintro k ((hk | hk | hk) | hk | hk)
 . exact h k (.inl (.inl hk))
 . exact h k (.inl (.inr (.inl hk)))
 . exact (he k hk).elim (fun e => h k (.inl (.inr (.inr e)))) fun e => Nat.le_trans hs e
 . exact h k (.inr (.inl hk))
 . exact h k (.inr (.inr hk))
theorem Left.has {B : Bp} (L : Left B y w w') (h : B.new s) (hs : s <= w.heap.size) : Has s w' B.b B.n B.c B.div y /\ Below s w w' := by
 obtain ⟨ev', H, ho, he⟩ := L
 exact ⟨⟨{ B with ev := ev' }, rfl, rfl, rfl, rfl, H, left_new h hs he⟩, ho.below (fun k hk ho => by have := h k (.inl ho); omega) hs⟩
theorem hStore (H : Has s w b n c d x) (hs : s <= w.heap.size) (a v : Int) (a0 : 0 <= a) (a1 : a < 4294967296) (v0 : 0 <= v) (v1 : v < 4294967296) (hl : x.es.length < 4294967296) :
 Calls Tryz.prog 28 #[.pointer (some ⟨b, 0, none⟩), .int .u32 a, .int .u32 v] w fun e w' => e = .returned (.int .i64 (Bx.ste n c a)) /\ Has s w' b n c d (x.sto n c a v) /\ Below s w w' := by
 obtain ⟨B, rfl, rfl, rfl, rfl, h5, h6⟩ := H
 exact (bdStore B x a v w h5 a0 a1 v0 v1 hl).mono fun e w' h => ⟨h.1, h.2.has h6 hs⟩
theorem hTick (H : Has s w b n c d x) (hs : s <= w.heap.size) (N : Int) (n0 : 0 <= N) (n1 : N < 18446744073709551616) (hl : x.es.length < 4294967296) :
 Calls Tryz.prog 17 #[.pointer (some ⟨b, 0, none⟩), .int .u64 N] w fun e w' => e = .returned (.tuple #[]) /\ Has s w' b n c d (x.tick N) /\ Below s w w' := by
 obtain ⟨B, rfl, rfl, rfl, rfl, h5, h6⟩ := H
 exact (bdTick B x N w h5 n0 n1 hl).mono fun e w' h => ⟨h.1, h.2.has h6 hs⟩
theorem hLoad (H : Has s w b n c d x) (a : Int) (a0 : 0 <= a) (a1 : a < 4294967296) :
 Calls Tryz.prog 31 #[.pointer (some ⟨b, 0, none⟩), .int .u32 a] w fun e w' => e = .returned (.tuple #[.int .u32 (x.ldv n c a), .int .i64 (Bx.lde n c a)]) /\ Below w.heap.size w w' := by
 obtain ⟨B, rfl, rfl, rfl, rfl, h5, h6⟩ := H
 exact bdLoad B x a w h5 a0 a1
theorem hTime (H : Has s w b n c d x) :
 Calls Tryz.prog 19 #[.pointer (some ⟨b, 0, none⟩)] w fun e w' => e = .returned (.int .u64 x.ti) /\ Below w.heap.size w w' := by
 obtain ⟨B, rfl, rfl, rfl, rfl, h5, h6⟩ := H
 exact bdTime B x w h5
theorem hResets (H : Has s w b n c d x) (hl : x.es.length < 4294967296) :
 Calls Tryz.prog 18 #[.pointer (some ⟨b, 0, none⟩)] w fun e w' => ∃ v', e = .returned v' /\ EvAt w' tEv v' x.es /\ Below w.heap.size w w' /\ (∀ k, v'.ownBlock = some k -> w.heap.size <= k) := by
 obtain ⟨B, rfl, rfl, rfl, rfl, h5, h6⟩ := H
 exact bdResets B x w h5 hl
end
theorem hNew (n c : Nat) (d : Int) (w : World) (n0 : 1 <= n) (n8 : n <= 8) (c0 : 1 <= c) (c8 : c <= 8) (d0 : 1 <= d) (d1 : d < 4294967296) :
 Calls Tryz.prog 8 #[.agg #[.int .i64 n, .int .i64 c, .int .u32 d]] w fun e w' => ∃ b, e = .returned (.tuple #[.pointer (some ⟨b, 0, none⟩), .int .i64 0]) /\ Has w.heap.size w' b n c d (bx0 d) /\ Below w.heap.size w w' := by
 refine (bdNew n c d w n0 n8 c0 c8 d0 d1).mono ?_
 rintro e w' ⟨B, rfl, h1, h2, h3, h7, h8, h9⟩
 exact ⟨B.b, rfl, ⟨B, rfl, h7, h8, h9, h1, h3⟩, h2⟩
structure Two (w : World) (B C : Bp) (x y : Bx) : Prop where
 one : BdAt w B x
 two : BdAt w C y
 ap : ∀ k, C.all k -> ¬ B.own k
theorem Two.below {w w' : World} {B C : Bp} {x y : Bx} (H : Two w B C x y) (hb : Below w.heap.size w w') : Two w' B C x y := ⟨H.one.below hb, H.two.below hb, H.ap⟩
theorem Two.left {w w' : World} {B C : Bp} {x y z : Bx} (H : Two w B C x y) (L : Left B z w w') : ∃ ev', Two w' { B with ev := ev' } C z y /\ ∀ k, ev'.ownBlock = some k -> B.ev.ownBlock = some k \/ w.heap.size <= k := by
 obtain ⟨ev', h, ho, he⟩ := L
 refine ⟨ev', ⟨h, H.two.off ho H.ap, fun k hk ho => ?_⟩, he⟩
 rcases ho with h1 | h1 | h1
 . exact H.ap k hk (.inl h1)
 . exact H.ap k hk (.inr (.inl h1))
 . exact (he k h1).elim (fun e => H.ap k hk (.inr (.inr e))) fun e => by have := H.two.lt hk; omega
theorem two_copy {w w' : World} {B C : Bp} {x : Bx} (H : BdAt w B x) (hb : Below w.heap.size w w') (h : BdAt w' C x) (hn : C.new w.heap.size) : Two w' B C x x :=
 ⟨H.below hb, h, fun k hk ho => by have := hn k hk; have := H.lt (.inl ho); omega⟩
section
variable {p g n : Nat} {q : Nat -> Nat} {t : Nat -> Tm} {w : World}
theorem bLeft (h : BkAt w p g n q t) (m i : Int) (hb : Best t 0 n m i) :
 Calls Tryz.prog 105 #[.pointer (some ⟨p, 0, none⟩)] w fun e w' => e = .returned (.tuple #[.int .u64 m, .int .i64 i]) /\ Below w.heap.size w w' := by
 have n8 := h.rm.n8
 have HBest := Hd hb
 clear hb
 go_enter Tryz.func105, Tryz.ntmps105
 go_wp2_with fail
 go_step3
 go_wp2_with fail
 go_step3
 go_wp2_with fail
 refine (bAll h).mono ?_
 rintro e w1 ⟨rfl, rfl⟩
 go_wp2_with fail
 go_loopw [4, 5, 12] (fun a b i wr => ∃ (k : Nat) (M I : Int), k <= n /\ i = .int .i64 k /\ a = .int .u64 M /\ b = .int .i64 I /\ 1 <= M /\ M <= 18446744073709551615 /\ Hid (Best t 0 k M I) /\ BkAt wr p g n q t /\ Below w.heap.size w wr) (fun a b i wr => n - (intOf i).toNat)
 case atStart => exact ⟨0, nvr, -1, by omega, rfl, rfl, rfl, by decide, by decide, Hd (best_nil t 0), h, tr0 w⟩
 case round =>
  clear h
  obtain ⟨k, M, I, hk, rfl, rfl, rfl, M0, M1, hX, H, hB⟩ := hrel
  by_cases hlt : k < n
  . have hc := H.get hlt
    have ht := H.rm.tms k hlt
    have ok := H.rm.ok k hlt
    have oks := Hd H.rm.ok
    have HH := Hd H
    have C := nLeftC (t k) (q k) wr ok ht
    have hlb := lef_bounds ok
    unfold nvr at hlb
    clear H
    by_cases hl : M <= (t k).lef
    . have HL := Hd hl
      generalize hV : (t k).lef = V at *
      have HV := Hd hV
      clear hV
      go_wp2_with fail
      refine C.mono ?_
      rintro e w2 ⟨rfl, hb⟩
      have H2 := HH.out.below hb
      have hB2 := tr hB hb
      clear HH hc ht hb C
      go_wp2_with fail
      go_roundw
      case rel => exact ⟨k + 1, M, I, by omega, by go_num, rfl, rfl, M0, M1, Hd (hX.out.skip ok (by rw [HV.out]; exact HL.out)), H2, hB2⟩
      case measure => simp [intOf]; omega
    . have HL := Hd (show (t k).lef < M by omega)
      have hl2 : (t k).lef < M := by omega
      clear hl
      have HX2 := Hd (hX.out.take (fun j hj => oks.out j (by omega)) ok hl2)
      generalize (t k).lef = V at *
      go_wp2_with fail
      refine C.mono ?_
      rintro e w2 ⟨rfl, hb⟩
      have H2 := HH.out.below hb
      have hB2 := tr hB hb
      clear HH hc ht hb C
      go_wp2_with fail
      go_roundw
      case rel => exact ⟨k + 1, V, k, by omega, by go_num, rfl, rfl, hlb.1, hlb.2, HX2, H2, hB2⟩
      case measure => simp [intOf]; omega
  . obtain rfl : k = n := by omega
    obtain ⟨e1, e2⟩ := HBest.out.same hX.out
    subst e1 e2
    go_wp2_with fail
    rw [Exit.noGoto_ret]
    go_ret2
    exact ⟨rfl, hB⟩
end
end Go.Proofs.YtcgmnjajodegmaaGreat.B
namespace Go.Proofs.YtcgmnjajodegmaaGreat.B
open Go.ChangeShapes Go.WideShapes Go.RowKit Go.Sort Go.MapKept
def k1 : Tm := ⟨3, 0, false, false, false, 0, 0, false⟩
def k2 : Tm := ⟨3, 3, true, true, false, 1, 0, false⟩
def k3 : Tm := ⟨3, 1, true, true, false, 1, 1, false⟩
set_option maxRecDepth 100000 in
set_option maxHeartbeats 3200000 in
theorem nAlike (t : Tm) (p : Nat) (w : World) (h : t.ok) (a : TAt w p tC t) :
 Calls Tryz.prog 107 #[.pointer (some ⟨p, 0, none⟩), .agg (rl t).toArray] w fun e w' => e = .returned (.bool true) /\ Below w.heap.size w w' := by
 have A := a.below (trA (tr0 w) (oM t))
 have M : MAt (w.alloc (oM t)) w.heap.size t := blk_new w (oM t)
 have hB := trA (tr0 w) (oM t)
 clear a
 go_enter Tryz.func107, Tryz.ntmps107
 go_upto_region 1 with (fail)
 rw [show Obj.cells (rl t).toArray 171 (0, 0) = oM t from rfl]
 generalize (w.alloc (oM t)) = W at *
 go_wp2_with fail
 go_loopw [5] (fun i wr => ∃ j : Int, 0 <= j /\ j <= 4 /\ i = .int .u32 (4 * j) /\ TAt wr p tC t /\ MAt wr w.heap.size t /\ Below w.heap.size w wr) (fun i wr => (20 - intOf i).toNat)
 case atStart => exact ⟨0, by omega, by omega, rfl, A, M, hB⟩
 case round =>
  clear A M hB
  obtain ⟨j, j0, j4, rfl, A, M, hB⟩ := hrel
  by_cases hlt : j < 4
  . have q : 4 * j < 16 := by omega
    obtain ⟨V, hV⟩ : ∃ V, t.val (4 * j) = V := ⟨_, rfl⟩
    obtain ⟨E, hE⟩ : ∃ E, nErr (4 * j) = E := ⟨_, rfl⟩
    have CL := Hd (fun w a => by have := nLoad t (4 * j) p w h a (by omega) (by omega); rw [hV, hE] at this; exact this)
    have RL := Hd (fun w => by have := mLoad t (4 * j) w h (by omega) (by omega); rw [hV, hE] at this; exact this)
    have zV : (V != V) = false := by simp
    have zE : (E != E) = false := by simp
    clear hV hE
    go_wp2_with fail
    refine (CL.out _ A).mono ?_
    rintro e w' ⟨rfl, rfl⟩
    go_wp2_with (refine loadM rfl (.tmp 3) rfl rfl M ?_)
    refine (RL.out _).mono ?_
    rintro e w1 ⟨rfl, hb⟩
    have A1 := A.below hb
    have M1 := M.below hb
    have B1 := tr hB hb
    clear A M hB hb CL RL
    go_wp2_with fail
    go_roundw
    case rel => exact ⟨j + 1, by omega, by omega, by go_num, A1, M1, B1⟩
    case measure => simp [intOf]; omega
  . obtain rfl : j = 4 := by omega
    obtain ⟨l, hl⟩ : ∃ l, (t.st && t.iq) = l := ⟨_, rfl⟩
    obtain ⟨V, hV⟩ : ∃ V, t.lef = V := ⟨_, rfl⟩
    have m2 := M.c2
    have m4 := M.c4
    have m7 := M.c7
    have RN := Hd (fun w a => nRuns t p w h a)
    have LN := Hd (fun w a => by have := nLine t p w h a; rw [hl] at this; exact this)
    have LF := Hd (fun w a => by have := nLeftC t p w h a; rw [hV] at this; exact this)
    have ML := Hd (fun w => by have := mLeft t w h; rw [hV] at this; exact this)
    have HA := Hd A
    have HM := Hd M
    have hg := gcell
    have hlt := M.lt
    clear A M hV
    obtain ⟨en, hen⟩ : ∃ b, t.en = b := ⟨_, rfl⟩
    obtain ⟨iq, hiq⟩ : ∃ b, t.iq = b := ⟨_, rfl⟩
    obtain ⟨st, hst⟩ : ∃ b, t.st = b := ⟨_, rfl⟩
    rw [hen] at m2 RN
    rw [hiq] at m4 hl
    rw [hst] at m7 hl
    clear hen hiq hst
    cases en <;> cases iq <;> cases st
    all_goals
     simp only [Bool.and_true, Bool.and_false, Bool.and_self] at hl
     subst hl
     go_wp2_with fail
     refine wp_region_quiet_below (by kernel_rfl) (by kernel_rfl) ?_
     repeat (first
      | go_big_quiet_skip
      | (go_big_quiet_want; first
          | (refine qloadM (.tmp 3) rfl rfl HM.out.grown ?_; go_simp; go_big_quiet_on)
          | (go_big_quiet_op; first
              | go_big_quiet_on
              | go_big_quiet_call (first
                 | (go_at_call 66; exact Calls.regrown_of (RN.out _ (HA.out.below (below_regrown wr _ _))))
                 | (go_at_call 71; exact Calls.regrown_of (LN.out _ (HA.out.below (below_regrown wr _ _))))
                 | (go_at_call 159; exact Calls.regrown_of (LF.out _ (HA.out.below (below_regrown wr _ _))))
                 | (go_at_call 158; exact Calls.regrown_of (ML.out _))))))
     refine wpQuiet_nil ?_
     intro _ hw'
     obtain ⟨⟨dq, osq⟩, hw''⟩ := hw'
     subst hw''
     go_wp2_with fail
     go_ret
     exact ⟨ret_bool (by simp), trG hB _ _⟩
end Go.Proofs.YtcgmnjajodegmaaGreat.B
namespace Go.Proofs.YtcgmnjajodegmaaGreat.B
open Go.ChangeShapes Go.WideShapes Go.RowKit Go.Sort
def fHi (t : Nat -> Tm) (i : Nat) : Bool := (t i).st && (t i).iq
def fRn (t : Nat -> Tm) (i : Nat) : Bool := (t i).en
theorem un_zero : un 0 = 1 := by decide
set_option maxHeartbeats 1600000 in
theorem gWords {w : World} {g n cap : Nat} {t : Nat -> Tm} (h : RwAt w g n cap t) (n8 : n <= 8) :
 Calls Tryz.prog 103 #[.slice (some ⟨g, 0, none⟩) n cap] w fun e w' => e = .returned (.tuple #[.int .u32 (ob (fHi t) n), .int .u32 (ob (fRn t) n)]) /\ w = w' := by
 have hcm := h.cm
 have hnc := h.nc
 have hgl := h.lt
 unfold maxLen at hcm
 have H := Hd h
 clear h
 go_enter Tryz.func103, Tryz.ntmps103
 go_wp2_with fail
 go_loopw [4, 5, 6, 7] (fun a b u i wr => ∃ (k : Nat) (X Y U : Int), k <= n /\ i = .int .i64 k /\ a = .int .u32 X /\ b = .int .u32 Y /\ u = .int .u32 U /\ 0 <= X /\ X < 4294967296 /\ 0 <= Y /\ Y < 4294967296 /\ 0 <= U /\ U < 4294967296 /\ Hid (X = ob (fHi t) k) /\ Hid (Y = ob (fRn t) k) /\ Hid (U = un k) /\ wr = w) (fun a b u i wr => n - (intOf i).toNat)
 case atStart => exact ⟨0, 0, 0, 1, by omega, rfl, rfl, rfl, rfl, by omega, by omega, by omega, by omega, by omega, by omega, Hd rfl, Hd rfl, Hd un_zero.symm, rfl⟩
 case round =>
  obtain ⟨k, X, Y, U, hk, rfl, rfl, rfl, rfl, X0, X1, Y0, Y1, U0, U1, hX, hY, hU, rfl⟩ := hrel
  by_cases hlt : k < n
  . have c2 := H.out.c hlt 2 _ rfl
    have c4 := H.out.c hlt 4 _ rfl
    have c7 := H.out.c hlt 7 _ rfl
    have bx := ob_un (fHi t) k (by omega)
    have bY := ob_un (fRn t) k (by omega)
    have yx := Hd (fun q => ob_yes (fHi t) k (by omega) q)
    have nx := Hd (fun q => ob_no (fHi t) k q)
    have yy := Hd (fun q => ob_yes (fRn t) k (by omega) q)
    have ny := Hd (fun q => ob_no (fRn t) k q)
    rw [<- hX.out, <- hU.out] at bx
    rw [<- hY.out, <- hU.out] at bY
    have bu := un_bounds (k + 1)
    have us := Hd (un_succ k)
    rw [un_succ k, <- hU.out] at bu
    have vx : fHi t k = ((t k).st && (t k).iq) := rfl
    have vy : fRn t k = (t k).en := rfl
    generalize (t k).st = s at *
    generalize (t k).iq = q at *
    generalize (t k).en = r at *
    cases r <;> cases s <;> cases q
    all_goals
     have VX := Hd vx
     have VY := Hd vy
     clear vx vy
     go_wp2_with fail
     go_roundw
     case rel =>
      first
      | exact ⟨k + 1, _, _, _, by omega, by go_num, rfl, rfl, rfl, by omega, by omega, by omega, by omega, bu.1, bu.2, Hd (by rw [nx.out VX.out]; exact hX.out), Hd (by rw [ny.out VY.out]; exact hY.out), Hd (by rw [us.out, hU.out]), (by trivial)⟩
      | exact ⟨k + 1, _, _, _, by omega, by go_num, rfl, rfl, rfl, by omega, by omega, by omega, by omega, bu.1, bu.2, Hd (by rw [yx.out VX.out, hX.out, hU.out]), Hd (by rw [ny.out VY.out]; exact hY.out), Hd (by rw [us.out, hU.out]), (by trivial)⟩
      | exact ⟨k + 1, _, _, _, by omega, by go_num, rfl, rfl, rfl, by omega, by omega, by omega, by omega, bu.1, bu.2, Hd (by rw [nx.out VX.out]; exact hX.out), Hd (by rw [yy.out VY.out, hY.out, hU.out]), Hd (by rw [us.out, hU.out]), (by trivial)⟩
      | exact ⟨k + 1, _, _, _, by omega, by go_num, rfl, rfl, rfl, by omega, by omega, by omega, by omega, bu.1, bu.2, Hd (by rw [yx.out VX.out, hX.out, hU.out]), Hd (by rw [yy.out VY.out, hY.out, hU.out]), Hd (by rw [us.out, hU.out]), (by trivial)⟩
     case measure => simp [intOf]; omega
  . obtain rfl : k = n := by omega
    have e1 := hX.out
    have e2 := hY.out
    subst e1 e2
    go_wp2_with fail
    go_ret2
    exact ⟨rfl, rfl⟩
set_option maxHeartbeats 1600000 in
theorem gLeft {w : World} {g n cap : Nat} {t : Nat -> Tm} (h : RwAt w g n cap t) (ok : ∀ i, i < n -> (t i).ok) (n8 : n <= 8) (m i : Int) (hb : Best t 0 n m i) :
 Calls Tryz.prog 104 #[.slice (some ⟨g, 0, none⟩) n cap] w fun e w' => e = .returned (.tuple #[.int .u64 m, .int .i64 i]) /\ Below w.heap.size w w' := by
 have hcm := h.cm
 have hnc := h.nc
 have hgl := h.lt
 unfold maxLen at hcm
 have OK := Hd ok
 have HBest := Hd hb
 clear ok hb
 go_enter Tryz.func104, Tryz.ntmps104
 go_wp2_with fail
 go_loopw [4, 5, 6] (fun a b i wr => ∃ (k : Nat) (M I : Int), k <= n /\ (k = 0 /\ i = .int .i64 (-1) \/ ∃ j : Nat, k = j + 1 /\ i = .int .i64 j) /\ a = .int .u64 M /\ b = .int .i64 I /\ 1 <= M /\ M <= 18446744073709551615 /\ Hid (Best t k n M I) /\ RwAt wr g n cap t /\ Below w.heap.size w wr) (fun a b i wr => (intOf i + 1).toNat)
 case atStart =>
  refine ⟨n, nvr, -1, by omega, ?_, rfl, rfl, by decide, by decide, Hd (best_nil t n), h, tr0 w⟩
  by_cases h0 : n = 0
  . exact .inl ⟨h0, int_of (by omega)⟩
  . exact .inr ⟨n - 1, by omega, int_of (by omega)⟩
 case round =>
  clear h
  obtain ⟨k, M, I, hk, hki, rfl, rfl, M0, M1, hX, H, hB⟩ := hrel
  rcases hki with ⟨rfl, rfl⟩ | ⟨j, rfl, rfl⟩
  . obtain ⟨e1, e2⟩ := HBest.out.same hX.out
    subst e1 e2
    go_wp2_with fail
    go_ret2
    exact ⟨rfl, hB⟩
  . have hj : j < n := by omega
    have c2 := H.c hj 2 _ rfl
    have hin := H.at hj
    have ok := OK.out j hj
    have hL := ok.left
    have fin : ∀ M' I' : Int, j <= n /\ (j = 0 /\ Value.int .i64 ((j : Int) - 1) = .int .i64 (-1) \/ ∃ i : Nat, j = i + 1 /\ Value.int .i64 ((j : Int) - 1) = .int .i64 i) := fun _ _ => by
     refine ⟨by omega, ?_⟩
     by_cases h0 : j = 0
     . exact .inl ⟨h0, int_of (by omega)⟩
     . exact .inr ⟨j - 1, by omega, int_of (by omega)⟩
    have FIN := Hd (fin 0 0)
    clear fin
    cases he : (t j).en
    . rw [he] at c2
      have HX := Hd (hX.out.keep ok (fun e => by rw [he] at e; cases e))
      have HH := Hd H
      clear H he hin
      go_wp2_with fail
      go_roundw
      case rel => exact ⟨j, M, I, FIN.out.1, FIN.out.2, rfl, rfl, M0, M1, HX, HH.out, hB⟩
      case measure => simp [intOf]
    . rw [he] at c2
      have hlf : (t j).lef = (t j).left := by unfold Tm.lef; rw [if_pos he]
      have C := fun w => mLeft (t j) w ok
      rw [hlf] at C
      by_cases hl : (t j).left <= M
      . have HX := Hd (hX.out.put hj he hl)
        generalize (t j).left = V at *
        have CL := Hd C
        have HH := Hd H
        clear H he C hlf
        go_wp2_with (refine loadRg (.tmp 22) rfl rfl rfl hin ?_)
        refine (CL.out _).mono ?_
        rintro e w1 ⟨rfl, hb⟩
        have hin1 := hin.below hb
        have H1 := HH.out.below hb
        have B1 := tr hB hb
        clear hin HH hB hb c2
        go_wp2_with (refine loadR rfl (.tmp 30) rfl rfl hin1 ?_)
        refine (CL.out _).mono ?_
        rintro e w2 ⟨rfl, hb⟩
        have H2 := H1.below hb
        have B2 := tr B1 hb
        clear hin1 H1 B1 hb
        go_wp2_with fail
        go_roundw
        case rel => exact ⟨j, V, j, FIN.out.1, FIN.out.2, rfl, rfl, hL.1, by omega, HX, H2, B2⟩
        case measure => simp [intOf]
      . have HX := Hd (hX.out.keep ok (fun _ => by omega))
        have hl2 : M < (t j).left := by omega
        generalize (t j).left = V at *
        have CL := Hd C
        have HH := Hd H
        clear H he C hlf
        go_wp2_with (refine loadRg (.tmp 22) rfl rfl rfl hin ?_)
        refine (CL.out _).mono ?_
        rintro e w1 ⟨rfl, hb⟩
        have H2 := HH.out.below hb
        have B2 := tr hB hb
        clear hin HH hB hb c2
        go_wp2_with fail
        go_roundw
        case rel => exact ⟨j, M, I, FIN.out.1, FIN.out.2, rfl, rfl, M0, M1, HX, H2, B2⟩
        case measure => simp [intOf]
end Go.Proofs.YtcgmnjajodegmaaGreat.B
namespace Go.Proofs.YtcgmnjajodegmaaGreat.B
open Go.ChangeShapes Go.WideShapes Go.RowKit Go.Sort Go.MapKept
set_option maxRecDepth 100000 in
set_option maxHeartbeats 3200000 in
theorem bAlike {w : World} {p g n gm cap : Nat} {q : Nat -> Nat} {t : Nat -> Tm} (h : BkAt w p g n q t) (r : RwAt w gm n cap t) :
 Calls Tryz.prog 49 #[.pointer (some ⟨p, 0, none⟩), .slice (some ⟨gm, 0, none⟩) n cap] w fun e w' => e = .returned (.bool true) /\ Below w.heap.size w w' := by
 have n8 := h.rm.n8
 have OK := Hd h.rm.ok
 have hcm := r.cm
 have hnc := r.nc
 unfold maxLen at hcm
 obtain ⟨m, i, hbest⟩ := best_some t n h.rm.ok
 have hm := hbest.bounds h.rm.ok
 have hi := hbest.place
 unfold nvr at hm
 have HBest := Hd hbest
 obtain ⟨X, hX⟩ : ∃ X, ob (fHi t) n = X := ⟨_, rfl⟩
 obtain ⟨Y, hY⟩ : ∃ Y, ob (fRn t) n = Y := ⟨_, rfl⟩
 have CW := Hd (fun (w : World) (r : RwAt w gm n cap t) => by have := gWords r n8; rw [hX, hY] at this; exact this)
 have CLi := Hd (fun (w : World) (h : BkAt w p g n q t) => by have := bLines h; rw [show ob (fun i => (t i).st && (t i).iq) n = X from hX] at this; exact this)
 have CR := Hd (fun (w : World) (h : BkAt w p g n q t) => by have := bRuns h; rw [show ob (fun i => (t i).en) n = Y from hY] at this; exact this)
 have z1 : (X != X) = false := by simp
 have z2 : (Y != Y) = false := by simp
 have z3 : (m != m) = false := by simp
 have z4 : (i != i) = false := by simp
 clear hbest hX hY
 have H := h
 have R := r
 clear h r
 go_enter Tryz.func49, Tryz.ntmps49
 go_wp2_with fail
 refine (bLen H).mono ?_
 rintro e w' ⟨rfl, rfl⟩
 go_wp2_with fail
 refine (CW.out _ R).mono ?_
 rintro e w' ⟨rfl, rfl⟩
 go_wp2_with fail
 refine (gLeft R OK.out n8 m i HBest.out).mono ?_
 rintro e w1 ⟨rfl, hb⟩
 have H1 := H.below hb
 have R1 := R.below hb
 have B1 := hb
 clear H R hb
 go_wp2_with fail
 refine (bLeft H1 m i HBest.out).mono ?_
 rintro e w2 ⟨rfl, hb⟩
 have H := H1.below hb
 have R := R1.below hb
 have hB := tr B1 hb
 clear H1 R1 B1 hb
 go_wp2_with fail
 refine (CLi.out _ H).mono ?_
 rintro e w3 ⟨rfl, hb⟩
 have H1 := H.below hb
 have R1 := R.below hb
 have B1 := tr hB hb
 clear H R hB hb
 go_wp2_with fail
 refine (CR.out _ H1).mono ?_
 rintro e w4 ⟨rfl, hb⟩
 have H := H1.below hb
 have R := R1.below hb
 have hB := tr B1 hb
 clear H1 R1 B1 hb
 go_wp2_with fail
 refine (bTimerNo H (-1) (.inl (by omega))).mono ?_
 rintro e w' ⟨rfl, rfl⟩
 go_wp2_with fail
 refine (bTimerNo H n (.inr (by omega))).mono ?_
 rintro e w' ⟨rfl, rfl⟩
 clear CW CLi CR z1 z2 z3 z4 HBest hm hi
 go_wp2_with fail
 go_loopw [11] (fun i wr => ∃ k : Nat, k <= n /\ i = .int .i64 k /\ BkAt wr p g n q t /\ RwAt wr gm n cap t /\ Below w.heap.size w wr) (fun i wr => n - (intOf i).toNat)
 case atStart => exact ⟨0, by omega, rfl, H, R, hB⟩
 case round =>
  clear H R hB
  obtain ⟨k, hk, rfl, H, R, hB⟩ := hrel
  by_cases hlt : k < n
  . have hin := R.at hlt
    have ok := OK.out k hlt
    have HH := Hd H
    have HR := Hd R
    have HBB := Hd hB
    have CT := Hd (fun (w : World) (h : BkAt w p g n q t) => bTimer h k hlt)
    clear H R hB
    go_wp2_with fail
    have hsz : gm < wr.heap.size := hin.lt
    have c0 := hin.cell 0 _ rfl
    have c1 := hin.cell 1 _ rfl
    have c2 := hin.cell 2 _ rfl
    have c3 := hin.cell 3 _ rfl
    have c4 := hin.cell 4 _ rfl
    have c5 := hin.cell 5 _ rfl
    have c6 := hin.cell 6 _ rfl
    have c7 := hin.cell 7 _ rfl
    simp only [Nat.add_zero] at c0
    have HIN := Hd hin
    clear hin
    go_region_with (first
     | (go_at_call 106
        refine (CT.out _ (HH.out.below (trD (tr0 _)))).mono ?_
        rintro e w5 ⟨rfl, hw5⟩
        have hb5 : Below wr.heap.size wr w5 := by rw [hw5]; exact trA (trD (tr0 _)) _
        have A5 : TAt w5 wr.drew.heap.size tC (t k) := by rw [hw5]; exact blk_new wr.drew _
        have hin5 := HIN.out.below hb5
        clear c0 c1 c2 c3 c4 c5 c6 c7 hw5
        have c0 := hin5.cell 0 _ rfl
        have c1 := hin5.cell 1 _ rfl
        have c2 := hin5.cell 2 _ rfl
        have c3 := hin5.cell 3 _ rfl
        have c4 := hin5.cell 4 _ rfl
        have c5 := hin5.cell 5 _ rfl
        have c6 := hin5.cell 6 _ rfl
        have c7 := hin5.cell 7 _ rfl
        simp only [Nat.add_zero] at c0
        clear hin5)
     | (go_at_call 107
        refine (nAlike (t k) _ _ ok A5).mono ?_
        rintro e w6 ⟨rfl, hb6⟩
        have hb6 := hb5.trans (hb6.mono hb5.size)
        clear c0 c1 c2 c3 c4 c5 c6 c7 A5))
    all_goals
     have H2 := HH.out.below hb6
     have R2 := HR.out.below hb6
     have B2 := HBB.out.trans (hb6.mono HBB.out.size)
     go_wp2_with fail
     go_roundw
     case rel => exact ⟨k + 1, by omega, by go_num, H2, R2, B2⟩
     case measure => simp [intOf]; omega
  . obtain rfl : k = n := by omega
    go_wp2_with fail
    go_ret
    exact ⟨rfl, hB⟩
def d1 : Wd := ⟨false, false, false, 3, 0, 0, 0⟩
def d2 : Wd := ⟨false, false, false, 3, 10, 0, 0⟩
def d3 : Wd := ⟨true, false, false, 3, 10, 0, 0⟩
def d4 : Wd := ⟨true, false, false, 3, 10, 2, 0⟩
def d5 : Wd := ⟨true, false, true, 3, 10, 2, 0⟩
set_option maxRecDepth 100000 in
set_option maxHeartbeats 3200000 in
theorem dAlike (t : Wd) (p : Nat) (w : World) (h : t.ok) (a : DAt w p t) :
 Calls Tryz.prog 50 #[.pointer (some ⟨p, 0, none⟩), .agg (vl t).toArray] w fun e w' => e = .returned (.bool true) /\ Below w.heap.size w w' := by
 have A := a.below (trA (tr0 w) (oV t))
 have M : VAt (w.alloc (oV t)) w.heap.size t := blk_new w (oV t)
 have hB := trA (tr0 w) (oV t)
 clear a
 go_enter Tryz.func50, Tryz.ntmps50
 go_upto_region 1 with (fail)
 rw [oV_eq]
 generalize (w.alloc (oV t)) = W at *
 go_wp2_with fail
 go_loopw [5] (fun i wr => ∃ j : Int, 0 <= j /\ j <= 5 /\ i = .int .u32 (4 * j) /\ DAt wr p t /\ VAt wr w.heap.size t /\ Below w.heap.size w wr) (fun i wr => (20 - intOf i).toNat)
 case atStart => exact ⟨0, by omega, by omega, rfl, A, M, hB⟩
 case round =>
  clear A M hB
  obtain ⟨j, j0, j4, rfl, A, M, hB⟩ := hrel
  by_cases hlt : j < 5
  . have q : 4 * j < 20 := by omega
    obtain ⟨V, hV⟩ : ∃ V, t.val (4 * j) = V := ⟨_, rfl⟩
    obtain ⟨E, hE⟩ : ∃ E, wErr (4 * j) = E := ⟨_, rfl⟩
    have CL := Hd (fun w a => by have := dLoad t (4 * j) p w h a (by omega) (by omega); rw [hV, hE] at this; exact this)
    have RL := Hd (fun w => by have := vLoad t (4 * j) w h (by omega) (by omega); rw [hV, hE] at this; exact this)
    have zV : (V != V) = false := by simp
    have zE : (E != E) = false := by simp
    clear hV hE
    go_wp2_with fail
    refine (CL.out _ A).mono ?_
    rintro e w1 ⟨rfl, hb⟩
    have A1 := A.below hb
    have M1 := M.below hb
    have B1 := tr hB hb
    clear A M hB hb CL
    go_wp2_with (refine loadV rfl (.tmp 3) rfl rfl M1 ?_)
    refine (RL.out _).mono ?_
    rintro e w2 ⟨rfl, hb⟩
    have A := A1.below hb
    have M := M1.below hb
    have B := tr B1 hb
    clear A1 M1 B1 hb RL
    go_wp2_with fail
    go_roundw
    case rel => exact ⟨j + 1, by omega, by omega, by go_num, A, M, B⟩
    case measure => simp [intOf]; omega
  . obtain rfl : j = 5 := by omega
    obtain ⟨V, hV⟩ : ∃ V, t.left = V := ⟨_, rfl⟩
    have m0 := M.c0
    have m1 := M.c1
    have m2 := M.c2
    have m5 := M.c5
    have m6 := M.c6
    have FA := Hd (fun w a => dFault t p w a)
    have EN := Hd (fun w a => dEnabled t p w a)
    have LK := Hd (fun w a => dLocked t p w a)
    have AR := Hd (fun w a => dArmed t p w a)
    have SI := Hd (fun w a => dSince t p w a)
    have LF := Hd (fun w a => by have := dLeft t p w h a; rw [hV] at this; exact this)
    have ML := Hd (fun w => by have := vLeft t w h; rw [hV] at this; exact this)
    have HA := Hd A
    have HM := Hd M
    have hg := gcell
    have hlt := M.lt
    have z0 := beq_self_eq_true t.fa
    have z1 := beq_self_eq_true t.si
    have z2 := beq_self_eq_true V
    have z3 : (t.en == t.en) = true := by simp
    have z4 : (t.lk == t.lk) = true := by simp
    have z5 : (t.ar == t.ar) = true := by simp
    clear A M hV h
    go_wp2_with fail
    refine wp_region_quiet_below (by kernel_rfl) (by kernel_rfl) ?_
    repeat (first
     | go_big_quiet_skip
     | (go_big_quiet_want; first
         | (refine qloadV (.tmp 3) rfl rfl HM.out.grown ?_; go_simp; go_big_quiet_on)
         | (go_big_quiet_op; first
             | go_big_quiet_on
             | go_big_quiet_call (first
                | (go_at_call 109; exact Calls.regrown_of ((FA.out _ (HA.out.below (below_regrown wr _ _))).mono fun e w' h => ⟨h.1, h.2 ▸ tr0 _⟩))
                | (go_at_call 33; exact Calls.regrown_of ((EN.out _ (HA.out.below (below_regrown wr _ _))).mono fun e w' h => ⟨h.1, h.2 ▸ tr0 _⟩))
                | (go_at_call 34; exact Calls.regrown_of ((LK.out _ (HA.out.below (below_regrown wr _ _))).mono fun e w' h => ⟨h.1, h.2 ▸ tr0 _⟩))
                | (go_at_call 110; exact Calls.regrown_of ((AR.out _ (HA.out.below (below_regrown wr _ _))).mono fun e w' h => ⟨h.1, h.2 ▸ tr0 _⟩))
                | (go_at_call 23; exact Calls.regrown_of ((SI.out _ (HA.out.below (below_regrown wr _ _))).mono fun e w' h => ⟨h.1, h.2 ▸ tr0 _⟩))
                | (go_at_call 111; exact Calls.regrown_of (LF.out _ (HA.out.below (below_regrown wr _ _))))
                | (go_at_call 112; exact Calls.regrown_of (ML.out _))))))
    refine wpQuiet_nil ?_
    intro _ hw'
    obtain ⟨⟨dq, osq⟩, hw''⟩ := hw'
    subst hw''
    go_wp2_with fail
    go_ret
    exact ⟨ret_bool (by simp), trG hB _ _⟩
def kt1 : Rk := ⟨10, 0, 0, 0, 2, 0, false, false⟩
end Go.Proofs.YtcgmnjajodegmaaGreat.B
