/- Several texts in one: Are a clock and the document's the same? They are. Layer 11's Alike: a board and the document's say the same. -/
import Derived.Test.YtcgmnjajodegmaaGreatZTbg
import Derived.Test.YtcgmnjajodegmaaGreatZTbl
import Derived.Test.YtcgmnjajodegmaaGreatZTbp
import Derived.Deep.RegionHeld
import Derived.Laws.StructEq
set_option linter.unusedVariables false
set_option linter.unusedSimpArgs false
set_option maxRecDepth 100000
namespace Go.Proofs.YtcgmnjajodegmaaGreat.B
open Go.ChangeShapes Go.WideShapes Go.RowKit Go.Sort Go.MapKept
set_option maxRecDepth 100000 in
set_option maxHeartbeats 3200000 in
theorem eAlike (t : Rk) (p : Nat) (w : World) (h : t.ok) (a : EAt w p tRtc t) :
 Calls Tryz.prog 51 #[.pointer (some ⟨p, 0, none⟩), .agg (kl t).toArray] w fun e w' => e = .returned (.bool true) /\ Below w.heap.size w w' := by
 have A := a.below (trA (tr0 w) (oK t))
 have M : KAt (w.alloc (oK t)) w.heap.size t := blk_new w (oK t)
 have hB := trA (tr0 w) (oK t)
 clear a
 go_enter Tryz.func51, Tryz.ntmps51
 go_upto_region 1 with (fail)
 rw [oK_eq]
 generalize (w.alloc (oK t)) = W at *
 go_wp2_with fail
 go_loopw [5] (fun i wr => ∃ j : Int, 0 <= j /\ j <= 9 /\ i = .int .u32 (4 * j) /\ EAt wr p tRtc t /\ KAt wr w.heap.size t /\ Below w.heap.size w wr) (fun i wr => (36 - intOf i).toNat)
 case atStart => exact ⟨0, by omega, by omega, rfl, A, M, hB⟩
 case round =>
  clear A M hB
  obtain ⟨j, j0, j4, rfl, A, M, hB⟩ := hrel
  by_cases hlt : j < 9
  . have q : 4 * j < 36 := by omega
    obtain ⟨V, hV⟩ : ∃ V, t.valE (4 * j) = V := ⟨_, rfl⟩
    obtain ⟨E, hE⟩ : ∃ E, sErrT (4 * j) = E := ⟨_, rfl⟩
    have CL := Hd (fun w a => by have := eLoad t (4 * j) p w h a (by omega) (by omega); rw [hV, hE] at this; exact this)
    have RL := Hd (fun w => by have := kLoad t (4 * j) w h (by omega) (by omega); rw [hV, hE] at this; exact this)
    have zV : (V != V) = false := by simp
    have zE : (E != E) = false := by simp
    clear hV hE
    go_wp2_with fail
    refine (CL.out _ A).mono ?_
    rintro e w1 ⟨rfl, hb⟩
    have A1 := A.below hb
    have M1 := M.below hb
    have B1 := tr hB hb
    clear A M hB hb CL
    go_wp2_with (refine loadK rfl (.tmp 3) rfl rfl M1 ?_)
    refine (RL.out _).mono ?_
    rintro e w2 ⟨rfl, hb⟩
    have A := A1.below hb
    have M := M1.below hb
    have B := tr B1 hb
    clear A1 M1 B1 hb RL
    go_wp2_with fail
    go_roundw
    case rel => exact ⟨j + 1, by omega, by omega, by go_num, A, M, B⟩
    case measure => simp [intOf]; omega
  . obtain rfl : j = 9 := by omega
    have m1 := M.c1
    have m3 := M.c3
    have m7 := M.c7
    have SE := Hd (fun w a => eSeconds t p w a)
    have RE := Hd (fun w a => eRest t p w a)
    have LI := Hd (fun w a => eLine t p w a)
    obtain ⟨X, hX⟩ : ∃ X, t.alarm = X := ⟨_, rfl⟩
    obtain ⟨Y, hY⟩ : ∃ Y, t.met = Y := ⟨_, rfl⟩
    obtain ⟨Z, hZ⟩ : ∃ Z, t.left = Z := ⟨_, rfl⟩
    have AL := Hd (fun w a => by have := eAlarm t p w a; rw [hX] at this; exact this)
    have KA := Hd (fun w => by have := kAlarm t w h; rw [hX] at this; exact this)
    have ME := Hd (fun w a => by have := eMetC t p w h a; rw [hY] at this; exact this)
    have KM := Hd (fun w => by have := kMet t w h; rw [hY] at this; exact this)
    have LF := Hd (fun w a => by have := eLeft t p w h a; rw [hZ] at this; exact this)
    have KL := Hd (fun w => by have := kLeft t w h; rw [hZ] at this; exact this)
    have HA := Hd A
    have HM := Hd M
    have hg := gcell
    have hlt := M.lt
    have z0 := beq_self_eq_true t.sec
    have z1 := beq_self_eq_true t.rest
    have z2 := beq_self_eq_true X
    have z3 : (Y == Y) = true := by simp
    have z4 : (t.st == t.st) = true := by simp
    have z5 := beq_self_eq_true Z
    clear A M hX hY hZ h
    go_wp2_with fail
    refine wp_region_quiet_below (by kernel_rfl) (by kernel_rfl) ?_
    repeat (first
     | go_big_quiet_skip
     | (go_big_quiet_want; first
         | (refine qloadK (.tmp 3) rfl rfl HM.out.grown ?_; go_simp; go_big_quiet_on)
         | (go_big_quiet_op; first
             | go_big_quiet_on
             | go_big_quiet_call (first
                | (go_at_call 25; exact Calls.regrown_of (SE.out _ (HA.out.below (below_regrown wr _ _))))
                | (go_at_call 114; exact Calls.regrown_of (RE.out _ (HA.out.below (below_regrown wr _ _))))
                | (go_at_call 115; exact Calls.regrown_of (AL.out _ (HA.out.below (below_regrown wr _ _))))
                | (go_at_call 117; exact Calls.regrown_of (ME.out _ (HA.out.below (below_regrown wr _ _))))
                | (go_at_call 35; exact Calls.regrown_of (LI.out _ (HA.out.below (below_regrown wr _ _))))
                | (go_at_call 119; exact Calls.regrown_of (LF.out _ (HA.out.below (below_regrown wr _ _))))
                | (go_at_call 116; exact Calls.regrown_of (KA.out _))
                | (go_at_call 118; exact Calls.regrown_of (KM.out _))
                | (go_at_call 120; exact Calls.regrown_of (KL.out _))))))
    refine wpQuiet_nil ?_
    intro _ hw'
    obtain ⟨⟨dq, osq⟩, hw''⟩ := hw'
    subst hw''
    go_wp2_with fail
    go_ret
    exact ⟨ret_bool (by simp), trG hB _ _⟩
end Go.Proofs.YtcgmnjajodegmaaGreat.B
namespace Go.Proofs.YtcgmnjajodegmaaGreat.B
open Go.ChangeShapes Go.WideShapes Go.RowKit Go.Sort
structure AkAt (w0 w : World) (p q : Nat) (B : Bp) (x : Bx) (bk ev v : Value) : Prop where
 b : BdAt w B x
 h : NAt w p B.n x bk ev
 m : MV w B.c x bk ev
 l : QAt w q (fH B.n B.c x) (bit x.msk)
 v : EvAt w tEv v x.es
 lo : Below w0.heap.size w0 w
theorem AkAt.below {w0 w w' : World} {p q : Nat} {B : Bp} {x : Bx} {bk ev v : Value} (A : AkAt w0 w p q B x bk ev v) (hb : Below w.heap.size w w') : AkAt w0 w' p q B x bk ev v :=
 ⟨A.b.below hb, A.h.below hb, A.m.below hb, A.l.below hb, A.v.below hb, tr A.lo hb⟩
theorem NAt.grown {w : World} {b n : Nat} {x : Bx} {bk ev : Value} (h : NAt w b n x bk ev) : ∀ w', (∃ p : Regrown, w' = grow (redrawn w p.d) p.os) -> NAt w' b n x bk ev := grown_block h
theorem ev_form {w : World} {T : TypeId} {v : Value} {es : List (Int × Int)} (h : EvAt w T v es) : ∃ y cap, v = .slice y es.length cap /\ (es.length = 0 \/ ∃ g, y = some ⟨g, 0, none⟩ /\ g < w.heap.size) := by
 rcases row_form h with ⟨h1, h2⟩ | ⟨g, cap, h1, _, _, hl, _⟩
 . exact ⟨none, 0, by rw [h1, h2], .inl h2⟩
 . exact ⟨_, cap, h1, .inr ⟨g, rfl, hl⟩⟩
theorem ev_at {w : World} {T : TypeId} {g cap : Nat} {es : List (Int × Int)} (h : EvAt w T (.slice (some ⟨g, 0, none⟩) es.length cap) es) (k : Nat) (e : Int × Int) (hk : es[k]? = some e) :
 w.cell? ⟨g, k * 2, none⟩ = some (.int .u64 e.1) /\ w.cell? ⟨g, k * 2 + 1, none⟩ = some (.int .i64 e.2) := by
 have h0 := ev_cells h (k * 2 + 0) _ (by rw [flat_at evC 2 evC_len es k 0 e hk (by decide)]; rfl)
 have h1 := ev_cells h (k * 2 + 1) _ (by rw [flat_at evC 2 evC_len es k 1 e hk (by decide)]; rfl)
 rw [Addr.add_lit, Nat.zero_add] at h0 h1
 exact ⟨h0, h1⟩
section
variable {P : Program}
theorem run_load_part {o : Oper} {f : Operand -> Value} {w : World} (ty : TypeId) (x : Operand) (ho : o.op = .load ty x)
 (g off : Nat) (hx : f x = .pointer (some ⟨g, off, none⟩)) {t : TypeId} {cs : Array Value} {fr : Nat × Nat} (d : TypeDesc) (vs : List Value) (hg : w.heap[g]? = some (.cells cs t fr))
 (hu : P.underlying ty = some d) (hd : (match d with | .struct _ | .array _ _ => true | _ => false) = true) (hi : (P.info? ty).map (·.size) = some vs.length) (hp : PartAt cs off vs) :
 (execOp f o).run P w = .ok (.value (.agg vs.toArray)) w := by
 unfold execOp
 simp only [ho, hx, Instr.loadAt, Instr.sureAddr, Sem.run_bind, Sem.run_pure, Result.andThen_ok, loadVar_part w g off t ty cs fr d vs hg hu hd hi hp]
end
section
variable {o : Oper} {f : Operand -> Value} {a : Act} {w : World} {b n : Nat} {x : Bx} {bk ev : Value} {C : World -> Prop} {K : Act -> Prop}
theorem rnLoadV (y : Operand) (ho : o.op = .load 39 y) (hx : f y = .pointer (some ⟨b, 27, none⟩)) (hg : NAt w b n x bk ev) : (execOp f o).run Tryz.prog w = .ok (.value (.agg (vl x.wd).toArray)) w :=
 run_load_part _ y ho b 27 hx _ (vl x.wd) hg Tryz.underlying39 rfl (by rw [show (vl x.wd).length = 7 from (rfl : (vl _).length = 7)]; exact iV) (by rw [ml_V]; exact part_mid _ _ _ 27 (len_V n x bk))
theorem rnLoadK (y : Operand) (ho : o.op = .load 44 y) (hx : f y = .pointer (some ⟨b, 69, none⟩)) (hg : NAt w b n x bk ev) : (execOp f o).run Tryz.prog w = .ok (.value (.agg (kl x.rk).toArray)) w :=
 run_load_part _ y ho b 69 hx _ (kl x.rk) hg Tryz.underlying44 rfl (by rw [show (kl x.rk).length = 8 from rfl]; exact iK) (by rw [ml_K]; exact part_mid _ _ _ 69 (len_K n x bk))
theorem qnLoadC (y : Operand) (ho : o.op = .load 36 y) (hx : a.eval y = .pointer (some ⟨b, 0, none⟩)) (hg : ∀ w, C w -> NAt w b n x bk ev) (h : K (a.put o.dst (.agg (rcl x.ti n x.D x.S).toArray))) : o.quiet Tryz.prog a C K :=
 quiet_load_part _ y ho b 0 hx _ (rcl x.ti n x.D x.S) (fun w hw => hg w hw) Tryz.underlying36 rfl (by rw [show (rcl x.ti n x.D x.S).length = 26 from rcl_len _ _ _ _]; exact iC) (by rw [ml_C]; exact part_mid [] _ _ 0 rfl) h
end
theorem wordX (n c : Nat) (x : Bx) (w : World) : Calls Tryz.prog 45 #[.agg (bl (fH n c x) 32).toArray] w fun e w' => e = .returned (.int .u32 (wires n c x)) /\ Below w.heap.size w w' := rWord (fH n c x) w
theorem leastX (n c : Nat) (x : Bx) (w : World) : Calls Tryz.prog 46 #[.agg (lcs (fH n c x) (bit x.msk)).toArray] w fun e w' => e = .returned (.int .i64 (least (lm (wires n c x) x.msk))) /\ Below w.heap.size w w' := by
 have := rLeast (fH n c x) (bit x.msk) w
 rw [least_congr (fun i => fH n c x i && bit x.msk i) (lm (wires n c x) x.msk) (fun i hi => by unfold lm; rw [bit_wires n c x i hi])] at this
 exact this
theorem bool_ne (b : Bool) : (b != b) = false := by cases b <;> rfl
set_option maxHeartbeats 12800000 in
theorem yAlike (B : Bp) (x : Bx) (bk ev : Value) (w : World) (H : BdAt w B x) (M : MV w B.c x bk ev) (hl : x.es.length < 4294967296) :
 Calls Tryz.prog 14 #[.pointer (some ⟨B.b, 0, none⟩), .agg (ml B.n x bk ev).toArray] w fun e w' => e = .returned (.bool true) /\ Below w.heap.size w w' := by
 have ok := H.ok
 obtain ⟨gk, capk, rfl, hrk⟩ := M.k
 obtain ⟨ye, cape, rfl, hye⟩ := ev_form M.e
 have hb := trA (tr0 w) (oM11 B.n x (.slice (some ⟨gk, 0, none⟩) B.c capk) (.slice ye x.es.length cape))
 have HH := Hd (H.below hb)
 have HN := Hd (show NAt (w.alloc (oM11 B.n x (.slice (some ⟨gk, 0, none⟩) B.c capk) (.slice ye x.es.length cape))) w.heap.size B.n x (.slice (some ⟨gk, 0, none⟩) B.c capk) (.slice ye x.es.length cape) from blk_new w _)
 have HM := Hd (M.below hb)
 have HB := Hd hb
 have HOK := Hd ok
 have HLN := Hd hl
 have HYE := Hd (show x.es.length = 0 \/ ∃ g, ye = some ⟨g, 0, none⟩ from hye.imp id fun ⟨g, h, _⟩ => ⟨g, h⟩)
 clear hb M H hrk ok hl hye
 go_enter Tryz.func14, Tryz.ntmps14
 go_upto_region 1 with (fail)
 rw [oM11_eq]
 generalize w.alloc (oM11 B.n x (.slice (some ⟨gk, 0, none⟩) B.c capk) (.slice ye x.es.length cape)) = W at *
 go_upto_region 2 with (first | (refine nLoadB rfl (.tmp 3) rfl rfl HN.out ?_) | (go_at_call 44; refine (yLines B.n B.c x _ _ _ HM.out HOK.out).mono ?_; rintro e w2 ⟨rfl, b1⟩; have HH := Hd (HH.out.below b1); have HN := Hd (HN.out.below b1); have HM := Hd (HM.out.below b1); have HB := Hd (tr HB.out b1); clear b1) | (rw [zL4_eq]; refine store27 rfl (.tmp 5) (.tmp 15) rfl _ rfl (fH B.n B.c x) (bit x.msk) rfl (blk_new w2 zL4) (by simp [lcs_len]) ?_))
 have hq : QAt ((w2.alloc zL4).setRow w2.heap.size (lcs (fH B.n B.c x) (bit x.msk)).toArray) w2.heap.size (fH B.n B.c x) (bit x.msk) := row_set _ (blk_new w2 zL4)
 have b3 : Below w2.heap.size w2 ((w2.alloc zL4).setRow w2.heap.size (lcs (fH B.n B.c x) (bit x.msk)).toArray) := below_setRow (trA (tr0 w2) zL4) _ (Nat.le_refl _)
 generalize (w2.alloc zL4).setRow w2.heap.size (lcs (fH B.n B.c x) (bit x.msk)).toArray = w3 at *
 have HQ := Hd hq
 have HH := Hd (HH.out.below b3)
 have HN := Hd (HN.out.below b3)
 have HM := Hd (HM.out.below b3)
 have HB := Hd (tr HB.out b3)
 clear hq b3
 go_upto_region 3 with (go_at_call 18; refine (bdResets B x _ HH.out HLN.out).mono ?_; rintro e w4 ⟨v, rfl, hv, b4, hn⟩; have HA := Hd (show AkAt w w4 w.heap.size w2.heap.size B x _ _ v from ⟨HH.out.below b4, HN.out.below b4, HM.out.below b4, HQ.out.below b4, hv, tr HB.out b4⟩); clear b4 hn hv)
 obtain ⟨yv, capv, rfl, hyv⟩ := ev_form HA.out.v
 have HYV := Hd (show x.es.length = 0 \/ ∃ g, yv = some ⟨g, 0, none⟩ from hyv.imp id fun ⟨g, h, _⟩ => ⟨g, h⟩)
 clear hyv HH HN HM HQ HB
 generalize w2.heap.size = q at *
 obtain ⟨L, hL⟩ : ∃ L, least (lm (wires B.n B.c x) x.msk) = L := ⟨_, rfl⟩
 obtain ⟨X, hX⟩ : ∃ X, wires B.n B.c x = X := ⟨_, rfl⟩
 have CT := Hd (fun w' (a : BdAt w' B x) => bdTime B x w' a)
 have CH := Hd (fun w' (a : BdAt w' B x) => by have := bdHigh B x w' a; rw [hX] at this; exact this)
 have CO := Hd (fun w' (a : BdAt w' B x) => by have := bdOut B x w' a; unfold outB at this; rw [hL] at this; exact this)
 have CW := Hd (fun w' => by have := wordX B.n B.c x w'; rw [hX] at this; exact this)
 have CL := Hd (fun w' => by have := leastX B.n B.c x w'; rw [hL] at this; exact this)
 obtain ⟨tiv, htiv⟩ : ∃ t, x.ti = t := ⟨_, rfl⟩
 have z1 := self_eq x.ti
 have z2 := self_eq X
 have z3 := self_eq (x.es.length : Int)
 have z4 := bool_ne (decide (0 <= L))
 have cT := HA.out.h.cT
 have cE := HA.out.h.cE
 have lN := HA.out.h.lt
 have hg := gcell
 have hf := gfrozen
 clear hL hX htiv tiv
 all_goals
  refine wp_region_quiet_below (by kernel_rfl) (by kernel_rfl) ?_
  repeat (first
   | go_big_quiet_skip
   | (go_big_quiet_want; first
       | (refine qload25 (.tmp 27) rfl _ _ rfl (fH B.n B.c x) (grown_block HA.out.l) (lcs_partL _ _) ?_; go_simp; go_big_quiet_on)
       | (refine qload27 (.tmp 5) rfl _ rfl (fH B.n B.c x) (bit x.msk) (grown_block HA.out.l) ?_; go_simp; go_big_quiet_on)
       | (go_big_quiet_op; first
           | go_big_quiet_on
           | go_big_quiet_call (first
              | (go_at_call 19; exact Calls.regrown_of (CT.out _ (HA.out.b.below (below_regrown w4 _ _))))
              | (go_at_call 20; exact Calls.regrown_of (CH.out _ (HA.out.b.below (below_regrown w4 _ _))))
              | (go_at_call 21; exact Calls.regrown_of (CO.out _ (HA.out.b.below (below_regrown w4 _ _))))
              | (go_at_call 45; exact Calls.regrown_of (CW.out _))
              | (go_at_call 46; exact Calls.regrown_of (CL.out _))))))
  refine wpQuiet_nil ?_
  intro _ hw'
  obtain ⟨⟨dq, osq⟩, hw''⟩ := hw'
  subst hw''
  have HA := Hd (HA.out.below (below_regrown w4 dq osq))
  clear cT cE lN
  generalize grow (redrawn w4 dq) osq = w5 at *
  clear z1 z2 z3 z4 CT CH CO CW CL
  go_wp2_with fail
  go_loopw [7] (fun i wr => ∃ k : Nat, k <= x.es.length /\ i = .int .i64 k /\ AkAt w wr w.heap.size q B x (.slice (some ⟨gk, 0, none⟩) B.c capk) (.slice ye x.es.length cape) (.slice yv x.es.length capv)) (fun i wr => x.es.length - (intOf i).toNat)
  case atStart => exact ⟨0, by omega, rfl, HA.out⟩
  case round =>
   clear HA
   obtain ⟨k, hk, rfl, A⟩ := hrel
   have HA := Hd A
   clear A
   have hll := HLN.out
   by_cases hlt : k < x.es.length
   . obtain ⟨g1, rfl⟩ : ∃ g, yv = some ⟨g, 0, none⟩ := HYV.out.resolve_left (by omega)
     obtain ⟨g2, rfl⟩ : ∃ g, ye = some ⟨g, 0, none⟩ := HYE.out.resolve_left (by omega)
     obtain ⟨e, he⟩ : ∃ e, x.es[k]? = some e := ⟨_, List.getElem?_eq_getElem hlt⟩
     obtain ⟨c1, c2⟩ := ev_at HA.out.v k e he
     obtain ⟨c3, c4⟩ := ev_at HA.out.m.e k e he
     have cE := HA.out.h.cE
     have z1 := beq_self_eq_true e.1
     have z2 := beq_self_eq_true e.2
     have z3 := self_eq e.1
     have z4 := self_eq e.2
     have HHL := Hd hll
     clear he hll
     go_upto_region 8 with (fail)
     go_region
     all_goals
      clear c1 c2 c3 c4 cE z1 z2 z3 z4
      have HA := Hd (HA.out.below (trD (tr0 _)))
      generalize World.drew _ = wd at *
      have hll := HHL.out
      go_wp2_with fail
      go_roundw
      case rel => exact ⟨k + 1, by omega, by go_num, HA.out⟩
      case measure => simp [intOf]; omega
   . obtain rfl : k = x.es.length := by omega
     go_wp2_with fail
     go_loopw [8] (fun i wr => ∃ h : Int, -1 <= h /\ h <= 9 /\ i = .int .i64 h /\ AkAt w wr w.heap.size q B x (.slice (some ⟨gk, 0, none⟩) B.c capk) (.slice ye x.es.length cape) (.slice yv x.es.length capv)) (fun i wr => (9 - intOf i).toNat)
     case atStart => exact ⟨-1, by omega, by omega, rfl, HA.out⟩
     case round =>
      clear HA
      obtain ⟨h, h0, h9, rfl, A⟩ := hrel
      have HA := Hd A
      clear A
      by_cases hlt : h < 9
      . obtain ⟨X1, hX1⟩ : ∃ X, cCmp B.n x.D h = X := ⟨_, rfl⟩
        obtain ⟨Y1, hY1⟩ : ∃ X, cLn x.ti B.n x.D h = X := ⟨_, rfl⟩
        have CC := Hd (fun w' (a : BdAt w' B x) => by have := bdCompare B x h w' a; rw [hX1] at this; exact this)
        have CL := Hd (fun w' (a : BdAt w' B x) => by have := bdLine B x h w' a; rw [hY1] at this; exact this)
        have RC := Hd (fun w' => by have := rcCompare h x.ti B.n x.D x.S w' HOK.out.n8 HOK.out.d; rw [hX1] at this; exact this)
        have RL := Hd (fun w' => by have := rcLine h x.ti B.n x.D x.S w' HOK.out.n8 HOK.out.d; rw [hY1] at this; exact this)
        have z1 := self_eq X1
        have z2 := bool_ne Y1
        have lN := HA.out.h.lt
        have hg := gcell
        have hf := gfrozen
        clear hX1 hY1
        go_upto_region 13 with (fail)
        refine wp_region_quiet_below (by kernel_rfl) (by kernel_rfl) ?_
        repeat (first
         | go_big_quiet_skip
         | (go_big_quiet_want; first
             | (refine qnLoadC (.tmp 71) rfl rfl HA.out.h.grown ?_; go_simp; go_big_quiet_on)
             | (refine qnLoadC (.tmp 80) rfl rfl HA.out.h.grown ?_; go_simp; go_big_quiet_on)
             | (go_big_quiet_op; first
                 | go_big_quiet_on
                 | go_big_quiet_call (first
                    | (go_at_call 29; exact Calls.regrown_of (CC.out _ (HA.out.b.below (below_regrown wr _ _))))
                    | (go_at_call 30; exact Calls.regrown_of (CL.out _ (HA.out.b.below (below_regrown wr _ _))))
                    | (go_at_call 47; exact Calls.regrown_of (RC.out _))
                    | (go_at_call 48; exact Calls.regrown_of (RL.out _))))))
        refine wpQuiet_nil ?_
        intro _ hw'
        obtain ⟨⟨dq, osq⟩, hw''⟩ := hw'
        subst hw''
        have HA := Hd (HA.out.below (below_regrown wr dq osq))
        clear lN
        generalize grow (redrawn wr dq) osq = w5 at *
        clear z1 z2 CC CL RC RL
        go_wp2_with fail
        go_roundw
        case rel => exact ⟨h + 1, by omega, by omega, by go_num, HA.out⟩
        case measure => simp [intOf]; omega
      . obtain rfl : h = 9 := by omega
        go_wp2_with fail
        go_loopw [9] (fun i wr => ∃ j : Int, 0 <= j /\ j <= 4 /\ i = .int .u32 (4 * j) /\ AkAt w wr w.heap.size q B x (.slice (some ⟨gk, 0, none⟩) B.c capk) (.slice ye x.es.length cape) (.slice yv x.es.length capv)) (fun i wr => (16 - intOf i).toNat)
        case atStart => exact ⟨0, by omega, by omega, rfl, HA.out⟩
        case round =>
         clear HA
         obtain ⟨j, j0, j4, rfl, A⟩ := hrel
         have HA := Hd A
         clear A
         by_cases hlt : j < 4
         . have q1 : 4 * j < 16 := by omega
           obtain ⟨V, hV⟩ : ∃ X, x.ldv B.n B.c (268632064 + 4 * j) = X := ⟨_, rfl⟩
           obtain ⟨E, hE⟩ : ∃ X, Bx.lde B.n B.c (268632064 + 4 * j) = X := ⟨_, rfl⟩
           have CL := Hd (fun w' (a : BdAt w' B x) => by have := bdLoad B x (268632064 + 4 * j) w' a (by omega) (by omega); rw [hV, hE] at this; exact this)
           have RL := Hd (fun w' (M : MV w' B.c x (.slice (some ⟨gk, 0, none⟩) B.c capk) (.slice ye x.es.length cape)) => by have := yLoad B.n B.c x _ _ (268632064 + 4 * j) w' M HOK.out (by omega) (by omega); rw [hV, hE] at this; exact this)
           have z1 := self_eq V
           have z2 := self_eq E
           clear hV hE
           go_wp2_with fail
           refine (CL.out _ HA.out.b).mono ?_
           rintro e w6 ⟨rfl, hb⟩
           have HA := Hd (HA.out.below hb)
           clear hb CL
           go_wp2_with (refine nLoadB rfl (.tmp 3) rfl rfl HA.out.h ?_)
           refine (RL.out _ HA.out.m).mono ?_
           rintro e w7 ⟨rfl, hb⟩
           have HA := Hd (HA.out.below hb)
           clear hb RL
           go_wp2_with fail
           go_roundw
           case rel => exact ⟨j + 1, by omega, by omega, by go_num, HA.out⟩
           case measure => simp [intOf]; omega
         . obtain rfl : j = 4 := by omega
           go_upto_region 22 with (fail)
           have HA := Hd (HA.out.below (trD (tr0 _)))
           refine wp_region_held_drew (S := fun w' => NAt w' w.heap.size B.n x (.slice (some ⟨gk, 0, none⟩) B.c capk) (.slice ye x.es.length cape)) (by kernel_rfl) HA.out.h (fun _ => ?_)
           generalize World.drew _ = wd at *
           refine tkH (i := 0) (v := .pointer (some ⟨B.b, 0, none⟩)) rfl (by kernel_rfl) (fun _ _ _ h => h) (fun w' hSw => by clear hSw; go_simp) HA.out.h ?_
           try simp only [Act.put, lsA, lsZ, lsS]
           refine tkH (i := 2) (v := .pointer (some ⟨w.heap.size, 26, none⟩)) rfl (by kernel_rfl) (fun _ _ _ h => h) (fun w' hSw => by clear hSw; go_simp) HA.out.h ?_
           try simp only [Act.put, lsA, lsZ, lsS]
           refine tkH (i := 3) (v := .slice (some ⟨gk, 0, none⟩) B.c capk) rfl (by kernel_rfl) (fun _ _ _ h => h) (fun w' hSw => by have c := NAt.cB hSw; clear hSw; go_simp) HA.out.h ?_
           try simp only [Act.put, lsA, lsZ, lsS]
           refine rdH (i := 1) (by kernel_rfl) rfl fun K hK => ?_
           go_simp
           go_wp2_with (go_at_call 26; refine (bdBank B x _ HA.out.b).mono ?_; rintro e wa ⟨p1, g1, q1, rfl, h1, hb⟩; have HA := Hd (HA.out.below hb); have HP := Hd h1; clear hb h1)
           refine hK.out _ _ HA.out.h (fun _ => ?_)
           clear hK K
           refine rdH (i := 4) (by kernel_rfl) rfl fun K hK => ?_
           go_simp
           go_wp2_with (go_at_call 49; refine ((fun r => bAlike HP.out r) (show RwAt wa gk B.c capk x.tm from by obtain ⟨g, cap, h, hr⟩ := HA.out.m.k; injection h with h1 h2 h3; injection h1 with h1; injection h1 with h1; subst h1; subst h3; exact hr)).mono ?_; rintro e wb ⟨rfl, hb⟩; have HA := Hd (HA.out.below hb); clear hb HP)
           refine hK.out _ _ HA.out.h (fun _ => ?_)
           clear hK K
           refine tkH (i := 5) (v := .bool true) rfl (by kernel_rfl) (fun _ _ _ h => h) (fun w' hSw => by clear hSw; go_simp) HA.out.h ?_
           try simp only [Act.put, lsA, lsZ, lsS]
           refine tkH (i := 6) (v := .pointer (some ⟨B.b, 0, none⟩)) rfl (by kernel_rfl) (fun _ _ _ h => h) (fun w' hSw => by clear hSw; go_simp) HA.out.h ?_
           try simp only [Act.put, lsA, lsZ, lsS]
           refine tkH (i := 8) (v := .pointer (some ⟨w.heap.size, 27, none⟩)) rfl (by kernel_rfl) (fun _ _ _ h => h) (fun w' hSw => by clear hSw; go_simp) HA.out.h ?_
           try simp only [Act.put, lsA, lsZ, lsS]
           refine tkH (i := 9) (v := .agg (vl x.wd).toArray) rfl (by kernel_rfl) (fun _ _ _ h => h) (fun w' hSw => rnLoadV (.tmp 120) rfl rfl hSw) HA.out.h ?_
           try simp only [Act.put, lsA, lsZ, lsS]
           refine rdH (i := 7) (by kernel_rfl) rfl fun K hK => ?_
           go_simp
           go_wp2_with (go_at_call 22; refine (bdDog B x _ HA.out.b).mono ?_; rintro e wc ⟨p2, rfl, h1, hb⟩; have HA := Hd (HA.out.below hb); have HP := Hd h1; clear hb h1)
           refine hK.out _ _ HA.out.h (fun _ => ?_)
           clear hK K
           refine rdH (i := 10) (by kernel_rfl) rfl fun K hK => ?_
           go_simp
           go_wp2_with (go_at_call 50; refine (dAlike x.wd p2 _ HOK.out.wd HP.out).mono ?_; rintro e wd2 ⟨rfl, hb⟩; have HA := Hd (HA.out.below hb); clear hb HP)
           refine hK.out _ _ HA.out.h (fun _ => ?_)
           clear hK K
           refine tkH (i := 11) (v := .bool true) rfl (by kernel_rfl) (fun _ _ _ h => h) (fun w' hSw => by clear hSw; go_simp) HA.out.h ?_
           try simp only [Act.put, lsA, lsZ, lsS]
           refine tkH (i := 12) (v := .bool true) rfl (by kernel_rfl) (fun _ _ _ h => h) (fun w' hSw => by clear hSw; go_simp) HA.out.h ?_
           try simp only [Act.put, lsA, lsZ, lsS]
           refine tkH (i := 13) (v := .pointer (some ⟨B.b, 0, none⟩)) rfl (by kernel_rfl) (fun _ _ _ h => h) (fun w' hSw => by clear hSw; go_simp) HA.out.h ?_
           try simp only [Act.put, lsA, lsZ, lsS]
           refine tkH (i := 15) (v := .pointer (some ⟨w.heap.size, 69, none⟩)) rfl (by kernel_rfl) (fun _ _ _ h => h) (fun w' hSw => by clear hSw; go_simp) HA.out.h ?_
           try simp only [Act.put, lsA, lsZ, lsS]
           refine tkH (i := 16) (v := .agg (kl x.rk).toArray) rfl (by kernel_rfl) (fun _ _ _ h => h) (fun w' hSw => rnLoadK (.tmp 127) rfl rfl hSw) HA.out.h ?_
           try simp only [Act.put, lsA, lsZ, lsS]
           refine rdH (i := 14) (by kernel_rfl) rfl fun K hK => ?_
           go_simp
           go_wp2_with (go_at_call 24; refine (bdRtc B x _ HA.out.b).mono ?_; rintro e we ⟨p3, rfl, h1, hb⟩; have HA := Hd (HA.out.below hb); have HP := Hd h1; clear hb h1)
           refine hK.out _ _ HA.out.h (fun _ => ?_)
           clear hK K
           refine rdH (i := 17) (by kernel_rfl) rfl fun K hK => ?_
           go_simp
           go_wp2_with (go_at_call 51; refine (eAlike x.rk p3 _ HOK.out.rk HP.out).mono ?_; rintro e wf ⟨rfl, hb⟩; have HA := Hd (HA.out.below hb); clear hb HP)
           refine hK.out _ _ HA.out.h (fun _ => ?_)
           clear hK K
           refine tkH (i := 18) (v := .bool true) rfl (by kernel_rfl) (fun _ _ _ h => h) (fun w' hSw => by clear hSw; go_simp) HA.out.h ?_
           refine tkH (i := 19) (v := .bool true) rfl (by kernel_rfl) (fun _ _ _ h => h) (fun w' hSw => by clear hSw; go_simp) HA.out.h ?_
           refine wpAnyH_done (by kernel_rfl) ?_ _
           go_wp2_with fail
           go_ret
           exact ⟨rfl, HA.out.lo⟩
end Go.Proofs.YtcgmnjajodegmaaGreat.B
