/- A part of the proof of a law of layer 12: bs. -/
import Derived.Test.YtpojmmgokgamgaaGreatZYbr
import Derived.Deep.RegionWith
set_option linter.unusedVariables false
set_option linter.unusedSimpArgs false
set_option maxHeartbeats 12800000
set_option maxRecDepth 100000
namespace Go.Proofs.YtpojmmgokgamgaaGreat.B
open Go.Proofs.Tryz
open Go.ChangeShapes Go.WideShapes Go.RowKit Go.Sort Go.MapKept
def fHi (t : Nat -> Tm) (i : Nat) : Bool := (t i).st && (t i).iq
def fRn (t : Nat -> Tm) (i : Nat) : Bool := (t i).en
theorem aHn : un 0 = 1 := by decide
theorem aMU {w : World} {g n cap : Nat} {t : Nat -> Tm} (h : eH w g n cap t) (n8 : n <= 8) :
 Calls prog 141 #[.slice (some ⟨g, 0, none⟩) n cap] w fun e w' => e = .returned (.tuple #[.int .u32 (ob (fHi t) n), .int .u32 (ob (fRn t) n)]) /\ w = w' := by
 have hcm := h.cm
 have hnc := h.nc
 have hgl := h.lt
 unfold maxLen at hcm
 have H := Hd h
 clear h
 go_enter func141, ntmps141
 go_wp2_with fail
 go_loopw [4, 5, 6, 7] (fun a b u i wr => ∃ (k : Nat) (X Y U : Int), k <= n /\ i = .int .i64 k /\ a = .int .u32 X /\ b = .int .u32 Y /\ u = .int .u32 U /\ 0 <= X /\ X < 4294967296 /\ 0 <= Y /\ Y < 4294967296 /\ 0 <= U /\ U < 4294967296 /\ Hid (X = ob (fHi t) k) /\ Hid (Y = ob (fRn t) k) /\ Hid (U = un k) /\ wr = w) (fun a b u i wr => n - (intOf i).toNat)
 case atStart => exact ⟨0, 0, 0, 1, by omega, rfl, rfl, rfl, rfl, by omega, by omega, by omega, by omega, by omega, by omega, Hd rfl, Hd rfl, Hd aHn.symm, rfl⟩
 case round =>
  obtain ⟨k, X, Y, U, hk, rfl, rfl, rfl, rfl, X0, X1, Y0, Y1, U0, U1, hX, hY, hU, rfl⟩ := hrel
  by_cases hlt : k < n
  . have c2 := H.out.c hlt 2 _ rfl
    have c4 := H.out.c hlt 4 _ rfl
    have c7 := H.out.c hlt 7 _ rfl
    have bx := aGV (fHi t) k (by omega)
    have bY := aGV (fRn t) k (by omega)
    have yx := Hd (fun q => tY (fHi t) k (by omega) q)
    have nx := Hd (fun q => xI (fHi t) k q)
    have yy := Hd (fun q => tY (fRn t) k (by omega) q)
    have ny := Hd (fun q => xI (fRn t) k q)
    rw [<- hX.out, <- hU.out] at bx
    rw [<- hY.out, <- hU.out] at bY
    have bu := kV (k + 1)
    have us := Hd (yI k)
    rw [yI k, <- hU.out] at bu
    have vx : fHi t k = ((t k).st && (t k).iq) := rfl
    have vy : fRn t k = (t k).en := rfl
    generalize (t k).st = s at *
    generalize (t k).iq = q at *
    generalize (t k).en = r at *
    cases r <;> cases s <;> cases q
    all_goals
     have VX := Hd vx
     have VY := Hd vy
     clear vx vy
     go_wp2_with fail
     go_roundw
     case rel =>
      first
      | exact ⟨k + 1, _, _, _, by omega, by go_num, rfl, rfl, rfl, by omega, by omega, by omega, by omega, bu.1, bu.2, Hd (by rw [nx.out VX.out]; exact hX.out), Hd (by rw [ny.out VY.out]; exact hY.out), Hd (by rw [us.out, hU.out]), (by trivial)⟩
      | exact ⟨k + 1, _, _, _, by omega, by go_num, rfl, rfl, rfl, by omega, by omega, by omega, by omega, bu.1, bu.2, Hd (by rw [yx.out VX.out, hX.out, hU.out]), Hd (by rw [ny.out VY.out]; exact hY.out), Hd (by rw [us.out, hU.out]), (by trivial)⟩
      | exact ⟨k + 1, _, _, _, by omega, by go_num, rfl, rfl, rfl, by omega, by omega, by omega, by omega, bu.1, bu.2, Hd (by rw [nx.out VX.out]; exact hX.out), Hd (by rw [yy.out VY.out, hY.out, hU.out]), Hd (by rw [us.out, hU.out]), (by trivial)⟩
      | exact ⟨k + 1, _, _, _, by omega, by go_num, rfl, rfl, rfl, by omega, by omega, by omega, by omega, bu.1, bu.2, Hd (by rw [yx.out VX.out, hX.out, hU.out]), Hd (by rw [yy.out VY.out, hY.out, hU.out]), Hd (by rw [us.out, hU.out]), (by trivial)⟩
     case measure => simp [intOf]; omega
  . obtain rfl : k = n := by omega
    have e1 := hX.out
    have e2 := hY.out
    subst e1 e2
    go_wp2_with fail
    go_ret2
    exact ⟨rfl, rfl⟩
theorem aNk {w : World} {g n cap : Nat} {t : Nat -> Tm} (h : eH w g n cap t) (ok : ∀ i, i < n -> (t i).ok) (n8 : n <= 8) (m i : Int) (hb : jD t 0 n m i) :
 Calls prog 142 #[.slice (some ⟨g, 0, none⟩) n cap] w fun e w' => e = .returned (.tuple #[.int .u64 m, .int .i64 i]) /\ Below w.heap.size w w' := by
 have hcm := h.cm
 have hnc := h.nc
 have hgl := h.lt
 unfold maxLen at hcm
 have OK := Hd ok
 have HBest := Hd hb
 clear ok hb
 go_enter func142, ntmps142
 go_wp2_with fail
 go_loopw [4, 5, 6] (fun a b i wr => ∃ (k : Nat) (M I : Int), k <= n /\ (k = 0 /\ i = .int .i64 (-1) \/ ∃ j : Nat, k = j + 1 /\ i = .int .i64 j) /\ a = .int .u64 M /\ b = .int .i64 I /\ 1 <= M /\ M <= 18446744073709551615 /\ Hid (jD t k n M I) /\ eH wr g n cap t /\ Below w.heap.size w wr) (fun a b i wr => (intOf i + 1).toNat)
 case atStart =>
  refine ⟨n, nvr, -1, by omega, ?_, rfl, rfl, by decide, by decide, Hd (tJ t n), h, aI w⟩
  by_cases h0 : n = 0
  . exact .inl ⟨h0, yH (by omega)⟩
  . exact .inr ⟨n - 1, by omega, yH (by omega)⟩
 case round =>
  clear h
  obtain ⟨k, M, I, hk, hki, rfl, rfl, M0, M1, hX, H, hB⟩ := hrel
  rcases hki with ⟨rfl, rfl⟩ | ⟨j, rfl, rfl⟩
  . obtain ⟨e1, e2⟩ := HBest.out.same hX.out
    subst e1 e2
    go_wp2_with fail
    go_ret2
    exact ⟨rfl, hB⟩
  . have hj : j < n := by omega
    have c2 := H.c hj 2 _ rfl
    have hin := H.at hj
    have ok := OK.out j hj
    have hL := ok.left
    have fin : ∀ M' I' : Int, j <= n /\ (j = 0 /\ Value.int .i64 ((j : Int) - 1) = .int .i64 (-1) \/ ∃ i : Nat, j = i + 1 /\ Value.int .i64 ((j : Int) - 1) = .int .i64 i) := fun _ _ => by
     refine ⟨by omega, ?_⟩
     by_cases h0 : j = 0
     . exact .inl ⟨h0, yH (by omega)⟩
     . exact .inr ⟨j - 1, by omega, yH (by omega)⟩
    have FIN := Hd (fin 0 0)
    clear fin
    cases he : (t j).en
    . rw [he] at c2
      have HX := Hd (hX.out.keep ok (fun e => by rw [he] at e; cases e))
      have HH := Hd H
      clear H he hin
      go_wp2_with fail
      go_roundw
      case rel => exact ⟨j, M, I, FIN.out.1, FIN.out.2, rfl, rfl, M0, M1, HX, HH.out, hB⟩
      case measure => simp [intOf]
    . rw [he] at c2
      have hlf : (t j).lef = (t j).left := by unfold Tm.lef; rw [if_pos he]
      have C := fun w => aG6 (t j) w ok
      rw [hlf] at C
      by_cases hl : (t j).left <= M
      . have HX := Hd (hX.out.put hj he hl)
        generalize (t j).left = V at *
        have CL := Hd C
        have HH := Hd H
        clear H he C hlf
        go_wp2_with (refine aFN (.tmp 22) rfl rfl rfl hin ?_)
        refine (CL.out _).mono ?_
        rintro e w1 ⟨rfl, hb⟩
        have hin1 := hin.below hb
        have H1 := HH.out.below hb
        have B1 := tr hB hb
        clear hin HH hB hb c2
        go_wp2_with (refine aDO rfl (.tmp 30) rfl rfl hin1 ?_)
        refine (CL.out _).mono ?_
        rintro e w2 ⟨rfl, hb⟩
        have H2 := H1.below hb
        have B2 := tr B1 hb
        clear hin1 H1 B1 hb
        go_wp2_with fail
        go_roundw
        case rel => exact ⟨j, V, j, FIN.out.1, FIN.out.2, rfl, rfl, hL.1, by omega, HX, H2, B2⟩
        case measure => simp [intOf]
      . have HX := Hd (hX.out.keep ok (fun _ => by omega))
        have hl2 : M < (t j).left := by omega
        generalize (t j).left = V at *
        have CL := Hd C
        have HH := Hd H
        clear H he C hlf
        go_wp2_with (refine aFN (.tmp 22) rfl rfl rfl hin ?_)
        refine (CL.out _).mono ?_
        rintro e w1 ⟨rfl, hb⟩
        have H2 := HH.out.below hb
        have B2 := tr hB hb
        clear hin HH hB hb c2
        go_wp2_with fail
        go_roundw
        case rel => exact ⟨j, M, I, FIN.out.1, FIN.out.2, rfl, rfl, M0, M1, HX, H2, B2⟩
        case measure => simp [intOf]
theorem aK0 {w : World} {p g n gm cap : Nat} {q : Nat -> Nat} {t : Nat -> Tm} (h : cI w p g n q t) (r : eH w gm n cap t) :
 Calls prog 80 #[.pointer (some ⟨p, 0, none⟩), .slice (some ⟨gm, 0, none⟩) n cap] w fun e w' => e = .returned (.bool true) /\ Below w.heap.size w w' := by
 have n8 := h.rm.n8
 have OK := Hd h.rm.ok
 have hcm := r.cm
 have hnc := r.nc
 unfold maxLen at hcm
 obtain ⟨m, i, hbest⟩ := aD9 t n h.rm.ok
 have hm := hbest.bounds h.rm.ok
 have hi := hbest.place
 unfold nvr at hm
 have HBest := Hd hbest
 obtain ⟨X, hX⟩ : ∃ X, ob (fHi t) n = X := ⟨_, rfl⟩
 obtain ⟨Y, hY⟩ : ∃ Y, ob (fRn t) n = Y := ⟨_, rfl⟩
 have CW := Hd (fun (w : World) (r : eH w gm n cap t) => by have := aMU r n8; rw [hX, hY] at this; exact this)
 have CLi := Hd (fun (w : World) (h : cI w p g n q t) => by have := aHO h; rw [show ob (fun i => (t i).st && (t i).iq) n = X from hX] at this; exact this)
 have CR := Hd (fun (w : World) (h : cI w p g n q t) => by have := aMt h; rw [show ob (fun i => (t i).en) n = Y from hY] at this; exact this)
 have z1 : (X != X) = false := by simp
 have z2 : (Y != Y) = false := by simp
 have z3 : (m != m) = false := by simp
 have z4 : (i != i) = false := by simp
 clear hbest hX hY
 have H := h
 have R := r
 clear h r
 go_enter func80, ntmps80
 go_wp2_with fail
 refine (aDf H).mono ?_
 rintro e w' ⟨rfl, rfl⟩
 go_wp2_with fail
 refine (CW.out _ R).mono ?_
 rintro e w' ⟨rfl, rfl⟩
 go_wp2_with fail
 refine (aNk R OK.out n8 m i HBest.out).mono ?_
 rintro e w1 ⟨rfl, hb⟩
 have H1 := H.below hb
 have R1 := R.below hb
 have B1 := hb
 clear H R hb
 go_wp2_with fail
 refine (aNR H1 m i HBest.out).mono ?_
 rintro e w2 ⟨rfl, hb⟩
 have H := H1.below hb
 have R := R1.below hb
 have hB := tr B1 hb
 clear H1 R1 B1 hb
 go_wp2_with fail
 refine (CLi.out _ H).mono ?_
 rintro e w3 ⟨rfl, hb⟩
 have H1 := H.below hb
 have R1 := R.below hb
 have B1 := tr hB hb
 clear H R hB hb
 go_wp2_with fail
 refine (CR.out _ H1).mono ?_
 rintro e w4 ⟨rfl, hb⟩
 have H := H1.below hb
 have R := R1.below hb
 have hB := tr B1 hb
 clear H1 R1 B1 hb
 go_wp2_with fail
 refine (aA7 H (-1) (.inl (by omega))).mono ?_
 rintro e w' ⟨rfl, rfl⟩
 go_wp2_with fail
 refine (aA7 H n (.inr (by omega))).mono ?_
 rintro e w' ⟨rfl, rfl⟩
 clear CW CLi CR z1 z2 z3 z4 HBest hm hi
 go_wp2_with fail
 go_loopw [11] (fun i wr => ∃ k : Nat, k <= n /\ i = .int .i64 k /\ cI wr p g n q t /\ eH wr gm n cap t /\ Below w.heap.size w wr) (fun i wr => n - (intOf i).toNat)
 case atStart => exact ⟨0, by omega, rfl, H, R, hB⟩
 case round =>
  clear H R hB
  obtain ⟨k, hk, rfl, H, R, hB⟩ := hrel
  by_cases hlt : k < n
  . have hin := R.at hlt
    have ok := OK.out k hlt
    have HH := Hd H
    have HR := Hd R
    have HBB := Hd hB
    have CT := Hd (fun (w : World) (h : cI w p g n q t) => aFc h k hlt)
    clear H R hB
    go_wp2_with fail
    have hsz : gm < wr.heap.size := hin.lt
    have c0 := hin.cell 0 _ rfl
    have c1 := hin.cell 1 _ rfl
    have c2 := hin.cell 2 _ rfl
    have c3 := hin.cell 3 _ rfl
    have c4 := hin.cell 4 _ rfl
    have c5 := hin.cell 5 _ rfl
    have c6 := hin.cell 6 _ rfl
    have c7 := hin.cell 7 _ rfl
    simp only [Nat.add_zero] at c0
    have HIN := Hd hin
    clear hin
    go_region_with (first
     | (go_at_call 145
        refine (CT.out _ (HH.out.below (jH (aI _)))).mono ?_
        rintro e w5 ⟨rfl, hw5⟩
        have hb5 : Below wr.heap.size wr w5 := by rw [hw5]; exact aE (jH (aI _)) _
        have A5 : jA w5 wr.drew.heap.size tC (t k) := by rw [hw5]; exact aD wr.drew _
        have hin5 := HIN.out.below hb5
        clear c0 c1 c2 c3 c4 c5 c6 c7 hw5
        have c0 := hin5.cell 0 _ rfl
        have c1 := hin5.cell 1 _ rfl
        have c2 := hin5.cell 2 _ rfl
        have c3 := hin5.cell 3 _ rfl
        have c4 := hin5.cell 4 _ rfl
        have c5 := hin5.cell 5 _ rfl
        have c6 := hin5.cell 6 _ rfl
        have c7 := hin5.cell 7 _ rfl
        simp only [Nat.add_zero] at c0
        clear hin5)
     | (go_at_call 146
        refine (aLW (t k) _ _ ok A5).mono ?_
        rintro e w6 ⟨rfl, hb6⟩
        have hb6 := hb5.trans (hb6.mono hb5.size)
        clear c0 c1 c2 c3 c4 c5 c6 c7 A5))
    all_goals
     have H2 := HH.out.below hb6
     have R2 := HR.out.below hb6
     have B2 := HBB.out.trans (hb6.mono HBB.out.size)
     go_wp2_with fail
     go_roundw
     case rel => exact ⟨k + 1, by omega, by go_num, H2, R2, B2⟩
     case measure => simp [intOf]; omega
  . obtain rfl : k = n := by omega
    go_wp2_with fail
    go_ret
    exact ⟨rfl, hB⟩
def d1 : Wd := ⟨false, false, false, 3, 0, 0, 0⟩
def d2 : Wd := ⟨false, false, false, 3, 10, 0, 0⟩
def d3 : Wd := ⟨true, false, false, 3, 10, 0, 0⟩
def d4 : Wd := ⟨true, false, false, 3, 10, 2, 0⟩
def d5 : Wd := ⟨true, false, true, 3, 10, 2, 0⟩
theorem aLk (t : Wd) (p : Nat) (w : World) (h : t.ok) (a : dT w p t) :
 Calls prog 82 #[.pointer (some ⟨p, 0, none⟩), .agg (vl t).toArray] w fun e w' => e = .returned (.bool true) /\ Below w.heap.size w w' := by
 have A := a.below (aE (aI w) (oV t))
 have M : bW (w.alloc (oV t)) w.heap.size t := aD w (oV t)
 have hB := aE (aI w) (oV t)
 clear a
 go_enter func82, ntmps82
 go_upto_region 1 with (fail)
 rw [dW]
 generalize (w.alloc (oV t)) = W at *
 go_wp2_with fail
 go_loopw [5] (fun i wr => ∃ j : Int, 0 <= j /\ j <= 5 /\ i = .int .u32 (4 * j) /\ dT wr p t /\ bW wr w.heap.size t /\ Below w.heap.size w wr) (fun i wr => (20 - intOf i).toNat)
 case atStart => exact ⟨0, by omega, by omega, rfl, A, M, hB⟩
 case round =>
  clear A M hB
  obtain ⟨j, j0, j4, rfl, A, M, hB⟩ := hrel
  by_cases hlt : j < 5
  . have q : 4 * j < 20 := by omega
    obtain ⟨V, hV⟩ : ∃ V, t.val (4 * j) = V := ⟨_, rfl⟩
    obtain ⟨E, hE⟩ : ∃ E, eG (4 * j) = E := ⟨_, rfl⟩
    have CL := Hd (fun w a => by have := aJz t (4 * j) p w h a (by omega) (by omega); rw [hV, hE] at this; exact this)
    have RL := Hd (fun w => by have := mA t (4 * j) w h (by omega) (by omega); rw [hV, hE] at this; exact this)
    have zV : (V != V) = false := by simp
    have zE : (E != E) = false := by simp
    clear hV hE
    go_wp2_with fail
    refine (CL.out _ A).mono ?_
    rintro e w1 ⟨rfl, hb⟩
    have A1 := A.below hb
    have M1 := M.below hb
    have B1 := tr hB hb
    clear A M hB hb CL
    go_wp2_with (refine bS rfl (.tmp 3) rfl rfl M1 ?_)
    refine (RL.out _).mono ?_
    rintro e w2 ⟨rfl, hb⟩
    have A := A1.below hb
    have M := M1.below hb
    have B := tr B1 hb
    clear A1 M1 B1 hb RL
    go_wp2_with fail
    go_roundw
    case rel => exact ⟨j + 1, by omega, by omega, by go_num, A, M, B⟩
    case measure => simp [intOf]; omega
  . obtain rfl : j = 5 := by omega
    obtain ⟨V, hV⟩ : ∃ V, t.left = V := ⟨_, rfl⟩
    have m0 := M.c0
    have m1 := M.c1
    have m2 := M.c2
    have m5 := M.c5
    have m6 := M.c6
    have FA := Hd (fun w a => aBs t p w a)
    have EN := Hd (fun w a => aAK t p w a)
    have LK := Hd (fun w a => aHm t p w a)
    have AR := Hd (fun w a => aMQ t p w a)
    have SI := Hd (fun w a => aK1 t p w a)
    have LF := Hd (fun w a => by have := aNt t p w h a; rw [hV] at this; exact this)
    have ML := Hd (fun w => by have := aJO t w h; rw [hV] at this; exact this)
    have HA := Hd A
    have HM := Hd M
    have hg := bI
    have hlt := M.lt
    have z0 := beq_self_eq_true t.fa
    have z1 := beq_self_eq_true t.si
    have z2 := beq_self_eq_true V
    have z3 : (t.en == t.en) = true := by simp
    have z4 : (t.lk == t.lk) = true := by simp
    have z5 : (t.ar == t.ar) = true := by simp
    clear A M hV h
    go_wp2_with fail
    refine wp_region_quiet_below (by kernel_rfl) (by kernel_rfl) ?_
    repeat (first
     | go_big_quiet_skip
     | (go_big_quiet_want; first
         | (refine aLV (.tmp 3) rfl rfl HM.out.grown ?_; go_simp; go_big_quiet_on)
         | (go_big_quiet_op; first
             | go_big_quiet_on
             | go_big_quiet_call (first
                | (go_at_call 113; exact Calls.regrown_of ((FA.out _ (HA.out.below (below_regrown wr _ _))).mono fun e w' h => ⟨h.1, h.2 ▸ aI _⟩))
                | (go_at_call 148; exact Calls.regrown_of ((EN.out _ (HA.out.below (below_regrown wr _ _))).mono fun e w' h => ⟨h.1, h.2 ▸ aI _⟩))
                | (go_at_call 149; exact Calls.regrown_of ((LK.out _ (HA.out.below (below_regrown wr _ _))).mono fun e w' h => ⟨h.1, h.2 ▸ aI _⟩))
                | (go_at_call 150; exact Calls.regrown_of ((AR.out _ (HA.out.below (below_regrown wr _ _))).mono fun e w' h => ⟨h.1, h.2 ▸ aI _⟩))
                | (go_at_call 151; exact Calls.regrown_of ((SI.out _ (HA.out.below (below_regrown wr _ _))).mono fun e w' h => ⟨h.1, h.2 ▸ aI _⟩))
                | (go_at_call 152; exact Calls.regrown_of (LF.out _ (HA.out.below (below_regrown wr _ _))))
                | (go_at_call 123; exact Calls.regrown_of (ML.out _))))))
    refine wpQuiet_nil ?_
    intro _ hw'
    obtain ⟨⟨dq, osq⟩, hw''⟩ := hw'
    subst hw''
    go_wp2_with fail
    go_ret
    exact ⟨bX (by simp), trG hB _ _⟩
def kt1 : Rk := ⟨10, 0, 0, 0, 2, 0, false, false⟩
theorem aL6 (t : Rk) (p : Nat) (w : World) (h : t.ok) (a : cJ w p dB t) :
 Calls prog 84 #[.pointer (some ⟨p, 0, none⟩), .agg (kl t).toArray] w fun e w' => e = .returned (.bool true) /\ Below w.heap.size w w' := by
 have A := a.below (aE (aI w) (oK t))
 have M : bM (w.alloc (oK t)) w.heap.size t := aD w (oK t)
 have hB := aE (aI w) (oK t)
 clear a
 go_enter func84, ntmps84
 go_upto_region 1 with (fail)
 rw [eI]
 generalize (w.alloc (oK t)) = W at *
 go_wp2_with fail
 go_loopw [5] (fun i wr => ∃ j : Int, 0 <= j /\ j <= 9 /\ i = .int .u32 (4 * j) /\ cJ wr p dB t /\ bM wr w.heap.size t /\ Below w.heap.size w wr) (fun i wr => (36 - intOf i).toNat)
 case atStart => exact ⟨0, by omega, by omega, rfl, A, M, hB⟩
 case round =>
  clear A M hB
  obtain ⟨j, j0, j4, rfl, A, M, hB⟩ := hrel
  by_cases hlt : j < 9
  . have q : 4 * j < 36 := by omega
    obtain ⟨V, hV⟩ : ∃ V, t.valE (4 * j) = V := ⟨_, rfl⟩
    obtain ⟨E, hE⟩ : ∃ E, bA (4 * j) = E := ⟨_, rfl⟩
    have CL := Hd (fun w a => by have := aJQ t (4 * j) p w h a (by omega) (by omega); rw [hV, hE] at this; exact this)
    have RL := Hd (fun w => by have := lJ t (4 * j) w h (by omega) (by omega); rw [hV, hE] at this; exact this)
    have zV : (V != V) = false := by simp
    have zE : (E != E) = false := by simp
    clear hV hE
    go_wp2_with fail
    refine (CL.out _ A).mono ?_
    rintro e w1 ⟨rfl, hb⟩
    have A1 := A.below hb
    have M1 := M.below hb
    have B1 := tr hB hb
    clear A M hB hb CL
    go_wp2_with (refine cW rfl (.tmp 3) rfl rfl M1 ?_)
    refine (RL.out _).mono ?_
    rintro e w2 ⟨rfl, hb⟩
    have A := A1.below hb
    have M := M1.below hb
    have B := tr B1 hb
    clear A1 M1 B1 hb RL
    go_wp2_with fail
    go_roundw
    case rel => exact ⟨j + 1, by omega, by omega, by go_num, A, M, B⟩
    case measure => simp [intOf]; omega
  . obtain rfl : j = 9 := by omega
    have m1 := M.c1
    have m3 := M.c3
    have m7 := M.c7
    have SE := Hd (fun w a => aEe t p w a)
    have RE := Hd (fun w a => aNI t p w a)
    have LI := Hd (fun w a => aJ4 t p w a)
    obtain ⟨X, hX⟩ : ∃ X, t.alarm = X := ⟨_, rfl⟩
    obtain ⟨Y, hY⟩ : ∃ Y, t.met = Y := ⟨_, rfl⟩
    obtain ⟨Z, hZ⟩ : ∃ Z, t.left = Z := ⟨_, rfl⟩
    have AL := Hd (fun w a => by have := aLZ t p w a; rw [hX] at this; exact this)
    have KA := Hd (fun w => by have := aBv t w h; rw [hX] at this; exact this)
    have ME := Hd (fun w a => by have := aNY t p w h a; rw [hY] at this; exact this)
    have KM := Hd (fun w => by have := aIA t w h; rw [hY] at this; exact this)
    have LF := Hd (fun w a => by have := aNm t p w h a; rw [hZ] at this; exact this)
    have KL := Hd (fun w => by have := aNp t w h; rw [hZ] at this; exact this)
    have HA := Hd A
    have HM := Hd M
    have hg := bI
    have hlt := M.lt
    have z0 := beq_self_eq_true t.sec
    have z1 := beq_self_eq_true t.rest
    have z2 := beq_self_eq_true X
    have z3 : (Y == Y) = true := by simp
    have z4 : (t.st == t.st) = true := by simp
    have z5 := beq_self_eq_true Z
    clear A M hX hY hZ h
    go_wp2_with fail
    refine wp_region_quiet_below (by kernel_rfl) (by kernel_rfl) ?_
    repeat (first
     | go_big_quiet_skip
     | (go_big_quiet_want; first
         | (refine aCG (.tmp 3) rfl rfl HM.out.grown ?_; go_simp; go_big_quiet_on)
         | (go_big_quiet_op; first
             | go_big_quiet_on
             | go_big_quiet_call (first
                | (go_at_call 154; exact Calls.regrown_of (SE.out _ (HA.out.below (below_regrown wr _ _))))
                | (go_at_call 155; exact Calls.regrown_of (RE.out _ (HA.out.below (below_regrown wr _ _))))
                | (go_at_call 156; exact Calls.regrown_of (AL.out _ (HA.out.below (below_regrown wr _ _))))
                | (go_at_call 158; exact Calls.regrown_of (ME.out _ (HA.out.below (below_regrown wr _ _))))
                | (go_at_call 119; exact Calls.regrown_of (LI.out _ (HA.out.below (below_regrown wr _ _))))
                | (go_at_call 160; exact Calls.regrown_of (LF.out _ (HA.out.below (below_regrown wr _ _))))
                | (go_at_call 157; exact Calls.regrown_of (KA.out _))
                | (go_at_call 159; exact Calls.regrown_of (KM.out _))
                | (go_at_call 161; exact Calls.regrown_of (KL.out _))))))
    refine wpQuiet_nil ?_
    intro _ hw'
    obtain ⟨⟨dq, osq⟩, hw''⟩ := hw'
    subst hw''
    go_wp2_with fail
    go_ret
    exact ⟨bX (by simp), trG hB _ _⟩
end Go.Proofs.YtpojmmgokgamgaaGreat.B
