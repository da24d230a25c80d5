/- Several texts in one: Layer 17's laws: ChainGoes (written by gen_jgoes.py). Layer 17's laws: ChainTakes (written by gen_jtakes.py). -/
import Derived.Test.YtopkmjiilnoeeaaZAao
import Derived.Test.YtopkmjiilnoeeaaZAap
namespace Go.Proofs.Ytopkmjiilnoeeaa.B
set_option linter.unusedVariables false
set_option linter.unusedSimpArgs false
set_option maxRecDepth 100000
open Go.ChangeShapes Go.WideShapes Go.RowKit Go.Sort
theorem num_mod17 (a : Int) (m : Nat) (h1 : 1 ≤ m) (h2 : m ≤ 4096) : ∃ N : Nat, wrap64 (1 + wrap64 ((IntKind.u64.wrap a).tmod (m : Int))) = (N : Int) ∧ 1 ≤ N ∧ N ≤ m := by
 have h0 : 0 ≤ IntKind.u64.wrap a ∧ IntKind.u64.wrap a < 18446744073709551616 := by
  have := bounds_u64 (wf_wrap .u64 a)
  omega
 have hm := Int.emod_lt_of_pos (IntKind.u64.wrap a) (show (0 : Int) < m by omega)
 have hn := Int.emod_nonneg (IntKind.u64.wrap a) (show (m : Int) ≠ 0 by omega)
 refine ⟨(1 + (IntKind.u64.wrap a) % (m : Int)).toNat, ?_, by omega, by omega⟩
 rw [Int.tmod_eq_emod_of_nonneg h0.1]
 unfold wrap64
 omega
theorem neSame (k : Kp) (w : World) : (binOp .neq 27 (.agg #[.int .i64 k.1, .int .i64 k.2]) (.agg #[.int .i64 k.1, .int .i64 k.2])).run Try.prog w = .ok (.bool false) w := by
 have h := runKpN k k w
 rw [decide_eq_true rfl] at h
 exact h
theorem neGuard (x y : Operand) (k : Kp) (w : World) : (eqGuard .neq 27 x y (.agg #[.int .i64 k.1, .int .i64 k.2]) (.agg #[.int .i64 k.1, .int .i64 k.2])).run Try.prog w = .ok () w := guardKpN x y k k w
set_option maxHeartbeats 25600000 in
theorem jGoes {R : ChainR Kp} {RS : ChainR Ks} (C : ChainC R) (CK : ChainS RS) (a : Int) (y : Option Addr) (len cap0 : Nat) (zs : Nat → Aj) (w : World) (ha : i64r a) (hc0 : len ≤ cap0) (hy : RowAj w y len cap0 zs) :
 Calls Try.prog 4 #[.int .i64 a, .slice y len cap0] w fun e w' => e = .returned (.bool true) ∧ Below w.heap.size w w' := by
 have HC := Lib.hid C
 have HKn := Lib.hid (fun w' => jKnown CK w')
 have HY := Lib.hid hy
 clear C CK hy
 obtain ⟨a0, a1⟩ := ha
 obtain ⟨n, hN, n0, n40⟩ := num_mod17 a 40 (by decide) (by decide)
 replace hN : wrap64 (1 + wrap64 ((IntKind.u64.wrap a).tmod 40)) = (n : Int) := hN
 have n1 : n ≤ 4096 := by omega
 go_enter Try.func4, Try.ntmps4
 go_wp2_with fail
 simp only [hN]
 clear hN a0 a1
 refine (HC.out.K.new n w n0 n1).mono ?_
 rintro e w1 ⟨p, S0, rfl, h1, h2, h3⟩
 have HA := Lib.hid (show ∃ S, PK R w w1 p S n [] (.slice none 0 0) [] from ⟨S0, ⟨h1, h2, h3⟩, tr_nil _ _, fun g hg => by cases hg⟩)
 have HO := Lib.hid (show KsOk n [] from ⟨ChOk.nil n, fun x h => by cases h⟩)
 clear h1 h2 h3
 go_wp2_with fail
 go_loopw [7] (fun vi wr => ∃ (i : Nat) (L : List (Kp × Int)), i ≤ len ∧ i ≤ 80 ∧ vi = .int .i64 i ∧ Hid (∃ S, PK R w wr p S n L (.slice none 0 0) []) ∧ Hid (KsOk n L)) (fun vi wr => len - (intOf vi).toNat)
 case atStart => exact ⟨0, [], by omega, by omega, rfl, HA, HO⟩
 case round =>
  clear HA HO
  obtain ⟨i, L, hi, hi2, rfl, HA, HO⟩ := hrel
  rename_i wr
  by_cases hlt : i < len ∧ i < 80
  · obtain ⟨hl1, hl2⟩ := hlt
    have e5 : decide ((i : Int) < (len : Int)) = true := decide_eq_true (by omega)
    have e6 : decide ((i : Int) < 80) = true := decide_eq_true (by omega)
    have e5n : decide (i < len) = true := decide_eq_true hl1
    obtain ⟨z, off, rfl, cz1, cz2, cz3, cz4⟩ := HY.out.resolve_left (by omega)
    obtain ⟨hok, hcells⟩ := cz4 i hl1
    have HLo := Lib.hid (show Below w.heap.size w wr from by obtain ⟨S1, A1⟩ := HA.out; exact A1.K.lo)
    have HI := Lib.hid ((inAj_of (w := w) (g := z) (o := off + i * 4) (a := zs i) hcells).below HLo.out)
    have HOK := Lib.hid hok
    unfold maxLen at cz2
    clear cz4 hcells hok cz3
    obtain ⟨x, hx⟩ : ∃ x, zs i = x := ⟨_, rfl⟩
    rw [hx] at HI HOK
    clear hx
    have i0 : 0 ≤ (i : Int) := by omega
    have i1 : (i : Int) < (len : Int) := by omega
    go_upto_region 9 with (first
     | (refine ldAj rfl (.tmp 45) rfl rfl HI.out ?_)
     | (rw [zeros4]; refine stAj rfl (.tmp 8) (.tmp 46) rfl rfl rfl (show (wr.alloc (oAj ajz)).heap[wr.heap.size]? = some (oAj ajz) from blk_new wr _) ?_; intro w3 h3 ho; have HA3 := Lib.hid (show ∃ S, PJ R w w3 p S n L (.slice none 0 0) [] wr.heap.size x from by
         obtain ⟨S1, A1⟩ := HA.out
         exact ⟨S1, A1.act (Off.toBelow (trA (tr0 wr) (oAj ajz)) ho (fun j hj e => by omega) (Nat.le_refl _)) h3⟩); clear h3 ho))
    generalize wr.heap.size = ba at *
    clear HA HI HLo
    simp only [Act.put]
    obtain ⟨S3, A3⟩ := HA3.out
    obtain ⟨cK, cI, ca, cb, lba⟩ := ajC A3.A
    have hkind : x.K = 0 ∨ x.K = 2 ∨ x.K = 1 ∨ (¬ x.K = 0 ∧ ¬ x.K = 2 ∧ ¬ x.K = 1) := by omega
    rcases hkind with hk | hk | hk | hk
    case' inl =>
     have fk0 : (x.K == 0) = true := by simpa using hk
     clear hk
     go_wp2_with fail
     refine (HC.out.K.push w3 p S3 n L x.k x.I (A3.K.cin n0 n1 HO.out.1 HO.out.2) HOK.out.k HOK.out.I).mono ?_
     rintro e w4 ⟨rfl, hv⟩
     have HB := Lib.hid (show ∃ S, PJ R w w4 p S n (chPush n L x.k x.I) (.slice none 0 0) [] ba x from by obtain ⟨S5, A5, _, _⟩ := A3.left hv; exact ⟨S5, A5⟩)
     have HO2 := Lib.hid (HO.out.push HOK.out.k x.I)
     clear hv A3 HA3 cK cI ca cb lba
     generalize chPush n L x.k x.I = L2 at *
     generalize chCan n L x.I = bb at *
    case' inr.inl =>
     have fk0 : (x.K == 0) = false := by rw [hk]; rfl
     have fk2 : (x.K == 2) = true := by simpa using hk
     clear hk
     go_wp2_with fail
     refine (HC.out.K.push w3 p S3 n L x.k x.I (A3.K.cin n0 n1 HO.out.1 HO.out.2) HOK.out.k HOK.out.I).mono ?_
     rintro e w4 ⟨rfl, hv⟩
     have HB := Lib.hid (show ∃ S, PJ R w w4 p S n (chPush n L x.k x.I) (.slice none 0 0) [] ba x from by obtain ⟨S5, A5, _, _⟩ := A3.left hv; exact ⟨S5, A5⟩)
     have HO2 := Lib.hid (HO.out.push HOK.out.k x.I)
     clear hv A3 HA3 cK cI ca cb lba
     generalize chPush n L x.k x.I = L2 at *
     generalize chCan n L x.I = bb at *
    case' inr.inr.inl =>
     have fk0 : (x.K == 0) = false := by rw [hk]; rfl
     have fk2 : (x.K == 2) = false := by rw [hk]; rfl
     have fk1 : (x.K == 1) = true := by simpa using hk
     clear hk
     go_wp2_with fail
     refine (HC.out.K.remove w3 p S3 n L x.I (A3.K.cin n0 n1 HO.out.1 HO.out.2) HOK.out.I).mono ?_
     rintro e w4 ⟨rfl, hv⟩
     have HB := Lib.hid (show ∃ S, PJ R w w4 p S n (chRem L x.I) (.slice none 0 0) [] ba x from by obtain ⟨S5, A5, _, _⟩ := A3.left hv; exact ⟨S5, A5⟩)
     have HO2 := Lib.hid (HO.out.rem x.I)
     clear hv A3 HA3 cK cI ca cb lba
     generalize chRem L x.I = L2 at *
     generalize chHas L x.I = bb at *
    case' inr.inr.inr =>
     obtain ⟨hk0, hk2, hk1⟩ := hk
     have fk0 : (x.K == 0) = false := by simpa using hk0
     have fk2 : (x.K == 2) = false := by simpa using hk2
     have fk1 : (x.K == 1) = false := by simpa using hk1
     clear hk0 hk1 hk2
     have HB := HA3
     have HO2 := HO
     obtain ⟨L2, hL2⟩ : ∃ L2, L2 = L := ⟨_, rfl⟩
     rw [← hL2] at HB HO2
     clear HA3 A3 hL2
    all_goals
     obtain ⟨S4, A4⟩ := HB.out
     obtain ⟨cK, cI, ca, cb, lba⟩ := ajC A4.A
     have HF := Lib.hid (HC.out.first _ p S4 n L2 x.k (A4.K.cin n0 n1 HO2.out.1 HO2.out.2) HOK.out.k)
     obtain ⟨l, hl⟩ : ∃ l, chAll L2 x.k = l := ⟨_, rfl⟩
     have HL := Lib.hid hl
     rw [hl] at HF
     have hll : l.length ≤ n := by rw [← hl]; have := chAll_le L2 x.k; have := HO2.out.1.len; omega
     have HB4 := Lib.hid A4
     clear A4 HB hl
     go_wp2_with fail
     refine HF.out.mono ?_
     rintro e w5 ⟨rfl, hv⟩
     have HB := Lib.hid (show ∃ S, PJ R w w5 p S n L2 (.slice none 0 0) [] ba x from by obtain ⟨S5, A5, _, _⟩ := HB4.out.left hv; exact ⟨S5, A5⟩)
     clear hv HF HB4 cK cI ca cb lba
     obtain ⟨m, hm⟩ : ∃ m, l.length = m := ⟨_, rfl⟩
     have HM := Lib.hid hm
     rw [hm] at hll
     clear hm
     go_wp2_with fail
     go_loopw [9, 10] (fun vn vx wr2 => ∃ (j : Nat), j ≤ m ∧ vn = .int .i64 j ∧ Hid (vx = .int .i64 (chFst (l.drop j))) ∧ Hid (∃ S, PJ R w wr2 p S n L2 (.slice none 0 0) [] ba x)) (fun vn vx wr2 => m - (intOf vn).toNat)
     case atStart => exact ⟨0, Nat.zero_le _, rfl, Lib.hid (by rw [List.drop_zero]), HB⟩
     case round =>
      clear HB
      obtain ⟨j, hj, rfl, HX, HB⟩ := hrel
      obtain rfl := HX.out
      rcases chFst_drop l j with ⟨q, hq, hfq⟩ | ⟨hjm, hfq⟩
      · have hjm : j < m := by have := (List.getElem?_eq_some_iff.1 hq).1; have := HM.out; omega
        have hmem : (x.k, q) ∈ L2 := (chAll_mem L2 x.k q).1 (by rw [HL.out]; exact List.mem_of_getElem? hq)
        have hqr := HO2.out.1.rg _ hmem
        have q0 : 0 ≤ q := hqr.1
        have hd0 : decide (0 ≤ q) = true := decide_eq_true q0
        have hqi : i64r q := ⟨by omega, by have := hqr.2; omega⟩
        have hkq := chKey_of HO2.out.1 hmem
        have hhq : chHas L2 q = true := by rw [chHas_key, hkq]; rfl
        have HNx := Lib.hid (show chNext L2 q = chFst (l.drop (j + 1)) from by rw [chNext_step HO2.out.1 x.k (j := j) (by rw [HL.out]; exact hq), HL.out])
        have HKy := Lib.hid (fun (w' : World) (S : Nat → Prop) (A : CS R w w' p S n L2) => HC.out.key w' p S n L2 q (A.cin n0 n1 HO2.out.1 HO2.out.2) hqi)
        rw [hkq, hhq] at HKy
        have HNt := Lib.hid (fun (w' : World) (S : Nat → Prop) (A : CS R w w' p S n L2) => HC.out.next w' p S n L2 q (A.cin n0 n1 HO2.out.1 HO2.out.2) hqi)
        rw [HNx.out] at HNt
        rw [hfq]
        obtain ⟨S4, A4⟩ := HB.out
        have HB4 := Lib.hid A4
        clear hq hfq hmem hqr hqi hkq hhq A4 HB HX HNx
        go_wp2_with fail
        refine (HKy.out _ S4 HB4.out.K).mono ?_
        rintro e w6 ⟨he, hv⟩
        change e = Ending.returned (.tuple #[.agg #[.int .i64 x.k.1, .int .i64 x.k.2], .bool true]) at he
        subst he
        obtain ⟨S5, A5, _, _⟩ := HB4.out.left hv
        have hbb := trA (tr0 w6) (oKp x.k)
        have HB5 := Lib.hid (A5.below hbb)
        have HQ := Lib.hid (show KeyAt (w6.alloc (oKp x.k)) w6.heap.size x.k from blk_new w6 _)
        clear hv A5 hbb HB4 HKy
        go_upto_region 20 with (fail)
        rw [show Obj.cells #[Value.int .i64 x.k.1, .int .i64 x.k.2] 27 (0, 0) = oKp x.k from rfl]
        generalize w6.alloc (oKp x.k) = W2 at *
        generalize w6.heap.size = bk at *
        obtain ⟨hbk, q1, q2⟩ := HQ.out.c
        obtain ⟨cK, cI, ca, cb, lba⟩ := ajC HB5.out.A
        have hne := neSame x.k
        have hng := neGuard (.tmp 84) (.tmp 86) x.k
        have hgt : decide ((n : Int) < (j : Int) + 1) = false := decide_eq_false (by omega)
        go_wp2_with fail
        refine (HNt.out _ S5 HB5.out.K).mono ?_
        rintro e w7 ⟨rfl, hv⟩
        have HB := Lib.hid (show ∃ S, PJ R w w7 p S n L2 (.slice none 0 0) [] ba x from by obtain ⟨S6, A6, _, _⟩ := HB5.out.left hv; exact ⟨S6, A6⟩)
        clear hv HB5 HQ HNt hbk q1 q2 hne hng cK cI ca cb lba
        go_wp2_with fail
        go_roundw
        case rel => exact ⟨j + 1, by omega, by go_num, Lib.hid rfl, HB⟩
        case measure => simp [intOf]; omega
      · have hjm2 : j = m := by have := HM.out; omega
        subst hjm2
        rw [hfq]
        clear hfq HX hjm
        have HLen := Lib.hid (fun (w' : World) (S : Nat → Prop) (A : CS R w w' p S n L2) => HC.out.len w' p S n L2 x.k (A.cin n0 n1 HO2.out.1 HO2.out.2) HOK.out.k)
        rw [HL.out, HM.out] at HLen
        have HTot := Lib.hid (fun (w' : World) (S : Nat → Prop) (A : CS R w w' p S n L2) => HC.out.total w' p S n L2 (A.cin n0 n1 HO2.out.1 HO2.out.2))
        have HCn := Lib.hid (chCnt_all HO2.out.1)
        go_wp2_with fail
        go_loopw [13, 14] (fun vc vx wr3 => ∃ (q : Nat), q ≤ n ∧ vx = .int .i64 q ∧ Hid (vc = .int .i64 (chCnt L2 q)) ∧ Hid (∃ S, PJ R w wr3 p S n L2 (.slice none 0 0) [] ba x)) (fun vc vx wr3 => n - (intOf vx).toNat)
        case atStart => exact ⟨0, Nat.zero_le _, rfl, Lib.hid rfl, HB⟩
        case round =>
         clear HB
         obtain ⟨q, hqn, rfl, HX, HB⟩ := hrel
         obtain rfl := HX.out
         by_cases hlq : q < n
         · have hqi : i64r (q : Int) := ⟨by omega, by omega⟩
           obtain ⟨S4, A4⟩ := HB.out
           have HKy := Lib.hid (HC.out.key _ p S4 n L2 (q : Int) (A4.K.cin n0 n1 HO2.out.1 HO2.out.2) hqi)
           have HB4 := Lib.hid A4
           obtain ⟨kk, hkk⟩ : ∃ kk, (chKey L2 (q : Int)).getD (0, 0) = kk := ⟨_, rfl⟩
           rw [hkk] at HKy
           obtain ⟨bq, hbq⟩ : ∃ bq, chHas L2 (q : Int) = bq := ⟨_, rfl⟩
           rw [hbq] at HKy
           have HCs := Lib.hid (show chCnt L2 (q + 1) = chCnt L2 q + (if bq = true then 1 else 0) from by rw [← hbq]; rfl)
           have hcl := chCnt_le L2 q
           have hcl2 := chCnt_le L2 (q + 1)
           clear hkk hbq A4 HB HX hqi
           go_wp2_with fail
           refine HKy.out.mono ?_
           rintro e w6 ⟨he, hv⟩
           change e = Ending.returned (.tuple #[.agg #[.int .i64 kk.1, .int .i64 kk.2], .bool bq]) at he
           subst he
           obtain ⟨S5, A5, _, _⟩ := HB4.out.left hv
           have HB := Lib.hid (show ∃ S, PJ R w (w6.alloc (oKp kk)) p S n L2 (.slice none 0 0) [] ba x from ⟨S5, A5.below (trA (tr0 w6) (oKp kk))⟩)
           clear hv A5 HB4 HKy
           cases bq with
           | true =>
             have HC2 := Lib.hid (show ((chCnt L2 (q + 1) : Nat) : Int) = (chCnt L2 q : Nat) + 1 from by have : chCnt L2 (q + 1) = chCnt L2 q + 1 := HCs.out; omega)
             go_wp2_with fail
             go_roundw
             case rel => exact ⟨q + 1, by omega, by go_num, Lib.hid (by rw [HC2.out]), HB⟩
             case measure => simp [intOf]; omega
           | false =>
             have HC2 := Lib.hid (show chCnt L2 (q + 1) = chCnt L2 q from HCs.out)
             go_wp2_with fail
             go_roundw
             case rel => exact ⟨q + 1, by omega, by go_num, Lib.hid (by rw [HC2.out]), HB⟩
             case measure => simp [intOf]; omega
         · obtain rfl : q = n := by omega
           rw [HCn.out]
           obtain ⟨S4, A4⟩ := HB.out
           obtain ⟨cK, cI, ca, cb, lba⟩ := ajC A4.A
           have HB4 := Lib.hid A4
           clear HX HB A4
           go_wp2_with fail
           refine (HLen.out _ S4 HB4.out.K).mono ?_
           rintro e w6 ⟨rfl, hv⟩
           obtain ⟨S5, A5, _, _⟩ := HB4.out.left hv
           have HB5 := Lib.hid A5
           clear hv A5 HB4 cK cI ca cb lba
           go_wp2_with fail
           refine (HTot.out _ S5 HB5.out.K).mono ?_
           rintro e w7 ⟨rfl, hv⟩
           have HB := Lib.hid (HB5.out.pk.left hv)
           clear hv HB5
           go_wp2_with fail
           go_roundw
           case rel => exact ⟨i + 1, L2, by omega, by omega, by go_num, HB, HO2⟩
           case measure => simp [intOf]; omega
  · have HLo := Lib.hid (show ∀ w9, Below wr.heap.size wr w9 → Below w.heap.size w w9 from fun w9 hb => by obtain ⟨S1, A1⟩ := HA.out; exact tr A1.K.lo hb)
    by_cases h5 : i < len
    · have e6 : decide ((i : Int) < (len : Int)) = true := decide_eq_true (by omega)
      have e7 : decide ((i : Int) < 80) = false := decide_eq_false (by omega)
      have e8 : decide (i < len) = true := decide_eq_true h5
      clear hlt
      go_wp2_with fail
      refine (HKn.out _).mono ?_
      rintro e w9 ⟨rfl, hb⟩
      have HB := Lib.hid (HLo.out w9 hb)
      clear hb HA HLo
      go_wp2_with fail
      go_ret
      exact ⟨rfl, HB.out⟩
    · have e6 : decide ((i : Int) < (len : Int)) = false := decide_eq_false (by omega)
      have e8 : decide (i < len) = false := decide_eq_false h5
      clear hlt
      go_wp2_with fail
      refine (HKn.out _).mono ?_
      rintro e w9 ⟨rfl, hb⟩
      have HB := Lib.hid (HLo.out w9 hb)
      clear hb HA HLo
      go_wp2_with fail
      go_ret
      exact ⟨rfl, HB.out⟩
set_option maxHeartbeats 25600000 in
theorem jTakes {R : ChainR Kp} {RS : ChainR Ks} (C : ChainC R) (CK : ChainS RS) (a : Int) (y : Option Addr) (len cap0 : Nat) (zs : Nat → Aj) (ka kb : Kp) (w : World) (ha : i64r a) (hka : okk ka) (hkb : okk kb) (hc0 : len ≤ cap0) (hy : RowAj w y len cap0 zs) :
 Calls Try.prog 6 #[.int .i64 a, .slice y len cap0, kv ka, kv kb] w fun e w' => e = .returned (.bool true) ∧ Below w.heap.size w w' := by
 have HC := Lib.hid C
 have HKn := Lib.hid (fun w' => jKnown CK w')
 have HY := Lib.hid hy
 have HKA := Lib.hid hka
 have HKB := Lib.hid hkb
 clear C CK hy hka hkb
 obtain ⟨a0, a1⟩ := ha
 obtain ⟨n, hN, n0, n40⟩ := num_mod17 a 40 (by decide) (by decide)
 replace hN : wrap64 (1 + wrap64 ((IntKind.u64.wrap a).tmod 40)) = (n : Int) := hN
 have n1 : n ≤ 4096 := by omega
 have hb1 := trA (tr0 w) (oKp ka)
 have hb2 := trA (tr0 (w.alloc (oKp ka))) (oKp kb)
 have e1 : (w.alloc (oKp ka)).heap.size = w.heap.size + 1 := by simp
 have q7 := blk_new (w.alloc (oKp ka)) (oKp kb)
 rw [e1] at q7
 have HQ := Lib.hid (show KeyAt ((w.alloc (oKp ka)).alloc (oKp kb)) w.heap.size ka ∧ KeyAt ((w.alloc (oKp ka)).alloc (oKp kb)) (w.heap.size + 1) kb ∧ Below w.heap.size w ((w.alloc (oKp ka)).alloc (oKp kb)) from
  ⟨KeyAt.below (blk_new w _) hb2, q7, tr hb1 hb2⟩)
 clear hb1 hb2 e1 q7
 show Calls Try.prog 6 #[.int .i64 a, .slice y len cap0, .agg #[.int .i64 ka.1, .int .i64 ka.2], .agg #[.int .i64 kb.1, .int .i64 kb.2]] w _
 go_enter Try.func6, Try.ntmps6
 go_upto_region 1 with (fail)
 rw [show Obj.cells #[Value.int .i64 ka.1, .int .i64 ka.2] 27 (0, 0) = oKp ka from rfl, show Obj.cells #[Value.int .i64 kb.1, .int .i64 kb.2] 27 (0, 0) = oKp kb from rfl]
 generalize (w.alloc (oKp ka)).alloc (oKp kb) = W at *
 go_wp2_with fail
 simp only [hN]
 clear hN a0 a1
 refine (HC.out.K.new n W n0 n1).mono ?_
 rintro e w1 ⟨p, S0, rfl, h1, h2, h3⟩
 have HA := Lib.hid (show ∃ S L, TK R w w1 p S n L w.heap.size (w.heap.size + 1) ka kb ∧ KsOk n L from by
  have l6 := lt_of_block HQ.out.1
  have l7 := lt_of_block HQ.out.2.1
  exact ⟨S0, [], ⟨⟨h1, fun k hk => Nat.le_trans HQ.out.2.2.size (h2 k hk), (HQ.out.2.2).trans (h3.mono HQ.out.2.2.size)⟩, HQ.out.1.below h3, fun h => by have := h2 _ h; omega, HQ.out.2.1.below h3, fun h => by have := h2 _ h; omega⟩, ChOk.nil n, fun x h => by cases h⟩)
 clear h1 h2 h3 HQ
 go_wp2_with fail
 go_loopw [11] (fun vi wr => ∃ (i : Nat), i ≤ len ∧ i ≤ 80 ∧ vi = .int .i64 i ∧ Hid (∃ S L, TK R w wr p S n L w.heap.size (w.heap.size + 1) ka kb ∧ KsOk n L)) (fun vi wr => len - (intOf vi).toNat)
 case atStart => exact ⟨0, by omega, by omega, rfl, HA⟩
 case round =>
  clear HA
  obtain ⟨i, hi, hi2, rfl, HA⟩ := hrel
  rename_i wr
  obtain ⟨S1, L, A1, HO1⟩ := HA.out
  have HO := Lib.hid HO1
  have HB1 := Lib.hid A1
  clear HA HO1
  by_cases hlt : i < len ∧ i < 80
  · obtain ⟨hl1, hl2⟩ := hlt
    have e5 : decide ((i : Int) < (len : Int)) = true := decide_eq_true (by omega)
    have e6 : decide ((i : Int) < 80) = true := decide_eq_true (by omega)
    have e5n : decide (i < len) = true := decide_eq_true hl1
    obtain ⟨z, off, rfl, cz1, cz2, cz3, cz4⟩ := HY.out.resolve_left (by omega)
    obtain ⟨hok, hcells⟩ := cz4 i hl1
    obtain ⟨x, hx⟩ : ∃ x, zs i = x := ⟨_, rfl⟩
    rw [hx] at hok hcells
    have HOK := Lib.hid hok
    have cI := ((A1.K.lo).cell (p := ⟨z, off + i * 4 + 1, none⟩) cz3).trans (hcells 1 _ rfl)
    have ca := ((A1.K.lo).cell (p := ⟨z, off + i * 4 + 2, none⟩) cz3).trans (hcells 2 _ rfl)
    have cb := ((A1.K.lo).cell (p := ⟨z, off + i * 4 + 3, none⟩) cz3).trans (hcells 3 _ rfl)
    have lz := Nat.lt_of_lt_of_le cz3 A1.K.lo.size
    unfold maxLen at cz2
    have HPu := Lib.hid (fun (w' : World) (A : CS R w w' p S1 n L) => HC.out.K.push w' p S1 n L x.k x.I (A.cin n0 n1 HO.out.1 HO.out.2) HOK.out.k HOK.out.I)
    have HO2 := Lib.hid (HO.out.push HOK.out.k x.I)
    clear cz4 hcells hok cz3 A1 hx
    have i0 : 0 ≤ (i : Int) := by omega
    have i1 : (i : Int) < (len : Int) := by omega
    have hgc := gcell
    go_upto_region 8 with (fail)
    refine wp_region_tail_below 11 (by kernel_rfl) (by kernel_rfl) ?_
    simp only [List.take_succ_cons, List.take_zero, List.drop_succ_cons, List.drop_zero]
    repeat (first | go_big_quiet_step (fail) | (refine wpQuiet_nil ?_))
    intro _ hw'
    obtain ⟨⟨dq, osq⟩, hw''⟩ := hw'
    subst hw''
    have HB2 := Lib.hid (HB1.out.below (below_regrown wr dq osq))
    clear hgc cI ca cb lz HB1
    dsimp only at HB2 ⊢
    generalize grow (redrawn wr dq) osq = W3 at *
    go_wp2_with fail
    refine (HPu.out W3 HB2.out.K).mono ?_
    rintro e w5 ⟨rfl, hv⟩
    have HA := Lib.hid (show ∃ S L, TK R w w5 p S n L w.heap.size (w.heap.size + 1) ka kb ∧ KsOk n L from by
     obtain ⟨S5, h1, h2, h3⟩ := hv
     exact ⟨S5, _, HB2.out.leftOf h1 h2 h3, HO2.out⟩)
    clear hv HB2 HPu HO2
    go_wp2_with fail
    go_roundw
    case rel => exact ⟨i + 1, by omega, by omega, by go_num, HA⟩
    case measure => simp [intOf]; omega
  · clear A1
    have HIN := Lib.hid (fun (w' : World) (S : Nat → Prop) (A : CS R w w' p S n L) => A.cin n0 n1 HO.out.1 HO.out.2)
    have hor : (i < len ∧ ¬ i < 80) ∨ ¬ i < len := by omega
    have hLn : L.length ≤ n := HO.out.1.len
    have HTl := Lib.hid (chTake_len L ka)
    have HOt := Lib.hid (HO.out.take ka)
    clear hlt
    rcases hor with ⟨h5, h6⟩ | h5
    case' inl =>
     have e6 : decide ((i : Int) < (len : Int)) = true := decide_eq_true (by omega)
     have e7 : decide ((i : Int) < 80) = false := decide_eq_false (by omega)
     have e8 : decide (i < len) = true := decide_eq_true h5
     go_wp2_with fail
     clear e6 e7 e8 h5 h6
    case' inr =>
     have e6 : decide ((i : Int) < (len : Int)) = false := decide_eq_false (by omega)
     have e8 : decide (i < len) = false := decide_eq_false h5
     go_wp2_with fail
     clear e6 e8 h5
    all_goals
     refine (HC.out.total _ p S1 n L (HIN.out _ _ HB1.out.K)).mono ?_
     rintro e w2 ⟨rfl, hv⟩
     obtain ⟨S2, h1, h2, h3⟩ := hv
     have HB2 := Lib.hid (HB1.out.leftOf h1 h2 h3)
     clear h1 h2 h3 HB1
     obtain ⟨c60, c61, c62, c70, c71, c72⟩ := HB2.out.c
     go_wp2_with fail
     refine (HC.out.K.all _ p S2 n L kb (HIN.out _ _ HB2.out.K) HKB.out).mono ?_
     rintro e w3 ⟨vo, rfl, hv⟩
     obtain ⟨S3, h1, h2, h3, hr, hg⟩ := hv
     have HB3 := Lib.hid (HB2.out.leftOf h1 h2 h3)
     have HRvo := Lib.hid (show Ro w3 S3 vo _ from ⟨hr, fun g h => ⟨(hg g h).2.1, (hg g h).2.2⟩⟩)
     clear h1 h2 h3 HB2 hr hg
     clear c60 c61 c62 c70 c71 c72
     obtain ⟨c60, c61, c62, c70, c71, c72⟩ := HB3.out.c
     go_wp2_with fail
     refine (HC.out.take _ p S3 n L ka (HIN.out _ _ HB3.out.K) HKA.out).mono ?_
     rintro e w4 ⟨vl, rfl, hv⟩
     obtain ⟨S4, h1, h2, h3, hr, hg⟩ := hv
     have HB4 := Lib.hid (HB3.out.leftOf h1 h2 h3)
     replace HRvo := Lib.hid (HRvo.out.leftOf h2 h3)
     have HRvl := Lib.hid (show Ro w4 S4 vl _ from ⟨hr, fun g h => ⟨(hg g h).2.1, (hg g h).2.2⟩⟩)
     clear h1 h2 h3 HB3 hr hg
     clear c60 c61 c62 c70 c71 c72
     obtain ⟨c60, c61, c62, c70, c71, c72⟩ := HB4.out.c
     obtain ⟨yl, cl, hvl, hl1, hl2, _⟩ := HRvl.out.1
     subst hvl
     obtain ⟨m, hm⟩ : ∃ m, (chAll L ka).length = m := ⟨_, rfl⟩
     have HM := Lib.hid hm
     rw [hm] at HRvl hl1 ⊢
     have hmL : (chTake L ka).length + m = L.length := by rw [← hm]; exact HTl.out
     unfold maxLen at hl2
     have he1 := eqKeys ka kb
     have he2 := eqKeysG (.tmp 62) (.tmp 63) ka kb
     clear hm
     obtain ⟨tn, htn⟩ : ∃ tn, (chTake L ka).length = tn := ⟨_, rfl⟩
     have HTN := Lib.hid htn
     obtain ⟨ln, hln⟩ : ∃ ln, L.length = ln := ⟨_, rfl⟩
     have HLN := Lib.hid hln
     rw [htn, hln] at hmL
     rw [hln] at hLn ⊢
     clear htn hln
     have HTot := Lib.hid (fun (w' : World) (S : Nat → Prop) (A : CS R w w' p S n (chTake L ka)) => HC.out.total w' p S n (chTake L ka) (A.cin n0 n1 HOt.out.1 HOt.out.2))
     rw [HTN.out] at HTot
     have HLen := Lib.hid (fun (w' : World) (S : Nat → Prop) (A : CS R w w' p S n (chTake L ka)) => HC.out.len w' p S n (chTake L ka) ka (A.cin n0 n1 HOt.out.1 HOt.out.2) HKA.out)
     rw [chAll_take] at HLen
     have hsub : IntKind.i64.wrap ((ln : Int) - (m : Int)) = (tn : Int) := by rw [IntKind.wrap_i64]; omega
     have hsub2 : (ln : Int) - (m : Int) = (tn : Int) := by omega
     by_cases hk : ka = kb
     · have HKK := Lib.hid hk
       have hd : decide (ka = kb) = true := decide_eq_true hk
       rw [hd] at he1
       rw [← hk] at HRvo
       clear hk hd
       go_wp2_with fail
       refine (HKn.out _).mono ?_
       rintro e w5 ⟨rfl, hb⟩
       have HB5 := Lib.hid (HB4.out.below hb)
       replace HRvo := Lib.hid (HRvo.out.below hb)
       replace HRvl := Lib.hid (HRvl.out.below hb)
       clear hb HB4 c60 c61 c62 c70 c71 c72 he1 he2
       go_wp2_with fail
       refine (jSame HRvl.out.1 HRvo.out.1).mono ?_
       rintro e w6 ⟨rfl, hb⟩
       have HB6 := Lib.hid (HB5.out.below hb)
       clear hb HB5 HRvo HRvl
       go_wp2_with fail
       refine (HTot.out _ _ HB6.out.K).mono ?_
       rintro e w7 ⟨rfl, hv⟩
       obtain ⟨S7, h1, h2, h3⟩ := hv
       have HB7 := Lib.hid (HB6.out.leftOf h1 h2 h3)
       clear h1 h2 h3 HB6
       obtain ⟨c60, c61, c62, c70, c71, c72⟩ := HB7.out.c
       go_wp2_with fail
       refine (HLen.out _ _ HB7.out.K).mono ?_
       rintro e w8 ⟨rfl, hv⟩
       obtain ⟨S8, h1, h2, h3⟩ := hv
       have HB8 := Lib.hid (HB7.out.leftOf h1 h2 h3)
       clear h1 h2 h3 HB7 c60 c61 c62 c70 c71 c72
       go_wp2_with fail
       go_ret
       exact ⟨rfl, HB8.out.K.lo⟩
     · have HNK := Lib.hid hk
       have hd : decide (ka = kb) = false := decide_eq_false hk
       rw [hd] at he1
       clear hk hd
       have HAo := Lib.hid (fun (w' : World) (S : Nat → Prop) (A : CS R w w' p S n (chTake L ka)) => HC.out.K.all w' p S n (chTake L ka) kb (A.cin n0 n1 HOt.out.1 HOt.out.2) HKB.out)
       rw [chAll_other L (fun e => HNK.out e.symm)] at HAo
       go_wp2_with fail
       refine (HAo.out _ _ HB4.out.K).mono ?_
       rintro e w5 ⟨v5, rfl, hv⟩
       obtain ⟨S5, h1, h2, h3, hr, _⟩ := hv
       have HB5 := Lib.hid (HB4.out.leftOf h1 h2 h3)
       replace HRvo := Lib.hid (HRvo.out.leftOf h2 h3)
       replace HRvl := Lib.hid (HRvl.out.leftOf h2 h3)
       have HR5 := Lib.hid hr
       clear h1 h2 h3 hr HB4 HAo c60 c61 c62 c70 c71 c72 he1 he2
       go_wp2_with fail
       refine (jSame HR5.out HRvo.out.1).mono ?_
       rintro e w6 ⟨rfl, hb⟩
       have HB6 := Lib.hid (HB5.out.below hb)
       replace HRvo := Lib.hid (HRvo.out.below hb)
       replace HRvl := Lib.hid (HRvl.out.below hb)
       clear hb HB5 HR5
       obtain ⟨c60, c61, c62, c70, c71, c72⟩ := HB6.out.c
       go_wp2_with fail
       refine (HLen.out _ _ HB6.out.K).mono ?_
       rintro e w7 ⟨rfl, hv⟩
       obtain ⟨S7, h1, h2, h3⟩ := hv
       have HB7 := Lib.hid (HB6.out.leftOf h1 h2 h3)
       replace HRvo := Lib.hid (HRvo.out.leftOf h2 h3)
       replace HRvl := Lib.hid (HRvl.out.leftOf h2 h3)
       clear h1 h2 h3 HB6 c60 c61 c62 c70 c71 c72
       go_wp2_with fail
       refine (HTot.out _ _ HB7.out.K).mono ?_
       rintro e w8 ⟨rfl, hv⟩
       obtain ⟨S8, h1, h2, h3⟩ := hv
       have HB8 := Lib.hid (HB7.out.leftOf h1 h2 h3)
       replace HRvo := Lib.hid (HRvo.out.leftOf h2 h3)
       replace HRvl := Lib.hid (HRvl.out.leftOf h2 h3)
       clear h1 h2 h3 HB7 HTot HLen
       go_wp2_with fail
       go_loopw [15] (fun vi wr2 => ∃ (j : Nat), j ≤ m ∧ vi = .int .i64 j ∧ Hid (∃ S, TK R w wr2 p S n (chTk L ka kb ((chAll L ka).take j)) w.heap.size (w.heap.size + 1) ka kb ∧ Ro wr2 S vo (chAll L kb) ∧ Ro wr2 S (.slice yl m cl) (chAll L ka)) ∧ Hid (KsOk n (chTk L ka kb ((chAll L ka).take j)))) (fun vi wr2 => m - (intOf vi).toNat)
       case atStart => exact ⟨0, Nat.zero_le _, rfl, Lib.hid ⟨S8, by rw [List.take_zero, chTk_nil]; exact HB8.out, HRvo.out, HRvl.out⟩, Lib.hid (by rw [List.take_zero, chTk_nil]; exact HOt.out)⟩
       case round =>
        clear HB8 HRvo HRvl
        obtain ⟨j, hj, rfl, HX, HOj⟩ := hrel
        obtain ⟨S9, HB9, HRo, HRl⟩ := HX.out
        have HB9 := Lib.hid HB9
        have HRo := Lib.hid HRo
        have HRl := Lib.hid HRl
        clear HX
        by_cases hjm : j < m
        · obtain ⟨q, hq⟩ : ∃ q, (chAll L ka)[j]? = some q := ⟨_, List.getElem?_eq_getElem (by rw [HM.out]; exact hjm)⟩
          obtain ⟨gl, ol, rfl, hgl, cq⟩ := HRl.out.1.cellk hq
          obtain ⟨st1, st2⟩ := chTk_step HO.out.1 ka kb hq
          have hqr := HO.out.1.rg _ ((chAll_mem L ka q).1 (List.mem_of_getElem? hq))
          have hqi : i64r q := ⟨by omega, by have := hqr.2; omega⟩
          have HPu := Lib.hid (fun (w' : World) (A : CS R w w' p S9 n (chTk L ka kb ((chAll L ka).take j))) => HC.out.K.push w' p S9 n _ kb q (A.cin n0 n1 HOj.out.1 HOj.out.2) HKB.out hqi)
          have HO2 := Lib.hid (HOj.out.push HKB.out q)
          rw [st1, st2] at HPu
          rw [st2] at HO2
          clear st1 st2 hqr hqi hq
          obtain ⟨c60, c61, c62, c70, c71, c72⟩ := HB9.out.c
          have j0 : 0 ≤ (j : Int) := by omega
          have j1 : (j : Int) < (m : Int) := by omega
          have hgc := gcell
          go_upto_region 19 with (fail)
          refine wp_region_tail_below 6 (by kernel_rfl) (by kernel_rfl) ?_
          simp only [List.take_succ_cons, List.take_zero, List.drop_succ_cons, List.drop_zero]
          repeat (first | go_big_quiet_step (fail) | (refine wpQuiet_nil ?_))
          intro _ hw'
          obtain ⟨⟨dq, osq⟩, hw''⟩ := hw'
          subst hw''
          have hbw := below_regrown wr dq osq
          have HB2 := Lib.hid (HB9.out.below hbw)
          replace HRo := Lib.hid (HRo.out.below hbw)
          replace HRl := Lib.hid (HRl.out.below hbw)
          clear hgc cq hgl c60 c61 c62 c70 c71 c72 HB9 hbw
          dsimp only at HB2 HRo HRl ⊢
          generalize grow (redrawn wr dq) osq = W3 at *
          go_wp2_with fail
          refine (HPu.out W3 HB2.out.K).mono ?_
          rintro e w9 ⟨rfl, hv⟩
          have HA := Lib.hid (show ∃ S, TK R w w9 p S n (chTk L ka kb ((chAll L ka).take (j + 1))) w.heap.size (w.heap.size + 1) ka kb ∧ Ro w9 S vo (chAll L kb) ∧ Ro w9 S (.slice (some ⟨gl, ol, none⟩) m cl) (chAll L ka) from by
           obtain ⟨S5, h1, h2, h3⟩ := hv
           exact ⟨S5, HB2.out.leftOf h1 h2 h3, HRo.out.leftOf h2 h3, HRl.out.leftOf h2 h3⟩)
          clear hv HB2 HPu HRo HRl
          go_wp2_with fail
          go_roundw
          case rel => exact ⟨j + 1, by omega, by go_num, HA, HO2⟩
          case measure => simp [intOf]; omega
        · have hjm2 : j = m := by omega
          subst hjm2
          rw [show (chAll L ka).take j = chAll L ka by rw [← HM.out, List.take_length]] at HB9 HOj
          have HAo := Lib.hid (fun (w' : World) (S : Nat → Prop) (A : CS R w w' p S n (chTk L ka kb (chAll L ka))) => HC.out.K.all w' p S n _ kb (A.cin n0 n1 HOj.out.1 HOj.out.2) HKB.out)
          rw [chTk_all HNK.out] at HAo
          have HTo := Lib.hid (fun (w' : World) (S : Nat → Prop) (A : CS R w w' p S n (chTk L ka kb (chAll L ka))) => HC.out.total w' p S n _ (A.cin n0 n1 HOj.out.1 HOj.out.2))
          rw [chTk_len, HLN.out] at HTo
          go_wp2_with fail
          refine (HKn.out _).mono ?_
          rintro e w10 ⟨rfl, hb⟩
          have HB10 := Lib.hid (HB9.out.below hb)
          replace HRo := Lib.hid (HRo.out.below hb)
          replace HRl := Lib.hid (HRl.out.below hb)
          clear hb HB9
          obtain ⟨c60, c61, c62, c70, c71, c72⟩ := HB10.out.c
          go_wp2_with fail
          refine (HAo.out _ _ HB10.out.K).mono ?_
          rintro e w11 ⟨v11, rfl, hv⟩
          obtain ⟨S11, h1, h2, h3, hr, hg⟩ := hv
          have HT11 := Lib.hid (HB10.out.leftOf h1 h2 h3)
          replace HRo := Lib.hid (HRo.out.leftOf h2 h3)
          replace HRl := Lib.hid (HRl.out.leftOf h2 h3)
          have HR11 := Lib.hid (show Ro w11 S11 v11 _ from ⟨hr, fun g h => ⟨(hg g h).2.1, (hg g h).2.2⟩⟩)
          have HBB := Lib.hid (trA (tr0 w11) (.cells #[] tI (0, 0)))
          have HE := Lib.hid (emptyI w11 w11.heap.size (Nat.le_refl _))
          obtain ⟨yo, co, hvo, _, _, _⟩ := HRo.out.1
          subst hvo
          have HLo := Lib.hid (show (chAll L kb).length + (chAll L ka).length < 4000 from by have h := chAll_le L kb; have h2 := chAll_le L ka; have h3 := HLN.out; omega)
          have HRo2 := Lib.hid (HRo.out.1.keep HBB.out)
          clear h1 h2 h3 hr hg HB10 HAo c60 c61 c62 c70 c71 c72
          go_wp2_with (first
           | (refine appIg (by kernel_rfl) (.tmp 126) (.tmp 127) rfl rfl HE.out rfl rfl HRo2.out (by have := HLo.out; simp; omega) HBB.out.size ?_; intro v12 w12 h12 ho12; have HB12 := Lib.hid (Off.toBelow HBB.out ho12 (fun k hk e => by have := (HE.out.block e).1; omega) (Nat.le_refl _)); have HI12 := Lib.hid (show IsAt w12 w11.heap.size v12 (chAll L kb) from by rw [List.nil_append] at h12; exact h12); have HRl2 := Lib.hid (HRl.out.1.keep HB12.out); clear h12 ho12)
           | (refine appIg (by kernel_rfl) (.tmp 128) (.tmp 129) rfl rfl HI12.out rfl HM.out HRl2.out (by have := HLo.out; omega) HB12.out.size ?_; intro v13 w13 h13 ho13; have HB13 := Lib.hid (Off.toBelow HB12.out ho13 (fun k hk e => by have := (HI12.out.block e).1; omega) (Nat.le_refl _)); have HI13 := Lib.hid h13.rd; clear h13 ho13))
          refine (jSame (HR11.out.1.keep HB13.out) HI13.out).mono ?_
          rintro e w14 ⟨rfl, hb⟩
          have HB14 := Lib.hid (HT11.out.below (tr HB13.out hb))
          clear hb HT11 HRo HRl HR11 HBB HE HRo2 HB12 HI12 HRl2 HB13 HI13
          go_wp2_with fail
          refine (HTo.out _ _ HB14.out.K).mono ?_
          rintro e w15 ⟨rfl, hv⟩
          obtain ⟨S15, h1, h2, h3⟩ := hv
          have HB15 := Lib.hid (HB14.out.leftOf h1 h2 h3)
          clear h1 h2 h3 HB14
          go_wp2_with fail
          go_ret
          exact ⟨rfl, HB15.out.K.lo⟩
end Go.Proofs.Ytopkmjiilnoeeaa.B
