/- Layer 17's laws: ChainPlays (written by gen_jplay.py). -/
import Derived.Test.YtopkmjiilnoeeaaZAao
import Derived.Deep.CutRange
namespace Go.Proofs.Ytopkmjiilnoeeaa.B
set_option linter.unusedVariables false
set_option linter.unusedSimpArgs false
set_option maxRecDepth 100000
open Go.ChangeShapes Go.WideShapes Go.RowKit Go.Sort
def KsOk (n : Nat) (L : List (Kp × Int)) : Prop := ChOk n L ∧ ∀ x ∈ L, okk x.1
theorem KsOk.push {n : Nat} {L : List (Kp × Int)} (h : KsOk n L) {k : Kp} (hk : okk k) (i : Int) : KsOk n (chPush n L k i) := ⟨h.1.push k i, fun x hx => by
 unfold chPush at hx
 split at hx
 · rcases List.mem_append.1 hx with hx | hx
   · exact h.2 x hx
   · simp at hx; rw [hx]; exact hk
 · exact h.2 x hx⟩
theorem KsOk.rem {n : Nat} {L : List (Kp × Int)} (h : KsOk n L) (i : Int) : KsOk n (chRem L i) := ⟨h.1.rem i, fun x hx => h.2 x (List.mem_filter.1 hx).1⟩
theorem KsOk.take {n : Nat} {L : List (Kp × Int)} (h : KsOk n L) (k : Kp) : KsOk n (chTake L k) := ⟨h.1.take k, fun x hx => h.2 x (List.mem_filter.1 hx).1⟩
theorem KsOk.small {n : Nat} {L : List (Kp × Int)} (h : KsOk n L) (n1 : n ≤ 40) : L.length < 4000 := by have := h.1.len; omega
set_option maxHeartbeats 25600000 in
theorem jPlaysOf {R : ChainR Kp} {RS : ChainR Ks} (C : ChainC R) (CK : ChainS RS) (a : Int) (n : Nat) (hn : (a = n ∧ n ≤ 40) ∨ (40 < a ∧ a ≤ 4096 ∧ n = 40)) (n0 : 1 ≤ n) (y : Option Addr) (len cap0 : Nat) (zs : Nat → Aj) (w : World) (hc0 : len ≤ cap0) (hy : RowAj w y len cap0 zs) :
 Calls Try.prog 3 #[.int .i64 a, .slice y len cap0] w fun e w' => e = .returned (.bool true) ∧ Below w.heap.size w w' := by
 have n40 : n ≤ 40 := by omega
 have n1 : n ≤ 4096 := by omega
 have HC := Lib.hid C
 have HKn := Lib.hid (fun w' => jKnown CK w')
 have HY := Lib.hid hy
 clear C CK hy
 go_enter Try.func3, Try.ntmps3
 have em3 : decide ((n : Int) < 1) = false := decide_eq_false (by omega)
 have em4 : decide ((4096 : Int) < (n : Int)) = false := decide_eq_false (by omega)
 have e0 : n ≤ 40 ∧ a ≤ 4096 := by omega
 rcases hn with ⟨rfl, h⟩ | ⟨h1, h2, h3⟩
 case' inl =>
  have e1 : decide ((40 : Int) < (n : Int)) = false := decide_eq_false (by omega)
  go_wp2_with fail
  clear e1 h e0
 case' inr =>
  have e1 : decide ((40 : Int) < a) = true := decide_eq_true h1
  have e2 : decide (a ≤ 4096) = true := decide_eq_true h2
  go_upto_region 3 with (fail)
  rw [show (40 : Int) = (n : Int) by rw [h3]; rfl]
  clear e1 e2 h1 h2 h3 e0
  go_wp2_with fail
 all_goals
  refine (HC.out.K.new n _ n0 n1).mono ?_
  rintro e w1 ⟨p0, S0, rfl, h1, h2, h3⟩
  have HA := Lib.hid (show ∃ S, PK R w w1 p0 S n [] (.slice none 0 0) [] from ⟨S0, ⟨h1, h2, h3⟩, tr_nil _ _, fun g hg => by cases hg⟩)
  have HO := Lib.hid (show KsOk n [] from ⟨ChOk.nil n, fun x h => by cases h⟩)
  clear h1 h2 h3
  go_wp2_with fail
  go_loopw [5, 7, 8] (fun vc vl vi wr => ∃ (i p : Nat) (L : List (Kp × Int)), i ≤ len ∧ i ≤ 80 ∧ vc = .pointer (some ⟨p, 0, none⟩) ∧ vi = .int .i64 i ∧ Hid (∃ S, PK R w wr p S n L vl L) ∧ Hid (KsOk n L)) (fun vc vl vi wr => len - (intOf vi).toNat)
  case atStart => exact ⟨0, p0, [], by omega, by omega, rfl, rfl, HA, HO⟩
  case round =>
   clear HA HO
   obtain ⟨i, p, L, hi, hi2, rfl, rfl, HA, HO⟩ := hrel
   rename_i wr
   by_cases hlt : i < len ∧ i < 80
   · obtain ⟨hl1, hl2⟩ := hlt
     have e5 : decide ((i : Int) < (len : Int)) = true := decide_eq_true (by omega)
     have e6 : decide ((i : Int) < 80) = true := decide_eq_true (by omega)
     have e5n : decide (i < len) = true := decide_eq_true hl1
     obtain ⟨z, off, rfl, cz1, cz2, cz3, cz4⟩ := HY.out.resolve_left (by omega)
     obtain ⟨hok, hcells⟩ := cz4 i hl1
     have HLo := Lib.hid (show Below w.heap.size w wr from by obtain ⟨S1, A1⟩ := HA.out; exact A1.K.lo)
     have HI := Lib.hid ((inAj_of (w := w) (g := z) (o := off + i * 4) (a := zs i) hcells).below HLo.out)
     have HZ := Lib.hid (Nat.lt_of_lt_of_le cz3 HLo.out.size)
     have HOK := Lib.hid hok
     unfold maxLen at cz2
     clear cz4 hcells hok cz3
     obtain ⟨x, hx⟩ : ∃ x, zs i = x := ⟨_, rfl⟩
     rw [hx] at HI HOK
     clear hx
     have i0 : 0 ≤ (i : Int) := by omega
     have i1 : (i : Int) < (len : Int) := by omega
     go_upto_region 13 with (first
      | (refine ldAj rfl (.tmp 61) rfl rfl HI.out ?_)
      | (rw [zeros4]; refine stAj rfl (.tmp 9) (.tmp 62) rfl rfl rfl (show (wr.alloc (oAj ajz)).heap[wr.heap.size]? = some (oAj ajz) from blk_new wr _) ?_; intro w3 h3 ho; have HA3 := Lib.hid (show ∃ S, PJ R w w3 p S n L u7 L wr.heap.size x from by
          obtain ⟨S1, A1⟩ := HA.out
          exact ⟨S1, A1.act (Off.toBelow (trA (tr0 wr) (oAj ajz)) ho (fun j hj e => by omega) (Nat.le_refl _)) h3⟩); clear h3 ho))
     generalize wr.heap.size = ba at *
     clear HA HI HZ HLo
     simp only [Act.put]
     obtain ⟨S3, A3⟩ := HA3.out
     obtain ⟨cK, cI, ca, cb, lba⟩ := ajC A3.A
     by_cases hk0 : x.K = 0
     · have fk0 : (x.K == 0) = true := by simpa using hk0
       clear hk0
       have hsm := HO.out.small n40
       have HJP := Lib.hid (jPush A3.M A3.K.lo.size hsm n x.k x.I)
       go_wp2_with fail
       refine HJP.out.mono ?_
       rintro e w4 ⟨v4, rfl, hM4, hb4, hv4⟩
       have HA4 := Lib.hid (A3.doc hb4 hM4 hv4)
       clear hM4 hb4 hv4 A3 HA3 HJP cK cI ca cb lba
       obtain ⟨cK, cI, ca, cb, lba⟩ := ajC HA4.out.A
       have HO2 := Lib.hid (HO.out.push HOK.out.k x.I)
       have HPu := Lib.hid (HC.out.K.push w4 p S3 n L x.k x.I (HA4.out.K.cin n0 n1 HO.out.1 HO.out.2) HOK.out.k HOK.out.I)
       generalize chCan n L x.I = bb at *
       generalize chPush n L x.k x.I = L2 at *
       go_wp2_with fail
       refine HPu.out.mono ?_
       rintro e w5 ⟨rfl, hv⟩
       have HA := Lib.hid (show ∃ S, PJ R w w5 p S n L2 v4 L2 ba x from by obtain ⟨S5, A5, _, _⟩ := HA4.out.left hv; exact ⟨S5, A5⟩)
       clear hv HA4 HPu cK cI ca cb lba
       obtain ⟨S8, A8⟩ := HA.out
       obtain ⟨cK, cI, ca, cb, lba⟩ := ajC A8.A
       have HAl := Lib.hid (jAlike HC.out (A8.K.cin n0 n1 HO2.out.1 HO2.out.2) A8.M (fun g hg => (A8.Ms g hg).1) x HOK.out)
       have HA8 := Lib.hid A8
       clear A8 HA
       go_wp2_with fail
       refine HAl.out.mono ?_
       rintro e w9 ⟨rfl, hv⟩
       have HA9 := Lib.hid (HA8.out.pk.left hv)
       clear hv HA8 HAl cK cI ca cb lba
       go_wp2_with fail
       go_roundw
       case rel => exact ⟨i + 1, p, L2, by omega, by omega, rfl, by go_num, HA9, HO2⟩
       case measure => simp [intOf]; omega
     have nk0 : ¬ x.K = 0 := hk0
     by_cases hk1 : x.K = 1
     · have fk0 : (x.K == 0) = false := by simpa using nk0
       have fk1 : (x.K == 1) = true := by simpa using hk1
       clear hk1
       have hsm := HO.out.small n40
       have HFd := Lib.hid (jFind A3.M (by omega) x.I)
       have HRm := Lib.hid (jRemove A3.M (by omega) x.I)
       have hfi := (chHas_ix L x.I).symm
       have HO2 := Lib.hid (HO.out.rem x.I)
       have HPu := Lib.hid (fun (w' : World) (A : CS R w w' p S3 n L) => HC.out.K.remove w' p S3 n L x.I (A.cin n0 n1 HO.out.1 HO.out.2) HOK.out.I)
       generalize chHas L x.I = bb at *
       generalize chIx L x.I = ix at *
       generalize chRem L x.I = L2 at *
       have HB := Lib.hid A3
       clear A3 HA3
       go_wp2_with fail
       refine HFd.out.mono ?_
       rintro e w4 ⟨rfl, rfl⟩
       clear HFd
       go_wp2_with fail
       refine HRm.out.mono ?_
       rintro e w4 ⟨v4, rfl, hM4, hb4⟩
       have HA4 := Lib.hid (HB.out.doc hb4 (hM4.mono HB.out.K.lo.size) (.inr fun g hg => (hM4.block hg).1))
       clear hM4 hb4 HB HRm cK cI ca cb lba
       obtain ⟨cK, cI, ca, cb, lba⟩ := ajC HA4.out.A
       go_wp2_with fail
       refine (HPu.out w4 HA4.out.K).mono ?_
       rintro e w5 ⟨rfl, hv⟩
       have HA := Lib.hid (show ∃ S, PJ R w w5 p S n L2 v4 L2 ba x from by obtain ⟨S5, A5, _, _⟩ := HA4.out.left hv; exact ⟨S5, A5⟩)
       clear hv HA4 HPu cK cI ca cb lba
       obtain ⟨S8, A8⟩ := HA.out
       obtain ⟨cK, cI, ca, cb, lba⟩ := ajC A8.A
       have HAl := Lib.hid (jAlike HC.out (A8.K.cin n0 n1 HO2.out.1 HO2.out.2) A8.M (fun g hg => (A8.Ms g hg).1) x HOK.out)
       have HA8 := Lib.hid A8
       clear A8 HA
       go_wp2_with fail
       refine HAl.out.mono ?_
       rintro e w9 ⟨rfl, hv⟩
       have HA9 := Lib.hid (HA8.out.pk.left hv)
       clear hv HA8 HAl cK cI ca cb lba
       go_wp2_with fail
       go_roundw
       case rel => exact ⟨i + 1, p, L2, by omega, by omega, rfl, by go_num, HA9, HO2⟩
       case measure => simp [intOf]; omega
     have nk1 : ¬ x.K = 1 := hk1
     by_cases hk2 : x.K = 2
     · have fk0 : (x.K == 0) = false := by simpa using nk0
       have fk1 : (x.K == 1) = false := by simpa using nk1
       have fk2 : (x.K == 2) = true := by simpa using hk2
       clear hk2
       have hsm := HO.out.small n40
       have HAd := Lib.hid (jAll A3.M (by omega) x.k)
       have HSl := Lib.hid (R.lt A3.K.P)
       have HB := Lib.hid A3
       clear A3 HA3
       go_wp2_with fail
       refine HAd.out.mono ?_
       rintro e w4 ⟨va, rfl, hva, hb4⟩
       have HB4 := Lib.hid (HB.out.below hb4)
       have HVs := Lib.hid (show ∀ g, va.ownBlock = some g → ¬ S3 g from fun g hg h => by have := HSl.out g h; have := (hva.block hg).1; omega)
       obtain ⟨ya, cva, rfl, hya1, hya2, _⟩ := hva.rd
       have HRd := Lib.hid hva.rd
       clear HAd hva hb4 HB HSl
       obtain ⟨all, hall⟩ : ∃ all, chAll L x.k = all := ⟨_, rfl⟩
       have HAll := Lib.hid hall
       have hnl : all.length ≤ 40 := by rw [← hall]; have := chAll_le L x.k; have := HO.out.1.len; omega
       rw [hall] at HRd HVs hya1 ⊢
       clear hall
       obtain ⟨N, hN⟩ : ∃ N, all.length = N := ⟨_, rfl⟩
       have HN := Lib.hid hN
       rw [hN] at HRd HVs hya1 hnl ⊢
       clear hN
       unfold maxLen at hya2
       go_wp2_with fail
       go_loopw [7, 14] (fun vl vk wr2 => ∃ (k : Nat), k ≤ N ∧ vk = .int .i64 k ∧ Hid (PJ R w wr2 p S3 n L vl (chDrop L (all.take k)) ba x ∧ RdI wr2 (.slice ya N cva) all)) (fun vl vk wr2 => N - (intOf vk).toNat)
       case atStart => exact ⟨0, Nat.zero_le _, rfl, Lib.hid ⟨by rw [List.take_zero, chDrop_nil]; exact HB4.out, HRd.out⟩⟩
       case round =>
        clear HB4 HRd
        obtain ⟨k, hk, rfl, HX⟩ := hrel
        by_cases hkn : k < N
        · obtain ⟨q, hq⟩ : ∃ q, all[k]? = some q := ⟨_, List.getElem?_eq_getElem (by rw [HN.out]; exact hkn)⟩
          obtain ⟨ga, oa, rfl, hga, cq⟩ := HX.out.2.cellk hq
          have HRm := Lib.hid (jRemove HX.out.1.M (Nat.lt_of_le_of_lt (List.length_filter_le _ _) (by omega)) q)
          rw [chDrop_snoc, show all.take k ++ [q] = all.take (k + 1) by rw [List.take_add_one, hq]; rfl] at HRm
          clear hq
          have k0 : 0 ≤ (k : Int) := by omega
          have k1 : (k : Int) < (N : Int) := by omega
          go_wp2_with fail
          refine HRm.out.mono ?_
          rintro e w5 ⟨v5, rfl, hM5, hb5⟩
          have HX2 := Lib.hid (And.intro (HX.out.1.doc hb5 (hM5.mono HX.out.1.K.lo.size) (.inr fun g hg => (hM5.block hg).1)) (HX.out.2.keep hb5))
          clear hM5 hb5 HX HRm cq
          go_wp2_with fail
          go_roundw
          case rel => exact ⟨k + 1, by omega, by go_num, HX2⟩
          case measure => simp [intOf]; omega
        · obtain rfl : k = N := by omega
          have HO2 := Lib.hid (HO.out.take x.k)
          have HXX := HX.out
          rw [show all.take k = all by rw [← HN.out, List.take_length], ← HAll.out, chDrop_all HO.out.1 x.k, HAll.out] at HXX
          have HB5 := Lib.hid HXX.1
          have HRd := Lib.hid HXX.2
          clear HXX HX
          obtain ⟨cK, cI, ca, cb, lba⟩ := ajC HB5.out.A
          have HTk := Lib.hid (HC.out.take _ p S3 n L x.k (HB5.out.K.cin n0 n1 HO.out.1 HO.out.2) HOK.out.k)
          rw [HAll.out] at HTk
          generalize chTake L x.k = L2 at *
          go_wp2_with fail
          refine HTk.out.mono ?_
          rintro e w6 ⟨v6, rfl, hv⟩
          obtain ⟨S6, h1, h2, h3, hr6, _⟩ := hv
          have HA6 := Lib.hid (HB5.out.leftOf h1 h2 h3)
          have HR6 := Lib.hid hr6
          have HR7 := Lib.hid (HRd.out.off h3 HVs.out)
          clear h1 h2 h3 hr6 HB5 HRd HTk HVs cK cI ca cb lba
          go_wp2_with fail
          refine (jSame HR6.out HR7.out).mono ?_
          rintro e w7 ⟨rfl, hb7⟩
          have HA := Lib.hid (show ∃ S, PJ R w w7 p S n L2 u7 L2 ba x from ⟨S6, HA6.out.below hb7⟩)
          clear hb7 HA6 HR6 HR7
          obtain ⟨S8, A8⟩ := HA.out
          obtain ⟨cK, cI, ca, cb, lba⟩ := ajC A8.A
          have HAl := Lib.hid (jAlike HC.out (A8.K.cin n0 n1 HO2.out.1 HO2.out.2) A8.M (fun g hg => (A8.Ms g hg).1) x HOK.out)
          have HA8 := Lib.hid A8
          clear A8 HA
          go_wp2_with fail
          refine HAl.out.mono ?_
          rintro e w9 ⟨rfl, hv⟩
          have HA9 := Lib.hid (HA8.out.pk.left hv)
          clear hv HA8 HAl cK cI ca cb lba
          go_wp2_with fail
          go_roundw
          case rel => exact ⟨i + 1, p, L2, by omega, by omega, rfl, by go_num, HA9, HO2⟩
          case measure => simp [intOf]; omega
     have nk2 : ¬ x.K = 2 := hk2
     by_cases hk3 : x.K = 3
     · have fk0 : (x.K == 0) = false := by simpa using nk0
       have fk1 : (x.K == 1) = false := by simpa using nk1
       have fk2 : (x.K == 2) = false := by simpa using nk2
       have fk3 : (x.K == 3) = true := by simpa using hk3
       clear hk3
       have HO2 := HO
       have HB := Lib.hid A3
       clear A3 HA3
       go_wp2_with fail
       refine (HC.out.copy w3 p S3 n L (HB.out.K.cin n0 n1 HO.out.1 HO.out.2)).mono ?_
       rintro e w4 ⟨p2, S2, S1, rfl, h1, h2, h3, h4, ho⟩
       have HA4 := Lib.hid (HB.out.leftOf h3 h4 ho)
       have HX4 := Lib.hid (HA4.out.other h1 (fun k hk => Nat.le_trans HB.out.K.lo.size (h2 k hk).1) (fun k hk => ⟨fun e => by have := (HB.out.M.block e).2; have := (h2 k hk).1; omega, fun e => by have := lt_of_block HB.out.A; have := (h2 k hk).1; omega⟩))
       have HD4 := Lib.hid (show ∀ k, S1 k → ¬ S2 k from fun k hk hk2 => (h2 k hk2).2 hk)
       clear h1 h2 h3 h4 ho HB cK cI ca cb lba
       obtain ⟨cK, cI, ca, cb, lba⟩ := ajC HX4.out.A
       have HAl0 := Lib.hid (jAlike HC.out (HX4.out.K.cin n0 n1 HO.out.1 HO.out.2) HX4.out.M (fun g hg => (HX4.out.Ms g hg).1) x HOK.out)
       go_wp2_with fail
       refine HAl0.out.mono ?_
       rintro e w5 ⟨rfl, hv⟩
       obtain ⟨S5, h1, h2, h3⟩ := hv
       have HX5 := Lib.hid (HX4.out.leftOf h1 h2 h3)
       have HA5 := Lib.hid (HA4.out.stay HX5.out h3 HD4.out)
       have HD5 := Lib.hid (show ∀ k, S5 k → ¬ S1 k from fun k hk hk1 => by
        rcases h2 k hk with h | h
        · exact HD4.out k hk1 h
        · have := R.lt HA4.out.K.P _ hk1; omega)
       have HS5 := Lib.hid (R.lt HX5.out.K.P)
       clear h1 h2 h3 HAl0 HX4 HA4 HD4 cK cI ca cb lba
       obtain ⟨cK, cI, ca, cb, lba⟩ := ajC HX5.out.A
       go_wp2_with fail
       refine (HC.out.take w5 p S1 n L x.k (HA5.out.K.cin n0 n1 HO.out.1 HO.out.2) HOK.out.k).mono ?_
       rintro e w6 ⟨v6, rfl, hv⟩
       obtain ⟨S6, h1, h2, h3, _, _⟩ := hv
       have HA6 := Lib.hid (HA5.out.leftOf h1 h2 h3)
       have HX6 := Lib.hid (HX5.out.stay HA6.out h3 HD5.out)
       have HD6 := Lib.hid (show ∀ k, S5 k → ¬ S6 k from fun k hk hk6 => by
        rcases h2 k hk6 with h | h
        · exact HD5.out k hk h
        · have := HS5.out k hk; omega)
       clear h1 h2 h3 HX5 HA5 HD5 cK cI ca cb lba
       obtain ⟨cK, cI, ca, cb, lba⟩ := ajC HX6.out.A
       have HOt := Lib.hid (HO.out.take x.k)
       go_wp2_with fail
       refine (HC.out.K.push w6 p S6 n (chTake L x.k) x.k x.I (HA6.out.K.cin n0 n1 HOt.out.1 HOt.out.2) HOK.out.k HOK.out.I).mono ?_
       rintro e w7 ⟨rfl, hv⟩
       obtain ⟨S7, h1, h2, h3⟩ := hv
       have HA7 := Lib.hid (HA6.out.leftOf h1 h2 h3)
       have HA := Lib.hid (show ∃ S, PJ R w w7 p2 S n L u7 L ba x from ⟨S5, HX6.out.stay HA7.out h3 HD6.out⟩)
       clear h1 h2 h3 HX6 HA6 HA7 HD6 cK cI ca cb lba
       obtain ⟨S8, A8⟩ := HA.out
       obtain ⟨cK, cI, ca, cb, lba⟩ := ajC A8.A
       have HAl := Lib.hid (jAlike HC.out (A8.K.cin n0 n1 HO2.out.1 HO2.out.2) A8.M (fun g hg => (A8.Ms g hg).1) x HOK.out)
       have HA8 := Lib.hid A8
       clear A8 HA
       go_wp2_with fail
       refine HAl.out.mono ?_
       rintro e w9 ⟨rfl, hv⟩
       have HA9 := Lib.hid (HA8.out.pk.left hv)
       clear hv HA8 HAl cK cI ca cb lba
       go_wp2_with fail
       go_roundw
       case rel => exact ⟨i + 1, p2, L, by omega, by omega, rfl, by go_num, HA9, HO2⟩
       case measure => simp [intOf]; omega
     have nk3 : ¬ x.K = 3 := hk3
     have fk0 : (x.K == 0) = false := by simpa using nk0
     have fk1 : (x.K == 1) = false := by simpa using nk1
     have fk2 : (x.K == 2) = false := by simpa using nk2
     have fk3 : (x.K == 3) = false := by simpa using nk3
     have HO2 := HO
     have HA := HA3
     clear HA3 A3
     obtain ⟨S8, A8⟩ := HA.out
     obtain ⟨cK, cI, ca, cb, lba⟩ := ajC A8.A
     have HAl := Lib.hid (jAlike HC.out (A8.K.cin n0 n1 HO2.out.1 HO2.out.2) A8.M (fun g hg => (A8.Ms g hg).1) x HOK.out)
     have HA8 := Lib.hid A8
     clear A8 HA
     go_wp2_with fail
     refine HAl.out.mono ?_
     rintro e w9 ⟨rfl, hv⟩
     have HA9 := Lib.hid (HA8.out.pk.left hv)
     clear hv HA8 HAl cK cI ca cb lba
     go_wp2_with fail
     go_roundw
     case rel => exact ⟨i + 1, p, L, by omega, by omega, rfl, by go_num, HA9, HO2⟩
     case measure => simp [intOf]; omega
   · have e5 : (decide ((i : Int) < (len : Int)) && decide ((i : Int) < 80)) = false := by
      rw [Bool.and_eq_false_iff]
      by_cases h : i < len
      · exact .inr (decide_eq_false (by omega))
      · exact .inl (decide_eq_false (by omega))
     have HE := Lib.hid hlt
     by_cases h5 : i < len
     · have e6 : decide ((i : Int) < (len : Int)) = true := decide_eq_true (by omega)
       have e7 : decide ((i : Int) < 80) = false := decide_eq_false (by omega)
       have e8 : decide (i < len) = true := decide_eq_true h5
       clear e5 hlt HE
       go_wp2_with fail
       go_loopw [16] (fun vi wr2 => ∃ (j : Nat), j ≤ len ∧ j ≤ 80 ∧ vi = .int .i64 j ∧ Hid (∃ S, PK R w wr2 p S n L u7 L)) (fun vi wr2 => len - (intOf vi).toNat)
       case atStart => exact ⟨0, by omega, by omega, rfl, HA⟩
       case round =>
        clear HA
        obtain ⟨j, hj, hj2, rfl, HA⟩ := hrel
        rename_i wr2
        by_cases hlt : j < len ∧ j < 80
        · obtain ⟨hl1, hl2⟩ := hlt
          have f5 : decide ((j : Int) < (len : Int)) = true := decide_eq_true (by omega)
          have f6 : decide ((j : Int) < 80) = true := decide_eq_true (by omega)
          have f7 : decide (j < len) = true := decide_eq_true hl1
          obtain ⟨z, off, rfl, cz1, cz2, cz3, cz4⟩ := HY.out.resolve_left (by omega)
          obtain ⟨hok, hcells⟩ := cz4 j hl1
          obtain ⟨S1, A1⟩ := HA.out
          have HI := Lib.hid ((inAj_of (w := w) (g := z) (o := off + j * 4) (a := zs j) hcells).below A1.K.lo)
          have HAl := Lib.hid (jAlike HC.out (A1.K.cin n0 n1 HO.out.1 HO.out.2) A1.M A1.Ms (zs j) hok)
          have HA1 := Lib.hid A1
          unfold maxLen at cz2
          clear cz4 hcells hok cz3 A1
          have j0 : 0 ≤ (j : Int) := by omega
          have j1 : (j : Int) < (len : Int) := by omega
          go_wp2_with (refine ldAj rfl (.tmp 175) rfl rfl HI.out ?_)
          refine HAl.out.mono ?_
          rintro e w9 ⟨rfl, hv⟩
          have HA9 := Lib.hid (HA1.out.left hv)
          clear hv HA1 HAl HA HI
          go_wp2_with fail
          go_roundw
          case rel => exact ⟨j + 1, by omega, by omega, by go_num, HA9⟩
          case measure => simp [intOf]; omega
        · by_cases h6 : j < len
          · have f6 : decide ((j : Int) < (len : Int)) = true := decide_eq_true (by omega)
            have f7 : decide ((j : Int) < 80) = false := decide_eq_false (by omega)
            have f8 : decide (j < len) = true := decide_eq_true h6
            clear hlt
            go_wp2_with fail
            refine (HKn.out _).mono ?_
            rintro e w9 ⟨rfl, hb⟩
            have HB := Lib.hid (show Below w.heap.size w w9 from by obtain ⟨S1, A1⟩ := HA.out; exact tr A1.K.lo hb)
            clear hb HA
            go_wp2_with fail
            go_ret
            exact ⟨rfl, HB.out⟩
          · have f6 : decide ((j : Int) < (len : Int)) = false := decide_eq_false (by omega)
            have f8 : decide (j < len) = false := decide_eq_false h6
            clear hlt
            go_wp2_with fail
            refine (HKn.out _).mono ?_
            rintro e w9 ⟨rfl, hb⟩
            have HB := Lib.hid (show Below w.heap.size w w9 from by obtain ⟨S1, A1⟩ := HA.out; exact tr A1.K.lo hb)
            clear hb HA
            go_wp2_with fail
            go_ret
            exact ⟨rfl, HB.out⟩
     · have e6 : decide ((i : Int) < (len : Int)) = false := decide_eq_false (by omega)
       have e8 : decide (i < len) = false := decide_eq_false h5
       clear e5 hlt HE
       go_wp2_with fail
       go_loopw [16] (fun vi wr2 => ∃ (j : Nat), j ≤ len ∧ j ≤ 80 ∧ vi = .int .i64 j ∧ Hid (∃ S, PK R w wr2 p S n L u7 L)) (fun vi wr2 => len - (intOf vi).toNat)
       case atStart => exact ⟨0, by omega, by omega, rfl, HA⟩
       case round =>
        clear HA
        obtain ⟨j, hj, hj2, rfl, HA⟩ := hrel
        rename_i wr2
        by_cases hlt : j < len ∧ j < 80
        · obtain ⟨hl1, hl2⟩ := hlt
          have f5 : decide ((j : Int) < (len : Int)) = true := decide_eq_true (by omega)
          have f6 : decide ((j : Int) < 80) = true := decide_eq_true (by omega)
          have f7 : decide (j < len) = true := decide_eq_true hl1
          obtain ⟨z, off, rfl, cz1, cz2, cz3, cz4⟩ := HY.out.resolve_left (by omega)
          obtain ⟨hok, hcells⟩ := cz4 j hl1
          obtain ⟨S1, A1⟩ := HA.out
          have HI := Lib.hid ((inAj_of (w := w) (g := z) (o := off + j * 4) (a := zs j) hcells).below A1.K.lo)
          have HAl := Lib.hid (jAlike HC.out (A1.K.cin n0 n1 HO.out.1 HO.out.2) A1.M A1.Ms (zs j) hok)
          have HA1 := Lib.hid A1
          unfold maxLen at cz2
          clear cz4 hcells hok cz3 A1
          have j0 : 0 ≤ (j : Int) := by omega
          have j1 : (j : Int) < (len : Int) := by omega
          go_wp2_with (refine ldAj rfl (.tmp 175) rfl rfl HI.out ?_)
          refine HAl.out.mono ?_
          rintro e w9 ⟨rfl, hv⟩
          have HA9 := Lib.hid (HA1.out.left hv)
          clear hv HA1 HAl HA HI
          go_wp2_with fail
          go_roundw
          case rel => exact ⟨j + 1, by omega, by omega, by go_num, HA9⟩
          case measure => simp [intOf]; omega
        · by_cases h6 : j < len
          · have f6 : decide ((j : Int) < (len : Int)) = true := decide_eq_true (by omega)
            have f7 : decide ((j : Int) < 80) = false := decide_eq_false (by omega)
            have f8 : decide (j < len) = true := decide_eq_true h6
            clear hlt
            go_wp2_with fail
            refine (HKn.out _).mono ?_
            rintro e w9 ⟨rfl, hb⟩
            have HB := Lib.hid (show Below w.heap.size w w9 from by obtain ⟨S1, A1⟩ := HA.out; exact tr A1.K.lo hb)
            clear hb HA
            go_wp2_with fail
            go_ret
            exact ⟨rfl, HB.out⟩
          · have f6 : decide ((j : Int) < (len : Int)) = false := decide_eq_false (by omega)
            have f8 : decide (j < len) = false := decide_eq_false h6
            clear hlt
            go_wp2_with fail
            refine (HKn.out _).mono ?_
            rintro e w9 ⟨rfl, hb⟩
            have HB := Lib.hid (show Below w.heap.size w w9 from by obtain ⟨S1, A1⟩ := HA.out; exact tr A1.K.lo hb)
            clear hb HA
            go_wp2_with fail
            go_ret
            exact ⟨rfl, HB.out⟩
end Go.Proofs.Ytopkmjiilnoeeaa.B
