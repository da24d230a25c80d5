/- Layer 16's laws: PoolPlays (written by gen_vplay.py). -/
import Derived.Test.YtggmllobcemhhaaZAaf
import Derived.Deep.Cut
import Derived.Deep.CutRange
import Derived.Deep.RegionHeld
namespace Go.Proofs.Ytggmllobcemhhaa.B
set_option linter.unusedVariables false
set_option linter.unusedSimpArgs false
set_option maxRecDepth 100000
open Go.ChangeShapes Go.WideShapes Go.RowKit Go.Sort
theorem AcC {w : World} {b : Nat} {a : Ac} (h : w.heap[b]? = some (oAc a)) : w.cell? ⟨b, 0, none⟩ = some (.int .i64 a.K) ∧ w.cell? ⟨b, 1, none⟩ = some (.int .u64 a.d) ∧ w.cell? ⟨b, 2, none⟩ = some (.int .u64 a.q) ∧ w.cell? ⟨b, 3, none⟩ = some (.int .u64 a.o) ∧ w.cell? ⟨b, 4, none⟩ = some (.int .u64 a.h) ∧ w.cell? ⟨b, 5, none⟩ = some (.int .i64 a.f) := by
 refine ⟨?_, ?_, ?_, ?_, ?_, ?_⟩ <;> (rw [blk_cell h]; rfl)
set_option maxHeartbeats 25600000 in
theorem poPlaysA {R : PoolR} (C : PoolC R) (a b : Int) (y : Option Addr) (len cap0 : Nat) (zs : Nat → Ac) (w : World) (ha1 : 1 ≤ a) (ha2 : a ≤ 40) (hb : i64v b) (hc0 : len ≤ cap0) (hy : RowAc w y len cap0 zs) : Calls Try.prog 3 #[.int .i64 a, .slice y len cap0, .int .i64 b] w fun e w' => e = .returned (.bool true) ∧ Below w.heap.size w w' := by
 have HC := Lib.hid C
 have HY := Lib.hid hy
 have HBB := Lib.hid hb
 clear C hy hb
 obtain ⟨n, hn⟩ : ∃ n : Nat, a = n := ⟨a.toNat, by omega⟩
 subst hn
 have n0 : 1 ≤ n := by omega
 have n40 : n ≤ 40 := by omega
 have e1 : decide ((40 : Int) < (n : Int)) = false := decide_eq_false (by omega)
 have e1n : decide (40 < n) = false := decide_eq_false (by omega)
 have em3 : decide ((n : Int) < 1) = false := decide_eq_false (by omega)
 have em4 : decide ((4096 : Int) < (n : Int)) = false := decide_eq_false (by omega)
 have n1 : n ≤ 4096 := by omega
 go_enter Try.func3, Try.ntmps3
 go_wp2_with fail
 refine (HC.out.new n w n0 n1).mono ?_
 rintro e w1 ⟨p0, S0, rfl, h1, h2, h3⟩
 have HK := Lib.hid (show KS R w w1 p0 S0 n (fun _ => pz) from ⟨h1, h2, h3⟩)
 clear h1 h2 h3
 have HNw := Lib.hid (pfNew n n0 n1 w1)
 go_wp2_with (first
  | (go_at_call 10; refine HNw.out.mono ?_; rintro e w2 ⟨g0, c0, rfl, hg, hR, hb⟩; have HQ := Lib.hid (show KS R w w2 p0 S0 n (fun _ => pz) ∧ RwPo w2 g0 n c0 (fun _ => pz) ∧ w1.heap.size ≤ g0 from ⟨HK.out.below hb, hR, hg⟩); clear hg hR hb)
  | (refine buildUv rfl (.const (.int .u64 0)) rfl rfl ?_))
 have HA := Lib.hid (show ∃ S, PY R w (w2.alloc (oUv 0)) p0 S n (fun _ => pz) g0 c0 (fun _ => pz) (.slice (some ⟨w2.heap.size, 0, none⟩) 1 1) [0] (fun _ _ => False) from by
  have hbb := trA (tr0 w2) (oUv 0)
  obtain ⟨q1, q2, q3⟩ := HQ.out
  have hlo := q1.lo.size
  refine ⟨S0, q1.below hbb, q2.below hbb, fun hs => by have := R.lt HK.out.P _ hs; omega, Nat.le_trans HK.out.lo.size q3, ⟨rfl, .inr ⟨w2.heap.size, 1, #[.int .u64 0], rfl, hlo, blk_new w2 _, Nat.le_refl _, by decide, rfl, rfl⟩⟩, fun bb hbe hs => ?_, fun k o h => h.elim⟩
  cases hbe
  exact absurd (R.lt q1.P _ hs) (Nat.lt_irrefl _))
 have HO := Lib.hid (show (∀ i, i < n → ((fun _ => pz : Nat → Po) i).ok (1 + 0)) ∧ (∀ x, x ∈ [(0 : Int)] → u64r x) ∧ 1 ≤ [(0 : Int)].length ∧ [(0 : Int)].length ≤ 1 + 0 from ⟨fun i hi => pz_ok, fun x hx => by (simp only [List.mem_cons, List.not_mem_nil, or_false] at hx; rw [hx]; exact u0), Nat.le_refl _, Nat.le_refl _⟩)
 clear HK HNw HQ
 generalize w2.alloc (oUv 0) = W at *
 generalize w2.heap.size = bt at *
 go_wp2_with fail
 go_loopw [7, 9, 10, 11] (fun v7 v9 v10 x wr => ∃ (i p g cap : Nat) (L : List Int) (t : Nat → Po), i ≤ len ∧ i ≤ 80 ∧ v7 = .pointer (some ⟨p, 0, none⟩) ∧ v9 = .slice (some ⟨g, 0, none⟩) n cap ∧ x = .int .i64 i ∧ Hid (∃ S, PY R w wr p S n t g cap t v10 L (fun _ _ => False)) ∧ Hid ((∀ q, q < n → (t q).ok (1 + i)) ∧ (∀ x, x ∈ L → u64r x) ∧ 1 ≤ L.length ∧ L.length ≤ 1 + i)) (fun v7 v9 v10 x wr => len - (intOf x).toNat)
 case atStart => exact ⟨0, p0, g0, c0, [0], _, by omega, by omega, rfl, rfl, rfl, HA, HO⟩
 case round =>
  clear HA HO
  obtain ⟨i, p, g, cap, L, t, hi, hi2, rfl, rfl, rfl, HA, HO⟩ := hrel
  by_cases hlt : i < len ∧ i < 80
  · obtain ⟨hl1, hl2⟩ := hlt
    obtain ⟨S1, A1⟩ := HA.out
    obtain ⟨yt, ct, hvt, _⟩ := A1.T.form
    obtain ⟨lt, hlt⟩ : ∃ lt, L.length = lt := ⟨_, rfl⟩
    have hb1 : lt ≤ 81 ∧ 1 ≤ lt := by rw [← hlt]; exact ⟨Nat.le_trans HO.out.2.2.2 (by omega), HO.out.2.2.1⟩
    have HLT := Lib.hid hlt
    rw [hlt] at hvt
    subst hvt
    have e5 : decide ((i : Int) < (len : Int)) = true := decide_eq_true (by omega)
    have e6 : decide ((i : Int) < 80) = true := decide_eq_true (by omega)
    have e5n : decide (i < len) = true := decide_eq_true hl1
    obtain ⟨z, off, rfl, cz1, cz2, cz3, cz4⟩ := HY.out.resolve_left (by omega)
    obtain ⟨hok, hcells⟩ := cz4 i hl1
    have HI := Lib.hid ((inAc_of (w := w) (g := z) (o := off + i * 6) (a := zs i) hcells).below A1.K.lo)
    have HZ := Lib.hid (Nat.lt_of_lt_of_le cz3 A1.K.lo.size)
    have HOK := Lib.hid hok
    unfold maxLen at cz2
    clear cz4 hcells hok cz3 hlt
    obtain ⟨x, hx⟩ : ∃ x, zs i = x := ⟨_, rfl⟩
    rw [hx] at HI HOK
    clear hx
    have i0 : 0 ≤ (i : Int) := by omega
    have i1 : (i : Int) < (len : Int) := by omega
    have hm := A1.M.cm
    have hmn := A1.M.nc
    unfold maxLen at hm
    have HSZ := Lib.hid (show w.heap.size ≤ wr.heap.size from A1.K.lo.size)
    clear A1
    go_upto_region 14 with (first
     | (refine ldAc rfl (.tmp 74) rfl rfl HI.out ?_)
     | (rw [zeros6]; refine stAc rfl (.tmp 12) (.tmp 75) rfl rfl rfl (show (wr.alloc (oAc az)).heap[wr.heap.size]? = some (oAc az) from blk_new wr _) ?_; intro w3 h3 ho; have HA3 := Lib.hid (show ∃ S, PY R w w3 p S n t g cap t (.slice yt lt ct) L (fun k o => k = wr.heap.size ∧ o = oAc x) from by
         obtain ⟨S1, A1⟩ := HA.out
         exact ⟨S1, (A1.fresh (Off.toBelow (trA (tr0 wr) (oAc az)) ho (fun j hj e => by omega) (Nat.le_refl _)) h3).less fun k o h => .inr h⟩); clear h3 ho))
    generalize wr.heap.size = ba at *
    clear HA HI HZ
    simp only [Act.put]
    obtain ⟨S3, A3⟩ := HA3.out
    obtain ⟨cK, cd, cq, co, ch, cf⟩ := AcC (A3.F _ _ ⟨rfl, rfl⟩).1
    have lba := lt_of_get (A3.F _ _ ⟨rfl, rfl⟩).1
    have HF := Lib.hid (fun (w' : World) (A : w'.heap[ba]? = some (oAc x)) => AcC A)
    obtain ⟨⟨K0, K1⟩, xd, xq, xo, xh, ⟨f0, f1⟩⟩ := HOK.out
    go_upto_if 80 with (fail)
    go_cut [13] from 62 to 249 (fun s w' => ∃ X, s = .int .u64 X ∧ Hid (u64r X) ∧ w' = w3)
    case first =>
     by_cases hf : 0 ≤ x.f
     · have ef : decide (0 ≤ x.f) = true := decide_eq_true hf
       obtain ⟨jd, hjd, hjl⟩ : ∃ jd : Nat, x.f.tmod (lt : Int) = jd ∧ jd < lt := by
        have h1 := Int.emod_lt_of_pos x.f (show (0 : Int) < lt by omega)
        have h2 := Int.emod_nonneg x.f (show (lt : Int) ≠ 0 by omega)
        exact ⟨(x.f % (lt : Int)).toNat, by rw [Int.tmod_eq_emod_of_nonneg hf]; omega, by omega⟩
       obtain ⟨gt, X, rfl, b1, b2, b3, hxg, c⟩ := A3.T.cell2 HLT.out hjl
       have HXR := Lib.hid (HO.out.2.1 X (List.mem_iff_getElem?.2 ⟨jd, hxg⟩))
       have j0 : 0 ≤ (jd : Int) := by omega
       have j1 : (jd : Int) < (lt : Int) := by omega
       have lt0 : ((lt : Int) == 0) = false := by simp; omega
       clear hxg A3
       go_wp2_with fail
       go_meet
       case rel => exact ⟨X, rfl, HXR, rfl⟩
     · have ef : decide (0 ≤ x.f) = false := decide_eq_false hf
       have HXR := Lib.hid xh
       clear A3
       go_wp2_with fail
       go_meet
       case rel => exact ⟨x.h, rfl, HXR, rfl⟩
    case rest =>
     obtain ⟨X, rfl, HXR, rfl⟩ := hcut
     have HFd := Lib.hid (pfFind A3.M n1 X HXR.out.1 HXR.out.2)
     have hkb : -1 ≤ fndI n t X ∧ fndI n t X < n := by
      unfold fndI
      cases hf : fnd n t X with
      | none => exact ⟨Int.le_refl _, by show (-1 : Int) < n; omega⟩
      | some k => have := (fnd_some hf).1; exact ⟨by show (-1 : Int) ≤ k; omega, by show (k : Int) < n; omega⟩
     clear f0 f1 ch cf
     by_cases hk0 : x.K = 0
     · as_aux_lemma =>
        have fk0 : (x.K == 0) = true := by simpa using hk0
        rcases free_case t n with hall | ⟨k, hk, hkf, hkp⟩
        · have HDc := Lib.hid (pfPutNo A3.M n1 hall x.d x.q x.o)
          have HPu := Lib.hid (fun (w' : World) (S : Nat → Prop) (A : PY R w w' p S n t g cap t (.slice yt lt ct) L (fun k o => k = ba ∧ o = oAc x)) => HC.out.putNo w' p S n t x.d x.q x.o (A.K.vin n0 n1 HO.out.1 (by omega)) xd xq xo hall)
          clear hall
          have HO2 := Lib.hid (show (∀ q, q < n → (t q).ok (1 + (i + 1))) ∧ (∀ x, x ∈ L → u64r x) ∧ 1 ≤ L.length ∧ L.length ≤ 1 + (i + 1) from ⟨fun q hq => (HO.out.1 q hq).more (by omega), HO.out.2.1, HO.out.2.2.1, Nat.le_succ_of_le HO.out.2.2.2⟩)
          go_wp2_with (first
           | (go_at_call 11; refine HFd.out.mono ?_; rintro e w4 ⟨rfl, rfl⟩)
           | (go_at_call 12; refine HDc.out.mono ?_; rintro e w5 ⟨rfl, hb⟩; have A5 := A3.below hb; clear hb A3; obtain ⟨cK, cd, cq, co, _⟩ := HF.out _ (A5.F _ _ ⟨rfl, rfl⟩).1; have lba := lt_of_get (A5.F _ _ ⟨rfl, rfl⟩).1))
          refine (HPu.out _ _ A5).mono ?_
          rintro e w6 ⟨rfl, hv⟩
          obtain ⟨S6, A6, _, ho6⟩ := A5.left hv
          have HA := Lib.hid (show ∃ S, PY R w w6 p S n t g cap t (.slice yt lt ct) L (fun k o => k = ba ∧ o = oAc x) from ⟨S6, A6⟩)
          clear hv ho6 A5 A6 HA3
          obtain ⟨S8, A8⟩ := HA.out
          have HAl := Lib.hid (poAlike HC.out (A8.K.vin n0 n1 HO2.out.1 (by omega)) A8.M A8.Mg)
          go_wp2_with (go_at_call 23; refine HAl.out.mono ?_; rintro e w9 ⟨rfl, hv⟩; have HA9 := Lib.hid (show ∃ S, PY R w w9 p S n t g cap t (.slice yt lt ct) L (fun _ _ => False) from by obtain ⟨S9, A9, _⟩ := A8.left hv; exact ⟨S9, A9.less (fun k o h => h.elim)⟩); clear hv A8 HAl)
          go_roundw
          case rel => exact ⟨i + 1, p, g, cap, L, t, by omega, by omega, rfl, rfl, by go_num, HA9, HO2⟩
          case measure => simp [intOf]; omega
        · have HDc := Lib.hid (pfPut A3.M HO.out.1 (by omega) n0 n1 k hk hkf hkp x.d x.q x.o xd xq xo)
          obtain ⟨H, hH⟩ : ∃ H, hd (t k) k = H := ⟨_, rfl⟩
          have HHR := Lib.hid (show u64r H by rw [← hH]; exact (hd_num (HO.out.1 k hk) (by omega) k (by omega)).2)
          obtain ⟨t2, ht2⟩ : ∃ t2, pupd t k ((t k).put x.d x.q x.o) = t2 := ⟨_, rfl⟩
          have HOk := Lib.hid (show ∀ q, q < n → (t2 q).ok (1 + i) by rw [← ht2]; exact put_ok HO.out.1 k xd xq xo)
          have HPu := Lib.hid (fun (w' : World) (S : Nat → Prop) (g2 cap2 : Nat) (A : PY R w w' p S n t g2 cap2 t2 (.slice yt lt ct) L (fun k o => k = ba ∧ o = oAc x)) => HC.out.put w' p S n t k x.d x.q x.o (A.K.vin n0 n1 HO.out.1 (by omega)) xd xq xo hk hkf hkp)
          rw [hH, ht2] at HDc
          simp only [hH, ht2] at HPu
          clear hkp hH ht2
          go_wp2_with (first
           | (go_at_call 11; refine HFd.out.mono ?_; rintro e w4 ⟨rfl, rfl⟩)
           | (go_at_call 12; refine HDc.out.mono ?_; rintro e w5 ⟨g2, cap2, rfl, hN⟩; have A5 := A3.doc hN.lo hN.R (.inr hN.nw); clear hN A3; obtain ⟨cK, cd, cq, co, _⟩ := HF.out _ (A5.F _ _ ⟨rfl, rfl⟩).1; have lba := lt_of_get (A5.F _ _ ⟨rfl, rfl⟩).1))
          refine (HPu.out _ _ _ _ A5).mono ?_
          rintro e w6 ⟨rfl, hv⟩
          obtain ⟨S6, A6, _, ho6⟩ := A5.left hv
          have hbb := trA (tr0 w6) (oUv H)
          have A7 := A6.below hbb
          have HY7 := Lib.hid (blk_new w6 (oUv H))
          have HS7 := Lib.hid (show w.heap.size ≤ (w6.alloc (oUv H)).heap.size from A7.K.lo.size)
          have HL7 := Lib.hid (show L.length < 5000 by rw [HLT.out]; omega)
          have HA7 := Lib.hid A7
          clear hv ho6 hbb A5 A6 A7 HA3 cK cd cq co lba
          go_upto_region 55 with (first
           | (refine buildUv rfl (.tmp 131) rfl rfl ?_)
           | (refine appendUvAt rfl (.tmp 130) (.tmp 132) rfl rfl HA7.out.T rfl HY7.out HL7.out HS7.out ?_; intro v' w7 h5 ho hat; have HB := Lib.hid (show ∃ S, PY R w w7 p S n t2 g2 cap2 t2 v' (L ++ [H]) (fun k o => k = ba ∧ o = oAc x) from ⟨S6, HA7.out.told h5 ho hat (HA7.out.M.off ho (fun e => HA7.out.tg _ e rfl))⟩); clear h5 ho hat))
          obtain ⟨L2, hL2⟩ : ∃ L2, L ++ [H] = L2 := ⟨_, rfl⟩
          have HO2 := Lib.hid (show (∀ q, q < n → (t2 q).ok (1 + (i + 1))) ∧ (∀ x, x ∈ L2 → u64r x) ∧ 1 ≤ L2.length ∧ L2.length ≤ 1 + (i + 1) from ⟨fun q hq => (HOk.out q hq).more (by omega), by rw [← hL2]; intro y hy; (rcases List.mem_append.1 hy with h | h); exact HO.out.2.1 y h; (simp only [List.mem_cons, List.not_mem_nil, or_false] at h); rw [h]; exact HHR.out, by rw [← hL2, List.length_append]; exact Nat.le_add_left 1 _, by rw [← hL2, List.length_append]; exact Nat.succ_le_succ HO.out.2.2.2⟩)
          rw [hL2] at HB
          obtain ⟨S9, A9⟩ := HB.out
          obtain ⟨yt2, ct2, hv2, _⟩ := A9.T.form
          subst hv2
          have HA := Lib.hid (show ∃ S, PY R w w7 p S n t2 g2 cap2 t2 (.slice yt2 L2.length ct2) L2 (fun k o => k = ba ∧ o = oAc x) from ⟨S9, A9⟩)
          clear HA7 HY7 HS7 HL7 HB A9 hL2
          obtain ⟨lt2, hlt2⟩ : ∃ lt2, L2.length = lt2 := ⟨_, rfl⟩
          rw [hlt2] at HA ⊢
          clear hlt2
          obtain ⟨S8, A8⟩ := HA.out
          have HAl := Lib.hid (poAlike HC.out (A8.K.vin n0 n1 HO2.out.1 (by omega)) A8.M A8.Mg)
          go_wp2_with (go_at_call 23; refine HAl.out.mono ?_; rintro e w9 ⟨rfl, hv⟩; have HA9 := Lib.hid (show ∃ S, PY R w w9 p S n t2 g2 cap2 t2 (.slice yt2 lt2 ct2) L2 (fun _ _ => False) from by obtain ⟨S9, A9, _⟩ := A8.left hv; exact ⟨S9, A9.less (fun k o h => h.elim)⟩); clear hv A8 HAl)
          go_roundw
          case rel => exact ⟨i + 1, p, g2, cap2, L2, t2, by omega, by omega, rfl, rfl, by go_num, HA9, HO2⟩
          case measure => simp [intOf]; omega
     · have nk0 := hk0
       by_cases hk1 : x.K = 1
       · as_aux_lemma =>
          have fk0 : (x.K == 0) = false := by simpa using nk0
          have fk1 : (x.K == 1) = true := by simpa using hk1
          have HDc := Lib.hid (pfDrop A3.M HO.out.1 (by omega) n1 X HXR.out.1 HXR.out.2)
          have hfi := fndI_is n t X
          have HO2 := Lib.hid (show (∀ q, q < n → ((dropT n t X) q).ok (1 + (i + 1))) ∧ (∀ x, x ∈ L → u64r x) ∧ 1 ≤ L.length ∧ L.length ≤ 1 + (i + 1) from ⟨fun q hq => (drop_ok HO.out.1 X q hq).more (by omega), HO.out.2.1, HO.out.2.2.1, Nat.le_succ_of_le HO.out.2.2.2⟩)
          go_wp2_with (first
           | (go_at_call 11; refine HFd.out.mono ?_; rintro e w4 ⟨rfl, rfl⟩)
           | (go_at_call 14; refine HDc.out.mono ?_; rintro e w5 ⟨g2, cap2, rfl, hR, hg, hb⟩; have HA5 := Lib.hid (show ∃ S, PY R w w5 p S n t g2 cap2 (dropT n t X) (.slice yt lt ct) L (fun k o => k = ba ∧ o = oAc x) from ⟨S3, A3.doc hb hR hg⟩); clear hR hg hb A3))
          obtain ⟨S5, A5⟩ := HA5.out
          refine (HC.out.drop w5 p S5 n t X (A5.K.vin n0 n1 HO.out.1 (by omega)) HXR.out).mono ?_
          rintro e w6 ⟨rfl, hv⟩
          obtain ⟨S6, A6, _, ho6⟩ := A5.left hv
          have HA := Lib.hid (show ∃ S, PY R w w6 p S n (dropT n t X) g2 cap2 (dropT n t X) (.slice yt lt ct) L (fun k o => k = ba ∧ o = oAc x) from ⟨S6, A6⟩)
          clear hv ho6 A5 A6 HA5 HA3
          generalize (fnd n t X).isSome = sB at *
          obtain ⟨S8, A8⟩ := HA.out
          have HAl := Lib.hid (poAlike HC.out (A8.K.vin n0 n1 HO2.out.1 (by omega)) A8.M A8.Mg)
          go_wp2_with (go_at_call 23; refine HAl.out.mono ?_; rintro e w9 ⟨rfl, hv⟩; have HA9 := Lib.hid (show ∃ S, PY R w w9 p S n (dropT n t X) g2 cap2 (dropT n t X) (.slice yt lt ct) L (fun _ _ => False) from by obtain ⟨S9, A9, _⟩ := A8.left hv; exact ⟨S9, A9.less (fun k o h => h.elim)⟩); clear hv A8 HAl)
          go_roundw
          case rel => exact ⟨i + 1, p, g2, cap2, L, (dropT n t X), by omega, by omega, rfl, rfl, by go_num, HA9, HO2⟩
          case measure => simp [intOf]; omega
       · have nk1 := hk1
         by_cases hk2 : x.K = 2
         · as_aux_lemma =>
            have fk0 : (x.K == 0) = false := by simpa using nk0
            have fk1 : (x.K == 1) = false := by simpa using nk1
            have fk2 : (x.K == 2) = true := by simpa using hk2
            have HDc := Lib.hid (pfSet A3.M n1 X HXR.out.1 HXR.out.2 x.d x.q x.o)
            have hfi := fndI_is n t X
            have HO2 := Lib.hid (show (∀ q, q < n → ((setT n t X x.d x.q x.o) q).ok (1 + (i + 1))) ∧ (∀ x, x ∈ L → u64r x) ∧ 1 ≤ L.length ∧ L.length ≤ 1 + (i + 1) from ⟨fun q hq => (set_ok HO.out.1 X xd xq xo q hq).more (by omega), HO.out.2.1, HO.out.2.2.1, Nat.le_succ_of_le HO.out.2.2.2⟩)
            go_wp2_with (first
             | (go_at_call 11; refine HFd.out.mono ?_; rintro e w4 ⟨rfl, rfl⟩)
             | (go_at_call 16; refine HDc.out.mono ?_; rintro e w5 ⟨g2, cap2, rfl, hR, hg, hb⟩; have HA5 := Lib.hid (show ∃ S, PY R w w5 p S n t g2 cap2 (setT n t X x.d x.q x.o) (.slice yt lt ct) L (fun k o => k = ba ∧ o = oAc x) from ⟨S3, A3.doc hb hR hg⟩); clear hR hg hb A3; obtain ⟨S5, A5⟩ := HA5.out; obtain ⟨cK, cd, cq, co, _⟩ := HF.out _ (A5.F _ _ ⟨rfl, rfl⟩).1; have lba := lt_of_get (A5.F _ _ ⟨rfl, rfl⟩).1))
            refine (HC.out.set w5 p S5 n t X x.d x.q x.o (A5.K.vin n0 n1 HO.out.1 (by omega)) HXR.out xd xq xo).mono ?_
            rintro e w6 ⟨rfl, hv⟩
            obtain ⟨S6, A6, _, ho6⟩ := A5.left hv
            have HA := Lib.hid (show ∃ S, PY R w w6 p S n (setT n t X x.d x.q x.o) g2 cap2 (setT n t X x.d x.q x.o) (.slice yt lt ct) L (fun k o => k = ba ∧ o = oAc x) from ⟨S6, A6⟩)
            clear hv ho6 A5 A6 HA5 HA3
            generalize (fnd n t X).isSome = sB at *
            obtain ⟨S8, A8⟩ := HA.out
            have HAl := Lib.hid (poAlike HC.out (A8.K.vin n0 n1 HO2.out.1 (by omega)) A8.M A8.Mg)
            go_wp2_with (go_at_call 23; refine HAl.out.mono ?_; rintro e w9 ⟨rfl, hv⟩; have HA9 := Lib.hid (show ∃ S, PY R w w9 p S n (setT n t X x.d x.q x.o) g2 cap2 (setT n t X x.d x.q x.o) (.slice yt lt ct) L (fun _ _ => False) from by obtain ⟨S9, A9, _⟩ := A8.left hv; exact ⟨S9, A9.less (fun k o h => h.elim)⟩); clear hv A8 HAl)
            go_roundw
            case rel => exact ⟨i + 1, p, g2, cap2, L, (setT n t X x.d x.q x.o), by omega, by omega, rfl, rfl, by go_num, HA9, HO2⟩
            case measure => simp [intOf]; omega
         · have nk2 := hk2
           by_cases hk3 : x.K = 3
           · as_aux_lemma =>
              have fk0 : (x.K == 0) = false := by simpa using nk0
              have fk1 : (x.K == 1) = false := by simpa using nk1
              have fk2 : (x.K == 2) = false := by simpa using nk2
              have fk3 : (x.K == 3) = true := by simpa using hk3
              cases hfd : fnd n t X with
              | none =>
                have HGe := Lib.hid (HC.out.get wc p S3 n t X (A3.K.vin n0 n1 HO.out.1 (by omega)) HXR.out)
                have HPl := Lib.hid (fun (w' : World) (S1 : Nat → Prop) (A : KS R w w' p S1 n t) => HC.out.place w' p S1 n t X (A.vin n0 n1 HO.out.1 (by omega)) HXR.out)
                unfold fndI at HPl HFd
                rw [hfd] at HGe HPl HFd
                dsimp only at HGe HPl HFd
                clear hfd hkb
                have HO2 := Lib.hid (show (∀ q, q < n → (t q).ok (1 + (i + 1))) ∧ (∀ x, x ∈ L → u64r x) ∧ 1 ≤ L.length ∧ L.length ≤ 1 + (i + 1) from ⟨fun q hq => (HO.out.1 q hq).more (by omega), HO.out.2.1, HO.out.2.2.1, Nat.le_succ_of_le HO.out.2.2.2⟩)
                go_wp2_with (first
                 | (go_at_call 11; refine HFd.out.mono ?_; rintro e w4 ⟨rfl, rfl⟩)
                 | (go_at_call 18; refine HGe.out.mono ?_; rintro e w5 ⟨rfl, hv⟩; obtain ⟨S5, A5, _, ho5⟩ := A3.left hv; clear hv ho5 A3)
                 | (rw [zeros3]; refine stEn rfl (.tmp 20) (.tmp 166) rfl rfl rfl (show EnAt tEn (w5.alloc (oEn tEn 0 0 0)) w5.heap.size 0 0 0 from blk_new w5 _) ?_; intro w7 h7 ho; have HS7 := Lib.hid (show ∃ S, PY R w w7 p S n t g cap t (.slice yt lt ct) L (fun j y => j = ba ∧ y = oAc x ∨ (j = w5.heap.size ∧ y = oEn tEn 0 0 0)) from ⟨S5, A5.fresh (Off.toBelow (trA (tr0 w5) (oEn tEn 0 0 0)) ho (fun j hj e => by omega) (Nat.le_refl _)) h7⟩); clear h7 ho A5))
                generalize w5.heap.size = be at *
                refine wp_region_held_drew (S := fun w' => ∃ S, PY R w w' p S n t g cap t (.slice yt lt ct) L (fun j y => j = ba ∧ y = oAc x ∨ (j = be ∧ y = oEn tEn 0 0 0))) (by kernel_rfl) (by obtain ⟨S1, A⟩ := HS7.out; exact ⟨S1, A.below (trD (tr0 w7))⟩) (fun h => ?_)
                have HS := Lib.hid h
                clear h HS7 HA3
                generalize w7.drew = U0 at *
                refine wpAnyH_take (i := 0) (v := .bool false) rfl (by kernel_rfl) (by kernel_rfl) (by kernel_rfl) (fun _ _ _ h => h) (Or.inl ⟨by kernel_rfl, fun w' hSw => by clear hSw; go_simp⟩) HS.out ?_
                simp only [List.getElem_toArray, List.getElem_cons_zero, List.getElem_cons_succ, Act.put, List.setIfInBounds_toArray, List.set_cons_zero, List.set_cons_succ]
                refine wpAnyH_take (i := 1) (v := .int .i64 (-1)) rfl (by kernel_rfl) (by kernel_rfl) (by kernel_rfl) (fun _ _ _ h => h) (Or.inl ⟨by kernel_rfl, fun w' hSw => by clear hSw; go_simp⟩) HS.out ?_
                simp only [List.getElem_toArray, List.getElem_cons_zero, List.getElem_cons_succ, Act.put, List.setIfInBounds_toArray, List.set_cons_zero, List.set_cons_succ]
                refine wpAnyH_take (i := 2) (v := .bool false) rfl (by kernel_rfl) (by kernel_rfl) (by kernel_rfl) (fun _ _ _ h => h) (Or.inl ⟨by kernel_rfl, fun w' hSw => by clear hSw; go_simp⟩) HS.out ?_
                simp only [List.getElem_toArray, List.getElem_cons_zero, List.getElem_cons_succ, Act.put, List.setIfInBounds_toArray, List.set_cons_zero, List.set_cons_succ]
                refine wpAnyH_take (i := 3) (v := .bool false) rfl (by kernel_rfl) (by kernel_rfl) (by kernel_rfl) (fun _ _ _ h => h) (Or.inl ⟨by kernel_rfl, fun w' hSw => by clear hSw; go_simp⟩) HS.out ?_
                simp only [List.getElem_toArray, List.getElem_cons_zero, List.getElem_cons_succ, Act.put, List.setIfInBounds_toArray, List.set_cons_zero, List.set_cons_succ]
                refine wpAnyH_take (i := 4) (v := .bool false) rfl (by kernel_rfl) (by kernel_rfl) (by kernel_rfl) (fun _ _ _ h => h) (Or.inl ⟨by kernel_rfl, fun w' hSw => by clear hSw; go_simp⟩) HS.out ?_
                simp only [List.getElem_toArray, List.getElem_cons_zero, List.getElem_cons_succ, Act.put, List.setIfInBounds_toArray, List.set_cons_zero, List.set_cons_succ]
                refine wpAnyH_take (i := 5) (v := .bool false) rfl (by kernel_rfl) (by kernel_rfl) (by kernel_rfl) (fun _ _ _ h => h) (Or.inl ⟨by kernel_rfl, fun w' hSw => by clear hSw; go_simp⟩) HS.out ?_
                simp only [List.getElem_toArray, List.getElem_cons_zero, List.getElem_cons_succ, Act.put, List.setIfInBounds_toArray, List.set_cons_zero, List.set_cons_succ]
                refine wpAnyH_take (i := 6) (v := .bool false) rfl (by kernel_rfl) (by kernel_rfl) (by kernel_rfl) (fun _ _ _ h => h) (Or.inl ⟨by kernel_rfl, fun w' hSw => by clear hSw; go_simp⟩) HS.out ?_
                simp only [List.getElem_toArray, List.getElem_cons_zero, List.getElem_cons_succ, Act.put, List.setIfInBounds_toArray, List.set_cons_zero, List.set_cons_succ]
                refine wpAnyH_take (i := 7) (v := undef) rfl (by kernel_rfl) (by kernel_rfl) (by kernel_rfl) (fun _ _ _ h => h) (Or.inr ⟨by kernel_rfl, rfl⟩) HS.out ?_
                simp only [List.getElem_toArray, List.getElem_cons_zero, List.getElem_cons_succ, Act.put, List.setIfInBounds_toArray, List.set_cons_zero, List.set_cons_succ]
                refine wpAnyH_take (i := 8) (v := undef) rfl (by kernel_rfl) (by kernel_rfl) (by kernel_rfl) (fun _ _ _ h => h) (Or.inr ⟨by kernel_rfl, rfl⟩) HS.out ?_
                simp only [List.getElem_toArray, List.getElem_cons_zero, List.getElem_cons_succ, Act.put, List.setIfInBounds_toArray, List.set_cons_zero, List.set_cons_succ]
                refine wpAnyH_take (i := 9) (v := undef) rfl (by kernel_rfl) (by kernel_rfl) (by kernel_rfl) (fun _ _ _ h => h) (Or.inr ⟨by kernel_rfl, rfl⟩) HS.out ?_
                simp only [List.getElem_toArray, List.getElem_cons_zero, List.getElem_cons_succ, Act.put, List.setIfInBounds_toArray, List.set_cons_zero, List.set_cons_succ]
                refine wpAnyH_take (i := 10) (v := undef) rfl (by kernel_rfl) (by kernel_rfl) (by kernel_rfl) (fun _ _ _ h => h) (Or.inr ⟨by kernel_rfl, rfl⟩) HS.out ?_
                simp only [List.getElem_toArray, List.getElem_cons_zero, List.getElem_cons_succ, Act.put, List.setIfInBounds_toArray, List.set_cons_zero, List.set_cons_succ]
                refine wpAnyH_take (i := 11) (v := undef) rfl (by kernel_rfl) (by kernel_rfl) (by kernel_rfl) (fun _ _ _ h => h) (Or.inr ⟨by kernel_rfl, rfl⟩) HS.out ?_
                simp only [List.getElem_toArray, List.getElem_cons_zero, List.getElem_cons_succ, Act.put, List.setIfInBounds_toArray, List.set_cons_zero, List.set_cons_succ]
                refine wpAnyH_take (i := 12) (v := undef) rfl (by kernel_rfl) (by kernel_rfl) (by kernel_rfl) (fun _ _ _ h => h) (Or.inr ⟨by kernel_rfl, rfl⟩) HS.out ?_
                simp only [List.getElem_toArray, List.getElem_cons_zero, List.getElem_cons_succ, Act.put, List.setIfInBounds_toArray, List.set_cons_zero, List.set_cons_succ]
                refine wpAnyH_take (i := 13) (v := undef) rfl (by kernel_rfl) (by kernel_rfl) (by kernel_rfl) (fun _ _ _ h => h) (Or.inr ⟨by kernel_rfl, rfl⟩) HS.out ?_
                simp only [List.getElem_toArray, List.getElem_cons_zero, List.getElem_cons_succ, Act.put, List.setIfInBounds_toArray, List.set_cons_zero, List.set_cons_succ]
                refine wpAnyH_take (i := 14) (v := .bool false) rfl (by kernel_rfl) (by kernel_rfl) (by kernel_rfl) (fun _ _ _ h => h) (Or.inl ⟨by kernel_rfl, fun w' hSw => by clear hSw; go_simp⟩) HS.out ?_
                simp only [List.getElem_toArray, List.getElem_cons_zero, List.getElem_cons_succ, Act.put, List.setIfInBounds_toArray, List.set_cons_zero, List.set_cons_succ]
                refine wpAnyH_take (i := 15) (v := .bool false) rfl (by kernel_rfl) (by kernel_rfl) (by kernel_rfl) (fun _ _ _ h => h) (Or.inl ⟨by kernel_rfl, fun w' hSw => by clear hSw; go_simp⟩) HS.out ?_
                simp only [List.getElem_toArray, List.getElem_cons_zero, List.getElem_cons_succ, Act.put, List.setIfInBounds_toArray, List.set_cons_zero, List.set_cons_succ]
                refine wpAnyH_take (i := 16) (v := .bool false) rfl (by kernel_rfl) (by kernel_rfl) (by kernel_rfl) (fun _ _ _ h => h) (Or.inl ⟨by kernel_rfl, fun w' hSw => by clear hSw; go_simp⟩) HS.out ?_
                simp only [List.getElem_toArray, List.getElem_cons_zero, List.getElem_cons_succ, Act.put, List.setIfInBounds_toArray, List.set_cons_zero, List.set_cons_succ]
                refine wpAnyH_take (i := 17) (v := .bool false) rfl (by kernel_rfl) (by kernel_rfl) (by kernel_rfl) (fun _ _ _ h => h) (Or.inl ⟨by kernel_rfl, fun w' hSw => by clear hSw; go_simp⟩) HS.out ?_
                simp only [List.getElem_toArray, List.getElem_cons_zero, List.getElem_cons_succ, Act.put, List.setIfInBounds_toArray, List.set_cons_zero, List.set_cons_succ]
                refine wpAnyH_take (i := 18) (v := .bool true) rfl (by kernel_rfl) (by kernel_rfl) (by kernel_rfl) (fun _ _ _ h => h) (Or.inl ⟨by kernel_rfl, fun w' hSw => by clear hSw; go_simp⟩) HS.out ?_
                simp only [List.getElem_toArray, List.getElem_cons_zero, List.getElem_cons_succ, Act.put, List.setIfInBounds_toArray, List.set_cons_zero, List.set_cons_succ]
                refine wpAnyH_take (i := 19) (v := .bool true) rfl (by kernel_rfl) (by kernel_rfl) (by kernel_rfl) (fun _ _ _ h => h) (Or.inl ⟨by kernel_rfl, fun w' hSw => by clear hSw; go_simp⟩) HS.out ?_
                simp only [List.getElem_toArray, List.getElem_cons_zero, List.getElem_cons_succ, Act.put, List.setIfInBounds_toArray, List.set_cons_zero, List.set_cons_succ]
                refine wpAnyH_take (i := 20) (v := .agg (e3 0 0 0).toArray) rfl (by kernel_rfl) (by kernel_rfl) (by kernel_rfl) (fun _ _ _ h => h) (Or.inl ⟨by kernel_rfl, fun w' ⟨_, X⟩ => rldEn (.tmp 20) rfl rfl (X.F _ _ (.inr ⟨rfl, rfl⟩)).1⟩) HS.out ?_
                simp only [List.getElem_toArray, List.getElem_cons_zero, List.getElem_cons_succ, Act.put, List.setIfInBounds_toArray, List.set_cons_zero, List.set_cons_succ]
                refine wpAnyH_take (i := 21) (v := .agg (e3 0 0 0).toArray) rfl (by kernel_rfl) (by kernel_rfl) (by kernel_rfl) (fun _ _ _ h => h) (Or.inl ⟨by kernel_rfl, fun w' _ => rbuildEn rfl⟩) HS.out ?_
                simp only [List.getElem_toArray, List.getElem_cons_zero, List.getElem_cons_succ, Act.put, List.setIfInBounds_toArray, List.set_cons_zero, List.set_cons_succ]
                refine wpAnyH_take (i := 22) (v := .bool false) rfl (by kernel_rfl) (by kernel_rfl) (by kernel_rfl) (fun _ _ _ h => h) (Or.inl ⟨by kernel_rfl, fun w' _ => rneEn (.tmp 188) (.tmp 189) _ rfl rfl rfl⟩) HS.out ?_
                simp only [List.getElem_toArray, List.getElem_cons_zero, List.getElem_cons_succ, Act.put, List.setIfInBounds_toArray, List.set_cons_zero, List.set_cons_succ]
                refine wpAnyH_take (i := 23) (v := .bool false) rfl (by kernel_rfl) (by kernel_rfl) (by kernel_rfl) (fun _ _ _ h => h) (Or.inl ⟨by kernel_rfl, fun w' hSw => by clear hSw; go_simp⟩) HS.out ?_
                simp only [List.getElem_toArray, List.getElem_cons_zero, List.getElem_cons_succ, Act.put, List.setIfInBounds_toArray, List.set_cons_zero, List.set_cons_succ]
                refine wpAnyH_take (i := 24) (v := .bool false) rfl (by kernel_rfl) (by kernel_rfl) (by kernel_rfl) (fun _ _ _ h => h) (Or.inl ⟨by kernel_rfl, fun w' hSw => by clear hSw; go_simp⟩) HS.out ?_
                simp only [List.getElem_toArray, List.getElem_cons_zero, List.getElem_cons_succ, Act.put, List.setIfInBounds_toArray, List.set_cons_zero, List.set_cons_succ]
                refine wpAnyH_take (i := 25) (v := .bool false) rfl (by kernel_rfl) (by kernel_rfl) (by kernel_rfl) (fun _ _ _ h => h) (Or.inl ⟨by kernel_rfl, fun w' hSw => by clear hSw; go_simp⟩) HS.out ?_
                simp only [List.getElem_toArray, List.getElem_cons_zero, List.getElem_cons_succ, Act.put, List.setIfInBounds_toArray, List.set_cons_zero, List.set_cons_succ]
                refine wpAnyH_take (i := 26) (v := .pointer (some ⟨p, 0, none⟩)) rfl (by kernel_rfl) (by kernel_rfl) (by kernel_rfl) (fun _ _ _ h => h) (Or.inl ⟨by kernel_rfl, fun w' hSw => by clear hSw; go_simp⟩) HS.out ?_
                simp only [List.getElem_toArray, List.getElem_cons_zero, List.getElem_cons_succ, Act.put, List.setIfInBounds_toArray, List.set_cons_zero, List.set_cons_succ]
                refine wpAnyH_take (i := 27) (v := .int .u64 X) rfl (by kernel_rfl) (by kernel_rfl) (by kernel_rfl) (fun _ _ _ h => h) (Or.inl ⟨by kernel_rfl, fun w' hSw => by clear hSw; go_simp⟩) HS.out ?_
                simp only [List.getElem_toArray, List.getElem_cons_zero, List.getElem_cons_succ, Act.put, List.setIfInBounds_toArray, List.set_cons_zero, List.set_cons_succ]
                refine wpAnyH_take (i := 29) (v := .int .i64 (-1)) rfl (by kernel_rfl) (by kernel_rfl) (by kernel_rfl) (fun _ _ _ h => h) (Or.inl ⟨by kernel_rfl, fun w' hSw => by clear hSw; go_simp⟩) HS.out ?_
                simp only [List.getElem_toArray, List.getElem_cons_zero, List.getElem_cons_succ, Act.put, List.setIfInBounds_toArray, List.set_cons_zero, List.set_cons_succ]
                refine wpAnyH_ready (rs := [28]) (by kernel_rfl) (by simp) ?_
                refine AllReadyH.cons rfl (fun K hK => ?_) AllReadyH.nil
                go_simp
                obtain ⟨S6, A6⟩ := HS.out
                refine (HPl.out _ _ A6.K).mono ?_
                rintro e w8 ⟨rfl, hv⟩
                obtain ⟨S7, A7, _, ho7⟩ := A6.left hv
                have HS := Lib.hid (show ∃ S, PY R w w8 p S n t g cap t (.slice yt lt ct) L (fun j y => j = ba ∧ y = oAc x ∨ (j = be ∧ y = oEn tEn 0 0 0)) from ⟨S7, A7⟩)
                clear hv ho7 A6 A7
                refine hK.out _ _ HS.out (fun _ => ?_)
                clear hK K
                try simp only [Act.put]
                refine wpAnyH_take (i := 30) (v := .bool false) rfl (by kernel_rfl) (by kernel_rfl) (by kernel_rfl) (fun _ _ _ h => h) (Or.inl ⟨by kernel_rfl, fun w' hSw => by clear hSw; go_simp⟩) HS.out ?_
                simp only [List.getElem_toArray, List.getElem_cons_zero, List.getElem_cons_succ, Act.put, List.setIfInBounds_toArray, List.set_cons_zero, List.set_cons_succ]
                refine wpAnyH_take (i := 31) (v := .bool false) rfl (by kernel_rfl) (by kernel_rfl) (by kernel_rfl) (fun _ _ _ h => h) (Or.inl ⟨by kernel_rfl, fun w' hSw => by clear hSw; go_simp⟩) HS.out ?_
                simp only [List.getElem_toArray, List.getElem_cons_zero, List.getElem_cons_succ, Act.put, List.setIfInBounds_toArray, List.set_cons_zero, List.set_cons_succ]
                refine wpAnyH_done (by kernel_rfl) ?_ _
                have HA := HS
                clear HS HPl
                go_wp2_with fail
                obtain ⟨S8, A8⟩ := HA.out
                have HAl := Lib.hid (poAlike HC.out (A8.K.vin n0 n1 HO2.out.1 (by omega)) A8.M A8.Mg)
                go_wp2_with (go_at_call 23; refine HAl.out.mono ?_; rintro e w9 ⟨rfl, hv⟩; have HA9 := Lib.hid (show ∃ S, PY R w w9 p S n t g cap t (.slice yt lt ct) L (fun _ _ => False) from by obtain ⟨S9, A9, _⟩ := A8.left hv; exact ⟨S9, A9.less (fun k o h => h.elim)⟩); clear hv A8 HAl)
                go_roundw
                case rel => exact ⟨i + 1, p, g, cap, L, t, by omega, by omega, rfl, rfl, by go_num, HA9, HO2⟩
                case measure => simp [intOf]; omega
              | some k =>
                have hk := (fnd_some hfd).1
                have HGe := Lib.hid (HC.out.get wc p S3 n t X (A3.K.vin n0 n1 HO.out.1 (by omega)) HXR.out)
                have HPl := Lib.hid (fun (w' : World) (S1 : Nat → Prop) (A : KS R w w' p S1 n t) => HC.out.place w' p S1 n t X (A.vin n0 n1 HO.out.1 (by omega)) HXR.out)
                unfold fndI at HPl HFd
                rw [hfd] at HGe HPl HFd
                dsimp only at HGe HPl HFd
                clear hfd hkb
                have HO2 := Lib.hid (show (∀ q, q < n → (t q).ok (1 + (i + 1))) ∧ (∀ x, x ∈ L → u64r x) ∧ 1 ≤ L.length ∧ L.length ≤ 1 + (i + 1) from ⟨fun q hq => (HO.out.1 q hq).more (by omega), HO.out.2.1, HO.out.2.2.1, Nat.le_succ_of_le HO.out.2.2.2⟩)
                go_wp2_with (first
                 | (go_at_call 11; refine HFd.out.mono ?_; rintro e w4 ⟨rfl, rfl⟩)
                 | (go_at_call 18; refine HGe.out.mono ?_; rintro e w5 ⟨rfl, hv⟩; obtain ⟨S5, A5, _, ho5⟩ := A3.left hv; clear hv ho5 A3)
                 | (rw [zeros3]; refine stEn rfl (.tmp 20) (.tmp 166) rfl rfl rfl (show EnAt tEn (w5.alloc (oEn tEn 0 0 0)) w5.heap.size 0 0 0 from blk_new w5 _) ?_; intro w7 h7 ho; have HS7 := Lib.hid (show ∃ S, PY R w w7 p S n t g cap t (.slice yt lt ct) L (fun j y => j = ba ∧ y = oAc x ∨ (j = w5.heap.size ∧ y = oEn tEn (t k).d (t k).p (t k).o)) from ⟨S5, A5.fresh (Off.toBelow (trA (tr0 w5) (oEn tEn 0 0 0)) ho (fun j hj e => by omega) (Nat.le_refl _)) h7⟩); clear h7 ho A5))
                generalize w5.heap.size = be at *
                refine wp_region_held_drew (S := fun w' => ∃ S, PY R w w' p S n t g cap t (.slice yt lt ct) L (fun j y => j = ba ∧ y = oAc x ∨ (j = be ∧ y = oEn tEn (t k).d (t k).p (t k).o))) (by kernel_rfl) (by obtain ⟨S1, A⟩ := HS7.out; exact ⟨S1, A.below (trD (tr0 w7))⟩) (fun h => ?_)
                have HS := Lib.hid h
                clear h HS7 HA3
                generalize w7.drew = U0 at *
                refine wpAnyH_take (i := 0) (v := .bool true) rfl (by kernel_rfl) (by kernel_rfl) (by kernel_rfl) (fun _ _ _ h => h) (Or.inl ⟨by kernel_rfl, fun w' hSw => by clear hSw; go_simp⟩) HS.out ?_
                simp only [List.getElem_toArray, List.getElem_cons_zero, List.getElem_cons_succ, Act.put, List.setIfInBounds_toArray, List.set_cons_zero, List.set_cons_succ]
                refine wpAnyH_take (i := 1) (v := .int .i64 k) rfl (by kernel_rfl) (by kernel_rfl) (by kernel_rfl) (fun _ _ _ h => h) (Or.inl ⟨by kernel_rfl, fun w' hSw => by clear hSw; go_simp⟩) HS.out ?_
                simp only [List.getElem_toArray, List.getElem_cons_zero, List.getElem_cons_succ, Act.put, List.setIfInBounds_toArray, List.set_cons_zero, List.set_cons_succ]
                refine wpAnyH_take (i := 2) (v := .bool true) rfl (by kernel_rfl) (by kernel_rfl) (by kernel_rfl) (fun _ _ _ h => h) (Or.inl ⟨by kernel_rfl, fun w' hSw => by clear hSw; go_simp⟩) HS.out ?_
                simp only [List.getElem_toArray, List.getElem_cons_zero, List.getElem_cons_succ, Act.put, List.setIfInBounds_toArray, List.set_cons_zero, List.set_cons_succ]
                refine wpAnyH_take (i := 3) (v := .bool false) rfl (by kernel_rfl) (by kernel_rfl) (by kernel_rfl) (fun _ _ _ h => h) (Or.inl ⟨by kernel_rfl, fun w' hSw => by clear hSw; go_simp⟩) HS.out ?_
                simp only [List.getElem_toArray, List.getElem_cons_zero, List.getElem_cons_succ, Act.put, List.setIfInBounds_toArray, List.set_cons_zero, List.set_cons_succ]
                refine wpAnyH_take (i := 4) (v := .bool false) rfl (by kernel_rfl) (by kernel_rfl) (by kernel_rfl) (fun _ _ _ h => h) (Or.inl ⟨by kernel_rfl, fun w' hSw => by clear hSw; go_simp⟩) HS.out ?_
                simp only [List.getElem_toArray, List.getElem_cons_zero, List.getElem_cons_succ, Act.put, List.setIfInBounds_toArray, List.set_cons_zero, List.set_cons_succ]
                refine wpAnyH_take (i := 5) (v := .bool true) rfl (by kernel_rfl) (by kernel_rfl) (by kernel_rfl) (fun _ _ _ h => h) (Or.inl ⟨by kernel_rfl, fun w' hSw => by clear hSw; go_simp⟩) HS.out ?_
                simp only [List.getElem_toArray, List.getElem_cons_zero, List.getElem_cons_succ, Act.put, List.setIfInBounds_toArray, List.set_cons_zero, List.set_cons_succ]
                refine wpAnyH_take (i := 6) (v := .bool true) rfl (by kernel_rfl) (by kernel_rfl) (by kernel_rfl) (fun _ _ _ h => h) (Or.inl ⟨by kernel_rfl, fun w' hSw => by clear hSw; go_simp⟩) HS.out ?_
                simp only [List.getElem_toArray, List.getElem_cons_zero, List.getElem_cons_succ, Act.put, List.setIfInBounds_toArray, List.set_cons_zero, List.set_cons_succ]
                refine wpAnyH_take (i := 7) (v := .agg (e3 (t k).d (t k).p (t k).o).toArray) rfl (by kernel_rfl) (by kernel_rfl) (by kernel_rfl) (fun _ _ _ h => h) (Or.inl ⟨by kernel_rfl, fun w' ⟨_, X⟩ => rldEn (.tmp 20) rfl rfl (X.F _ _ (.inr ⟨rfl, rfl⟩)).1⟩) HS.out ?_
                simp only [List.getElem_toArray, List.getElem_cons_zero, List.getElem_cons_succ, Act.put, List.setIfInBounds_toArray, List.set_cons_zero, List.set_cons_succ]
                refine wpAnyH_take (i := 8) (v := .slice (some ⟨g, 0, none⟩) n cap) rfl (by kernel_rfl) (by kernel_rfl) (by kernel_rfl) (fun _ _ _ h => h) (Or.inl ⟨by kernel_rfl, fun w' hSw => by clear hSw; go_simp⟩) HS.out ?_
                simp only [List.getElem_toArray, List.getElem_cons_zero, List.getElem_cons_succ, Act.put, List.setIfInBounds_toArray, List.set_cons_zero, List.set_cons_succ]
                refine wpAnyH_take (i := 9) (v := .int .i64 k) rfl (by kernel_rfl) (by kernel_rfl) (by kernel_rfl) (fun _ _ _ h => h) (Or.inl ⟨by kernel_rfl, fun w' hSw => by clear hSw; go_simp⟩) HS.out ?_
                simp only [List.getElem_toArray, List.getElem_cons_zero, List.getElem_cons_succ, Act.put, List.setIfInBounds_toArray, List.set_cons_zero, List.set_cons_succ]
                refine wpAnyH_take (i := 10) (v := .pointer (some ⟨g, k * 5, none⟩)) rfl (by kernel_rfl) (by kernel_rfl) (by kernel_rfl) (fun _ _ _ h => h) (Or.inl ⟨by kernel_rfl, fun w' hSw => by clear hSw; go_simp⟩) HS.out ?_
                simp only [List.getElem_toArray, List.getElem_cons_zero, List.getElem_cons_succ, Act.put, List.setIfInBounds_toArray, List.set_cons_zero, List.set_cons_succ]
                refine wpAnyH_take (i := 11) (v := .pointer (some ⟨g, k * 5 + 2, none⟩)) rfl (by kernel_rfl) (by kernel_rfl) (by kernel_rfl) (fun _ _ _ h => h) (Or.inl ⟨by kernel_rfl, fun w' hSw => by clear hSw; go_simp⟩) HS.out ?_
                simp only [List.getElem_toArray, List.getElem_cons_zero, List.getElem_cons_succ, Act.put, List.setIfInBounds_toArray, List.set_cons_zero, List.set_cons_succ]
                refine wpAnyH_take (i := 12) (v := .agg (e3 (t k).d (t k).p (t k).o).toArray) rfl (by kernel_rfl) (by kernel_rfl) (by kernel_rfl) (fun _ _ _ h => h) (Or.inl ⟨by kernel_rfl, fun w' ⟨_, X⟩ => ldRowE (.tmp 179) rfl rfl X.M hk⟩) HS.out ?_
                simp only [List.getElem_toArray, List.getElem_cons_zero, List.getElem_cons_succ, Act.put, List.setIfInBounds_toArray, List.set_cons_zero, List.set_cons_succ]
                refine wpAnyH_take (i := 13) (v := .bool false) rfl (by kernel_rfl) (by kernel_rfl) (by kernel_rfl) (fun _ _ _ h => h) (Or.inl ⟨by kernel_rfl, fun w' _ => rneEr (.tmp 175) (.tmp 180) _ rfl rfl rfl⟩) HS.out ?_
                simp only [List.getElem_toArray, List.getElem_cons_zero, List.getElem_cons_succ, Act.put, List.setIfInBounds_toArray, List.set_cons_zero, List.set_cons_succ]
                refine wpAnyH_take (i := 14) (v := .bool false) rfl (by kernel_rfl) (by kernel_rfl) (by kernel_rfl) (fun _ _ _ h => h) (Or.inl ⟨by kernel_rfl, fun w' hSw => by clear hSw; go_simp⟩) HS.out ?_
                simp only [List.getElem_toArray, List.getElem_cons_zero, List.getElem_cons_succ, Act.put, List.setIfInBounds_toArray, List.set_cons_zero, List.set_cons_succ]
                refine wpAnyH_take (i := 15) (v := .bool false) rfl (by kernel_rfl) (by kernel_rfl) (by kernel_rfl) (fun _ _ _ h => h) (Or.inl ⟨by kernel_rfl, fun w' hSw => by clear hSw; go_simp⟩) HS.out ?_
                simp only [List.getElem_toArray, List.getElem_cons_zero, List.getElem_cons_succ, Act.put, List.setIfInBounds_toArray, List.set_cons_zero, List.set_cons_succ]
                refine wpAnyH_take (i := 16) (v := .bool false) rfl (by kernel_rfl) (by kernel_rfl) (by kernel_rfl) (fun _ _ _ h => h) (Or.inl ⟨by kernel_rfl, fun w' hSw => by clear hSw; go_simp⟩) HS.out ?_
                simp only [List.getElem_toArray, List.getElem_cons_zero, List.getElem_cons_succ, Act.put, List.setIfInBounds_toArray, List.set_cons_zero, List.set_cons_succ]
                refine wpAnyH_take (i := 17) (v := .bool true) rfl (by kernel_rfl) (by kernel_rfl) (by kernel_rfl) (fun _ _ _ h => h) (Or.inl ⟨by kernel_rfl, fun w' hSw => by clear hSw; go_simp⟩) HS.out ?_
                simp only [List.getElem_toArray, List.getElem_cons_zero, List.getElem_cons_succ, Act.put, List.setIfInBounds_toArray, List.set_cons_zero, List.set_cons_succ]
                refine wpAnyH_take (i := 18) (v := .bool false) rfl (by kernel_rfl) (by kernel_rfl) (by kernel_rfl) (fun _ _ _ h => h) (Or.inl ⟨by kernel_rfl, fun w' hSw => by clear hSw; go_simp⟩) HS.out ?_
                simp only [List.getElem_toArray, List.getElem_cons_zero, List.getElem_cons_succ, Act.put, List.setIfInBounds_toArray, List.set_cons_zero, List.set_cons_succ]
                refine wpAnyH_take (i := 19) (v := .bool false) rfl (by kernel_rfl) (by kernel_rfl) (by kernel_rfl) (fun _ _ _ h => h) (Or.inl ⟨by kernel_rfl, fun w' hSw => by clear hSw; go_simp⟩) HS.out ?_
                simp only [List.getElem_toArray, List.getElem_cons_zero, List.getElem_cons_succ, Act.put, List.setIfInBounds_toArray, List.set_cons_zero, List.set_cons_succ]
                refine wpAnyH_take (i := 20) (v := undef) rfl (by kernel_rfl) (by kernel_rfl) (by kernel_rfl) (fun _ _ _ h => h) (Or.inr ⟨by kernel_rfl, rfl⟩) HS.out ?_
                simp only [List.getElem_toArray, List.getElem_cons_zero, List.getElem_cons_succ, Act.put, List.setIfInBounds_toArray, List.set_cons_zero, List.set_cons_succ]
                refine wpAnyH_take (i := 21) (v := undef) rfl (by kernel_rfl) (by kernel_rfl) (by kernel_rfl) (fun _ _ _ h => h) (Or.inr ⟨by kernel_rfl, rfl⟩) HS.out ?_
                simp only [List.getElem_toArray, List.getElem_cons_zero, List.getElem_cons_succ, Act.put, List.setIfInBounds_toArray, List.set_cons_zero, List.set_cons_succ]
                refine wpAnyH_take (i := 22) (v := undef) rfl (by kernel_rfl) (by kernel_rfl) (by kernel_rfl) (fun _ _ _ h => h) (Or.inr ⟨by kernel_rfl, rfl⟩) HS.out ?_
                simp only [List.getElem_toArray, List.getElem_cons_zero, List.getElem_cons_succ, Act.put, List.setIfInBounds_toArray, List.set_cons_zero, List.set_cons_succ]
                refine wpAnyH_take (i := 23) (v := .bool false) rfl (by kernel_rfl) (by kernel_rfl) (by kernel_rfl) (fun _ _ _ h => h) (Or.inl ⟨by kernel_rfl, fun w' hSw => by clear hSw; go_simp⟩) HS.out ?_
                simp only [List.getElem_toArray, List.getElem_cons_zero, List.getElem_cons_succ, Act.put, List.setIfInBounds_toArray, List.set_cons_zero, List.set_cons_succ]
                refine wpAnyH_take (i := 24) (v := .bool false) rfl (by kernel_rfl) (by kernel_rfl) (by kernel_rfl) (fun _ _ _ h => h) (Or.inl ⟨by kernel_rfl, fun w' hSw => by clear hSw; go_simp⟩) HS.out ?_
                simp only [List.getElem_toArray, List.getElem_cons_zero, List.getElem_cons_succ, Act.put, List.setIfInBounds_toArray, List.set_cons_zero, List.set_cons_succ]
                refine wpAnyH_take (i := 25) (v := .bool false) rfl (by kernel_rfl) (by kernel_rfl) (by kernel_rfl) (fun _ _ _ h => h) (Or.inl ⟨by kernel_rfl, fun w' hSw => by clear hSw; go_simp⟩) HS.out ?_
                simp only [List.getElem_toArray, List.getElem_cons_zero, List.getElem_cons_succ, Act.put, List.setIfInBounds_toArray, List.set_cons_zero, List.set_cons_succ]
                refine wpAnyH_take (i := 26) (v := .pointer (some ⟨p, 0, none⟩)) rfl (by kernel_rfl) (by kernel_rfl) (by kernel_rfl) (fun _ _ _ h => h) (Or.inl ⟨by kernel_rfl, fun w' hSw => by clear hSw; go_simp⟩) HS.out ?_
                simp only [List.getElem_toArray, List.getElem_cons_zero, List.getElem_cons_succ, Act.put, List.setIfInBounds_toArray, List.set_cons_zero, List.set_cons_succ]
                refine wpAnyH_take (i := 27) (v := .int .u64 X) rfl (by kernel_rfl) (by kernel_rfl) (by kernel_rfl) (fun _ _ _ h => h) (Or.inl ⟨by kernel_rfl, fun w' hSw => by clear hSw; go_simp⟩) HS.out ?_
                simp only [List.getElem_toArray, List.getElem_cons_zero, List.getElem_cons_succ, Act.put, List.setIfInBounds_toArray, List.set_cons_zero, List.set_cons_succ]
                refine wpAnyH_take (i := 29) (v := .int .i64 k) rfl (by kernel_rfl) (by kernel_rfl) (by kernel_rfl) (fun _ _ _ h => h) (Or.inl ⟨by kernel_rfl, fun w' hSw => by clear hSw; go_simp⟩) HS.out ?_
                simp only [List.getElem_toArray, List.getElem_cons_zero, List.getElem_cons_succ, Act.put, List.setIfInBounds_toArray, List.set_cons_zero, List.set_cons_succ]
                refine wpAnyH_ready (rs := [28]) (by kernel_rfl) (by simp) ?_
                refine AllReadyH.cons rfl (fun K hK => ?_) AllReadyH.nil
                go_simp
                obtain ⟨S6, A6⟩ := HS.out
                refine (HPl.out _ _ A6.K).mono ?_
                rintro e w8 ⟨rfl, hv⟩
                obtain ⟨S7, A7, _, ho7⟩ := A6.left hv
                have HS := Lib.hid (show ∃ S, PY R w w8 p S n t g cap t (.slice yt lt ct) L (fun j y => j = ba ∧ y = oAc x ∨ (j = be ∧ y = oEn tEn (t k).d (t k).p (t k).o)) from ⟨S7, A7⟩)
                clear hv ho7 A6 A7
                refine hK.out _ _ HS.out (fun _ => ?_)
                clear hK K
                try simp only [Act.put]
                refine wpAnyH_take (i := 30) (v := .bool false) rfl (by kernel_rfl) (by kernel_rfl) (by kernel_rfl) (fun _ _ _ h => h) (Or.inl ⟨by kernel_rfl, fun w' hSw => by clear hSw; go_simp⟩) HS.out ?_
                simp only [List.getElem_toArray, List.getElem_cons_zero, List.getElem_cons_succ, Act.put, List.setIfInBounds_toArray, List.set_cons_zero, List.set_cons_succ]
                refine wpAnyH_take (i := 31) (v := .bool false) rfl (by kernel_rfl) (by kernel_rfl) (by kernel_rfl) (fun _ _ _ h => h) (Or.inl ⟨by kernel_rfl, fun w' hSw => by clear hSw; go_simp⟩) HS.out ?_
                simp only [List.getElem_toArray, List.getElem_cons_zero, List.getElem_cons_succ, Act.put, List.setIfInBounds_toArray, List.set_cons_zero, List.set_cons_succ]
                refine wpAnyH_done (by kernel_rfl) ?_ _
                have HA := HS
                clear HS HPl
                go_wp2_with fail
                obtain ⟨S8, A8⟩ := HA.out
                have HAl := Lib.hid (poAlike HC.out (A8.K.vin n0 n1 HO2.out.1 (by omega)) A8.M A8.Mg)
                go_wp2_with (go_at_call 23; refine HAl.out.mono ?_; rintro e w9 ⟨rfl, hv⟩; have HA9 := Lib.hid (show ∃ S, PY R w w9 p S n t g cap t (.slice yt lt ct) L (fun _ _ => False) from by obtain ⟨S9, A9, _⟩ := A8.left hv; exact ⟨S9, A9.less (fun k o h => h.elim)⟩); clear hv A8 HAl)
                go_roundw
                case rel => exact ⟨i + 1, p, g, cap, L, t, by omega, by omega, rfl, rfl, by go_num, HA9, HO2⟩
                case measure => simp [intOf]; omega
           · have nk3 := hk3
             by_cases hk4 : x.K = 4
             · as_aux_lemma =>
                have fk0 : (x.K == 0) = false := by simpa using nk0
                have fk1 : (x.K == 1) = false := by simpa using nk1
                have fk2 : (x.K == 2) = false := by simpa using nk2
                have fk3 : (x.K == 3) = false := by simpa using nk3
                have fk4 : (x.K == 4) = true := by simpa using hk4
                have HHd := Lib.hid (fun (w' : World) (A : PY R w w' p S3 n t g cap t (.slice yt lt ct) L (fun k o => k = ba ∧ o = oAc x)) => pfHandles A.M HO.out.1 (by omega) n1)
                obtain ⟨hh, hhh⟩ : ∃ hh, (hdsB t n).length = hh := ⟨_, rfl⟩
                have HHL := Lib.hid hhh
                have HKO := Lib.hid (HO.out.1)
                have HO2 := Lib.hid (show (∀ q, q < n → ((clearT t) q).ok (1 + (i + 1))) ∧ (∀ x, x ∈ L → u64r x) ∧ 1 ≤ L.length ∧ L.length ≤ 1 + (i + 1) from ⟨fun q hq => (clear_ok HO.out.1 q hq).more (by omega), HO.out.2.1, HO.out.2.2.1, Nat.le_succ_of_le HO.out.2.2.2⟩)
                clear hhh
                go_wp2_with (go_at_call 11; refine HFd.out.mono ?_; rintro e w4 ⟨rfl, rfl⟩)
                refine (HHd.out _ A3).mono ?_
                rintro e w5 ⟨v5, rfl, hu5, hb5⟩
                obtain ⟨y5, c5, hv5, _⟩ := hu5.form
                rw [HHL.out] at hv5
                subst hv5
                have A5 := A3.below hb5
                clear hu5 hb5 A3
                go_wp2_with fail
                refine (HHd.out _ A5).mono ?_
                rintro e w6 ⟨v6, rfl, hu6, hb6⟩
                obtain ⟨y6, c6, hv6, _⟩ := hu6.form
                rw [HHL.out] at hv6
                subst hv6
                have A6 := A5.below hb6
                have HS5 := Lib.hid (show w.heap.size ≤ w5.heap.size from A5.K.lo.size)
                have HQ := Lib.hid (show PY R w w6 p S3 n t g cap (drp t 0) (.slice yt lt ct) L (fun k o => k = ba ∧ o = oAc x) ∧ UvAt w6 w5.heap.size (.slice y6 hh c6) (hdsB t n) from ⟨by rw [drp_zero]; exact A6, hu6⟩)
                clear hu6 hb6 A5 A6 HA3 HFd hkb HHd
                go_wp2_with fail
                go_loopw [9, 24] (fun v9 z wr => ∃ (j g cap : Nat), j ≤ hh ∧ z = .int .i64 j ∧ v9 = .slice (some ⟨g, 0, none⟩) n cap ∧ Hid (PY R w wr p S3 n t g cap (drp t j) (.slice yt lt ct) L (fun k o => k = ba ∧ o = oAc x) ∧ UvAt wr w5.heap.size (.slice y6 hh c6) (hdsB t n))) (fun v9 z wr => hh - (intOf z).toNat)
                case atStart => exact ⟨0, g, cap, by omega, rfl, rfl, HQ⟩
                case round =>
                 clear HQ
                 obtain ⟨j, g, cap, hj, rfl, rfl, HQ⟩ := hrel
                 by_cases hjl : j < hh
                 · obtain ⟨g6, X6, rfl, b1, b2, b3, hx6, c⟩ := HQ.out.2.cell2 HHL.out hjl
                   obtain ⟨k, hk, hkt, hkj, hkx⟩ := hds_at t n j (by rw [HHL.out]; exact hjl)
                   have hX6 : X6 = hd (t k) k := by rw [hx6] at hkx; exact Option.some.inj hkx
                   have hst := (drp_step HKO.out n1 hk hkt hkj).2
                   have hXr := (hd_num (HKO.out k hk) (by omega) k (by omega)).2
                   rw [← hX6] at hst hXr
                   have HDr := Lib.hid (pfDrop HQ.out.1.M (drp_ok HKO.out j) (by omega) n1 X6 hXr.1 hXr.2)
                   rw [hst] at HDr
                   have hm6 := HQ.out.1.M.cm
                   have hmn6 := HQ.out.1.M.nc
                   unfold maxLen at hm6
                   clear hx6 hkx hkj hkt hX6 hst hXr
                   go_wp2_with (go_at_call 14; refine HDr.out.mono ?_; rintro e w7 ⟨g7, cap7, rfl, hR, hg, hb⟩; have HN := Lib.hid (show PY R w w7 p S3 n t g7 cap7 (drp t (j + 1)) (.slice yt lt ct) L (fun k o => k = ba ∧ o = oAc x) ∧ UvAt w7 w5.heap.size (.slice (some ⟨g6, 0, none⟩) hh c6) (hdsB t n) from ⟨HQ.out.1.doc hb hR hg, HQ.out.2.below hb⟩); clear hR hg hb)
                   go_roundw
                   case rel => exact ⟨j + 1, g7, cap7, by omega, by go_num, rfl, HN⟩
                   case measure => simp [intOf]; omega
                 · obtain rfl : j = hh := by omega
                   have A7 := HQ.out.1
                   have HCl := Lib.hid (HC.out.clear _ p S3 n t (A7.K.vin n0 n1 HKO.out (by omega)))
                   rw [HHL.out] at HCl
                   have hq2 : ((j : Int) != (j : Int)) = false := by simp
                   go_upto_region 55 with (go_at_call 21; refine HCl.out.mono ?_; rintro e w8 ⟨rfl, hv⟩; obtain ⟨S8, A8, _, ho8⟩ := A7.left hv; have HA := Lib.hid (show ∃ S, PY R w w8 p S n (clearT t) g cap (clearT t) (.slice yt lt ct) L (fun k o => k = ba ∧ o = oAc x) from ⟨S8, ⟨A8.K, A8.M.congr fun q hq => by rw [← HHL.out]; exact drp_all t n q hq, A8.Mg, A8.Ml, A8.T, A8.Ts, A8.F⟩⟩); clear hv ho8 A7 A8 HCl)
                   obtain ⟨S8, A8⟩ := HA.out
                   have HAl := Lib.hid (poAlike HC.out (A8.K.vin n0 n1 HO2.out.1 (by omega)) A8.M A8.Mg)
                   go_wp2_with (go_at_call 23; refine HAl.out.mono ?_; rintro e w9 ⟨rfl, hv⟩; have HA9 := Lib.hid (show ∃ S, PY R w w9 p S n (clearT t) g cap (clearT t) (.slice yt lt ct) L (fun _ _ => False) from by obtain ⟨S9, A9, _⟩ := A8.left hv; exact ⟨S9, A9.less (fun k o h => h.elim)⟩); clear hv A8 HAl)
                   go_roundw
                   case rel => exact ⟨i + 1, p, g, cap, L, (clearT t), by omega, by omega, rfl, rfl, by go_num, HA9, HO2⟩
                   case measure => simp [intOf]; omega
             · have nk4 := hk4
               by_cases hk5 : x.K = 5
               · as_aux_lemma =>
                  have fk0 : (x.K == 0) = false := by simpa using nk0
                  have fk1 : (x.K == 1) = false := by simpa using nk1
                  have fk2 : (x.K == 2) = false := by simpa using nk2
                  have fk3 : (x.K == 3) = false := by simpa using nk3
                  have fk4 : (x.K == 4) = false := by simpa using nk4
                  have fk5 : (x.K == 5) = true := by simpa using hk5
                  have HAl0 := Lib.hid (fun (w' : World) (p' : Nat) (S : Nat → Prop) (A : PY R w w' p' S n t g cap t (.slice yt lt ct) L (fun k o => k = ba ∧ o = oAc x)) => poAlike HC.out (A.K.vin n0 n1 HO.out.1 (by omega)) A.M A.Mg)
                  have HO2 := Lib.hid (show (∀ q, q < n → (t q).ok (1 + (i + 1))) ∧ (∀ x, x ∈ L → u64r x) ∧ 1 ≤ L.length ∧ L.length ≤ 1 + (i + 1) from ⟨fun q hq => (HO.out.1 q hq).more (by omega), HO.out.2.1, HO.out.2.2.1, Nat.le_succ_of_le HO.out.2.2.2⟩)
                  go_wp2_with (go_at_call 11; refine HFd.out.mono ?_; rintro e w4 ⟨rfl, rfl⟩)
                  refine (HC.out.copy wc p S3 n t (A3.K.vin n0 n1 HO.out.1 (by omega))).mono ?_
                  rintro e w5 ⟨p2, S2, S5, rfl, k1, k2, k3, k4, k5⟩
                  obtain ⟨S5', A5', _, _⟩ := A3.left (show VLeft R wc p S3 n t w5 from ⟨S5, k3, k4, k5⟩)
                  have A5 : PY R w w5 p S5 n t g cap t (.slice yt lt ct) L (fun k o => k = ba ∧ o = oAc x) := A5'.pool k3 (fun q hq => by
                   rcases k4 q hq with h | h
                   · exact A3.K.own q h
                   · exact Nat.le_trans A3.K.lo.size h) (fun q hq => by
                   rcases k4 q hq with h | h
                   · exact ⟨fun e => A3.Mg (e ▸ h), fun e => A3.Ts q e h, fun o hf => (A3.F q o hf).2.1 h⟩
                   · have m1 := A3.M.lt
                     exact ⟨fun e => by omega, fun e => by have := (A3.T.block e).2; omega, fun o hf => by have := lt_of_get (A3.F q o hf).1; omega⟩)
                  have C5 : PY R w w5 p2 S2 n t g cap t (.slice yt lt ct) L (fun k o => k = ba ∧ o = oAc x) := A5'.pool k1 (fun q hq => Nat.le_trans A3.K.lo.size (k2 q hq).1) (fun q hq => by
                   have h := (k2 q hq).1
                   have m1 := A3.M.lt
                   exact ⟨fun e => by omega, fun e => by have := (A3.T.block e).2; omega, fun o hf => by have := lt_of_get (A3.F q o hf).1; omega⟩)
                  have HD5 := Lib.hid (show ∀ q, S5 q → ¬ S2 q from fun q h1 h2 => (k2 q h2).2 h1)
                  have HL5 := Lib.hid (show (∀ q, S5 q → q < w5.heap.size) ∧ ∀ q, S2 q → q < w5.heap.size from ⟨R.lt k3, R.lt k1⟩)
                  clear k1 k2 k3 k4 k5 A5' A3 HA3
                  go_wp2_with fail
                  refine (HAl0.out _ _ _ C5).mono ?_
                  rintro e w6 ⟨rfl, hv⟩
                  obtain ⟨S6, C6, hs6, ho6⟩ := C5.left hv
                  have A6 := A5.far C5 HD5.out ho6
                  have HD6 := Lib.hid (show ∀ q, S5 q → ¬ S6 q from fun q h1 h2 => by
                   rcases hs6 q h2 with h | h
                   · exact HD5.out q h1 h
                   · have := HL5.out.1 q h1; omega)
                  obtain ⟨cK, cd, cq, co, _⟩ := HF.out _ (A6.F _ _ ⟨rfl, rfl⟩).1
                  have lba := lt_of_get (A6.F _ _ ⟨rfl, rfl⟩).1
                  clear hv hs6 ho6 C5 A5 HD5 HL5
                  have HPut := Lib.hid (show Calls Try.prog 13 #[.pointer (some ⟨p, 0, none⟩), .agg (e3 x.d x.q x.o).toArray] w6 fun e w' => ∃ v t2, e = .returned v ∧ (∀ q, q < n → (t2 q).ok (1 + i)) ∧ VLeft R w6 p S5 n t2 w' from by
                   rcases free_case t n with hall | ⟨k, hk, hkf, hkp⟩
                   · exact (HC.out.putNo w6 p S5 n t x.d x.q x.o (A6.K.vin n0 n1 HO.out.1 (by omega)) xd xq xo hall).mono fun e w' h => ⟨_, _, h.1, HO.out.1, h.2⟩
                   · exact (HC.out.put w6 p S5 n t k x.d x.q x.o (A6.K.vin n0 n1 HO.out.1 (by omega)) xd xq xo hk hkf hkp).mono fun e w' h => ⟨_, _, h.1, put_ok HO.out.1 k xd xq xo, h.2⟩)
                  go_wp2_with fail
                  refine HPut.out.mono ?_
                  rintro e w7 ⟨v7, t7, rfl, ok7, hv⟩
                  obtain ⟨S7, A7, hs7, ho7⟩ := A6.left hv
                  have C7 := C6.far A6 (fun q h1 h2 => HD6.out q h2 h1) ho7
                  have HD7 := Lib.hid (show ∀ q, S7 q → ¬ S6 q from fun q h1 h2 => by
                   rcases hs7 q h1 with h | h
                   · exact HD6.out q h h2
                   · have := R.lt C6.K.P q h2; omega)
                  have HCl := Lib.hid (HC.out.clear w7 p S7 n t7 (A7.K.vin n0 n1 ok7 (by omega)))
                  clear hv hs7 ho7 A6 C6 HD6 HPut ok7 cK cd cq co lba
                  go_wp2_with fail
                  refine HCl.out.mono ?_
                  rintro e w8 ⟨rfl, hv⟩
                  obtain ⟨S8, A8, _, ho8⟩ := A7.left hv
                  have C8 := C7.far A7 (fun q h1 h2 => HD7.out q h2 h1) ho8
                  have HA := Lib.hid (show ∃ S, PY R w w8 p2 S n t g cap t (.slice yt lt ct) L (fun k o => k = ba ∧ o = oAc x) from ⟨S6, C8⟩)
                  clear hv ho8 A7 C7 HD7 HCl A8 C8
                  obtain ⟨S8, A8⟩ := HA.out
                  have HAl := Lib.hid (poAlike HC.out (A8.K.vin n0 n1 HO2.out.1 (by omega)) A8.M A8.Mg)
                  go_wp2_with (go_at_call 23; refine HAl.out.mono ?_; rintro e w9 ⟨rfl, hv⟩; have HA9 := Lib.hid (show ∃ S, PY R w w9 p2 S n t g cap t (.slice yt lt ct) L (fun _ _ => False) from by obtain ⟨S9, A9, _⟩ := A8.left hv; exact ⟨S9, A9.less (fun k o h => h.elim)⟩); clear hv A8 HAl)
                  go_roundw
                  case rel => exact ⟨i + 1, p2, g, cap, L, t, by omega, by omega, rfl, rfl, by go_num, HA9, HO2⟩
                  case measure => simp [intOf]; omega
               · have nk5 := hk5
                 as_aux_lemma =>
                  have fk0 : (x.K == 0) = false := by simpa using nk0
                  have fk1 : (x.K == 1) = false := by simpa using nk1
                  have fk2 : (x.K == 2) = false := by simpa using nk2
                  have fk3 : (x.K == 3) = false := by simpa using nk3
                  have fk4 : (x.K == 4) = false := by simpa using nk4
                  have fk5 : (x.K == 5) = false := by simpa using nk5
                  have HO2 := Lib.hid (show (∀ q, q < n → (t q).ok (1 + (i + 1))) ∧ (∀ x, x ∈ L → u64r x) ∧ 1 ≤ L.length ∧ L.length ≤ 1 + (i + 1) from ⟨fun q hq => (HO.out.1 q hq).more (by omega), HO.out.2.1, HO.out.2.2.1, Nat.le_succ_of_le HO.out.2.2.2⟩)
                  have HA := HA3
                  clear HA3
                  go_wp2_with (go_at_call 11; refine HFd.out.mono ?_; rintro e w4 ⟨rfl, rfl⟩)
                  obtain ⟨S8, A8⟩ := HA.out
                  have HAl := Lib.hid (poAlike HC.out (A8.K.vin n0 n1 HO2.out.1 (by omega)) A8.M A8.Mg)
                  go_wp2_with (go_at_call 23; refine HAl.out.mono ?_; rintro e w9 ⟨rfl, hv⟩; have HA9 := Lib.hid (show ∃ S, PY R w w9 p S n t g cap t (.slice yt lt ct) L (fun _ _ => False) from by obtain ⟨S9, A9, _⟩ := A8.left hv; exact ⟨S9, A9.less (fun k o h => h.elim)⟩); clear hv A8 HAl)
                  go_roundw
                  case rel => exact ⟨i + 1, p, g, cap, L, t, by omega, by omega, rfl, rfl, by go_num, HA9, HO2⟩
                  case measure => simp [intOf]; omega
  · have HKn := Lib.hid (fun w' => poKnown HC.out w')
    obtain ⟨S1, A1⟩ := HA.out
    have hm := A1.M.cm
    have hmn := A1.M.nc
    unfold maxLen at hm
    obtain ⟨yt, ct, hvt, _⟩ := A1.T.form
    obtain ⟨lt, hlt2⟩ : ∃ lt, L.length = lt := ⟨_, rfl⟩
    rw [hlt2] at hvt
    subst hvt
    clear hlt2
    have HVn := Lib.hid (fun (w' : World) (A : PY R w w' p S1 n t g cap t (.slice yt lt ct) L (fun _ _ => False)) => A.K.vin n0 n1 HO.out.1 (by omega))
    obtain ⟨b0, b1⟩ := HBB.out
    have ex : (decide ((i : Int) < (len : Int)) = false ∧ decide (i < len) = false) ∨ (decide ((i : Int) < (len : Int)) = true ∧ decide (i < len) = true ∧ i = 80) := by
     by_cases h : i < len
     · exact .inr ⟨decide_eq_true (by omega), decide_eq_true h, by omega⟩
     · exact .inl ⟨decide_eq_false (by omega), decide_eq_false h⟩
    rcases ex with ⟨ex1, ex2⟩ | ⟨ex1, ex2, ex3⟩
    · as_aux_lemma =>
       by_cases hb0 : 0 ≤ b
       · have eb0 : decide (0 ≤ b) = true := decide_eq_true hb0
         by_cases hbn : b < n
         · have eb1 : decide (b < (n : Int)) = true := decide_eq_true hbn
           obtain ⟨k, hk⟩ : ∃ k : Nat, b = k := ⟨b.toNat, by omega⟩
           subst hk
           have hkn : k < n := by omega
           have eb2 : decide (k < n) = true := decide_eq_true hkn
           have c1 := A1.M.c hkn 1 _ rfl
           have hl := A1.M.lt
           have HHd := Lib.hid (pfHandle A1.M HO.out.1 (by omega) n1 k hkn)
           cases htk : (t k).tk
           · rw [htk] at c1
             have HHa := Lib.hid (fun (w' : World) (A : PY R w w' p S1 n t g cap t (.slice yt lt ct) L (fun _ _ => False)) => HC.out.handle w' p S1 n t (k : Int) (HVn.out _ A) HBB.out)
             rw [show hdlI n t (k : Int) = 0 from by unfold hdlI; rw [Int.toNat_natCast, htk, if_neg (fun h => by cases h.2.2)]] at HHa
             clear htk HHd
             go_wp2_with fail
             refine (HKn.out _).mono ?_
             rintro e w5 ⟨rfl, hb5⟩
             have A5 := A1.below hb5
             clear hb5 A1
             go_wp2_with fail
             refine (HHa.out _ A5).mono ?_
             rintro e w6 ⟨rfl, hv⟩
             obtain ⟨S6, A6, _, ho6⟩ := A5.left hv
             have HB := Lib.hid A6.K.lo
             clear hv ho6 A5 A6
             go_wp2_with fail
             go_ret
             exact ⟨rfl, HB.out⟩
           · rw [htk] at c1
             have HHa := Lib.hid (fun (w' : World) (A : PY R w w' p S1 n t g cap t (.slice yt lt ct) L (fun _ _ => False)) => HC.out.handle w' p S1 n t (k : Int) (HVn.out _ A) HBB.out)
             rw [show hdlI n t (k : Int) = hd (t k) k from by unfold hdlI; rw [Int.toNat_natCast, if_pos ⟨hb0, hbn, htk⟩]] at HHa
             clear htk
             generalize hd (t k) k = H at *
             go_wp2_with (go_at_call 24; refine HHd.out.mono ?_; rintro e w4 ⟨rfl, rfl⟩)
             refine (HKn.out _).mono ?_
             rintro e w5 ⟨rfl, hb5⟩
             have A5 := A1.below hb5
             clear hb5 A1
             go_wp2_with fail
             refine (HHa.out _ A5).mono ?_
             rintro e w6 ⟨rfl, hv⟩
             obtain ⟨S6, A6, _, ho6⟩ := A5.left hv
             have HB := Lib.hid A6.K.lo
             clear hv ho6 A5 A6
             go_wp2_with fail
             go_ret
             exact ⟨rfl, HB.out⟩
         · have eb1 : decide (b < (n : Int)) = false := decide_eq_false hbn
           have HHa := Lib.hid (fun (w' : World) (A : PY R w w' p S1 n t g cap t (.slice yt lt ct) L (fun _ _ => False)) => HC.out.handle w' p S1 n t b (HVn.out _ A) HBB.out)
           rw [show hdlI n t b = 0 from by unfold hdlI; rw [if_neg (fun h => hbn h.2.1)]] at HHa
           go_wp2_with fail
           refine (HKn.out _).mono ?_
           rintro e w5 ⟨rfl, hb5⟩
           have A5 := A1.below hb5
           clear hb5 A1
           go_wp2_with fail
           refine (HHa.out _ A5).mono ?_
           rintro e w6 ⟨rfl, hv⟩
           obtain ⟨S6, A6, _, ho6⟩ := A5.left hv
           have HB := Lib.hid A6.K.lo
           clear hv ho6 A5 A6
           go_wp2_with fail
           go_ret
           exact ⟨rfl, HB.out⟩
       · have eb0 : decide (0 ≤ b) = false := decide_eq_false hb0
         have HHa := Lib.hid (fun (w' : World) (A : PY R w w' p S1 n t g cap t (.slice yt lt ct) L (fun _ _ => False)) => HC.out.handle w' p S1 n t b (HVn.out _ A) HBB.out)
         rw [show hdlI n t b = 0 from by unfold hdlI; rw [if_neg (fun h => hb0 h.1)]] at HHa
         go_wp2_with fail
         refine (HKn.out _).mono ?_
         rintro e w5 ⟨rfl, hb5⟩
         have A5 := A1.below hb5
         clear hb5 A1
         go_wp2_with fail
         refine (HHa.out _ A5).mono ?_
         rintro e w6 ⟨rfl, hv⟩
         obtain ⟨S6, A6, _, ho6⟩ := A5.left hv
         have HB := Lib.hid A6.K.lo
         clear hv ho6 A5 A6
         go_wp2_with fail
         go_ret
         exact ⟨rfl, HB.out⟩
    · as_aux_lemma =>
       subst ex3
       have ex4 : decide ((80 : Int) < (len : Int)) = true := ex1
       have ex5 : decide (80 < len) = true := ex2
       by_cases hb0 : 0 ≤ b
       · have eb0 : decide (0 ≤ b) = true := decide_eq_true hb0
         by_cases hbn : b < n
         · have eb1 : decide (b < (n : Int)) = true := decide_eq_true hbn
           obtain ⟨k, hk⟩ : ∃ k : Nat, b = k := ⟨b.toNat, by omega⟩
           subst hk
           have hkn : k < n := by omega
           have eb2 : decide (k < n) = true := decide_eq_true hkn
           have c1 := A1.M.c hkn 1 _ rfl
           have hl := A1.M.lt
           have HHd := Lib.hid (pfHandle A1.M HO.out.1 (by omega) n1 k hkn)
           cases htk : (t k).tk
           · rw [htk] at c1
             have HHa := Lib.hid (fun (w' : World) (A : PY R w w' p S1 n t g cap t (.slice yt lt ct) L (fun _ _ => False)) => HC.out.handle w' p S1 n t (k : Int) (HVn.out _ A) HBB.out)
             rw [show hdlI n t (k : Int) = 0 from by unfold hdlI; rw [Int.toNat_natCast, htk, if_neg (fun h => by cases h.2.2)]] at HHa
             clear htk HHd
             go_wp2_with fail
             refine (HKn.out _).mono ?_
             rintro e w5 ⟨rfl, hb5⟩
             have A5 := A1.below hb5
             clear hb5 A1
             go_wp2_with fail
             refine (HHa.out _ A5).mono ?_
             rintro e w6 ⟨rfl, hv⟩
             obtain ⟨S6, A6, _, ho6⟩ := A5.left hv
             have HB := Lib.hid A6.K.lo
             clear hv ho6 A5 A6
             go_wp2_with fail
             go_ret
             exact ⟨rfl, HB.out⟩
           · rw [htk] at c1
             have HHa := Lib.hid (fun (w' : World) (A : PY R w w' p S1 n t g cap t (.slice yt lt ct) L (fun _ _ => False)) => HC.out.handle w' p S1 n t (k : Int) (HVn.out _ A) HBB.out)
             rw [show hdlI n t (k : Int) = hd (t k) k from by unfold hdlI; rw [Int.toNat_natCast, if_pos ⟨hb0, hbn, htk⟩]] at HHa
             clear htk
             generalize hd (t k) k = H at *
             go_wp2_with (go_at_call 24; refine HHd.out.mono ?_; rintro e w4 ⟨rfl, rfl⟩)
             refine (HKn.out _).mono ?_
             rintro e w5 ⟨rfl, hb5⟩
             have A5 := A1.below hb5
             clear hb5 A1
             go_wp2_with fail
             refine (HHa.out _ A5).mono ?_
             rintro e w6 ⟨rfl, hv⟩
             obtain ⟨S6, A6, _, ho6⟩ := A5.left hv
             have HB := Lib.hid A6.K.lo
             clear hv ho6 A5 A6
             go_wp2_with fail
             go_ret
             exact ⟨rfl, HB.out⟩
         · have eb1 : decide (b < (n : Int)) = false := decide_eq_false hbn
           have HHa := Lib.hid (fun (w' : World) (A : PY R w w' p S1 n t g cap t (.slice yt lt ct) L (fun _ _ => False)) => HC.out.handle w' p S1 n t b (HVn.out _ A) HBB.out)
           rw [show hdlI n t b = 0 from by unfold hdlI; rw [if_neg (fun h => hbn h.2.1)]] at HHa
           go_wp2_with fail
           refine (HKn.out _).mono ?_
           rintro e w5 ⟨rfl, hb5⟩
           have A5 := A1.below hb5
           clear hb5 A1
           go_wp2_with fail
           refine (HHa.out _ A5).mono ?_
           rintro e w6 ⟨rfl, hv⟩
           obtain ⟨S6, A6, _, ho6⟩ := A5.left hv
           have HB := Lib.hid A6.K.lo
           clear hv ho6 A5 A6
           go_wp2_with fail
           go_ret
           exact ⟨rfl, HB.out⟩
       · have eb0 : decide (0 ≤ b) = false := decide_eq_false hb0
         have HHa := Lib.hid (fun (w' : World) (A : PY R w w' p S1 n t g cap t (.slice yt lt ct) L (fun _ _ => False)) => HC.out.handle w' p S1 n t b (HVn.out _ A) HBB.out)
         rw [show hdlI n t b = 0 from by unfold hdlI; rw [if_neg (fun h => hb0 h.1)]] at HHa
         go_wp2_with fail
         refine (HKn.out _).mono ?_
         rintro e w5 ⟨rfl, hb5⟩
         have A5 := A1.below hb5
         clear hb5 A1
         go_wp2_with fail
         refine (HHa.out _ A5).mono ?_
         rintro e w6 ⟨rfl, hv⟩
         obtain ⟨S6, A6, _, ho6⟩ := A5.left hv
         have HB := Lib.hid A6.K.lo
         clear hv ho6 A5 A6
         go_wp2_with fail
         go_ret
         exact ⟨rfl, HB.out⟩
end Go.Proofs.Ytggmllobcemhhaa.B
