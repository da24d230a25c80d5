/- Several texts in one: Layer 16's laws: Alike (written by gen_val.py). Layer 16's laws: PoolFull. -/
import Derived.Test.YtggmllobcemhhaaZAad
import Derived.Deep.RegionHeld
namespace Go.Proofs.Ytggmllobcemhhaa.B
set_option linter.unusedVariables false
set_option linter.unusedSimpArgs false
set_option maxRecDepth 100000
open Go.ChangeShapes Go.WideShapes Go.RowKit Go.Sort
theorem hds_mem (t : Nat → Po) (n : Nat) : ∀ x, x ∈ hdsB t n → ∃ k, k < n ∧ (t k).tk = true ∧ x = hd (t k) k := by
 induction n with
 | zero => intro x hx; cases hx
 | succ n ih =>
   intro x hx
   unfold hdsB at hx
   rcases List.mem_append.1 hx with h | h
   · obtain ⟨k, h1, h2⟩ := ih x h
     exact ⟨k, by omega, h2⟩
   · split at h
     · rename_i ht
       simp only [List.mem_cons, List.not_mem_nil, or_false] at h
       exact ⟨n, by omega, ht, h⟩
     · cases h
theorem fnd_hd {n : Nat} {t : Nat → Po} {k : Nat} (hk : k < n) (n1 : n ≤ 4096) (ht : (t k).tk = true) (hg : 1 ≤ (t k).g) : fnd n t (hd (t k) k) = some k := by
 have e1 : (hd (t k) k % 4096).toNat = k := by unfold hd; omega
 have e2 : hd (t k) k / 4096 = (t k).g := by unfold hd; omega
 unfold fnd
 rw [e1, e2, if_pos ⟨hk, ht, rfl⟩]
structure AlS (R : PoolR) (w w' : World) (p : Nat) (S S1 : Nat → Prop) (n : Nat) (t : Nat → Po) (g cap : Nat) (vl : Value) : Prop where
 P : R.At w' p S1 n t
 sub : ∀ k, S1 k → S k ∨ w.heap.size ≤ k
 off : Off S w w'
 M : RwPo w' g n cap t
 Mg : ¬ S1 g
 U : UvAt w' w.heap.size vl (hdsB t n)
 Us : ∀ b, vl.ownBlock = some b → ¬ S1 b
section
variable {R : PoolR} {w w' w2 : World} {p : Nat} {S S1 : Nat → Prop} {n : Nat} {t : Nat → Po} {g cap : Nat} {vl : Value}
theorem AlS.below (A : AlS R w w' p S S1 n t g cap vl) (hb : Below w'.heap.size w' w2) : AlS R w w2 p S S1 n t g cap vl :=
 ⟨R.below A.P hb, A.sub, ⟨hb.os.trans A.off.os, hb.tape.trans A.off.tape, hb.output.trans A.off.output, Nat.le_trans A.off.size hb.size, fun k hk hs => (hb.block k (Nat.lt_of_lt_of_le hk A.off.size)).trans (A.off.block k hk hs)⟩, A.M.below hb, A.Mg, A.U.below hb, A.Us⟩
theorem AlS.left (A : AlS R w w' p S S1 n t g cap vl) (L : VLeft R w' p S1 n t w2) : ∃ S2 : Nat → Prop, AlS R w w2 p S S2 n t g cap vl ∧ (∀ k, S2 k → S1 k ∨ w'.heap.size ≤ k) ∧ Off S1 w' w2 := by
 obtain ⟨S2, h1, h2, h3⟩ := L
 refine ⟨S2, ⟨h1, fun k hk => ?_, ⟨h3.os.trans A.off.os, h3.tape.trans A.off.tape, h3.output.trans A.off.output, Nat.le_trans A.off.size h3.size, fun k hk hs => ?_⟩, A.M.off h3 A.Mg, fun hg => ?_, A.U.off h3 A.Us, fun b hb hs => ?_⟩, h2, h3⟩
 · rcases h2 k hk with h | h
   · exact A.sub k h
   · exact .inr (Nat.le_trans A.off.size h)
 · rw [h3.block k (Nat.lt_of_lt_of_le hk A.off.size) fun h => ?_, A.off.block k hk hs]
   rcases A.sub k h with h | h
   · exact hs h
   · omega
 · rcases h2 g hg with h | h
   · exact A.Mg h
   · have := A.M.lt; omega
 · rcases h2 b hs with h | h
   · exact A.Us b hb h
   · have := (A.U.block hb).2; omega
theorem AlS.vleft (A : AlS R w w' p S S1 n t g cap vl) : VLeft R w p S n t w' := ⟨S1, A.P, A.sub, A.off⟩
end
structure AlE (R : PoolR) (w w' : World) (p : Nat) (S S1 : Nat → Prop) (n : Nat) (t : Nat → Po) (g cap : Nat) (vl : Value) (be : Nat) (d q o : Int) : Prop where
 A : AlS R w w' p S S1 n t g cap vl
 E : EnAt tEn w' be d q o
 Es : ¬ S1 be
theorem AlE.left {R : PoolR} {w w' w2 : World} {p : Nat} {S S1 : Nat → Prop} {n : Nat} {t : Nat → Po} {g cap : Nat} {vl : Value} {be : Nat} {d q o : Int} (X : AlE R w w' p S S1 n t g cap vl be d q o) (L : VLeft R w' p S1 n t w2) : ∃ S2 : Nat → Prop, AlE R w w2 p S S2 n t g cap vl be d q o := by
 obtain ⟨S2, h1, h2, h3⟩ := X.A.left L
 refine ⟨S2, h1, X.E.off h3 X.Es, fun h => ?_⟩
 rcases h2 be h with h | h
 · exact X.Es h
 · have := X.E.lt; omega
theorem AlS.cell {R : PoolR} {w w' : World} {p : Nat} {S S1 : Nat → Prop} {n : Nat} {t : Nat → Po} {g cap : Nat} {gl cl len : Nat} (X : AlS R w w' p S S1 n t g cap (.slice (some ⟨gl, 0, none⟩) len cl)) (hl : (hdsB t n).length = len) {i : Nat} {x : Int} (hi : (hdsB t n)[i]? = some x) : w'.cell? ⟨gl, i, none⟩ = some (.int .u64 x) := by
 subst hl
 obtain ⟨y, c, e, h⟩ := X.U.rd
 cases e
 rcases h with h | ⟨g2, off, e, _, _, _, h⟩
 · rw [h] at hi; cases hi
 · cases e
   have := h i x hi
   rw [Nat.zero_add] at this
   exact this
theorem ldRowE {f : Operand → Value} {o : Oper} {w : World} {g n cap k : Nat} {t : Nat → Po} (x : Operand) (ho : o.op = .load 39 x) (hx : f x = .pointer (some ⟨g, k * 5 + 2, none⟩)) (hM : RwPo w g n cap t) (hk : k < n) : (execOp f o).run Try.prog w = .ok (.value (.agg (e3 (t k).d (t k).p (t k).o).toArray)) w := by
 obtain ⟨cur, t0, fr, h1, h2⟩ := hM.en hk
 exact run_load_part _ x ho g (k * 5 + 2) hx _ (e3 (t k).d (t k).p (t k).o) h1 Try.underlying39 rfl iEr h2
set_option maxHeartbeats 6400000 in
theorem poAlike {R : PoolR} (C : PoolC R) {w : World} {p : Nat} {S : Nat → Prop} {n : Nat} {t : Nat → Po} (V : VIn R w p S n t) {g cap : Nat} (hM : RwPo w g n cap t) (hg : ¬ S g) :
 Calls Try.prog 23 #[.pointer (some ⟨p, 0, none⟩), .slice (some ⟨g, 0, none⟩) n cap] w fun e w' => e = .returned (.bool true) ∧ VLeft R w p S n t w' := by
 have HV := Lib.hid V
 have n1 := V.n1
 have hcm := hM.cm
 have hnc := hM.nc
 unfold maxLen at hcm
 have HC := Lib.hid C
 have HH := Lib.hid (pfHandles hM V.ok (by decide) V.n1)
 have HIN := Lib.hid (fun (w' : World) (S1 : Nat → Prop) (h : R.At w' p S1 n t) => show VIn R w' p S1 n t from ⟨h, V.n0, V.n1, V.ok⟩)
 have HM := Lib.hid hM
 have HG := Lib.hid hg
 clear V C hM hg
 go_enter Try.func23, Try.ntmps23
 go_wp2_with (go_at_call 20; refine HH.out.mono ?_; rintro e w1 ⟨vl, rfl, hu, hb⟩; have HA := Lib.hid (show ∃ S1, AlS R w w1 p S S1 n t g cap vl from ⟨S, R.below HV.out.at_ hb, fun k hk => .inl hk, ⟨hb.os, hb.tape, hb.output, hb.size, fun k hk _ => hb.block k hk⟩, HM.out.below hb, HG.out, hu, fun b hb2 hs => by have := R.lt HV.out.at_ b hs; have := (hu.block hb2).1; omega⟩); clear hu hb)
 clear HH HM HG HV
 obtain ⟨S1, A1⟩ := HA.out
 refine (HC.out.handles w1 p S1 n t (HIN.out _ _ A1.P)).mono ?_
 rintro e w2 ⟨v2, rfl, hr, hv⟩
 obtain ⟨S2, A2, _, _⟩ := A1.left hv
 have HR := Lib.hid hr
 have HA := Lib.hid (show ∃ S1, AlS R w w2 p S S1 n t g cap vl from ⟨S2, A2⟩)
 have HU := Lib.hid A2.U.rd
 obtain ⟨yl, cl, hyl, hrl⟩ := A2.U.rd
 obtain ⟨len, hlen⟩ : ∃ len, (hdsB t n).length = len := ⟨_, rfl⟩
 have HLen := Lib.hid hlen
 have hlm : len ≤ 4096 := by rw [← hlen]; exact Nat.le_trans (hdsB_len t n) n1
 rw [hlen] at hyl
 clear hr hv A2 A1 hlen
 rename_i _ _ ho
 clear ho
 subst hyl
 go_wp2_with (go_at_call 37; refine (poSame HR.out HU.out).mono ?_; rintro e w3 ⟨rfl, hb⟩; have HA := Lib.hid (show ∃ S1, AlS R w w3 p S S1 n t g cap (.slice yl len cl) from by obtain ⟨S9, A9⟩ := HA.out; exact ⟨S9, A9.below hb⟩); clear hb)
 obtain ⟨S3, A3⟩ := HA.out
 refine (HC.out.live w3 p S3 n t (HIN.out _ _ A3.P)).mono ?_
 rintro e w4 ⟨rfl, hv⟩
 obtain ⟨S4, A4, _, ho4⟩ := A3.left hv
 clear ho4
 rw [HLen.out]
 clear hv A3
 go_wp2_with fail
 refine (HC.out.room w4 p S4 n t (HIN.out _ _ A4.P)).mono ?_
 rintro e w5 ⟨rfl, hv⟩
 obtain ⟨S5, A5, _, ho5⟩ := A4.left hv
 have HA := Lib.hid (show ∃ S1, AlS R w w5 p S S1 n t g cap (.slice yl len cl) from ⟨S5, A5⟩)
 clear hv A4 A5 ho5 HR HU hrl
 go_wp2_with fail
 go_loopw [6] (fun x wr => ∃ (i : Nat), i ≤ len ∧ x = .int .i64 i ∧ Hid (∃ S1, AlS R w wr p S S1 n t g cap (.slice yl len cl))) (fun x wr => len - (intOf x).toNat)
 case atStart => exact ⟨0, by omega, rfl, HA⟩
 case round =>
  clear HA
  obtain ⟨i, hi, rfl, HA⟩ := hrel
  rename_i wr
  by_cases hlt : i < len
  · obtain ⟨S6, A6⟩ := HA.out
    have hiL : i < (hdsB t n).length := by rw [HLen.out]; exact hlt
    obtain ⟨x, hx⟩ : ∃ x, (hdsB t n)[i]? = some x := ⟨_, List.getElem?_eq_getElem hiL⟩
    obtain ⟨k, hk, hkt, hxk⟩ := hds_mem t n x (List.mem_iff_getElem?.2 ⟨i, hx⟩)
    have okk := (HIN.out _ _ A6.P).ok k hk
    have HF := Lib.hid (show fnd n t x = some k by rw [hxk]; exact fnd_hd hk n1 hkt okk.g0)
    have hxr : u64r x := by rw [hxk]; exact (hd_num okk (by decide) k (by omega)).2
    have HHx := Lib.hid (show hdlI n t k = x by
     unfold hdlI
     rw [Int.toNat_natCast, if_pos ⟨by omega, by omega, hkt⟩, hxk])
    have HXR := Lib.hid hxr
    have HFi := Lib.hid (show fndI n t x = k by unfold fndI; rw [HF.out])
    obtain ⟨gl, hgl, hclm, hlc, hglw⟩ : ∃ gl, yl = some ⟨gl, 0, none⟩ ∧ cl ≤ maxLen ∧ len ≤ cl ∧ gl < wr.heap.size := by
     rcases A6.U.2 with ⟨e, h0⟩ | ⟨gl, cap2, cur, e, _, h1, h2, h3, _⟩
     · omega
     · cases e
       exact ⟨gl, rfl, h3, by rw [← HLen.out]; exact h2, lt_of_block h1⟩
    subst hgl
    unfold maxLen at hclm
    have HX := Lib.hid (fun (w' : World) (S1 : Nat → Prop) (A : AlS R w w' p S S1 n t g cap (.slice (some ⟨gl, 0, none⟩) len cl)) => show w'.cell? ⟨gl, i, none⟩ = some (.int .u64 x) from A.cell HLen.out hx)
    have c := HX.out wr S6 A6
    have HFd := Lib.hid (pfFind A6.M n1 x HXR.out.1 HXR.out.2)
    rw [HFi.out] at HFd
    have HGt := Lib.hid (HC.out.get wr p S6 n t x (HIN.out _ _ A6.P) HXR.out)
    rw [HF.out] at HGt
    have HHa := Lib.hid (fun (w' : World) (S1 : Nat → Prop) (h : R.At w' p S1 n t) => HC.out.handle w' p S1 n t k (HIN.out _ _ h) ⟨by omega, by omega⟩)
    rw [HHx.out] at HHa
    have HPl := Lib.hid (fun (w' : World) (S1 : Nat → Prop) (h : R.At w' p S1 n t) => HC.out.place w' p S1 n t x (HIN.out _ _ h) HXR.out)
    rw [HFi.out] at HPl
    have HE := Lib.hid (fun (w' : World) (S1 : Nat → Prop) (M : RwPo w' g n cap t) => M)
    clear hiL hx hxk okk hxr HF HHx HFi HLen HXR hkt
    have hi0 : 0 ≤ (i : Int) := by omega
    have hi1 : (i : Int) < (len : Int) := by omega
    go_wp2_with (first
     | (go_at_call 11; refine HFd.out.mono ?_; rintro e w6 ⟨rfl, rfl⟩)
     | (go_at_call 18; refine HGt.out.mono ?_; rintro e w7 ⟨rfl, hv⟩; obtain ⟨S7, A7, _, ho7⟩ := A6.left hv; have HA7 := Lib.hid (show ∃ S1, AlS R w w7 p S S1 n t g cap (.slice (some ⟨gl, 0, none⟩) len cl) from ⟨S7, A7⟩); clear hv ho7 c A7 A6)
     | (rw [zeros3]; refine stEn rfl (.tmp 8) (.tmp 50) rfl rfl rfl (show EnAt tEn (w7.alloc (oEn tEn 0 0 0)) w7.heap.size 0 0 0 from blk_new w7 _) ?_; intro w8 h8 ho; have HZ := Lib.hid (And.intro h8 ho); clear h8 ho))
    obtain ⟨S9, A9⟩ := HA7.out
    have HS := Lib.hid (show ∃ S1, AlE R w w8 p S S1 n t g cap (.slice (some ⟨gl, 0, none⟩) len cl) w7.heap.size (t k).d (t k).p (t k).o from
     ⟨S9, A9.below (Off.toBelow (trA (tr0 w7) (oEn tEn 0 0 0)) HZ.out.2 (fun j hj e => by omega) (Nat.le_refl _)), HZ.out.1, fun h => by have := R.lt A9.P _ h; omega⟩)
    clear A9 HZ HA7 HA HFd HGt HE
    generalize w7.heap.size = be at *
    go_upto_region 9 with (fail)
    refine wp_region_held_drew (S := fun w' => ∃ S1, AlE R w w' p S S1 n t g cap (.slice (some ⟨gl, 0, none⟩) len cl) be (t k).d (t k).p (t k).o) (by kernel_rfl) (by obtain ⟨S1, X⟩ := HS.out; exact ⟨S1, X.A.below (trD (tr0 w8)), X.E.below (trD (tr0 w8)), X.Es⟩) (fun h => ?_)
    have HS := Lib.hid h
    clear h
    generalize w8.drew = U0 at *
    refine wpAnyH_take (i := 0) (v := .bool true) rfl (by kernel_rfl) (by kernel_rfl) (by kernel_rfl) (fun _ _ _ h => h) (Or.inl ⟨by kernel_rfl, fun w' hSw => by clear hSw; go_simp⟩) HS.out ?_
    simp only [List.getElem_toArray, List.getElem_cons_zero, List.getElem_cons_succ, Act.put, List.setIfInBounds_toArray, List.set_cons_zero, List.set_cons_succ]
    refine wpAnyH_take (i := 1) (v := .bool false) rfl (by kernel_rfl) (by kernel_rfl) (by kernel_rfl) (fun _ _ _ h => h) (Or.inl ⟨by kernel_rfl, fun w' hSw => by clear hSw; go_simp⟩) HS.out ?_
    simp only [List.getElem_toArray, List.getElem_cons_zero, List.getElem_cons_succ, Act.put, List.setIfInBounds_toArray, List.set_cons_zero, List.set_cons_succ]
    refine wpAnyH_take (i := 2) (v := .bool false) rfl (by kernel_rfl) (by kernel_rfl) (by kernel_rfl) (fun _ _ _ h => h) (Or.inl ⟨by kernel_rfl, fun w' hSw => by clear hSw; go_simp⟩) HS.out ?_
    simp only [List.getElem_toArray, List.getElem_cons_zero, List.getElem_cons_succ, Act.put, List.setIfInBounds_toArray, List.set_cons_zero, List.set_cons_succ]
    refine wpAnyH_take (i := 3) (v := .agg (e3 (t k).d (t k).p (t k).o).toArray) rfl (by kernel_rfl) (by kernel_rfl) (by kernel_rfl) (fun _ _ _ h => h) (Or.inl ⟨by kernel_rfl, fun w' ⟨_, X⟩ => rldEn (.tmp 8) rfl rfl X.E⟩) HS.out ?_
    simp only [List.getElem_toArray, List.getElem_cons_zero, List.getElem_cons_succ, Act.put, List.setIfInBounds_toArray, List.set_cons_zero, List.set_cons_succ]
    refine wpAnyH_take (i := 4) (v := .slice (some ⟨g, 0, none⟩) n cap) rfl (by kernel_rfl) (by kernel_rfl) (by kernel_rfl) (fun _ _ _ h => h) (Or.inl ⟨by kernel_rfl, fun w' hSw => by clear hSw; go_simp⟩) HS.out ?_
    simp only [List.getElem_toArray, List.getElem_cons_zero, List.getElem_cons_succ, Act.put, List.setIfInBounds_toArray, List.set_cons_zero, List.set_cons_succ]
    refine wpAnyH_take (i := 5) (v := .int .i64 k) rfl (by kernel_rfl) (by kernel_rfl) (by kernel_rfl) (fun _ _ _ h => h) (Or.inl ⟨by kernel_rfl, fun w' hSw => by clear hSw; go_simp⟩) HS.out ?_
    simp only [List.getElem_toArray, List.getElem_cons_zero, List.getElem_cons_succ, Act.put, List.setIfInBounds_toArray, List.set_cons_zero, List.set_cons_succ]
    refine wpAnyH_take (i := 6) (v := .pointer (some ⟨g, k * 5, none⟩)) rfl (by kernel_rfl) (by kernel_rfl) (by kernel_rfl) (fun _ _ _ h => h) (Or.inl ⟨by kernel_rfl, fun w' hSw => by clear hSw; go_simp⟩) HS.out ?_
    simp only [List.getElem_toArray, List.getElem_cons_zero, List.getElem_cons_succ, Act.put, List.setIfInBounds_toArray, List.set_cons_zero, List.set_cons_succ]
    refine wpAnyH_take (i := 7) (v := .pointer (some ⟨g, k * 5 + 2, none⟩)) rfl (by kernel_rfl) (by kernel_rfl) (by kernel_rfl) (fun _ _ _ h => h) (Or.inl ⟨by kernel_rfl, fun w' hSw => by clear hSw; go_simp⟩) HS.out ?_
    simp only [List.getElem_toArray, List.getElem_cons_zero, List.getElem_cons_succ, Act.put, List.setIfInBounds_toArray, List.set_cons_zero, List.set_cons_succ]
    refine wpAnyH_take (i := 8) (v := .agg (e3 (t k).d (t k).p (t k).o).toArray) rfl (by kernel_rfl) (by kernel_rfl) (by kernel_rfl) (fun _ _ _ h => h) (Or.inl ⟨by kernel_rfl, fun w' ⟨_, X⟩ => ldRowE (.tmp 59) rfl rfl X.A.M hk⟩) HS.out ?_
    simp only [List.getElem_toArray, List.getElem_cons_zero, List.getElem_cons_succ, Act.put, List.setIfInBounds_toArray, List.set_cons_zero, List.set_cons_succ]
    refine wpAnyH_take (i := 9) (v := .bool false) rfl (by kernel_rfl) (by kernel_rfl) (by kernel_rfl) (fun _ _ _ h => h) (Or.inl ⟨by kernel_rfl, fun w' _ => rneEr (.tmp 55) (.tmp 60) _ rfl rfl rfl⟩) HS.out ?_
    simp only [List.getElem_toArray, List.getElem_cons_zero, List.getElem_cons_succ, Act.put, List.setIfInBounds_toArray, List.set_cons_zero, List.set_cons_succ]
    refine wpAnyH_take (i := 10) (v := .bool false) rfl (by kernel_rfl) (by kernel_rfl) (by kernel_rfl) (fun _ _ _ h => h) (Or.inl ⟨by kernel_rfl, fun w' hSw => by clear hSw; go_simp⟩) HS.out ?_
    simp only [List.getElem_toArray, List.getElem_cons_zero, List.getElem_cons_succ, Act.put, List.setIfInBounds_toArray, List.set_cons_zero, List.set_cons_succ]
    refine wpAnyH_take (i := 11) (v := .bool false) rfl (by kernel_rfl) (by kernel_rfl) (by kernel_rfl) (fun _ _ _ h => h) (Or.inl ⟨by kernel_rfl, fun w' hSw => by clear hSw; go_simp⟩) HS.out ?_
    simp only [List.getElem_toArray, List.getElem_cons_zero, List.getElem_cons_succ, Act.put, List.setIfInBounds_toArray, List.set_cons_zero, List.set_cons_succ]
    refine wpAnyH_take (i := 12) (v := .pointer (some ⟨p, 0, none⟩)) rfl (by kernel_rfl) (by kernel_rfl) (by kernel_rfl) (fun _ _ _ h => h) (Or.inl ⟨by kernel_rfl, fun w' hSw => by clear hSw; go_simp⟩) HS.out ?_
    simp only [List.getElem_toArray, List.getElem_cons_zero, List.getElem_cons_succ, Act.put, List.setIfInBounds_toArray, List.set_cons_zero, List.set_cons_succ]
    refine wpAnyH_take (i := 13) (v := .slice (some ⟨gl, 0, none⟩) len cl) rfl (by kernel_rfl) (by kernel_rfl) (by kernel_rfl) (fun _ _ _ h => h) (Or.inl ⟨by kernel_rfl, fun w' hSw => by clear hSw; go_simp⟩) HS.out ?_
    simp only [List.getElem_toArray, List.getElem_cons_zero, List.getElem_cons_succ, Act.put, List.setIfInBounds_toArray, List.set_cons_zero, List.set_cons_succ]
    refine wpAnyH_take (i := 14) (v := .int .i64 i) rfl (by kernel_rfl) (by kernel_rfl) (by kernel_rfl) (fun _ _ _ h => h) (Or.inl ⟨by kernel_rfl, fun w' hSw => by clear hSw; go_simp⟩) HS.out ?_
    simp only [List.getElem_toArray, List.getElem_cons_zero, List.getElem_cons_succ, Act.put, List.setIfInBounds_toArray, List.set_cons_zero, List.set_cons_succ]
    refine wpAnyH_take (i := 15) (v := .pointer (some ⟨gl, i, none⟩)) rfl (by kernel_rfl) (by kernel_rfl) (by kernel_rfl) (fun _ _ _ h => h) (Or.inl ⟨by kernel_rfl, fun w' hSw => by clear hSw; go_simp⟩) HS.out ?_
    simp only [List.getElem_toArray, List.getElem_cons_zero, List.getElem_cons_succ, Act.put, List.setIfInBounds_toArray, List.set_cons_zero, List.set_cons_succ]
    refine wpAnyH_take (i := 16) (v := .int .u64 x) rfl (by kernel_rfl) (by kernel_rfl) (by kernel_rfl) (fun _ _ _ h => h) (Or.inl ⟨by kernel_rfl, fun w' ⟨_, X⟩ => by have c := HX.out w' _ X.A; clear X; go_simp⟩) HS.out ?_
    simp only [List.getElem_toArray, List.getElem_cons_zero, List.getElem_cons_succ, Act.put, List.setIfInBounds_toArray, List.set_cons_zero, List.set_cons_succ]
    refine wpAnyH_take (i := 18) (v := .int .i64 k) rfl (by kernel_rfl) (by kernel_rfl) (by kernel_rfl) (fun _ _ _ h => h) (Or.inl ⟨by kernel_rfl, fun w' hSw => by clear hSw; go_simp⟩) HS.out ?_
    simp only [List.getElem_toArray, List.getElem_cons_zero, List.getElem_cons_succ, Act.put, List.setIfInBounds_toArray, List.set_cons_zero, List.set_cons_succ]
    refine wpAnyH_ready (rs := [17]) (by kernel_rfl) (by simp) ?_
    refine AllReadyH.cons rfl (fun K hK => ?_) AllReadyH.nil
    go_simp
    obtain ⟨S3, X3⟩ := HS.out
    go_wp2_with (go_at_call 19; refine (HPl.out _ _ X3.A.P).mono ?_; rintro e U1 ⟨rfl, hv⟩; obtain ⟨S4, X4⟩ := X3.left hv; have HS := Lib.hid (show ∃ S1, AlE R w U1 p S S1 n t g cap (.slice (some ⟨gl, 0, none⟩) len cl) be (t k).d (t k).p (t k).o from ⟨S4, X4⟩); clear hv X3 X4)
    refine hK.out _ _ HS.out (fun _ => ?_)
    clear hK K
    try simp only [Act.put]
    refine wpAnyH_take (i := 19) (v := .bool false) rfl (by kernel_rfl) (by kernel_rfl) (by kernel_rfl) (fun _ _ _ h => h) (Or.inl ⟨by kernel_rfl, fun w' hSw => by clear hSw; go_simp⟩) HS.out ?_
    simp only [List.getElem_toArray, List.getElem_cons_zero, List.getElem_cons_succ, Act.put, List.setIfInBounds_toArray, List.set_cons_zero, List.set_cons_succ]
    refine wpAnyH_take (i := 20) (v := .bool false) rfl (by kernel_rfl) (by kernel_rfl) (by kernel_rfl) (fun _ _ _ h => h) (Or.inl ⟨by kernel_rfl, fun w' hSw => by clear hSw; go_simp⟩) HS.out ?_
    simp only [List.getElem_toArray, List.getElem_cons_zero, List.getElem_cons_succ, Act.put, List.setIfInBounds_toArray, List.set_cons_zero, List.set_cons_succ]
    refine wpAnyH_take (i := 21) (v := .bool false) rfl (by kernel_rfl) (by kernel_rfl) (by kernel_rfl) (fun _ _ _ h => h) (Or.inl ⟨by kernel_rfl, fun w' hSw => by clear hSw; go_simp⟩) HS.out ?_
    simp only [List.getElem_toArray, List.getElem_cons_zero, List.getElem_cons_succ, Act.put, List.setIfInBounds_toArray, List.set_cons_zero, List.set_cons_succ]
    refine wpAnyH_take (i := 22) (v := .pointer (some ⟨p, 0, none⟩)) rfl (by kernel_rfl) (by kernel_rfl) (by kernel_rfl) (fun _ _ _ h => h) (Or.inl ⟨by kernel_rfl, fun w' hSw => by clear hSw; go_simp⟩) HS.out ?_
    simp only [List.getElem_toArray, List.getElem_cons_zero, List.getElem_cons_succ, Act.put, List.setIfInBounds_toArray, List.set_cons_zero, List.set_cons_succ]
    refine wpAnyH_take (i := 23) (v := .int .i64 k) rfl (by kernel_rfl) (by kernel_rfl) (by kernel_rfl) (fun _ _ _ h => h) (Or.inl ⟨by kernel_rfl, fun w' hSw => by clear hSw; go_simp⟩) HS.out ?_
    simp only [List.getElem_toArray, List.getElem_cons_zero, List.getElem_cons_succ, Act.put, List.setIfInBounds_toArray, List.set_cons_zero, List.set_cons_succ]
    refine wpAnyH_take (i := 25) (v := .slice (some ⟨gl, 0, none⟩) len cl) rfl (by kernel_rfl) (by kernel_rfl) (by kernel_rfl) (fun _ _ _ h => h) (Or.inl ⟨by kernel_rfl, fun w' hSw => by clear hSw; go_simp⟩) HS.out ?_
    simp only [List.getElem_toArray, List.getElem_cons_zero, List.getElem_cons_succ, Act.put, List.setIfInBounds_toArray, List.set_cons_zero, List.set_cons_succ]
    refine wpAnyH_take (i := 26) (v := .int .i64 i) rfl (by kernel_rfl) (by kernel_rfl) (by kernel_rfl) (fun _ _ _ h => h) (Or.inl ⟨by kernel_rfl, fun w' hSw => by clear hSw; go_simp⟩) HS.out ?_
    simp only [List.getElem_toArray, List.getElem_cons_zero, List.getElem_cons_succ, Act.put, List.setIfInBounds_toArray, List.set_cons_zero, List.set_cons_succ]
    refine wpAnyH_take (i := 27) (v := .pointer (some ⟨gl, i, none⟩)) rfl (by kernel_rfl) (by kernel_rfl) (by kernel_rfl) (fun _ _ _ h => h) (Or.inl ⟨by kernel_rfl, fun w' hSw => by clear hSw; go_simp⟩) HS.out ?_
    simp only [List.getElem_toArray, List.getElem_cons_zero, List.getElem_cons_succ, Act.put, List.setIfInBounds_toArray, List.set_cons_zero, List.set_cons_succ]
    refine wpAnyH_take (i := 28) (v := .int .u64 x) rfl (by kernel_rfl) (by kernel_rfl) (by kernel_rfl) (fun _ _ _ h => h) (Or.inl ⟨by kernel_rfl, fun w' ⟨_, X⟩ => by have c := HX.out w' _ X.A; clear X; go_simp⟩) HS.out ?_
    simp only [List.getElem_toArray, List.getElem_cons_zero, List.getElem_cons_succ, Act.put, List.setIfInBounds_toArray, List.set_cons_zero, List.set_cons_succ]
    refine wpAnyH_ready (rs := [24]) (by kernel_rfl) (by simp) ?_
    refine AllReadyH.cons rfl (fun K hK => ?_) AllReadyH.nil
    go_simp
    obtain ⟨S5, X5⟩ := HS.out
    go_wp2_with (go_at_call 25; refine (HHa.out _ _ X5.A.P).mono ?_; rintro e U2 ⟨rfl, hv⟩; obtain ⟨S6, X6⟩ := X5.left hv; have HS := Lib.hid (show ∃ S1, AlE R w U2 p S S1 n t g cap (.slice (some ⟨gl, 0, none⟩) len cl) be (t k).d (t k).p (t k).o from ⟨S6, X6⟩); clear hv X5 X6)
    refine hK.out _ _ HS.out (fun _ => ?_)
    clear hK K
    try simp only [Act.put]
    refine wpAnyH_take (i := 29) (v := .bool false) rfl (by kernel_rfl) (by kernel_rfl) (by kernel_rfl) (fun _ _ _ h => h) (Or.inl ⟨by kernel_rfl, fun w' hSw => by clear hSw; go_simp⟩) HS.out ?_
    simp only [List.getElem_toArray, List.getElem_cons_zero, List.getElem_cons_succ, Act.put, List.setIfInBounds_toArray, List.set_cons_zero, List.set_cons_succ]
    refine wpAnyH_take (i := 30) (v := .bool false) rfl (by kernel_rfl) (by kernel_rfl) (by kernel_rfl) (fun _ _ _ h => h) (Or.inl ⟨by kernel_rfl, fun w' hSw => by clear hSw; go_simp⟩) HS.out ?_
    simp only [List.getElem_toArray, List.getElem_cons_zero, List.getElem_cons_succ, Act.put, List.setIfInBounds_toArray, List.set_cons_zero, List.set_cons_succ]
    refine wpAnyH_done (by kernel_rfl) ?_ _
    have HA := Lib.hid (show ∃ S1, AlS R w U2 p S S1 n t g cap (.slice (some ⟨gl, 0, none⟩) len cl) from by obtain ⟨S6, X6⟩ := HS.out; exact ⟨S6, X6.A⟩)
    clear HS HX HPl HHa
    go_wp2_with fail
    go_roundw
    case rel => exact ⟨i + 1, by omega, by go_num, HA⟩
    case measure => simp [intOf]; omega
  · obtain rfl : i = len := by omega
    go_wp2_with fail
    go_ret
    obtain ⟨S6, A6⟩ := HA.out
    exact ⟨rfl, A6.vleft⟩
def fl (k : Nat) (i : Nat) : Po := if i < k then ⟨1, true, i, 0, 0⟩ else pz
theorem fl_zero : fl 0 = fun _ => pz := by funext i; unfold fl; rw [if_neg (Nat.not_lt_zero i)]
theorem fl_put (k : Nat) : pupd (fl k) k ((fl k k).put k 0 0) = fl (k + 1) := by
 funext i
 unfold pupd fl
 by_cases e : i = k
 · rw [if_pos e, if_neg (Nat.lt_irrefl k), if_pos (by omega), e]
   rfl
 · rw [if_neg e]
   by_cases h : i < k
   · rw [if_pos h, if_pos (by omega)]
   · rw [if_neg h, if_neg (by omega)]
theorem fl_ok (k n : Nat) (hn : n ≤ 4096) : ∀ i, i < n → (fl k i).ok 1 := fun i hi => by
 unfold fl
 split
 · exact ⟨Int.le_refl _, Int.le_refl _, ⟨by show (0 : Int) ≤ i; omega, by show (i : Int) < _; omega⟩, u0, u0⟩
 · exact pz_ok
theorem hds_all (t : Nat → Po) (n : Nat) (h : ∀ i, i < n → (t i).tk = true) : (hdsB t n).length = n := by
 induction n with
 | zero => rfl
 | succ n ih =>
   unfold hdsB
   rw [h n (by omega), if_pos rfl, List.length_append, ih fun i hi => h i (by omega)]
   rfl
theorem hds_none (t : Nat → Po) (n : Nat) (h : ∀ i, i < n → (t i).tk = false) : (hdsB t n).length = 0 := by
 induction n with
 | zero => rfl
 | succ n ih =>
   unfold hdsB
   rw [h n (by omega), if_neg (by decide), List.append_nil]
   exact ih fun i hi => h i (by omega)
theorem num_mod (a : Int) (m : Nat) (h1 : 1 ≤ m) (h2 : m ≤ 4096) : ∃ N : Nat, wrap64 (1 + wrap64 ((IntKind.u64.wrap a).tmod (m : Int))) = (N : Int) ∧ 1 ≤ N ∧ N ≤ m := by
 have h0 : 0 ≤ IntKind.u64.wrap a ∧ IntKind.u64.wrap a < 18446744073709551616 := by
  have := bounds_u64 (wf_wrap .u64 a)
  omega
 have hm := Int.emod_lt_of_pos (IntKind.u64.wrap a) (show (0 : Int) < m by omega)
 have hn := Int.emod_nonneg (IntKind.u64.wrap a) (show (m : Int) ≠ 0 by omega)
 refine ⟨(1 + (IntKind.u64.wrap a) % (m : Int)).toNat, ?_, by omega, by omega⟩
 rw [Int.tmod_eq_emod_of_nonneg h0.1]
 unfold wrap64
 omega
theorem hd_fl (k : Nat) (hk : k < 4096) : hd (fl k k) k = 4096 + k ∧ (4096 + (k : Int)) / 4096 = 1 ∧ (4096 + (k : Int)) % 4096 = k := by
 refine ⟨?_, by omega, by omega⟩
 unfold hd fl
 rw [if_neg (Nat.lt_irrefl k)]
 show 1 * 4096 + (k : Int) = _
 omega
theorem clear_fl (n i : Nat) (hi : i < n) : clearT (fl n) i = ⟨2, false, 0, 0, 0⟩ := by
 unfold clearT fl
 rw [if_pos hi]
 rfl
set_option maxHeartbeats 6400000 in
theorem poFull {R : PoolR} (C : PoolC R) (a : Int) (w : World) (ha : i64v a) : Calls Try.prog 5 #[.int .i64 a] w fun e w' => e = .returned (.bool true) ∧ Below w.heap.size w w' := by
 have HC := Lib.hid C
 clear C
 obtain ⟨a0, a1⟩ := ha
 obtain ⟨n, hN, n0, n1⟩ := num_mod a 4096 (by decide) (by decide)
 replace hN : wrap64 (1 + wrap64 ((IntKind.u64.wrap a).tmod 4096)) = (n : Int) := hN
 go_enter Try.func5, Try.ntmps5
 go_wp2_with fail
 simp only [hN]
 clear hN a0 a1
 refine (HC.out.new n w n0 n1).mono ?_
 rintro e w1 ⟨p, S0, rfl, h1, h2, h3⟩
 have HK := Lib.hid (show ∃ S, KS R w w1 p S n (fl 0) from ⟨S0, by rw [fl_zero]; exact h1, h2, h3⟩)
 clear h1 h2 h3
 go_wp2_with fail
 go_loopw [5] (fun x wr => ∃ (k : Nat), k ≤ n ∧ x = .int .i64 k ∧ Hid (∃ S, KS R w wr p S n (fl k))) (fun x wr => n - (intOf x).toNat)
 case atStart => exact ⟨0, by omega, rfl, HK⟩
 case round =>
  clear HK
  obtain ⟨k, hk, rfl, HK⟩ := hrel
  rename_i wr
  by_cases hlt : k < n
  · obtain ⟨S1, A1⟩ := HK.out
    obtain ⟨hh1, hh2, hh3⟩ := hd_fl k (by omega)
    have HP := Lib.hid (HC.out.put wr p S1 n (fl k) k k 0 0 (A1.vin n0 n1 (fl_ok k n n1) (by decide)) ⟨by omega, by omega⟩ u0 u0 hlt (by unfold fl; rw [if_neg (Nat.lt_irrefl k)]; rfl) (fun j hj => by unfold fl; rw [if_pos hj]))
    rw [fl_put, hh1] at HP
    have HSp := Lib.hid (fun w' => HC.out.split (4096 + k) w' ⟨by omega, by omega⟩)
    rw [hh2, hh3] at HSp
    clear hh1 hh2 hh3
    have hne1 : ((k : Int) != (k : Int)) = false := by simp
    go_wp2_with (first
     | (go_at_call 13; refine HP.out.mono ?_; rintro e w2 ⟨rfl, hv⟩; obtain ⟨S2, A2, _, ho⟩ := A1.left hv; have HK := Lib.hid (show ∃ S, KS R w w2 p S n (fl (k + 1)) from ⟨S2, A2⟩); clear hv ho A2 A1)
     | (go_at_call 27; refine (HSp.out _).mono ?_; rintro e w3 ⟨rfl, hb⟩; have HK := Lib.hid (show ∃ S, KS R w w3 p S n (fl (k + 1)) from by obtain ⟨S3, A3⟩ := HK.out; exact ⟨S3, A3.below hb⟩); clear hb))
    go_roundw
    case rel => exact ⟨k + 1, by omega, by go_num, HK⟩
    case measure => simp [intOf]; omega
  · obtain rfl : k = n := by omega
    obtain ⟨S1, A1⟩ := HK.out
    have ta : ∀ j, j < k → (fl k j).tk = true := fun j hj => by unfold fl; rw [if_pos hj]
    have HP := Lib.hid (HC.out.putNo wr p S1 k (fl k) 0 0 0 (A1.vin n0 n1 (fl_ok k k n1) (by decide)) u0 u0 u0 ta)
    have HLi := Lib.hid (fun (w' : World) (S1 : Nat → Prop) (A : KS R w w' p S1 k (fl k)) => HC.out.live w' p S1 k (fl k) (A.vin n0 n1 (fl_ok k k n1) (by decide)))
    have HCl := Lib.hid (fun (w' : World) (S1 : Nat → Prop) (A : KS R w w' p S1 k (fl k)) => HC.out.clear w' p S1 k (fl k) (A.vin n0 n1 (fl_ok k k n1) (by decide)))
    rw [hds_all _ _ ta] at HLi HCl
    have okc : ∀ i, i < k → (clearT (fl k) i).ok 2 := fun i hi => by rw [clear_fl k i hi]; exact ⟨by decide, by decide, u0, u0, u0⟩
    have tc : ∀ i, i < k → (clearT (fl k) i).tk = false := fun i hi => by rw [clear_fl k i hi]
    have HLc := Lib.hid (fun (w' : World) (S1 : Nat → Prop) (A : KS R w w' p S1 k (clearT (fl k))) => HC.out.live w' p S1 k (clearT (fl k)) (A.vin n0 n1 okc (by decide)))
    rw [hds_none _ _ tc] at HLc
    have HPc := Lib.hid (fun (w' : World) (S1 : Nat → Prop) (A : KS R w w' p S1 k (clearT (fl k))) => HC.out.put w' p S1 k (clearT (fl k)) 0 0 0 0 (A.vin n0 n1 okc (by decide)) u0 u0 u0 n0 (tc 0 n0) (fun j hj => by omega))
    rw [show hd (clearT (fl k) 0) 0 = 8192 by rw [clear_fl k 0 n0]; rfl] at HPc
    have HKn := Lib.hid (fun w' => poKnown HC.out w')
    clear ta okc tc
    go_wp2_with fail
    refine HP.out.mono ?_
    rintro e w2 ⟨rfl, hv⟩
    obtain ⟨S2, A2, _, ho⟩ := A1.left hv
    clear hv ho
    go_wp2_with fail
    refine (HLi.out _ _ A2).mono ?_
    rintro e w3 ⟨rfl, hv⟩
    obtain ⟨S3, A3, _, ho⟩ := A2.left hv
    clear hv ho
    go_wp2_with fail
    refine (HCl.out _ _ A3).mono ?_
    rintro e w4 ⟨rfl, hv⟩
    obtain ⟨S4, A4, _, ho⟩ := A3.left hv
    clear hv ho
    go_wp2_with fail
    refine (HLc.out _ _ A4).mono ?_
    rintro e w5 ⟨rfl, hv⟩
    obtain ⟨S5, A5, _, ho⟩ := A4.left hv
    clear hv ho
    go_wp2_with fail
    refine (HPc.out _ _ A5).mono ?_
    rintro e w6 ⟨rfl, hv⟩
    obtain ⟨S6, A6, _, ho⟩ := A5.left hv
    have HB := Lib.hid A6.lo
    clear hv ho A6 A5 A4 A3 A2 A1
    go_wp2_with (go_at_call 9; refine (HKn.out _).mono ?_; rintro e w7 ⟨rfl, hb⟩; have HB := Lib.hid (tr HB.out hb); clear hb)
    go_ret
    exact ⟨rfl, HB.out⟩
end Go.Proofs.Ytggmllobcemhhaa.B
