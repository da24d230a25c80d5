/- Layer 17's laws: Alike (written by gen_jal.py). -/
import Derived.Test.YtopkmjiilnoeeaaZAam
import Derived.Deep.RegionHeld
namespace Go.Proofs.Ytopkmjiilnoeeaa.B
set_option linter.unusedVariables false
set_option linter.unusedSimpArgs false
set_option maxRecDepth 100000
open Go.ChangeShapes Go.WideShapes Go.RowKit Go.Sort
structure Aj where
 K : Int
 I : Int
 k : Kp
structure Aj.ok (x : Aj) : Prop where
 K : i64r x.K
 I : i64r x.I
 k : okk x.k
abbrev tAj : TypeId := 31
def ajl (x : Aj) : List Value := [.int .i64 x.K, .int .i64 x.I, .int .i64 x.k.1, .int .i64 x.k.2]
def oAj (x : Aj) : Obj := .cells (ajl x).toArray tAj (0, 0)
theorem aj_c {w : World} {b : Nat} {x : Aj} (h : w.heap[b]? = some (oAj x)) : b < w.heap.size ∧ w.cell? ⟨b, 1, none⟩ = some (.int .i64 x.I) ∧ w.cell? ⟨b, 2, none⟩ = some (.int .i64 x.k.1) ∧ w.cell? ⟨b, 3, none⟩ = some (.int .i64 x.k.2) := ⟨lt_of_block h, by rw [blk_cell h]; rfl, by rw [blk_cell h]; rfl, by rw [blk_cell h]; rfl⟩
structure AlJ (R : ChainR Kp) (w w' : World) (p : Nat) (S S1 : Nat → Prop) (n : Nat) (L : List (Kp × Int)) (B : Nat) (v : Value) (ba : Nat) (x : Aj) (va : Value) : Prop where
 P : R.At w' p S1 n L
 sub : ∀ k, S1 k → S k ∨ w.heap.size ≤ k
 off : Off S w w'
 M : TrAt w' B v L
 Ms : ∀ g, v.ownBlock = some g → ¬ S1 g
 A : w'.heap[ba]? = some (oAj x)
 As : ¬ S1 ba
 U : RdI w' va (chAll L x.k)
 Us : ∀ g, va.ownBlock = some g → g < w'.heap.size ∧ ¬ S1 g
section
variable {R : ChainR Kp} {w w' w2 : World} {p : Nat} {S S1 : Nat → Prop} {n : Nat} {L : List (Kp × Int)} {B : Nat} {v : Value} {ba : Nat} {x : Aj} {va : Value}
theorem AlJ.below (A : AlJ R w w' p S S1 n L B v ba x va) (hb : Below w'.heap.size w' w2) : AlJ R w w2 p S S1 n L B v ba x va :=
 ⟨R.below A.P hb, A.sub, A.off.trans (Off.ofBelow hb), A.M.below hb, A.Ms, blk_below hb A.A (lt_of_block A.A), A.As, A.U.keep hb, fun g hg => ⟨Nat.lt_of_lt_of_le (A.Us g hg).1 hb.size, (A.Us g hg).2⟩⟩
theorem AlJ.left (A : AlJ R w w' p S S1 n L B v ba x va) (H : CLeft R w' p S1 n L w2) : ∃ S2 : Nat → Prop, AlJ R w w2 p S S2 n L B v ba x va ∧ (∀ k, S2 k → S1 k ∨ w'.heap.size ≤ k) ∧ Off S1 w' w2 := by
 obtain ⟨S2, h1, h2, h3⟩ := H
 have far : ∀ g, g < w'.heap.size → ¬ S1 g → ¬ S2 g := fun g hg hn h => by
  rcases h2 g h with h | h
  · exact hn h
  · omega
 refine ⟨S2, ⟨h1, fun k hk => ?_, A.off.next h3 (fun i hi h => ?_), A.M.off h3 A.Ms, fun g hg => far g (A.M.block hg).2 (A.Ms g hg), h3.at A.A A.As, far ba (lt_of_block A.A) A.As, A.U.off h3 (fun g hg => (A.Us g hg).2), fun g hg => ⟨Nat.lt_of_lt_of_le (A.Us g hg).1 h3.size, far g (A.Us g hg).1 (A.Us g hg).2⟩⟩, h2, h3⟩
 · rcases h2 k hk with h | h
   · exact A.sub k h
   · exact .inr (Nat.le_trans A.off.size h)
 · rcases A.sub i h with h | h
   · exact h
   · omega
theorem AlJ.vleft (A : AlJ R w w' p S S1 n L B v ba x va) : CLeft R w p S n L w' := ⟨S1, A.P, A.sub, A.off⟩
end
theorem buildKp (w : World) : (Instr.build 27 #[]).run Try.prog w = .ok (.agg #[.int .i64 0, .int .i64 0]) w := by kernel_rfl
set_option maxHeartbeats 6400000 in
theorem jAlike {R : ChainR Kp} (C : ChainC R) {w : World} {p : Nat} {S : Nat → Prop} {n : Nat} {L : List (Kp × Int)} (V : CIn okk R w p S n L) {B : Nat} {v : Value} (hM : TrAt w B v L) (hMs : ∀ g, v.ownBlock = some g → ¬ S g) (x : Aj) (hx : x.ok) :
 Calls Try.prog 18 #[.pointer (some ⟨p, 0, none⟩), v, .agg (ajl x).toArray] w fun e w' => e = .returned (.bool true) ∧ CLeft R w p S n L w' := by
 have hl : L.length < 5000 := Nat.lt_of_le_of_lt (Nat.le_trans V.ok.len V.n1) (by decide)
 obtain ⟨yv, cv, rfl, hv1, hv2, _⟩ := hM.form
 obtain ⟨N, hN⟩ : ∃ N, L.length = N := ⟨_, rfl⟩
 have HNl := Lib.hid hN
 have hbb := trA (tr0 w) (oAj x)
 have HIN := Lib.hid (fun (w' : World) (S1 : Nat → Prop) (h : R.At w' p S1 n L) => show CIn okk R w' p S1 n L from ⟨h, V.n0, V.n1, V.ok, V.ks⟩)
 have HC := Lib.hid C
 have HX := Lib.hid hx
 have HL := Lib.hid hl
 have HB := Lib.hid hbb
 have HM := Lib.hid (hM.below hbb)
 have HP := Lib.hid (R.below V.at_ hbb)
 have HA := Lib.hid (blk_new w (oAj x))
 have HMs := Lib.hid hMs
 have HSl := Lib.hid (R.lt V.at_)
 have HALL := Lib.hid (jAll HM.out hl x.k)
 rw [hN] at HM HALL hv1 hl ⊢
 have hs1 : (w.alloc (oAj x)).heap.size = w.heap.size + 1 := by simp
 have HS1 := Lib.hid hs1
 clear V C hM hMs hbb hx hs1 hN
 show Calls Try.prog 18 #[.pointer (some ⟨p, 0, none⟩), .slice yv N cv, .agg #[.int .i64 x.K, .int .i64 x.I, .int .i64 x.k.1, .int .i64 x.k.2]] w _
 go_enter Try.func18, Try.ntmps18
 go_upto_region 1 with (fail)
 rw [show Obj.cells #[Value.int .i64 x.K, .int .i64 x.I, .int .i64 x.k.1, .int .i64 x.k.2] 31 (0, 0) = oAj x from rfl]
 generalize w.alloc (oAj x) = W at *
 obtain ⟨hb0, a1, a2, a3⟩ := aj_c HA.out
 go_wp2_with fail
 refine HALL.out.mono ?_
 rintro e w1 ⟨va, rfl, hva, hb1⟩
 have HJ := Lib.hid (show AlJ R w w1 p S S n L B (.slice yv N cv) w.heap.size x va from
  ⟨R.below HP.out hb1, fun k hk => .inl hk, Off.ofBelow ((HB.out).trans (hb1.mono (by have := HS1.out; omega))), HM.out.below hb1, (by rw [← HNl.out]; exact HMs.out), blk_below hb1 HA.out (lt_of_block HA.out), fun h => by have := HSl.out _ h; omega, hva.rd, fun g hg => ⟨(hva.block hg).2, fun h => by have := HSl.out _ h; have := (hva.block hg).1; have := HS1.out; omega⟩⟩)
 obtain ⟨ya, ca, hya, hya1, hya2, hya3⟩ := hva.rd
 subst hya
 have HF := Lib.hid (jFind HJ.out.M HL.out x.I)
 have HFx := Lib.hid (fun i (e : (chAll L x.k).length = i) => e)
 obtain ⟨hb1', a1, a2, a3⟩ := aj_c HJ.out.A
 obtain ⟨len, hlen⟩ : ∃ len, (chAll L x.k).length = len := ⟨_, rfl⟩
 have HLen := Lib.hid hlen
 have hln : len < 5000 := by rw [← hlen]; exact Nat.lt_of_le_of_lt (chAll_le L x.k) HL.out
 rw [hlen] at HJ hya1 ⊢
 have HFst : (len = 0 ∧ chFst (chAll L x.k) = -1) ∨ ∃ z g off, 0 < len ∧ chFst (chAll L x.k) = z ∧ ya = some ⟨g, off, none⟩ ∧ w1.cell? ⟨g, off, none⟩ = some (.int .i64 z) ∧ g < w1.heap.size := by
  cases hc : chAll L x.k with
  | nil => rw [hc] at hlen; exact .inl ⟨hlen.symm, rfl⟩
  | cons z r =>
    rw [hc] at hlen hya3
    rcases hya3 with h | ⟨g, off, h1, h2, h3⟩
    · cases h
    · exact .inr ⟨z, g, off, by rw [← hlen]; exact Nat.succ_pos _, rfl, h1, by have := h3 0 z rfl; rwa [Nat.add_zero] at this, h2⟩
 clear HALL HM HP HA HB HMs HSl HS1 hb1 hva HFx hlen hya3
 unfold maxLen at hya2
 have HKey := Lib.hid (fun (w' : World) (S1 : Nat → Prop) (h : R.At w' p S1 n L) => HC.out.key w' p S1 n L x.I (HIN.out _ _ h) HX.out.I)
 rcases ch_case L x.I with hno | ⟨p0, z0, h1, h2, h3⟩
 · have hh : chHas L x.I = false := by rw [chHas_key, chKey_none hno]; rfl
   rw [chIx_none hno] at HF
   rw [chKey_none hno, hh] at HKey
   clear hno hh
   rcases HFst with ⟨h0, hF1⟩ | ⟨z, g, off, h0, hF1, hyg, cz, hgz⟩
   · subst h0
     have HF1 := Lib.hid hF1
     clear hF1
     go_wp2_with fail
     refine HF.out.mono ?_
     rintro e w2 ⟨rfl, rfl⟩
     clear HF
     go_wp2_with fail
     refine (HKey.out w1 S HJ.out.P).mono ?_
     rintro e w3 ⟨he, hv⟩
     change e = Ending.returned (.tuple #[.agg #[.int .i64 0, .int .i64 0], .bool false]) at he
     subst he
     obtain ⟨S2, J2, _, ho2⟩ := HJ.out.left hv
     have hbb := trA (tr0 w3) (oKp ((0, 0) : Kp))
     have HJ2 := Lib.hid (J2.below hbb)
     have HQ := Lib.hid (show KeyAt (w3.alloc (oKp ((0, 0) : Kp))) w3.heap.size ((0, 0) : Kp) from blk_new w3 _)
     clear J2 ho2 hv hbb HJ HKey a1 a2 a3
     go_upto_region 7 with (fail)
     rw [show Obj.cells #[Value.int .i64 0, .int .i64 0] 27 (0, 0) = oKp ((0, 0) : Kp) from rfl]
     generalize w3.alloc (oKp ((0, 0) : Kp)) = W2 at *
     generalize w3.heap.size = bk at *
     obtain ⟨hbk, q0, q1⟩ := HQ.out.c
     have hgc := gcell
     have hbd := buildKp
     refine wp_region_quiet_below (by kernel_rfl) (by kernel_rfl) ?_
     repeat (first
      | go_big_quiet_skip
      | (go_big_quiet_want; first
          | (refine qneKp (.tmp 53) (.tmp 54) _ rfl (k := (0, 0)) (j := (0, 0)) rfl rfl ?_; go_simp; go_big_quiet_on)
          | (go_big_quiet_op; go_big_quiet_on))
      | (refine wpQuiet_nil ?_))
     intro _ hw'
     obtain ⟨⟨dq, osq⟩, hw''⟩ := hw'
     subst hw''
     have HS := Lib.hid (show ∃ S1, AlJ R w (grow (redrawn W2 dq) osq) p S S1 n L B (.slice yv N cv) w.heap.size x (.slice ya 0 ca) from ⟨S2, HJ2.out.below (below_regrown W2 dq osq)⟩)
     clear hgc HJ2 HQ hbk q0 q1 hbd
     dsimp only at HS ⊢
     generalize grow (redrawn W2 dq) osq = W3 at *
     go_upto_region 9 with (fail)
     refine wp_region_held_drew (S := fun w' => ∃ S1, AlJ R w w' p S S1 n L B (.slice yv N cv) w.heap.size x (.slice ya 0 ca)) (by kernel_rfl) (by obtain ⟨S1, X⟩ := HS.out; exact ⟨S1, X.below (trD (tr0 W3))⟩) (fun h => ?_)
     have HS := Lib.hid h
     clear h
     generalize W3.drew = U0 at *
     refine wpAnyH_take (i := 0) (v := .pointer (some ⟨p, 0, none⟩)) rfl (by kernel_rfl) (by kernel_rfl) (by kernel_rfl) (fun _ _ _ h => h) (Or.inl ⟨by rfl, fun w' hSw => by clear hSw; go_simp⟩) HS.out ?_
     simp only [List.getElem_toArray, List.getElem_cons_zero, List.getElem_cons_succ, Act.put, List.setIfInBounds_toArray, List.set_cons_zero, List.set_cons_succ]
     refine wpAnyH_take (i := 1) (v := .pointer (some ⟨w.heap.size, 2, none⟩)) rfl (by kernel_rfl) (by kernel_rfl) (by kernel_rfl) (fun _ _ _ h => h) (Or.inl ⟨by rfl, fun w' hSw => by clear hSw; go_simp⟩) HS.out ?_
     simp only [List.getElem_toArray, List.getElem_cons_zero, List.getElem_cons_succ, Act.put, List.setIfInBounds_toArray, List.set_cons_zero, List.set_cons_succ]
     refine wpAnyH_take (i := 2) (v := .agg #[.int .i64 x.k.1, .int .i64 x.k.2]) rfl (by kernel_rfl) (by kernel_rfl) (by kernel_rfl) (fun _ _ _ h => h) (Or.inl ⟨by rfl, fun w' hSw => by obtain ⟨S9, X9⟩ := hSw; obtain ⟨c0, c1, c2, c3⟩ := aj_c X9.A; clear X9; go_simp⟩) HS.out ?_
     simp only [List.getElem_toArray, List.getElem_cons_zero, List.getElem_cons_succ, Act.put, List.setIfInBounds_toArray, List.set_cons_zero, List.set_cons_succ]
     refine wpAnyH_take (i := 4) (v := .slice ya 0 ca) rfl (by kernel_rfl) (by kernel_rfl) (by kernel_rfl) (fun _ _ _ h => h) (Or.inl ⟨by rfl, fun w' hSw => by clear hSw; go_simp⟩) HS.out ?_
     simp only [List.getElem_toArray, List.getElem_cons_zero, List.getElem_cons_succ, Act.put, List.setIfInBounds_toArray, List.set_cons_zero, List.set_cons_succ]
     refine wpAnyH_ready (rs := [3]) (by kernel_rfl) (by simp) ?_
     refine AllReadyH.cons rfl (fun K hK => ?_) AllReadyH.nil
     go_simp
     obtain ⟨S9, X9⟩ := HS.out
     go_wp2_with (go_at_call 34; refine (HC.out.K.all _ p S9 n L x.k (HIN.out _ _ X9.P) HX.out.k).mono ?_; rintro e U1 ⟨v2, rfl, hv⟩; obtain ⟨S8, X8, _, _⟩ := X9.left hv.left; have HR := Lib.hid (show RdI U1 v2 (chAll L x.k) from by obtain ⟨_, _, _, _, h, _⟩ := hv; exact h); have HS := Lib.hid (show ∃ S1, AlJ R w U1 p S S1 n L B (.slice yv N cv) w.heap.size x (.slice ya 0 ca) from ⟨S8, X8⟩); clear X9 X8 hv)
     refine hK.out _ _ HS.out (fun _ => ?_)
     clear hK K
     refine wpAnyH_ready (rs := [5]) (by kernel_rfl) (by simp) ?_
     refine AllReadyH.cons rfl (fun K hK => ?_) AllReadyH.nil
     go_simp
     obtain ⟨S9, X9⟩ := HS.out
     go_wp2_with (go_at_call 15; refine (jSame HR.out X9.U).mono ?_; rintro e U1 ⟨rfl, hb⟩; have HS := Lib.hid (show ∃ S1, AlJ R w U1 p S S1 n L B (.slice yv N cv) w.heap.size x (.slice ya 0 ca) from ⟨S9, X9.below hb⟩); clear X9 hb)
     refine hK.out _ _ HS.out (fun _ => ?_)
     clear hK K
     refine wpAnyH_take (i := 6) (v := .bool true) rfl (by kernel_rfl) (by kernel_rfl) (by kernel_rfl) (fun _ _ _ h => h) (Or.inl ⟨by rfl, fun w' hSw => by clear hSw; go_simp⟩) HS.out ?_
     simp only [List.getElem_toArray, List.getElem_cons_zero, List.getElem_cons_succ, Act.put, List.setIfInBounds_toArray, List.set_cons_zero, List.set_cons_succ]
     refine wpAnyH_take (i := 7) (v := .pointer (some ⟨p, 0, none⟩)) rfl (by kernel_rfl) (by kernel_rfl) (by kernel_rfl) (fun _ _ _ h => h) (Or.inl ⟨by rfl, fun w' hSw => by clear hSw; go_simp⟩) HS.out ?_
     simp only [List.getElem_toArray, List.getElem_cons_zero, List.getElem_cons_succ, Act.put, List.setIfInBounds_toArray, List.set_cons_zero, List.set_cons_succ]
     refine wpAnyH_take (i := 8) (v := .pointer (some ⟨w.heap.size, 2, none⟩)) rfl (by kernel_rfl) (by kernel_rfl) (by kernel_rfl) (fun _ _ _ h => h) (Or.inl ⟨by rfl, fun w' hSw => by clear hSw; go_simp⟩) HS.out ?_
     simp only [List.getElem_toArray, List.getElem_cons_zero, List.getElem_cons_succ, Act.put, List.setIfInBounds_toArray, List.set_cons_zero, List.set_cons_succ]
     refine wpAnyH_take (i := 9) (v := .agg #[.int .i64 x.k.1, .int .i64 x.k.2]) rfl (by kernel_rfl) (by kernel_rfl) (by kernel_rfl) (fun _ _ _ h => h) (Or.inl ⟨by rfl, fun w' hSw => by obtain ⟨S9, X9⟩ := hSw; obtain ⟨c0, c1, c2, c3⟩ := aj_c X9.A; clear X9; go_simp⟩) HS.out ?_
     simp only [List.getElem_toArray, List.getElem_cons_zero, List.getElem_cons_succ, Act.put, List.setIfInBounds_toArray, List.set_cons_zero, List.set_cons_succ]
     refine wpAnyH_take (i := 11) (v := .slice ya 0 ca) rfl (by kernel_rfl) (by kernel_rfl) (by kernel_rfl) (fun _ _ _ h => h) (Or.inl ⟨by rfl, fun w' hSw => by clear hSw; go_simp⟩) HS.out ?_
     simp only [List.getElem_toArray, List.getElem_cons_zero, List.getElem_cons_succ, Act.put, List.setIfInBounds_toArray, List.set_cons_zero, List.set_cons_succ]
     refine wpAnyH_take (i := 12) (v := .int .i64 0) rfl (by kernel_rfl) (by kernel_rfl) (by kernel_rfl) (fun _ _ _ h => h) (Or.inl ⟨by rfl, fun w' hSw => by clear hSw; go_simp⟩) HS.out ?_
     simp only [List.getElem_toArray, List.getElem_cons_zero, List.getElem_cons_succ, Act.put, List.setIfInBounds_toArray, List.set_cons_zero, List.set_cons_succ]
     refine wpAnyH_ready (rs := [10]) (by kernel_rfl) (by simp) ?_
     refine AllReadyH.cons rfl (fun K hK => ?_) AllReadyH.nil
     go_simp
     obtain ⟨S9, X9⟩ := HS.out
     go_wp2_with (go_at_call 22; refine (HC.out.len _ p S9 n L x.k (HIN.out _ _ X9.P) HX.out.k).mono ?_; rintro e U1 ⟨he, hv⟩; rw [HLen.out] at he; subst he; obtain ⟨S8, X8, _, _⟩ := X9.left hv; have HS := Lib.hid (show ∃ S1, AlJ R w U1 p S S1 n L B (.slice yv N cv) w.heap.size x (.slice ya 0 ca) from ⟨S8, X8⟩); clear X9 X8 hv)
     refine hK.out _ _ HS.out (fun _ => ?_)
     clear hK K
     refine wpAnyH_take (i := 13) (v := .bool true) rfl (by kernel_rfl) (by kernel_rfl) (by kernel_rfl) (fun _ _ _ h => h) (Or.inl ⟨by rfl, fun w' hSw => by clear hSw; go_simp⟩) HS.out ?_
     simp only [List.getElem_toArray, List.getElem_cons_zero, List.getElem_cons_succ, Act.put, List.setIfInBounds_toArray, List.set_cons_zero, List.set_cons_succ]
     refine wpAnyH_take (i := 14) (v := .bool true) rfl (by kernel_rfl) (by kernel_rfl) (by kernel_rfl) (fun _ _ _ h => h) (Or.inl ⟨by rfl, fun w' hSw => by clear hSw; go_simp⟩) HS.out ?_
     simp only [List.getElem_toArray, List.getElem_cons_zero, List.getElem_cons_succ, Act.put, List.setIfInBounds_toArray, List.set_cons_zero, List.set_cons_succ]
     refine wpAnyH_take (i := 15) (v := .bool true) rfl (by kernel_rfl) (by kernel_rfl) (by kernel_rfl) (fun _ _ _ h => h) (Or.inl ⟨by rfl, fun w' hSw => by clear hSw; go_simp⟩) HS.out ?_
     simp only [List.getElem_toArray, List.getElem_cons_zero, List.getElem_cons_succ, Act.put, List.setIfInBounds_toArray, List.set_cons_zero, List.set_cons_succ]
     refine wpAnyH_take (i := 16) (v := .pointer (some ⟨p, 0, none⟩)) rfl (by kernel_rfl) (by kernel_rfl) (by kernel_rfl) (fun _ _ _ h => h) (Or.inl ⟨by rfl, fun w' hSw => by clear hSw; go_simp⟩) HS.out ?_
     simp only [List.getElem_toArray, List.getElem_cons_zero, List.getElem_cons_succ, Act.put, List.setIfInBounds_toArray, List.set_cons_zero, List.set_cons_succ]
     refine wpAnyH_take (i := 17) (v := .pointer (some ⟨w.heap.size, 2, none⟩)) rfl (by kernel_rfl) (by kernel_rfl) (by kernel_rfl) (fun _ _ _ h => h) (Or.inl ⟨by rfl, fun w' hSw => by clear hSw; go_simp⟩) HS.out ?_
     simp only [List.getElem_toArray, List.getElem_cons_zero, List.getElem_cons_succ, Act.put, List.setIfInBounds_toArray, List.set_cons_zero, List.set_cons_succ]
     refine wpAnyH_take (i := 18) (v := .agg #[.int .i64 x.k.1, .int .i64 x.k.2]) rfl (by kernel_rfl) (by kernel_rfl) (by kernel_rfl) (fun _ _ _ h => h) (Or.inl ⟨by rfl, fun w' hSw => by obtain ⟨S9, X9⟩ := hSw; obtain ⟨c0, c1, c2, c3⟩ := aj_c X9.A; clear X9; go_simp⟩) HS.out ?_
     simp only [List.getElem_toArray, List.getElem_cons_zero, List.getElem_cons_succ, Act.put, List.setIfInBounds_toArray, List.set_cons_zero, List.set_cons_succ]
     refine wpAnyH_take (i := 20) (v := .int .i64 (-1)) rfl (by kernel_rfl) (by kernel_rfl) (by kernel_rfl) (fun _ _ _ h => h) (Or.inl ⟨by rfl, fun w' hSw => by clear hSw; go_simp⟩) HS.out ?_
     simp only [List.getElem_toArray, List.getElem_cons_zero, List.getElem_cons_succ, Act.put, List.setIfInBounds_toArray, List.set_cons_zero, List.set_cons_succ]
     refine wpAnyH_ready (rs := [19]) (by kernel_rfl) (by simp) ?_
     refine AllReadyH.cons rfl (fun K hK => ?_) AllReadyH.nil
     go_simp
     obtain ⟨S9, X9⟩ := HS.out
     go_wp2_with (go_at_call 19; refine (HC.out.first _ p S9 n L x.k (HIN.out _ _ X9.P) HX.out.k).mono ?_; rintro e U1 ⟨he, hv⟩; rw [HF1.out] at he; subst he; obtain ⟨S8, X8, _, _⟩ := X9.left hv; have HS := Lib.hid (show ∃ S1, AlJ R w U1 p S S1 n L B (.slice yv N cv) w.heap.size x (.slice ya 0 ca) from ⟨S8, X8⟩); clear X9 X8 hv)
     refine hK.out _ _ HS.out (fun _ => ?_)
     clear hK K
     refine wpAnyH_take (i := 21) (v := .bool true) rfl (by kernel_rfl) (by kernel_rfl) (by kernel_rfl) (fun _ _ _ h => h) (Or.inl ⟨by rfl, fun w' hSw => by clear hSw; go_simp⟩) HS.out ?_
     simp only [List.getElem_toArray, List.getElem_cons_zero, List.getElem_cons_succ, Act.put, List.setIfInBounds_toArray, List.set_cons_zero, List.set_cons_succ]
     refine wpAnyH_take (i := 22) (v := .bool true) rfl (by kernel_rfl) (by kernel_rfl) (by kernel_rfl) (fun _ _ _ h => h) (Or.inl ⟨by rfl, fun w' hSw => by clear hSw; go_simp⟩) HS.out ?_
     simp only [List.getElem_toArray, List.getElem_cons_zero, List.getElem_cons_succ, Act.put, List.setIfInBounds_toArray, List.set_cons_zero, List.set_cons_succ]
     refine wpAnyH_take (i := 23) (v := .bool true) rfl (by kernel_rfl) (by kernel_rfl) (by kernel_rfl) (fun _ _ _ h => h) (Or.inl ⟨by rfl, fun w' hSw => by clear hSw; go_simp⟩) HS.out ?_
     simp only [List.getElem_toArray, List.getElem_cons_zero, List.getElem_cons_succ, Act.put, List.setIfInBounds_toArray, List.set_cons_zero, List.set_cons_succ]
     refine wpAnyH_take (i := 24) (v := .pointer (some ⟨p, 0, none⟩)) rfl (by kernel_rfl) (by kernel_rfl) (by kernel_rfl) (fun _ _ _ h => h) (Or.inl ⟨by rfl, fun w' hSw => by clear hSw; go_simp⟩) HS.out ?_
     simp only [List.getElem_toArray, List.getElem_cons_zero, List.getElem_cons_succ, Act.put, List.setIfInBounds_toArray, List.set_cons_zero, List.set_cons_succ]
     refine wpAnyH_take (i := 25) (v := .pointer (some ⟨w.heap.size, 1, none⟩)) rfl (by kernel_rfl) (by kernel_rfl) (by kernel_rfl) (fun _ _ _ h => h) (Or.inl ⟨by rfl, fun w' hSw => by clear hSw; go_simp⟩) HS.out ?_
     simp only [List.getElem_toArray, List.getElem_cons_zero, List.getElem_cons_succ, Act.put, List.setIfInBounds_toArray, List.set_cons_zero, List.set_cons_succ]
     refine wpAnyH_take (i := 26) (v := .int .i64 x.I) rfl (by kernel_rfl) (by kernel_rfl) (by kernel_rfl) (fun _ _ _ h => h) (Or.inl ⟨by rfl, fun w' hSw => by obtain ⟨S9, X9⟩ := hSw; obtain ⟨c0, c1, c2, c3⟩ := aj_c X9.A; clear X9; go_simp⟩) HS.out ?_
     simp only [List.getElem_toArray, List.getElem_cons_zero, List.getElem_cons_succ, Act.put, List.setIfInBounds_toArray, List.set_cons_zero, List.set_cons_succ]
     refine wpAnyH_take (i := 28) (v := .slice yv N cv) rfl (by kernel_rfl) (by kernel_rfl) (by kernel_rfl) (fun _ _ _ h => h) (Or.inl ⟨by rfl, fun w' hSw => by clear hSw; go_simp⟩) HS.out ?_
     simp only [List.getElem_toArray, List.getElem_cons_zero, List.getElem_cons_succ, Act.put, List.setIfInBounds_toArray, List.set_cons_zero, List.set_cons_succ]
     refine wpAnyH_take (i := 29) (v := .pointer (some ⟨w.heap.size, 1, none⟩)) rfl (by kernel_rfl) (by kernel_rfl) (by kernel_rfl) (fun _ _ _ h => h) (Or.inl ⟨by rfl, fun w' hSw => by clear hSw; go_simp⟩) HS.out ?_
     simp only [List.getElem_toArray, List.getElem_cons_zero, List.getElem_cons_succ, Act.put, List.setIfInBounds_toArray, List.set_cons_zero, List.set_cons_succ]
     refine wpAnyH_take (i := 30) (v := .int .i64 x.I) rfl (by kernel_rfl) (by kernel_rfl) (by kernel_rfl) (fun _ _ _ h => h) (Or.inl ⟨by rfl, fun w' hSw => by obtain ⟨S9, X9⟩ := hSw; obtain ⟨c0, c1, c2, c3⟩ := aj_c X9.A; clear X9; go_simp⟩) HS.out ?_
     simp only [List.getElem_toArray, List.getElem_cons_zero, List.getElem_cons_succ, Act.put, List.setIfInBounds_toArray, List.set_cons_zero, List.set_cons_succ]
     refine wpAnyH_ready (rs := [27]) (by kernel_rfl) (by simp) ?_
     refine AllReadyH.cons rfl (fun K hK => ?_) AllReadyH.nil
     go_simp
     obtain ⟨S9, X9⟩ := HS.out
     go_wp2_with (go_at_call 20; refine (HC.out.next _ p S9 n L x.I (HIN.out _ _ X9.P) HX.out.I).mono ?_; rintro e U1 ⟨rfl, hv⟩; obtain ⟨S8, X8, _, _⟩ := X9.left hv; have HS := Lib.hid (show ∃ S1, AlJ R w U1 p S S1 n L B (.slice yv N cv) w.heap.size x (.slice ya 0 ca) from ⟨S8, X8⟩); clear X9 X8 hv)
     refine hK.out _ _ HS.out (fun _ => ?_)
     clear hK K
     refine wpAnyH_ready (rs := [31]) (by kernel_rfl) (by simp) ?_
     refine AllReadyH.cons rfl (fun K hK => ?_) AllReadyH.nil
     go_simp
     obtain ⟨S9, X9⟩ := HS.out
     go_wp2_with (go_at_call 46; refine (jNext X9.M (by rw [HNl.out]; exact hl) x.I).mono ?_; rintro e U1 ⟨rfl, hb⟩; have HS := Lib.hid (show ∃ S1, AlJ R w U1 p S S1 n L B (.slice yv N cv) w.heap.size x (.slice ya 0 ca) from ⟨S9, X9.below hb⟩); clear X9 hb)
     refine hK.out _ _ HS.out (fun _ => ?_)
     clear hK K
     refine wpAnyH_take (i := 32) (v := .bool true) rfl (by kernel_rfl) (by kernel_rfl) (by kernel_rfl) (fun _ _ _ h => h) (Or.inl ⟨by rfl, fun w' hSw => by clear hSw; go_simp⟩) HS.out ?_
     simp only [List.getElem_toArray, List.getElem_cons_zero, List.getElem_cons_succ, Act.put, List.setIfInBounds_toArray, List.set_cons_zero, List.set_cons_succ]
     refine wpAnyH_take (i := 33) (v := .bool true) rfl (by kernel_rfl) (by kernel_rfl) (by kernel_rfl) (fun _ _ _ h => h) (Or.inl ⟨by rfl, fun w' hSw => by clear hSw; go_simp⟩) HS.out ?_
     simp only [List.getElem_toArray, List.getElem_cons_zero, List.getElem_cons_succ, Act.put, List.setIfInBounds_toArray, List.set_cons_zero, List.set_cons_succ]
     refine wpAnyH_take (i := 34) (v := .bool true) rfl (by kernel_rfl) (by kernel_rfl) (by kernel_rfl) (fun _ _ _ h => h) (Or.inl ⟨by rfl, fun w' hSw => by clear hSw; go_simp⟩) HS.out ?_
     simp only [List.getElem_toArray, List.getElem_cons_zero, List.getElem_cons_succ, Act.put, List.setIfInBounds_toArray, List.set_cons_zero, List.set_cons_succ]
     refine wpAnyH_take (i := 35) (v := .pointer (some ⟨p, 0, none⟩)) rfl (by kernel_rfl) (by kernel_rfl) (by kernel_rfl) (fun _ _ _ h => h) (Or.inl ⟨by rfl, fun w' hSw => by clear hSw; go_simp⟩) HS.out ?_
     simp only [List.getElem_toArray, List.getElem_cons_zero, List.getElem_cons_succ, Act.put, List.setIfInBounds_toArray, List.set_cons_zero, List.set_cons_succ]
     refine wpAnyH_take (i := 37) (v := .slice yv N cv) rfl (by kernel_rfl) (by kernel_rfl) (by kernel_rfl) (fun _ _ _ h => h) (Or.inl ⟨by rfl, fun w' hSw => by clear hSw; go_simp⟩) HS.out ?_
     simp only [List.getElem_toArray, List.getElem_cons_zero, List.getElem_cons_succ, Act.put, List.setIfInBounds_toArray, List.set_cons_zero, List.set_cons_succ]
     refine wpAnyH_take (i := 38) (v := .int .i64 (N : Int)) rfl (by kernel_rfl) (by kernel_rfl) (by kernel_rfl) (fun _ _ _ h => h) (Or.inl ⟨by rfl, fun w' hSw => by clear hSw; go_simp⟩) HS.out ?_
     simp only [List.getElem_toArray, List.getElem_cons_zero, List.getElem_cons_succ, Act.put, List.setIfInBounds_toArray, List.set_cons_zero, List.set_cons_succ]
     refine wpAnyH_ready (rs := [36]) (by kernel_rfl) (by simp) ?_
     refine AllReadyH.cons rfl (fun K hK => ?_) AllReadyH.nil
     go_simp
     obtain ⟨S9, X9⟩ := HS.out
     go_wp2_with (go_at_call 23; refine (HC.out.total _ p S9 n L (HIN.out _ _ X9.P)).mono ?_; rintro e U1 ⟨he, hv⟩; rw [HNl.out] at he; subst he; obtain ⟨S8, X8, _, _⟩ := X9.left hv; have HS := Lib.hid (show ∃ S1, AlJ R w U1 p S S1 n L B (.slice yv N cv) w.heap.size x (.slice ya 0 ca) from ⟨S8, X8⟩); clear X9 X8 hv)
     refine hK.out _ _ HS.out (fun _ => ?_)
     clear hK K
     refine wpAnyH_take (i := 39) (v := .bool true) rfl (by kernel_rfl) (by kernel_rfl) (by kernel_rfl) (fun _ _ _ h => h) (Or.inl ⟨by rfl, fun w' hSw => by clear hSw; go_simp⟩) HS.out ?_
     simp only [List.getElem_toArray, List.getElem_cons_zero, List.getElem_cons_succ, Act.put, List.setIfInBounds_toArray, List.set_cons_zero, List.set_cons_succ]
     refine wpAnyH_take (i := 40) (v := .bool true) rfl (by kernel_rfl) (by kernel_rfl) (by kernel_rfl) (fun _ _ _ h => h) (Or.inl ⟨by rfl, fun w' hSw => by clear hSw; go_simp⟩) HS.out ?_
     simp only [List.getElem_toArray, List.getElem_cons_zero, List.getElem_cons_succ, Act.put, List.setIfInBounds_toArray, List.set_cons_zero, List.set_cons_succ]
     refine wpAnyH_take (i := 41) (v := .bool true) rfl (by kernel_rfl) (by kernel_rfl) (by kernel_rfl) (fun _ _ _ h => h) (Or.inl ⟨by rfl, fun w' hSw => by clear hSw; go_simp⟩) HS.out ?_
     simp only [List.getElem_toArray, List.getElem_cons_zero, List.getElem_cons_succ, Act.put, List.setIfInBounds_toArray, List.set_cons_zero, List.set_cons_succ]
     refine wpAnyH_done (by kernel_rfl) ?_ _
     go_wp2_with fail
     go_ret
     obtain ⟨S9, X9⟩ := HS.out
     exact ⟨rfl, X9.vleft⟩
   · subst hyg
     have HF1 := Lib.hid hF1
     clear hF1
     go_wp2_with fail
     refine HF.out.mono ?_
     rintro e w2 ⟨rfl, rfl⟩
     clear HF
     go_wp2_with fail
     refine (HKey.out w1 S HJ.out.P).mono ?_
     rintro e w3 ⟨he, hv⟩
     change e = Ending.returned (.tuple #[.agg #[.int .i64 0, .int .i64 0], .bool false]) at he
     subst he
     obtain ⟨S2, J2, _, ho2⟩ := HJ.out.left hv
     have hbb := trA (tr0 w3) (oKp ((0, 0) : Kp))
     have HJ2 := Lib.hid (J2.below hbb)
     have HQ := Lib.hid (show KeyAt (w3.alloc (oKp ((0, 0) : Kp))) w3.heap.size ((0, 0) : Kp) from blk_new w3 _)
     clear J2 ho2 hv hbb HJ HKey a1 a2 a3
     go_upto_region 7 with (fail)
     rw [show Obj.cells #[Value.int .i64 0, .int .i64 0] 27 (0, 0) = oKp ((0, 0) : Kp) from rfl]
     generalize w3.alloc (oKp ((0, 0) : Kp)) = W2 at *
     generalize w3.heap.size = bk at *
     obtain ⟨hbk, q0, q1⟩ := HQ.out.c
     have hgc := gcell
     have hbd := buildKp
     refine wp_region_quiet_below (by kernel_rfl) (by kernel_rfl) ?_
     repeat (first
      | go_big_quiet_skip
      | (go_big_quiet_want; first
          | (refine qneKp (.tmp 53) (.tmp 54) _ rfl (k := (0, 0)) (j := (0, 0)) rfl rfl ?_; go_simp; go_big_quiet_on)
          | (go_big_quiet_op; go_big_quiet_on))
      | (refine wpQuiet_nil ?_))
     intro _ hw'
     obtain ⟨⟨dq, osq⟩, hw''⟩ := hw'
     subst hw''
     have HS := Lib.hid (show ∃ S1, AlJ R w (grow (redrawn W2 dq) osq) p S S1 n L B (.slice yv N cv) w.heap.size x (.slice (some ⟨g, off, none⟩) len ca) from ⟨S2, HJ2.out.below (below_regrown W2 dq osq)⟩)
     clear hgc HJ2 HQ hbk q0 q1 hbd
     dsimp only at HS ⊢
     generalize grow (redrawn W2 dq) osq = W3 at *
     go_upto_region 9 with (fail)
     refine wp_region_held_drew (S := fun w' => ∃ S1, AlJ R w w' p S S1 n L B (.slice yv N cv) w.heap.size x (.slice (some ⟨g, off, none⟩) len ca)) (by kernel_rfl) (by obtain ⟨S1, X⟩ := HS.out; exact ⟨S1, X.below (trD (tr0 W3))⟩) (fun h => ?_)
     have HS := Lib.hid h
     clear h
     generalize W3.drew = U0 at *
     refine wpAnyH_take (i := 0) (v := .pointer (some ⟨p, 0, none⟩)) rfl (by kernel_rfl) (by kernel_rfl) (by kernel_rfl) (fun _ _ _ h => h) (Or.inl ⟨by rfl, fun w' hSw => by clear hSw; go_simp⟩) HS.out ?_
     simp only [List.getElem_toArray, List.getElem_cons_zero, List.getElem_cons_succ, Act.put, List.setIfInBounds_toArray, List.set_cons_zero, List.set_cons_succ]
     refine wpAnyH_take (i := 1) (v := .pointer (some ⟨w.heap.size, 2, none⟩)) rfl (by kernel_rfl) (by kernel_rfl) (by kernel_rfl) (fun _ _ _ h => h) (Or.inl ⟨by rfl, fun w' hSw => by clear hSw; go_simp⟩) HS.out ?_
     simp only [List.getElem_toArray, List.getElem_cons_zero, List.getElem_cons_succ, Act.put, List.setIfInBounds_toArray, List.set_cons_zero, List.set_cons_succ]
     refine wpAnyH_take (i := 2) (v := .agg #[.int .i64 x.k.1, .int .i64 x.k.2]) rfl (by kernel_rfl) (by kernel_rfl) (by kernel_rfl) (fun _ _ _ h => h) (Or.inl ⟨by rfl, fun w' hSw => by obtain ⟨S9, X9⟩ := hSw; obtain ⟨c0, c1, c2, c3⟩ := aj_c X9.A; clear X9; go_simp⟩) HS.out ?_
     simp only [List.getElem_toArray, List.getElem_cons_zero, List.getElem_cons_succ, Act.put, List.setIfInBounds_toArray, List.set_cons_zero, List.set_cons_succ]
     refine wpAnyH_take (i := 4) (v := .slice (some ⟨g, off, none⟩) len ca) rfl (by kernel_rfl) (by kernel_rfl) (by kernel_rfl) (fun _ _ _ h => h) (Or.inl ⟨by rfl, fun w' hSw => by clear hSw; go_simp⟩) HS.out ?_
     simp only [List.getElem_toArray, List.getElem_cons_zero, List.getElem_cons_succ, Act.put, List.setIfInBounds_toArray, List.set_cons_zero, List.set_cons_succ]
     refine wpAnyH_ready (rs := [3]) (by kernel_rfl) (by simp) ?_
     refine AllReadyH.cons rfl (fun K hK => ?_) AllReadyH.nil
     go_simp
     obtain ⟨S9, X9⟩ := HS.out
     go_wp2_with (go_at_call 34; refine (HC.out.K.all _ p S9 n L x.k (HIN.out _ _ X9.P) HX.out.k).mono ?_; rintro e U1 ⟨v2, rfl, hv⟩; obtain ⟨S8, X8, _, _⟩ := X9.left hv.left; have HR := Lib.hid (show RdI U1 v2 (chAll L x.k) from by obtain ⟨_, _, _, _, h, _⟩ := hv; exact h); have HS := Lib.hid (show ∃ S1, AlJ R w U1 p S S1 n L B (.slice yv N cv) w.heap.size x (.slice (some ⟨g, off, none⟩) len ca) from ⟨S8, X8⟩); clear X9 X8 hv)
     refine hK.out _ _ HS.out (fun _ => ?_)
     clear hK K
     refine wpAnyH_ready (rs := [5]) (by kernel_rfl) (by simp) ?_
     refine AllReadyH.cons rfl (fun K hK => ?_) AllReadyH.nil
     go_simp
     obtain ⟨S9, X9⟩ := HS.out
     go_wp2_with (go_at_call 15; refine (jSame HR.out X9.U).mono ?_; rintro e U1 ⟨rfl, hb⟩; have HS := Lib.hid (show ∃ S1, AlJ R w U1 p S S1 n L B (.slice yv N cv) w.heap.size x (.slice (some ⟨g, off, none⟩) len ca) from ⟨S9, X9.below hb⟩); clear X9 hb)
     refine hK.out _ _ HS.out (fun _ => ?_)
     clear hK K
     refine wpAnyH_take (i := 6) (v := .bool true) rfl (by kernel_rfl) (by kernel_rfl) (by kernel_rfl) (fun _ _ _ h => h) (Or.inl ⟨by rfl, fun w' hSw => by clear hSw; go_simp⟩) HS.out ?_
     simp only [List.getElem_toArray, List.getElem_cons_zero, List.getElem_cons_succ, Act.put, List.setIfInBounds_toArray, List.set_cons_zero, List.set_cons_succ]
     refine wpAnyH_take (i := 7) (v := .pointer (some ⟨p, 0, none⟩)) rfl (by kernel_rfl) (by kernel_rfl) (by kernel_rfl) (fun _ _ _ h => h) (Or.inl ⟨by rfl, fun w' hSw => by clear hSw; go_simp⟩) HS.out ?_
     simp only [List.getElem_toArray, List.getElem_cons_zero, List.getElem_cons_succ, Act.put, List.setIfInBounds_toArray, List.set_cons_zero, List.set_cons_succ]
     refine wpAnyH_take (i := 8) (v := .pointer (some ⟨w.heap.size, 2, none⟩)) rfl (by kernel_rfl) (by kernel_rfl) (by kernel_rfl) (fun _ _ _ h => h) (Or.inl ⟨by rfl, fun w' hSw => by clear hSw; go_simp⟩) HS.out ?_
     simp only [List.getElem_toArray, List.getElem_cons_zero, List.getElem_cons_succ, Act.put, List.setIfInBounds_toArray, List.set_cons_zero, List.set_cons_succ]
     refine wpAnyH_take (i := 9) (v := .agg #[.int .i64 x.k.1, .int .i64 x.k.2]) rfl (by kernel_rfl) (by kernel_rfl) (by kernel_rfl) (fun _ _ _ h => h) (Or.inl ⟨by rfl, fun w' hSw => by obtain ⟨S9, X9⟩ := hSw; obtain ⟨c0, c1, c2, c3⟩ := aj_c X9.A; clear X9; go_simp⟩) HS.out ?_
     simp only [List.getElem_toArray, List.getElem_cons_zero, List.getElem_cons_succ, Act.put, List.setIfInBounds_toArray, List.set_cons_zero, List.set_cons_succ]
     refine wpAnyH_take (i := 11) (v := .slice (some ⟨g, off, none⟩) len ca) rfl (by kernel_rfl) (by kernel_rfl) (by kernel_rfl) (fun _ _ _ h => h) (Or.inl ⟨by rfl, fun w' hSw => by clear hSw; go_simp⟩) HS.out ?_
     simp only [List.getElem_toArray, List.getElem_cons_zero, List.getElem_cons_succ, Act.put, List.setIfInBounds_toArray, List.set_cons_zero, List.set_cons_succ]
     refine wpAnyH_take (i := 12) (v := .int .i64 (len : Int)) rfl (by kernel_rfl) (by kernel_rfl) (by kernel_rfl) (fun _ _ _ h => h) (Or.inl ⟨by rfl, fun w' hSw => by clear hSw; go_simp⟩) HS.out ?_
     simp only [List.getElem_toArray, List.getElem_cons_zero, List.getElem_cons_succ, Act.put, List.setIfInBounds_toArray, List.set_cons_zero, List.set_cons_succ]
     refine wpAnyH_ready (rs := [10]) (by kernel_rfl) (by simp) ?_
     refine AllReadyH.cons rfl (fun K hK => ?_) AllReadyH.nil
     go_simp
     obtain ⟨S9, X9⟩ := HS.out
     go_wp2_with (go_at_call 22; refine (HC.out.len _ p S9 n L x.k (HIN.out _ _ X9.P) HX.out.k).mono ?_; rintro e U1 ⟨he, hv⟩; rw [HLen.out] at he; subst he; obtain ⟨S8, X8, _, _⟩ := X9.left hv; have HS := Lib.hid (show ∃ S1, AlJ R w U1 p S S1 n L B (.slice yv N cv) w.heap.size x (.slice (some ⟨g, off, none⟩) len ca) from ⟨S8, X8⟩); clear X9 X8 hv)
     refine hK.out _ _ HS.out (fun _ => ?_)
     clear hK K
     refine wpAnyH_take (i := 13) (v := .bool true) rfl (by kernel_rfl) (by kernel_rfl) (by kernel_rfl) (fun _ _ _ h => h) (Or.inl ⟨by rfl, fun w' hSw => by clear hSw; go_simp⟩) HS.out ?_
     simp only [List.getElem_toArray, List.getElem_cons_zero, List.getElem_cons_succ, Act.put, List.setIfInBounds_toArray, List.set_cons_zero, List.set_cons_succ]
     refine wpAnyH_take (i := 14) (v := .bool true) rfl (by kernel_rfl) (by kernel_rfl) (by kernel_rfl) (fun _ _ _ h => h) (Or.inl ⟨by rfl, fun w' hSw => by clear hSw; go_simp⟩) HS.out ?_
     simp only [List.getElem_toArray, List.getElem_cons_zero, List.getElem_cons_succ, Act.put, List.setIfInBounds_toArray, List.set_cons_zero, List.set_cons_succ]
     refine wpAnyH_take (i := 15) (v := .bool true) rfl (by kernel_rfl) (by kernel_rfl) (by kernel_rfl) (fun _ _ _ h => h) (Or.inl ⟨by rfl, fun w' hSw => by clear hSw; go_simp⟩) HS.out ?_
     simp only [List.getElem_toArray, List.getElem_cons_zero, List.getElem_cons_succ, Act.put, List.setIfInBounds_toArray, List.set_cons_zero, List.set_cons_succ]
     refine wpAnyH_take (i := 16) (v := .pointer (some ⟨p, 0, none⟩)) rfl (by kernel_rfl) (by kernel_rfl) (by kernel_rfl) (fun _ _ _ h => h) (Or.inl ⟨by rfl, fun w' hSw => by clear hSw; go_simp⟩) HS.out ?_
     simp only [List.getElem_toArray, List.getElem_cons_zero, List.getElem_cons_succ, Act.put, List.setIfInBounds_toArray, List.set_cons_zero, List.set_cons_succ]
     refine wpAnyH_take (i := 17) (v := .pointer (some ⟨w.heap.size, 2, none⟩)) rfl (by kernel_rfl) (by kernel_rfl) (by kernel_rfl) (fun _ _ _ h => h) (Or.inl ⟨by rfl, fun w' hSw => by clear hSw; go_simp⟩) HS.out ?_
     simp only [List.getElem_toArray, List.getElem_cons_zero, List.getElem_cons_succ, Act.put, List.setIfInBounds_toArray, List.set_cons_zero, List.set_cons_succ]
     refine wpAnyH_take (i := 18) (v := .agg #[.int .i64 x.k.1, .int .i64 x.k.2]) rfl (by kernel_rfl) (by kernel_rfl) (by kernel_rfl) (fun _ _ _ h => h) (Or.inl ⟨by rfl, fun w' hSw => by obtain ⟨S9, X9⟩ := hSw; obtain ⟨c0, c1, c2, c3⟩ := aj_c X9.A; clear X9; go_simp⟩) HS.out ?_
     simp only [List.getElem_toArray, List.getElem_cons_zero, List.getElem_cons_succ, Act.put, List.setIfInBounds_toArray, List.set_cons_zero, List.set_cons_succ]
     refine wpAnyH_take (i := 20) (v := .int .i64 z) rfl (by kernel_rfl) (by kernel_rfl) (by kernel_rfl) (fun _ _ _ h => h) (Or.inl ⟨by rfl, fun w' hSw => by clear hSw; go_simp⟩) HS.out ?_
     simp only [List.getElem_toArray, List.getElem_cons_zero, List.getElem_cons_succ, Act.put, List.setIfInBounds_toArray, List.set_cons_zero, List.set_cons_succ]
     refine wpAnyH_ready (rs := [19]) (by kernel_rfl) (by simp) ?_
     refine AllReadyH.cons rfl (fun K hK => ?_) AllReadyH.nil
     go_simp
     obtain ⟨S9, X9⟩ := HS.out
     go_wp2_with (go_at_call 19; refine (HC.out.first _ p S9 n L x.k (HIN.out _ _ X9.P) HX.out.k).mono ?_; rintro e U1 ⟨he, hv⟩; rw [HF1.out] at he; subst he; obtain ⟨S8, X8, _, _⟩ := X9.left hv; have HS := Lib.hid (show ∃ S1, AlJ R w U1 p S S1 n L B (.slice yv N cv) w.heap.size x (.slice (some ⟨g, off, none⟩) len ca) from ⟨S8, X8⟩); clear X9 X8 hv)
     refine hK.out _ _ HS.out (fun _ => ?_)
     clear hK K
     refine wpAnyH_take (i := 21) (v := .bool true) rfl (by kernel_rfl) (by kernel_rfl) (by kernel_rfl) (fun _ _ _ h => h) (Or.inl ⟨by rfl, fun w' hSw => by clear hSw; go_simp⟩) HS.out ?_
     simp only [List.getElem_toArray, List.getElem_cons_zero, List.getElem_cons_succ, Act.put, List.setIfInBounds_toArray, List.set_cons_zero, List.set_cons_succ]
     refine wpAnyH_take (i := 22) (v := .bool true) rfl (by kernel_rfl) (by kernel_rfl) (by kernel_rfl) (fun _ _ _ h => h) (Or.inl ⟨by rfl, fun w' hSw => by clear hSw; go_simp⟩) HS.out ?_
     simp only [List.getElem_toArray, List.getElem_cons_zero, List.getElem_cons_succ, Act.put, List.setIfInBounds_toArray, List.set_cons_zero, List.set_cons_succ]
     refine wpAnyH_take (i := 23) (v := .bool true) rfl (by kernel_rfl) (by kernel_rfl) (by kernel_rfl) (fun _ _ _ h => h) (Or.inl ⟨by rfl, fun w' hSw => by clear hSw; go_simp⟩) HS.out ?_
     simp only [List.getElem_toArray, List.getElem_cons_zero, List.getElem_cons_succ, Act.put, List.setIfInBounds_toArray, List.set_cons_zero, List.set_cons_succ]
     refine wpAnyH_take (i := 24) (v := .pointer (some ⟨p, 0, none⟩)) rfl (by kernel_rfl) (by kernel_rfl) (by kernel_rfl) (fun _ _ _ h => h) (Or.inl ⟨by rfl, fun w' hSw => by clear hSw; go_simp⟩) HS.out ?_
     simp only [List.getElem_toArray, List.getElem_cons_zero, List.getElem_cons_succ, Act.put, List.setIfInBounds_toArray, List.set_cons_zero, List.set_cons_succ]
     refine wpAnyH_take (i := 25) (v := .pointer (some ⟨w.heap.size, 1, none⟩)) rfl (by kernel_rfl) (by kernel_rfl) (by kernel_rfl) (fun _ _ _ h => h) (Or.inl ⟨by rfl, fun w' hSw => by clear hSw; go_simp⟩) HS.out ?_
     simp only [List.getElem_toArray, List.getElem_cons_zero, List.getElem_cons_succ, Act.put, List.setIfInBounds_toArray, List.set_cons_zero, List.set_cons_succ]
     refine wpAnyH_take (i := 26) (v := .int .i64 x.I) rfl (by kernel_rfl) (by kernel_rfl) (by kernel_rfl) (fun _ _ _ h => h) (Or.inl ⟨by rfl, fun w' hSw => by obtain ⟨S9, X9⟩ := hSw; obtain ⟨c0, c1, c2, c3⟩ := aj_c X9.A; clear X9; go_simp⟩) HS.out ?_
     simp only [List.getElem_toArray, List.getElem_cons_zero, List.getElem_cons_succ, Act.put, List.setIfInBounds_toArray, List.set_cons_zero, List.set_cons_succ]
     refine wpAnyH_take (i := 28) (v := .slice yv N cv) rfl (by kernel_rfl) (by kernel_rfl) (by kernel_rfl) (fun _ _ _ h => h) (Or.inl ⟨by rfl, fun w' hSw => by clear hSw; go_simp⟩) HS.out ?_
     simp only [List.getElem_toArray, List.getElem_cons_zero, List.getElem_cons_succ, Act.put, List.setIfInBounds_toArray, List.set_cons_zero, List.set_cons_succ]
     refine wpAnyH_take (i := 29) (v := .pointer (some ⟨w.heap.size, 1, none⟩)) rfl (by kernel_rfl) (by kernel_rfl) (by kernel_rfl) (fun _ _ _ h => h) (Or.inl ⟨by rfl, fun w' hSw => by clear hSw; go_simp⟩) HS.out ?_
     simp only [List.getElem_toArray, List.getElem_cons_zero, List.getElem_cons_succ, Act.put, List.setIfInBounds_toArray, List.set_cons_zero, List.set_cons_succ]
     refine wpAnyH_take (i := 30) (v := .int .i64 x.I) rfl (by kernel_rfl) (by kernel_rfl) (by kernel_rfl) (fun _ _ _ h => h) (Or.inl ⟨by rfl, fun w' hSw => by obtain ⟨S9, X9⟩ := hSw; obtain ⟨c0, c1, c2, c3⟩ := aj_c X9.A; clear X9; go_simp⟩) HS.out ?_
     simp only [List.getElem_toArray, List.getElem_cons_zero, List.getElem_cons_succ, Act.put, List.setIfInBounds_toArray, List.set_cons_zero, List.set_cons_succ]
     refine wpAnyH_ready (rs := [27]) (by kernel_rfl) (by simp) ?_
     refine AllReadyH.cons rfl (fun K hK => ?_) AllReadyH.nil
     go_simp
     obtain ⟨S9, X9⟩ := HS.out
     go_wp2_with (go_at_call 20; refine (HC.out.next _ p S9 n L x.I (HIN.out _ _ X9.P) HX.out.I).mono ?_; rintro e U1 ⟨rfl, hv⟩; obtain ⟨S8, X8, _, _⟩ := X9.left hv; have HS := Lib.hid (show ∃ S1, AlJ R w U1 p S S1 n L B (.slice yv N cv) w.heap.size x (.slice (some ⟨g, off, none⟩) len ca) from ⟨S8, X8⟩); clear X9 X8 hv)
     refine hK.out _ _ HS.out (fun _ => ?_)
     clear hK K
     refine wpAnyH_ready (rs := [31]) (by kernel_rfl) (by simp) ?_
     refine AllReadyH.cons rfl (fun K hK => ?_) AllReadyH.nil
     go_simp
     obtain ⟨S9, X9⟩ := HS.out
     go_wp2_with (go_at_call 46; refine (jNext X9.M (by rw [HNl.out]; exact hl) x.I).mono ?_; rintro e U1 ⟨rfl, hb⟩; have HS := Lib.hid (show ∃ S1, AlJ R w U1 p S S1 n L B (.slice yv N cv) w.heap.size x (.slice (some ⟨g, off, none⟩) len ca) from ⟨S9, X9.below hb⟩); clear X9 hb)
     refine hK.out _ _ HS.out (fun _ => ?_)
     clear hK K
     refine wpAnyH_take (i := 32) (v := .bool true) rfl (by kernel_rfl) (by kernel_rfl) (by kernel_rfl) (fun _ _ _ h => h) (Or.inl ⟨by rfl, fun w' hSw => by clear hSw; go_simp⟩) HS.out ?_
     simp only [List.getElem_toArray, List.getElem_cons_zero, List.getElem_cons_succ, Act.put, List.setIfInBounds_toArray, List.set_cons_zero, List.set_cons_succ]
     refine wpAnyH_take (i := 33) (v := .bool true) rfl (by kernel_rfl) (by kernel_rfl) (by kernel_rfl) (fun _ _ _ h => h) (Or.inl ⟨by rfl, fun w' hSw => by clear hSw; go_simp⟩) HS.out ?_
     simp only [List.getElem_toArray, List.getElem_cons_zero, List.getElem_cons_succ, Act.put, List.setIfInBounds_toArray, List.set_cons_zero, List.set_cons_succ]
     refine wpAnyH_take (i := 34) (v := .bool true) rfl (by kernel_rfl) (by kernel_rfl) (by kernel_rfl) (fun _ _ _ h => h) (Or.inl ⟨by rfl, fun w' hSw => by clear hSw; go_simp⟩) HS.out ?_
     simp only [List.getElem_toArray, List.getElem_cons_zero, List.getElem_cons_succ, Act.put, List.setIfInBounds_toArray, List.set_cons_zero, List.set_cons_succ]
     refine wpAnyH_take (i := 35) (v := .pointer (some ⟨p, 0, none⟩)) rfl (by kernel_rfl) (by kernel_rfl) (by kernel_rfl) (fun _ _ _ h => h) (Or.inl ⟨by rfl, fun w' hSw => by clear hSw; go_simp⟩) HS.out ?_
     simp only [List.getElem_toArray, List.getElem_cons_zero, List.getElem_cons_succ, Act.put, List.setIfInBounds_toArray, List.set_cons_zero, List.set_cons_succ]
     refine wpAnyH_take (i := 37) (v := .slice yv N cv) rfl (by kernel_rfl) (by kernel_rfl) (by kernel_rfl) (fun _ _ _ h => h) (Or.inl ⟨by rfl, fun w' hSw => by clear hSw; go_simp⟩) HS.out ?_
     simp only [List.getElem_toArray, List.getElem_cons_zero, List.getElem_cons_succ, Act.put, List.setIfInBounds_toArray, List.set_cons_zero, List.set_cons_succ]
     refine wpAnyH_take (i := 38) (v := .int .i64 (N : Int)) rfl (by kernel_rfl) (by kernel_rfl) (by kernel_rfl) (fun _ _ _ h => h) (Or.inl ⟨by rfl, fun w' hSw => by clear hSw; go_simp⟩) HS.out ?_
     simp only [List.getElem_toArray, List.getElem_cons_zero, List.getElem_cons_succ, Act.put, List.setIfInBounds_toArray, List.set_cons_zero, List.set_cons_succ]
     refine wpAnyH_ready (rs := [36]) (by kernel_rfl) (by simp) ?_
     refine AllReadyH.cons rfl (fun K hK => ?_) AllReadyH.nil
     go_simp
     obtain ⟨S9, X9⟩ := HS.out
     go_wp2_with (go_at_call 23; refine (HC.out.total _ p S9 n L (HIN.out _ _ X9.P)).mono ?_; rintro e U1 ⟨he, hv⟩; rw [HNl.out] at he; subst he; obtain ⟨S8, X8, _, _⟩ := X9.left hv; have HS := Lib.hid (show ∃ S1, AlJ R w U1 p S S1 n L B (.slice yv N cv) w.heap.size x (.slice (some ⟨g, off, none⟩) len ca) from ⟨S8, X8⟩); clear X9 X8 hv)
     refine hK.out _ _ HS.out (fun _ => ?_)
     clear hK K
     refine wpAnyH_take (i := 39) (v := .bool true) rfl (by kernel_rfl) (by kernel_rfl) (by kernel_rfl) (fun _ _ _ h => h) (Or.inl ⟨by rfl, fun w' hSw => by clear hSw; go_simp⟩) HS.out ?_
     simp only [List.getElem_toArray, List.getElem_cons_zero, List.getElem_cons_succ, Act.put, List.setIfInBounds_toArray, List.set_cons_zero, List.set_cons_succ]
     refine wpAnyH_take (i := 40) (v := .bool true) rfl (by kernel_rfl) (by kernel_rfl) (by kernel_rfl) (fun _ _ _ h => h) (Or.inl ⟨by rfl, fun w' hSw => by clear hSw; go_simp⟩) HS.out ?_
     simp only [List.getElem_toArray, List.getElem_cons_zero, List.getElem_cons_succ, Act.put, List.setIfInBounds_toArray, List.set_cons_zero, List.set_cons_succ]
     refine wpAnyH_take (i := 41) (v := .bool true) rfl (by kernel_rfl) (by kernel_rfl) (by kernel_rfl) (fun _ _ _ h => h) (Or.inl ⟨by rfl, fun w' hSw => by clear hSw; go_simp⟩) HS.out ?_
     simp only [List.getElem_toArray, List.getElem_cons_zero, List.getElem_cons_succ, Act.put, List.setIfInBounds_toArray, List.set_cons_zero, List.set_cons_succ]
     refine wpAnyH_done (by kernel_rfl) ?_ _
     go_wp2_with fail
     go_ret
     obtain ⟨S9, X9⟩ := HS.out
     exact ⟨rfl, X9.vleft⟩
 · have hh : chHas L x.I = true := by rw [chHas_key, chKey_at h1 h2 h3]; rfl
   rw [chIx_at h1 h2 h3] at HF
   rw [chKey_at h1 h2 h3, hh] at HKey
   have HZ := Lib.hid h1
   clear h1 h2 h3 hh
   rcases HFst with ⟨h0, hF1⟩ | ⟨z, g, off, h0, hF1, hyg, cz, hgz⟩
   · subst h0
     have HF1 := Lib.hid hF1
     clear hF1
     go_wp2_with fail
     refine HF.out.mono ?_
     rintro e w2 ⟨rfl, rfl⟩
     clear HF
     have hp0 : decide (0 ≤ (p0 : Int)) = true := decide_eq_true (by omega)
     go_wp2_with fail
     refine (HKey.out w1 S HJ.out.P).mono ?_
     rintro e w3 ⟨he, hv⟩
     change e = Ending.returned (.tuple #[.agg #[.int .i64 z0.1.1, .int .i64 z0.1.2], .bool true]) at he
     subst he
     obtain ⟨S2, J2, _, ho2⟩ := HJ.out.left hv
     have hbb := trA (tr0 w3) (oKp z0.1)
     have HJ2 := Lib.hid (J2.below hbb)
     have HQ := Lib.hid (show KeyAt (w3.alloc (oKp z0.1)) w3.heap.size z0.1 from blk_new w3 _)
     clear J2 ho2 hv hbb HJ HKey a1 a2 a3
     go_upto_region 7 with (fail)
     rw [show Obj.cells #[Value.int .i64 z0.1.1, .int .i64 z0.1.2] 27 (0, 0) = oKp z0.1 from rfl]
     generalize w3.alloc (oKp z0.1) = W2 at *
     generalize w3.heap.size = bk at *
     obtain ⟨hbk, q0, q1⟩ := HQ.out.c
     have hgc := gcell
     obtain ⟨hn9, m1, m2, gv, hyv, hgv, c0, c1, c2⟩ := HJ2.out.M.cellk HZ.out
     subst hyv
     clear hn9
     have hpN : p0 < N := by have := (List.getElem?_eq_some_iff.1 HZ.out).1; have := HNl.out; omega
     refine wp_region_quiet_below (by kernel_rfl) (by kernel_rfl) ?_
     repeat (first
      | go_big_quiet_skip
      | (go_big_quiet_want; first
          | (refine qneKp (.tmp 40) (.tmp 45) _ rfl (k := z0.1) (j := z0.1) rfl rfl ?_; go_simp; go_big_quiet_on)
          | (go_big_quiet_op; go_big_quiet_on))
      | (refine wpQuiet_nil ?_))
     intro _ hw'
     obtain ⟨⟨dq, osq⟩, hw''⟩ := hw'
     subst hw''
     have HS := Lib.hid (show ∃ S1, AlJ R w (grow (redrawn W2 dq) osq) p S S1 n L B (.slice (some ⟨gv, 0, none⟩) N cv) w.heap.size x (.slice ya 0 ca) from ⟨S2, HJ2.out.below (below_regrown W2 dq osq)⟩)
     clear hgc HJ2 HQ hbk q0 q1 hgv c0 c1 c2 m1 m2
     dsimp only at HS ⊢
     generalize grow (redrawn W2 dq) osq = W3 at *
     go_upto_region 9 with (fail)
     refine wp_region_held_drew (S := fun w' => ∃ S1, AlJ R w w' p S S1 n L B (.slice (some ⟨gv, 0, none⟩) N cv) w.heap.size x (.slice ya 0 ca)) (by kernel_rfl) (by obtain ⟨S1, X⟩ := HS.out; exact ⟨S1, X.below (trD (tr0 W3))⟩) (fun h => ?_)
     have HS := Lib.hid h
     clear h
     generalize W3.drew = U0 at *
     refine wpAnyH_take (i := 0) (v := .pointer (some ⟨p, 0, none⟩)) rfl (by kernel_rfl) (by kernel_rfl) (by kernel_rfl) (fun _ _ _ h => h) (Or.inl ⟨by rfl, fun w' hSw => by clear hSw; go_simp⟩) HS.out ?_
     simp only [List.getElem_toArray, List.getElem_cons_zero, List.getElem_cons_succ, Act.put, List.setIfInBounds_toArray, List.set_cons_zero, List.set_cons_succ]
     refine wpAnyH_take (i := 1) (v := .pointer (some ⟨w.heap.size, 2, none⟩)) rfl (by kernel_rfl) (by kernel_rfl) (by kernel_rfl) (fun _ _ _ h => h) (Or.inl ⟨by rfl, fun w' hSw => by clear hSw; go_simp⟩) HS.out ?_
     simp only [List.getElem_toArray, List.getElem_cons_zero, List.getElem_cons_succ, Act.put, List.setIfInBounds_toArray, List.set_cons_zero, List.set_cons_succ]
     refine wpAnyH_take (i := 2) (v := .agg #[.int .i64 x.k.1, .int .i64 x.k.2]) rfl (by kernel_rfl) (by kernel_rfl) (by kernel_rfl) (fun _ _ _ h => h) (Or.inl ⟨by rfl, fun w' hSw => by obtain ⟨S9, X9⟩ := hSw; obtain ⟨c0, c1, c2, c3⟩ := aj_c X9.A; clear X9; go_simp⟩) HS.out ?_
     simp only [List.getElem_toArray, List.getElem_cons_zero, List.getElem_cons_succ, Act.put, List.setIfInBounds_toArray, List.set_cons_zero, List.set_cons_succ]
     refine wpAnyH_take (i := 4) (v := .slice ya 0 ca) rfl (by kernel_rfl) (by kernel_rfl) (by kernel_rfl) (fun _ _ _ h => h) (Or.inl ⟨by rfl, fun w' hSw => by clear hSw; go_simp⟩) HS.out ?_
     simp only [List.getElem_toArray, List.getElem_cons_zero, List.getElem_cons_succ, Act.put, List.setIfInBounds_toArray, List.set_cons_zero, List.set_cons_succ]
     refine wpAnyH_ready (rs := [3]) (by kernel_rfl) (by simp) ?_
     refine AllReadyH.cons rfl (fun K hK => ?_) AllReadyH.nil
     go_simp
     obtain ⟨S9, X9⟩ := HS.out
     go_wp2_with (go_at_call 34; refine (HC.out.K.all _ p S9 n L x.k (HIN.out _ _ X9.P) HX.out.k).mono ?_; rintro e U1 ⟨v2, rfl, hv⟩; obtain ⟨S8, X8, _, _⟩ := X9.left hv.left; have HR := Lib.hid (show RdI U1 v2 (chAll L x.k) from by obtain ⟨_, _, _, _, h, _⟩ := hv; exact h); have HS := Lib.hid (show ∃ S1, AlJ R w U1 p S S1 n L B (.slice (some ⟨gv, 0, none⟩) N cv) w.heap.size x (.slice ya 0 ca) from ⟨S8, X8⟩); clear X9 X8 hv)
     refine hK.out _ _ HS.out (fun _ => ?_)
     clear hK K
     refine wpAnyH_ready (rs := [5]) (by kernel_rfl) (by simp) ?_
     refine AllReadyH.cons rfl (fun K hK => ?_) AllReadyH.nil
     go_simp
     obtain ⟨S9, X9⟩ := HS.out
     go_wp2_with (go_at_call 15; refine (jSame HR.out X9.U).mono ?_; rintro e U1 ⟨rfl, hb⟩; have HS := Lib.hid (show ∃ S1, AlJ R w U1 p S S1 n L B (.slice (some ⟨gv, 0, none⟩) N cv) w.heap.size x (.slice ya 0 ca) from ⟨S9, X9.below hb⟩); clear X9 hb)
     refine hK.out _ _ HS.out (fun _ => ?_)
     clear hK K
     refine wpAnyH_take (i := 6) (v := .bool true) rfl (by kernel_rfl) (by kernel_rfl) (by kernel_rfl) (fun _ _ _ h => h) (Or.inl ⟨by rfl, fun w' hSw => by clear hSw; go_simp⟩) HS.out ?_
     simp only [List.getElem_toArray, List.getElem_cons_zero, List.getElem_cons_succ, Act.put, List.setIfInBounds_toArray, List.set_cons_zero, List.set_cons_succ]
     refine wpAnyH_take (i := 7) (v := .pointer (some ⟨p, 0, none⟩)) rfl (by kernel_rfl) (by kernel_rfl) (by kernel_rfl) (fun _ _ _ h => h) (Or.inl ⟨by rfl, fun w' hSw => by clear hSw; go_simp⟩) HS.out ?_
     simp only [List.getElem_toArray, List.getElem_cons_zero, List.getElem_cons_succ, Act.put, List.setIfInBounds_toArray, List.set_cons_zero, List.set_cons_succ]
     refine wpAnyH_take (i := 8) (v := .pointer (some ⟨w.heap.size, 2, none⟩)) rfl (by kernel_rfl) (by kernel_rfl) (by kernel_rfl) (fun _ _ _ h => h) (Or.inl ⟨by rfl, fun w' hSw => by clear hSw; go_simp⟩) HS.out ?_
     simp only [List.getElem_toArray, List.getElem_cons_zero, List.getElem_cons_succ, Act.put, List.setIfInBounds_toArray, List.set_cons_zero, List.set_cons_succ]
     refine wpAnyH_take (i := 9) (v := .agg #[.int .i64 x.k.1, .int .i64 x.k.2]) rfl (by kernel_rfl) (by kernel_rfl) (by kernel_rfl) (fun _ _ _ h => h) (Or.inl ⟨by rfl, fun w' hSw => by obtain ⟨S9, X9⟩ := hSw; obtain ⟨c0, c1, c2, c3⟩ := aj_c X9.A; clear X9; go_simp⟩) HS.out ?_
     simp only [List.getElem_toArray, List.getElem_cons_zero, List.getElem_cons_succ, Act.put, List.setIfInBounds_toArray, List.set_cons_zero, List.set_cons_succ]
     refine wpAnyH_take (i := 11) (v := .slice ya 0 ca) rfl (by kernel_rfl) (by kernel_rfl) (by kernel_rfl) (fun _ _ _ h => h) (Or.inl ⟨by rfl, fun w' hSw => by clear hSw; go_simp⟩) HS.out ?_
     simp only [List.getElem_toArray, List.getElem_cons_zero, List.getElem_cons_succ, Act.put, List.setIfInBounds_toArray, List.set_cons_zero, List.set_cons_succ]
     refine wpAnyH_take (i := 12) (v := .int .i64 0) rfl (by kernel_rfl) (by kernel_rfl) (by kernel_rfl) (fun _ _ _ h => h) (Or.inl ⟨by rfl, fun w' hSw => by clear hSw; go_simp⟩) HS.out ?_
     simp only [List.getElem_toArray, List.getElem_cons_zero, List.getElem_cons_succ, Act.put, List.setIfInBounds_toArray, List.set_cons_zero, List.set_cons_succ]
     refine wpAnyH_ready (rs := [10]) (by kernel_rfl) (by simp) ?_
     refine AllReadyH.cons rfl (fun K hK => ?_) AllReadyH.nil
     go_simp
     obtain ⟨S9, X9⟩ := HS.out
     go_wp2_with (go_at_call 22; refine (HC.out.len _ p S9 n L x.k (HIN.out _ _ X9.P) HX.out.k).mono ?_; rintro e U1 ⟨he, hv⟩; rw [HLen.out] at he; subst he; obtain ⟨S8, X8, _, _⟩ := X9.left hv; have HS := Lib.hid (show ∃ S1, AlJ R w U1 p S S1 n L B (.slice (some ⟨gv, 0, none⟩) N cv) w.heap.size x (.slice ya 0 ca) from ⟨S8, X8⟩); clear X9 X8 hv)
     refine hK.out _ _ HS.out (fun _ => ?_)
     clear hK K
     refine wpAnyH_take (i := 13) (v := .bool true) rfl (by kernel_rfl) (by kernel_rfl) (by kernel_rfl) (fun _ _ _ h => h) (Or.inl ⟨by rfl, fun w' hSw => by clear hSw; go_simp⟩) HS.out ?_
     simp only [List.getElem_toArray, List.getElem_cons_zero, List.getElem_cons_succ, Act.put, List.setIfInBounds_toArray, List.set_cons_zero, List.set_cons_succ]
     refine wpAnyH_take (i := 14) (v := .bool true) rfl (by kernel_rfl) (by kernel_rfl) (by kernel_rfl) (fun _ _ _ h => h) (Or.inl ⟨by rfl, fun w' hSw => by clear hSw; go_simp⟩) HS.out ?_
     simp only [List.getElem_toArray, List.getElem_cons_zero, List.getElem_cons_succ, Act.put, List.setIfInBounds_toArray, List.set_cons_zero, List.set_cons_succ]
     refine wpAnyH_take (i := 15) (v := .bool true) rfl (by kernel_rfl) (by kernel_rfl) (by kernel_rfl) (fun _ _ _ h => h) (Or.inl ⟨by rfl, fun w' hSw => by clear hSw; go_simp⟩) HS.out ?_
     simp only [List.getElem_toArray, List.getElem_cons_zero, List.getElem_cons_succ, Act.put, List.setIfInBounds_toArray, List.set_cons_zero, List.set_cons_succ]
     refine wpAnyH_take (i := 16) (v := .pointer (some ⟨p, 0, none⟩)) rfl (by kernel_rfl) (by kernel_rfl) (by kernel_rfl) (fun _ _ _ h => h) (Or.inl ⟨by rfl, fun w' hSw => by clear hSw; go_simp⟩) HS.out ?_
     simp only [List.getElem_toArray, List.getElem_cons_zero, List.getElem_cons_succ, Act.put, List.setIfInBounds_toArray, List.set_cons_zero, List.set_cons_succ]
     refine wpAnyH_take (i := 17) (v := .pointer (some ⟨w.heap.size, 2, none⟩)) rfl (by kernel_rfl) (by kernel_rfl) (by kernel_rfl) (fun _ _ _ h => h) (Or.inl ⟨by rfl, fun w' hSw => by clear hSw; go_simp⟩) HS.out ?_
     simp only [List.getElem_toArray, List.getElem_cons_zero, List.getElem_cons_succ, Act.put, List.setIfInBounds_toArray, List.set_cons_zero, List.set_cons_succ]
     refine wpAnyH_take (i := 18) (v := .agg #[.int .i64 x.k.1, .int .i64 x.k.2]) rfl (by kernel_rfl) (by kernel_rfl) (by kernel_rfl) (fun _ _ _ h => h) (Or.inl ⟨by rfl, fun w' hSw => by obtain ⟨S9, X9⟩ := hSw; obtain ⟨c0, c1, c2, c3⟩ := aj_c X9.A; clear X9; go_simp⟩) HS.out ?_
     simp only [List.getElem_toArray, List.getElem_cons_zero, List.getElem_cons_succ, Act.put, List.setIfInBounds_toArray, List.set_cons_zero, List.set_cons_succ]
     refine wpAnyH_take (i := 20) (v := .int .i64 (-1)) rfl (by kernel_rfl) (by kernel_rfl) (by kernel_rfl) (fun _ _ _ h => h) (Or.inl ⟨by rfl, fun w' hSw => by clear hSw; go_simp⟩) HS.out ?_
     simp only [List.getElem_toArray, List.getElem_cons_zero, List.getElem_cons_succ, Act.put, List.setIfInBounds_toArray, List.set_cons_zero, List.set_cons_succ]
     refine wpAnyH_ready (rs := [19]) (by kernel_rfl) (by simp) ?_
     refine AllReadyH.cons rfl (fun K hK => ?_) AllReadyH.nil
     go_simp
     obtain ⟨S9, X9⟩ := HS.out
     go_wp2_with (go_at_call 19; refine (HC.out.first _ p S9 n L x.k (HIN.out _ _ X9.P) HX.out.k).mono ?_; rintro e U1 ⟨he, hv⟩; rw [HF1.out] at he; subst he; obtain ⟨S8, X8, _, _⟩ := X9.left hv; have HS := Lib.hid (show ∃ S1, AlJ R w U1 p S S1 n L B (.slice (some ⟨gv, 0, none⟩) N cv) w.heap.size x (.slice ya 0 ca) from ⟨S8, X8⟩); clear X9 X8 hv)
     refine hK.out _ _ HS.out (fun _ => ?_)
     clear hK K
     refine wpAnyH_take (i := 21) (v := .bool true) rfl (by kernel_rfl) (by kernel_rfl) (by kernel_rfl) (fun _ _ _ h => h) (Or.inl ⟨by rfl, fun w' hSw => by clear hSw; go_simp⟩) HS.out ?_
     simp only [List.getElem_toArray, List.getElem_cons_zero, List.getElem_cons_succ, Act.put, List.setIfInBounds_toArray, List.set_cons_zero, List.set_cons_succ]
     refine wpAnyH_take (i := 22) (v := .bool true) rfl (by kernel_rfl) (by kernel_rfl) (by kernel_rfl) (fun _ _ _ h => h) (Or.inl ⟨by rfl, fun w' hSw => by clear hSw; go_simp⟩) HS.out ?_
     simp only [List.getElem_toArray, List.getElem_cons_zero, List.getElem_cons_succ, Act.put, List.setIfInBounds_toArray, List.set_cons_zero, List.set_cons_succ]
     refine wpAnyH_take (i := 23) (v := .bool true) rfl (by kernel_rfl) (by kernel_rfl) (by kernel_rfl) (fun _ _ _ h => h) (Or.inl ⟨by rfl, fun w' hSw => by clear hSw; go_simp⟩) HS.out ?_
     simp only [List.getElem_toArray, List.getElem_cons_zero, List.getElem_cons_succ, Act.put, List.setIfInBounds_toArray, List.set_cons_zero, List.set_cons_succ]
     refine wpAnyH_take (i := 24) (v := .pointer (some ⟨p, 0, none⟩)) rfl (by kernel_rfl) (by kernel_rfl) (by kernel_rfl) (fun _ _ _ h => h) (Or.inl ⟨by rfl, fun w' hSw => by clear hSw; go_simp⟩) HS.out ?_
     simp only [List.getElem_toArray, List.getElem_cons_zero, List.getElem_cons_succ, Act.put, List.setIfInBounds_toArray, List.set_cons_zero, List.set_cons_succ]
     refine wpAnyH_take (i := 25) (v := .pointer (some ⟨w.heap.size, 1, none⟩)) rfl (by kernel_rfl) (by kernel_rfl) (by kernel_rfl) (fun _ _ _ h => h) (Or.inl ⟨by rfl, fun w' hSw => by clear hSw; go_simp⟩) HS.out ?_
     simp only [List.getElem_toArray, List.getElem_cons_zero, List.getElem_cons_succ, Act.put, List.setIfInBounds_toArray, List.set_cons_zero, List.set_cons_succ]
     refine wpAnyH_take (i := 26) (v := .int .i64 x.I) rfl (by kernel_rfl) (by kernel_rfl) (by kernel_rfl) (fun _ _ _ h => h) (Or.inl ⟨by rfl, fun w' hSw => by obtain ⟨S9, X9⟩ := hSw; obtain ⟨c0, c1, c2, c3⟩ := aj_c X9.A; clear X9; go_simp⟩) HS.out ?_
     simp only [List.getElem_toArray, List.getElem_cons_zero, List.getElem_cons_succ, Act.put, List.setIfInBounds_toArray, List.set_cons_zero, List.set_cons_succ]
     refine wpAnyH_take (i := 28) (v := .slice (some ⟨gv, 0, none⟩) N cv) rfl (by kernel_rfl) (by kernel_rfl) (by kernel_rfl) (fun _ _ _ h => h) (Or.inl ⟨by rfl, fun w' hSw => by clear hSw; go_simp⟩) HS.out ?_
     simp only [List.getElem_toArray, List.getElem_cons_zero, List.getElem_cons_succ, Act.put, List.setIfInBounds_toArray, List.set_cons_zero, List.set_cons_succ]
     refine wpAnyH_take (i := 29) (v := .pointer (some ⟨w.heap.size, 1, none⟩)) rfl (by kernel_rfl) (by kernel_rfl) (by kernel_rfl) (fun _ _ _ h => h) (Or.inl ⟨by rfl, fun w' hSw => by clear hSw; go_simp⟩) HS.out ?_
     simp only [List.getElem_toArray, List.getElem_cons_zero, List.getElem_cons_succ, Act.put, List.setIfInBounds_toArray, List.set_cons_zero, List.set_cons_succ]
     refine wpAnyH_take (i := 30) (v := .int .i64 x.I) rfl (by kernel_rfl) (by kernel_rfl) (by kernel_rfl) (fun _ _ _ h => h) (Or.inl ⟨by rfl, fun w' hSw => by obtain ⟨S9, X9⟩ := hSw; obtain ⟨c0, c1, c2, c3⟩ := aj_c X9.A; clear X9; go_simp⟩) HS.out ?_
     simp only [List.getElem_toArray, List.getElem_cons_zero, List.getElem_cons_succ, Act.put, List.setIfInBounds_toArray, List.set_cons_zero, List.set_cons_succ]
     refine wpAnyH_ready (rs := [27]) (by kernel_rfl) (by simp) ?_
     refine AllReadyH.cons rfl (fun K hK => ?_) AllReadyH.nil
     go_simp
     obtain ⟨S9, X9⟩ := HS.out
     go_wp2_with (go_at_call 20; refine (HC.out.next _ p S9 n L x.I (HIN.out _ _ X9.P) HX.out.I).mono ?_; rintro e U1 ⟨rfl, hv⟩; obtain ⟨S8, X8, _, _⟩ := X9.left hv; have HS := Lib.hid (show ∃ S1, AlJ R w U1 p S S1 n L B (.slice (some ⟨gv, 0, none⟩) N cv) w.heap.size x (.slice ya 0 ca) from ⟨S8, X8⟩); clear X9 X8 hv)
     refine hK.out _ _ HS.out (fun _ => ?_)
     clear hK K
     refine wpAnyH_ready (rs := [31]) (by kernel_rfl) (by simp) ?_
     refine AllReadyH.cons rfl (fun K hK => ?_) AllReadyH.nil
     go_simp
     obtain ⟨S9, X9⟩ := HS.out
     go_wp2_with (go_at_call 46; refine (jNext X9.M (by rw [HNl.out]; exact hl) x.I).mono ?_; rintro e U1 ⟨rfl, hb⟩; have HS := Lib.hid (show ∃ S1, AlJ R w U1 p S S1 n L B (.slice (some ⟨gv, 0, none⟩) N cv) w.heap.size x (.slice ya 0 ca) from ⟨S9, X9.below hb⟩); clear X9 hb)
     refine hK.out _ _ HS.out (fun _ => ?_)
     clear hK K
     refine wpAnyH_take (i := 32) (v := .bool true) rfl (by kernel_rfl) (by kernel_rfl) (by kernel_rfl) (fun _ _ _ h => h) (Or.inl ⟨by rfl, fun w' hSw => by clear hSw; go_simp⟩) HS.out ?_
     simp only [List.getElem_toArray, List.getElem_cons_zero, List.getElem_cons_succ, Act.put, List.setIfInBounds_toArray, List.set_cons_zero, List.set_cons_succ]
     refine wpAnyH_take (i := 33) (v := .bool true) rfl (by kernel_rfl) (by kernel_rfl) (by kernel_rfl) (fun _ _ _ h => h) (Or.inl ⟨by rfl, fun w' hSw => by clear hSw; go_simp⟩) HS.out ?_
     simp only [List.getElem_toArray, List.getElem_cons_zero, List.getElem_cons_succ, Act.put, List.setIfInBounds_toArray, List.set_cons_zero, List.set_cons_succ]
     refine wpAnyH_take (i := 34) (v := .bool true) rfl (by kernel_rfl) (by kernel_rfl) (by kernel_rfl) (fun _ _ _ h => h) (Or.inl ⟨by rfl, fun w' hSw => by clear hSw; go_simp⟩) HS.out ?_
     simp only [List.getElem_toArray, List.getElem_cons_zero, List.getElem_cons_succ, Act.put, List.setIfInBounds_toArray, List.set_cons_zero, List.set_cons_succ]
     refine wpAnyH_take (i := 35) (v := .pointer (some ⟨p, 0, none⟩)) rfl (by kernel_rfl) (by kernel_rfl) (by kernel_rfl) (fun _ _ _ h => h) (Or.inl ⟨by rfl, fun w' hSw => by clear hSw; go_simp⟩) HS.out ?_
     simp only [List.getElem_toArray, List.getElem_cons_zero, List.getElem_cons_succ, Act.put, List.setIfInBounds_toArray, List.set_cons_zero, List.set_cons_succ]
     refine wpAnyH_take (i := 37) (v := .slice (some ⟨gv, 0, none⟩) N cv) rfl (by kernel_rfl) (by kernel_rfl) (by kernel_rfl) (fun _ _ _ h => h) (Or.inl ⟨by rfl, fun w' hSw => by clear hSw; go_simp⟩) HS.out ?_
     simp only [List.getElem_toArray, List.getElem_cons_zero, List.getElem_cons_succ, Act.put, List.setIfInBounds_toArray, List.set_cons_zero, List.set_cons_succ]
     refine wpAnyH_take (i := 38) (v := .int .i64 (N : Int)) rfl (by kernel_rfl) (by kernel_rfl) (by kernel_rfl) (fun _ _ _ h => h) (Or.inl ⟨by rfl, fun w' hSw => by clear hSw; go_simp⟩) HS.out ?_
     simp only [List.getElem_toArray, List.getElem_cons_zero, List.getElem_cons_succ, Act.put, List.setIfInBounds_toArray, List.set_cons_zero, List.set_cons_succ]
     refine wpAnyH_ready (rs := [36]) (by kernel_rfl) (by simp) ?_
     refine AllReadyH.cons rfl (fun K hK => ?_) AllReadyH.nil
     go_simp
     obtain ⟨S9, X9⟩ := HS.out
     go_wp2_with (go_at_call 23; refine (HC.out.total _ p S9 n L (HIN.out _ _ X9.P)).mono ?_; rintro e U1 ⟨he, hv⟩; rw [HNl.out] at he; subst he; obtain ⟨S8, X8, _, _⟩ := X9.left hv; have HS := Lib.hid (show ∃ S1, AlJ R w U1 p S S1 n L B (.slice (some ⟨gv, 0, none⟩) N cv) w.heap.size x (.slice ya 0 ca) from ⟨S8, X8⟩); clear X9 X8 hv)
     refine hK.out _ _ HS.out (fun _ => ?_)
     clear hK K
     refine wpAnyH_take (i := 39) (v := .bool true) rfl (by kernel_rfl) (by kernel_rfl) (by kernel_rfl) (fun _ _ _ h => h) (Or.inl ⟨by rfl, fun w' hSw => by clear hSw; go_simp⟩) HS.out ?_
     simp only [List.getElem_toArray, List.getElem_cons_zero, List.getElem_cons_succ, Act.put, List.setIfInBounds_toArray, List.set_cons_zero, List.set_cons_succ]
     refine wpAnyH_take (i := 40) (v := .bool true) rfl (by kernel_rfl) (by kernel_rfl) (by kernel_rfl) (fun _ _ _ h => h) (Or.inl ⟨by rfl, fun w' hSw => by clear hSw; go_simp⟩) HS.out ?_
     simp only [List.getElem_toArray, List.getElem_cons_zero, List.getElem_cons_succ, Act.put, List.setIfInBounds_toArray, List.set_cons_zero, List.set_cons_succ]
     refine wpAnyH_take (i := 41) (v := .bool true) rfl (by kernel_rfl) (by kernel_rfl) (by kernel_rfl) (fun _ _ _ h => h) (Or.inl ⟨by rfl, fun w' hSw => by clear hSw; go_simp⟩) HS.out ?_
     simp only [List.getElem_toArray, List.getElem_cons_zero, List.getElem_cons_succ, Act.put, List.setIfInBounds_toArray, List.set_cons_zero, List.set_cons_succ]
     refine wpAnyH_done (by kernel_rfl) ?_ _
     go_wp2_with fail
     go_ret
     obtain ⟨S9, X9⟩ := HS.out
     exact ⟨rfl, X9.vleft⟩
   · subst hyg
     have HF1 := Lib.hid hF1
     clear hF1
     go_wp2_with fail
     refine HF.out.mono ?_
     rintro e w2 ⟨rfl, rfl⟩
     clear HF
     have hp0 : decide (0 ≤ (p0 : Int)) = true := decide_eq_true (by omega)
     go_wp2_with fail
     refine (HKey.out w1 S HJ.out.P).mono ?_
     rintro e w3 ⟨he, hv⟩
     change e = Ending.returned (.tuple #[.agg #[.int .i64 z0.1.1, .int .i64 z0.1.2], .bool true]) at he
     subst he
     obtain ⟨S2, J2, _, ho2⟩ := HJ.out.left hv
     have hbb := trA (tr0 w3) (oKp z0.1)
     have HJ2 := Lib.hid (J2.below hbb)
     have HQ := Lib.hid (show KeyAt (w3.alloc (oKp z0.1)) w3.heap.size z0.1 from blk_new w3 _)
     clear J2 ho2 hv hbb HJ HKey a1 a2 a3
     go_upto_region 7 with (fail)
     rw [show Obj.cells #[Value.int .i64 z0.1.1, .int .i64 z0.1.2] 27 (0, 0) = oKp z0.1 from rfl]
     generalize w3.alloc (oKp z0.1) = W2 at *
     generalize w3.heap.size = bk at *
     obtain ⟨hbk, q0, q1⟩ := HQ.out.c
     have hgc := gcell
     obtain ⟨hn9, m1, m2, gv, hyv, hgv, c0, c1, c2⟩ := HJ2.out.M.cellk HZ.out
     subst hyv
     clear hn9
     have hpN : p0 < N := by have := (List.getElem?_eq_some_iff.1 HZ.out).1; have := HNl.out; omega
     refine wp_region_quiet_below (by kernel_rfl) (by kernel_rfl) ?_
     repeat (first
      | go_big_quiet_skip
      | (go_big_quiet_want; first
          | (refine qneKp (.tmp 40) (.tmp 45) _ rfl (k := z0.1) (j := z0.1) rfl rfl ?_; go_simp; go_big_quiet_on)
          | (go_big_quiet_op; go_big_quiet_on))
      | (refine wpQuiet_nil ?_))
     intro _ hw'
     obtain ⟨⟨dq, osq⟩, hw''⟩ := hw'
     subst hw''
     have HS := Lib.hid (show ∃ S1, AlJ R w (grow (redrawn W2 dq) osq) p S S1 n L B (.slice (some ⟨gv, 0, none⟩) N cv) w.heap.size x (.slice (some ⟨g, off, none⟩) len ca) from ⟨S2, HJ2.out.below (below_regrown W2 dq osq)⟩)
     clear hgc HJ2 HQ hbk q0 q1 hgv c0 c1 c2 m1 m2
     dsimp only at HS ⊢
     generalize grow (redrawn W2 dq) osq = W3 at *
     go_upto_region 9 with (fail)
     refine wp_region_held_drew (S := fun w' => ∃ S1, AlJ R w w' p S S1 n L B (.slice (some ⟨gv, 0, none⟩) N cv) w.heap.size x (.slice (some ⟨g, off, none⟩) len ca)) (by kernel_rfl) (by obtain ⟨S1, X⟩ := HS.out; exact ⟨S1, X.below (trD (tr0 W3))⟩) (fun h => ?_)
     have HS := Lib.hid h
     clear h
     generalize W3.drew = U0 at *
     refine wpAnyH_take (i := 0) (v := .pointer (some ⟨p, 0, none⟩)) rfl (by kernel_rfl) (by kernel_rfl) (by kernel_rfl) (fun _ _ _ h => h) (Or.inl ⟨by rfl, fun w' hSw => by clear hSw; go_simp⟩) HS.out ?_
     simp only [List.getElem_toArray, List.getElem_cons_zero, List.getElem_cons_succ, Act.put, List.setIfInBounds_toArray, List.set_cons_zero, List.set_cons_succ]
     refine wpAnyH_take (i := 1) (v := .pointer (some ⟨w.heap.size, 2, none⟩)) rfl (by kernel_rfl) (by kernel_rfl) (by kernel_rfl) (fun _ _ _ h => h) (Or.inl ⟨by rfl, fun w' hSw => by clear hSw; go_simp⟩) HS.out ?_
     simp only [List.getElem_toArray, List.getElem_cons_zero, List.getElem_cons_succ, Act.put, List.setIfInBounds_toArray, List.set_cons_zero, List.set_cons_succ]
     refine wpAnyH_take (i := 2) (v := .agg #[.int .i64 x.k.1, .int .i64 x.k.2]) rfl (by kernel_rfl) (by kernel_rfl) (by kernel_rfl) (fun _ _ _ h => h) (Or.inl ⟨by rfl, fun w' hSw => by obtain ⟨S9, X9⟩ := hSw; obtain ⟨c0, c1, c2, c3⟩ := aj_c X9.A; clear X9; go_simp⟩) HS.out ?_
     simp only [List.getElem_toArray, List.getElem_cons_zero, List.getElem_cons_succ, Act.put, List.setIfInBounds_toArray, List.set_cons_zero, List.set_cons_succ]
     refine wpAnyH_take (i := 4) (v := .slice (some ⟨g, off, none⟩) len ca) rfl (by kernel_rfl) (by kernel_rfl) (by kernel_rfl) (fun _ _ _ h => h) (Or.inl ⟨by rfl, fun w' hSw => by clear hSw; go_simp⟩) HS.out ?_
     simp only [List.getElem_toArray, List.getElem_cons_zero, List.getElem_cons_succ, Act.put, List.setIfInBounds_toArray, List.set_cons_zero, List.set_cons_succ]
     refine wpAnyH_ready (rs := [3]) (by kernel_rfl) (by simp) ?_
     refine AllReadyH.cons rfl (fun K hK => ?_) AllReadyH.nil
     go_simp
     obtain ⟨S9, X9⟩ := HS.out
     go_wp2_with (go_at_call 34; refine (HC.out.K.all _ p S9 n L x.k (HIN.out _ _ X9.P) HX.out.k).mono ?_; rintro e U1 ⟨v2, rfl, hv⟩; obtain ⟨S8, X8, _, _⟩ := X9.left hv.left; have HR := Lib.hid (show RdI U1 v2 (chAll L x.k) from by obtain ⟨_, _, _, _, h, _⟩ := hv; exact h); have HS := Lib.hid (show ∃ S1, AlJ R w U1 p S S1 n L B (.slice (some ⟨gv, 0, none⟩) N cv) w.heap.size x (.slice (some ⟨g, off, none⟩) len ca) from ⟨S8, X8⟩); clear X9 X8 hv)
     refine hK.out _ _ HS.out (fun _ => ?_)
     clear hK K
     refine wpAnyH_ready (rs := [5]) (by kernel_rfl) (by simp) ?_
     refine AllReadyH.cons rfl (fun K hK => ?_) AllReadyH.nil
     go_simp
     obtain ⟨S9, X9⟩ := HS.out
     go_wp2_with (go_at_call 15; refine (jSame HR.out X9.U).mono ?_; rintro e U1 ⟨rfl, hb⟩; have HS := Lib.hid (show ∃ S1, AlJ R w U1 p S S1 n L B (.slice (some ⟨gv, 0, none⟩) N cv) w.heap.size x (.slice (some ⟨g, off, none⟩) len ca) from ⟨S9, X9.below hb⟩); clear X9 hb)
     refine hK.out _ _ HS.out (fun _ => ?_)
     clear hK K
     refine wpAnyH_take (i := 6) (v := .bool true) rfl (by kernel_rfl) (by kernel_rfl) (by kernel_rfl) (fun _ _ _ h => h) (Or.inl ⟨by rfl, fun w' hSw => by clear hSw; go_simp⟩) HS.out ?_
     simp only [List.getElem_toArray, List.getElem_cons_zero, List.getElem_cons_succ, Act.put, List.setIfInBounds_toArray, List.set_cons_zero, List.set_cons_succ]
     refine wpAnyH_take (i := 7) (v := .pointer (some ⟨p, 0, none⟩)) rfl (by kernel_rfl) (by kernel_rfl) (by kernel_rfl) (fun _ _ _ h => h) (Or.inl ⟨by rfl, fun w' hSw => by clear hSw; go_simp⟩) HS.out ?_
     simp only [List.getElem_toArray, List.getElem_cons_zero, List.getElem_cons_succ, Act.put, List.setIfInBounds_toArray, List.set_cons_zero, List.set_cons_succ]
     refine wpAnyH_take (i := 8) (v := .pointer (some ⟨w.heap.size, 2, none⟩)) rfl (by kernel_rfl) (by kernel_rfl) (by kernel_rfl) (fun _ _ _ h => h) (Or.inl ⟨by rfl, fun w' hSw => by clear hSw; go_simp⟩) HS.out ?_
     simp only [List.getElem_toArray, List.getElem_cons_zero, List.getElem_cons_succ, Act.put, List.setIfInBounds_toArray, List.set_cons_zero, List.set_cons_succ]
     refine wpAnyH_take (i := 9) (v := .agg #[.int .i64 x.k.1, .int .i64 x.k.2]) rfl (by kernel_rfl) (by kernel_rfl) (by kernel_rfl) (fun _ _ _ h => h) (Or.inl ⟨by rfl, fun w' hSw => by obtain ⟨S9, X9⟩ := hSw; obtain ⟨c0, c1, c2, c3⟩ := aj_c X9.A; clear X9; go_simp⟩) HS.out ?_
     simp only [List.getElem_toArray, List.getElem_cons_zero, List.getElem_cons_succ, Act.put, List.setIfInBounds_toArray, List.set_cons_zero, List.set_cons_succ]
     refine wpAnyH_take (i := 11) (v := .slice (some ⟨g, off, none⟩) len ca) rfl (by kernel_rfl) (by kernel_rfl) (by kernel_rfl) (fun _ _ _ h => h) (Or.inl ⟨by rfl, fun w' hSw => by clear hSw; go_simp⟩) HS.out ?_
     simp only [List.getElem_toArray, List.getElem_cons_zero, List.getElem_cons_succ, Act.put, List.setIfInBounds_toArray, List.set_cons_zero, List.set_cons_succ]
     refine wpAnyH_take (i := 12) (v := .int .i64 (len : Int)) rfl (by kernel_rfl) (by kernel_rfl) (by kernel_rfl) (fun _ _ _ h => h) (Or.inl ⟨by rfl, fun w' hSw => by clear hSw; go_simp⟩) HS.out ?_
     simp only [List.getElem_toArray, List.getElem_cons_zero, List.getElem_cons_succ, Act.put, List.setIfInBounds_toArray, List.set_cons_zero, List.set_cons_succ]
     refine wpAnyH_ready (rs := [10]) (by kernel_rfl) (by simp) ?_
     refine AllReadyH.cons rfl (fun K hK => ?_) AllReadyH.nil
     go_simp
     obtain ⟨S9, X9⟩ := HS.out
     go_wp2_with (go_at_call 22; refine (HC.out.len _ p S9 n L x.k (HIN.out _ _ X9.P) HX.out.k).mono ?_; rintro e U1 ⟨he, hv⟩; rw [HLen.out] at he; subst he; obtain ⟨S8, X8, _, _⟩ := X9.left hv; have HS := Lib.hid (show ∃ S1, AlJ R w U1 p S S1 n L B (.slice (some ⟨gv, 0, none⟩) N cv) w.heap.size x (.slice (some ⟨g, off, none⟩) len ca) from ⟨S8, X8⟩); clear X9 X8 hv)
     refine hK.out _ _ HS.out (fun _ => ?_)
     clear hK K
     refine wpAnyH_take (i := 13) (v := .bool true) rfl (by kernel_rfl) (by kernel_rfl) (by kernel_rfl) (fun _ _ _ h => h) (Or.inl ⟨by rfl, fun w' hSw => by clear hSw; go_simp⟩) HS.out ?_
     simp only [List.getElem_toArray, List.getElem_cons_zero, List.getElem_cons_succ, Act.put, List.setIfInBounds_toArray, List.set_cons_zero, List.set_cons_succ]
     refine wpAnyH_take (i := 14) (v := .bool true) rfl (by kernel_rfl) (by kernel_rfl) (by kernel_rfl) (fun _ _ _ h => h) (Or.inl ⟨by rfl, fun w' hSw => by clear hSw; go_simp⟩) HS.out ?_
     simp only [List.getElem_toArray, List.getElem_cons_zero, List.getElem_cons_succ, Act.put, List.setIfInBounds_toArray, List.set_cons_zero, List.set_cons_succ]
     refine wpAnyH_take (i := 15) (v := .bool true) rfl (by kernel_rfl) (by kernel_rfl) (by kernel_rfl) (fun _ _ _ h => h) (Or.inl ⟨by rfl, fun w' hSw => by clear hSw; go_simp⟩) HS.out ?_
     simp only [List.getElem_toArray, List.getElem_cons_zero, List.getElem_cons_succ, Act.put, List.setIfInBounds_toArray, List.set_cons_zero, List.set_cons_succ]
     refine wpAnyH_take (i := 16) (v := .pointer (some ⟨p, 0, none⟩)) rfl (by kernel_rfl) (by kernel_rfl) (by kernel_rfl) (fun _ _ _ h => h) (Or.inl ⟨by rfl, fun w' hSw => by clear hSw; go_simp⟩) HS.out ?_
     simp only [List.getElem_toArray, List.getElem_cons_zero, List.getElem_cons_succ, Act.put, List.setIfInBounds_toArray, List.set_cons_zero, List.set_cons_succ]
     refine wpAnyH_take (i := 17) (v := .pointer (some ⟨w.heap.size, 2, none⟩)) rfl (by kernel_rfl) (by kernel_rfl) (by kernel_rfl) (fun _ _ _ h => h) (Or.inl ⟨by rfl, fun w' hSw => by clear hSw; go_simp⟩) HS.out ?_
     simp only [List.getElem_toArray, List.getElem_cons_zero, List.getElem_cons_succ, Act.put, List.setIfInBounds_toArray, List.set_cons_zero, List.set_cons_succ]
     refine wpAnyH_take (i := 18) (v := .agg #[.int .i64 x.k.1, .int .i64 x.k.2]) rfl (by kernel_rfl) (by kernel_rfl) (by kernel_rfl) (fun _ _ _ h => h) (Or.inl ⟨by rfl, fun w' hSw => by obtain ⟨S9, X9⟩ := hSw; obtain ⟨c0, c1, c2, c3⟩ := aj_c X9.A; clear X9; go_simp⟩) HS.out ?_
     simp only [List.getElem_toArray, List.getElem_cons_zero, List.getElem_cons_succ, Act.put, List.setIfInBounds_toArray, List.set_cons_zero, List.set_cons_succ]
     refine wpAnyH_take (i := 20) (v := .int .i64 z) rfl (by kernel_rfl) (by kernel_rfl) (by kernel_rfl) (fun _ _ _ h => h) (Or.inl ⟨by rfl, fun w' hSw => by clear hSw; go_simp⟩) HS.out ?_
     simp only [List.getElem_toArray, List.getElem_cons_zero, List.getElem_cons_succ, Act.put, List.setIfInBounds_toArray, List.set_cons_zero, List.set_cons_succ]
     refine wpAnyH_ready (rs := [19]) (by kernel_rfl) (by simp) ?_
     refine AllReadyH.cons rfl (fun K hK => ?_) AllReadyH.nil
     go_simp
     obtain ⟨S9, X9⟩ := HS.out
     go_wp2_with (go_at_call 19; refine (HC.out.first _ p S9 n L x.k (HIN.out _ _ X9.P) HX.out.k).mono ?_; rintro e U1 ⟨he, hv⟩; rw [HF1.out] at he; subst he; obtain ⟨S8, X8, _, _⟩ := X9.left hv; have HS := Lib.hid (show ∃ S1, AlJ R w U1 p S S1 n L B (.slice (some ⟨gv, 0, none⟩) N cv) w.heap.size x (.slice (some ⟨g, off, none⟩) len ca) from ⟨S8, X8⟩); clear X9 X8 hv)
     refine hK.out _ _ HS.out (fun _ => ?_)
     clear hK K
     refine wpAnyH_take (i := 21) (v := .bool true) rfl (by kernel_rfl) (by kernel_rfl) (by kernel_rfl) (fun _ _ _ h => h) (Or.inl ⟨by rfl, fun w' hSw => by clear hSw; go_simp⟩) HS.out ?_
     simp only [List.getElem_toArray, List.getElem_cons_zero, List.getElem_cons_succ, Act.put, List.setIfInBounds_toArray, List.set_cons_zero, List.set_cons_succ]
     refine wpAnyH_take (i := 22) (v := .bool true) rfl (by kernel_rfl) (by kernel_rfl) (by kernel_rfl) (fun _ _ _ h => h) (Or.inl ⟨by rfl, fun w' hSw => by clear hSw; go_simp⟩) HS.out ?_
     simp only [List.getElem_toArray, List.getElem_cons_zero, List.getElem_cons_succ, Act.put, List.setIfInBounds_toArray, List.set_cons_zero, List.set_cons_succ]
     refine wpAnyH_take (i := 23) (v := .bool true) rfl (by kernel_rfl) (by kernel_rfl) (by kernel_rfl) (fun _ _ _ h => h) (Or.inl ⟨by rfl, fun w' hSw => by clear hSw; go_simp⟩) HS.out ?_
     simp only [List.getElem_toArray, List.getElem_cons_zero, List.getElem_cons_succ, Act.put, List.setIfInBounds_toArray, List.set_cons_zero, List.set_cons_succ]
     refine wpAnyH_take (i := 24) (v := .pointer (some ⟨p, 0, none⟩)) rfl (by kernel_rfl) (by kernel_rfl) (by kernel_rfl) (fun _ _ _ h => h) (Or.inl ⟨by rfl, fun w' hSw => by clear hSw; go_simp⟩) HS.out ?_
     simp only [List.getElem_toArray, List.getElem_cons_zero, List.getElem_cons_succ, Act.put, List.setIfInBounds_toArray, List.set_cons_zero, List.set_cons_succ]
     refine wpAnyH_take (i := 25) (v := .pointer (some ⟨w.heap.size, 1, none⟩)) rfl (by kernel_rfl) (by kernel_rfl) (by kernel_rfl) (fun _ _ _ h => h) (Or.inl ⟨by rfl, fun w' hSw => by clear hSw; go_simp⟩) HS.out ?_
     simp only [List.getElem_toArray, List.getElem_cons_zero, List.getElem_cons_succ, Act.put, List.setIfInBounds_toArray, List.set_cons_zero, List.set_cons_succ]
     refine wpAnyH_take (i := 26) (v := .int .i64 x.I) rfl (by kernel_rfl) (by kernel_rfl) (by kernel_rfl) (fun _ _ _ h => h) (Or.inl ⟨by rfl, fun w' hSw => by obtain ⟨S9, X9⟩ := hSw; obtain ⟨c0, c1, c2, c3⟩ := aj_c X9.A; clear X9; go_simp⟩) HS.out ?_
     simp only [List.getElem_toArray, List.getElem_cons_zero, List.getElem_cons_succ, Act.put, List.setIfInBounds_toArray, List.set_cons_zero, List.set_cons_succ]
     refine wpAnyH_take (i := 28) (v := .slice (some ⟨gv, 0, none⟩) N cv) rfl (by kernel_rfl) (by kernel_rfl) (by kernel_rfl) (fun _ _ _ h => h) (Or.inl ⟨by rfl, fun w' hSw => by clear hSw; go_simp⟩) HS.out ?_
     simp only [List.getElem_toArray, List.getElem_cons_zero, List.getElem_cons_succ, Act.put, List.setIfInBounds_toArray, List.set_cons_zero, List.set_cons_succ]
     refine wpAnyH_take (i := 29) (v := .pointer (some ⟨w.heap.size, 1, none⟩)) rfl (by kernel_rfl) (by kernel_rfl) (by kernel_rfl) (fun _ _ _ h => h) (Or.inl ⟨by rfl, fun w' hSw => by clear hSw; go_simp⟩) HS.out ?_
     simp only [List.getElem_toArray, List.getElem_cons_zero, List.getElem_cons_succ, Act.put, List.setIfInBounds_toArray, List.set_cons_zero, List.set_cons_succ]
     refine wpAnyH_take (i := 30) (v := .int .i64 x.I) rfl (by kernel_rfl) (by kernel_rfl) (by kernel_rfl) (fun _ _ _ h => h) (Or.inl ⟨by rfl, fun w' hSw => by obtain ⟨S9, X9⟩ := hSw; obtain ⟨c0, c1, c2, c3⟩ := aj_c X9.A; clear X9; go_simp⟩) HS.out ?_
     simp only [List.getElem_toArray, List.getElem_cons_zero, List.getElem_cons_succ, Act.put, List.setIfInBounds_toArray, List.set_cons_zero, List.set_cons_succ]
     refine wpAnyH_ready (rs := [27]) (by kernel_rfl) (by simp) ?_
     refine AllReadyH.cons rfl (fun K hK => ?_) AllReadyH.nil
     go_simp
     obtain ⟨S9, X9⟩ := HS.out
     go_wp2_with (go_at_call 20; refine (HC.out.next _ p S9 n L x.I (HIN.out _ _ X9.P) HX.out.I).mono ?_; rintro e U1 ⟨rfl, hv⟩; obtain ⟨S8, X8, _, _⟩ := X9.left hv; have HS := Lib.hid (show ∃ S1, AlJ R w U1 p S S1 n L B (.slice (some ⟨gv, 0, none⟩) N cv) w.heap.size x (.slice (some ⟨g, off, none⟩) len ca) from ⟨S8, X8⟩); clear X9 X8 hv)
     refine hK.out _ _ HS.out (fun _ => ?_)
     clear hK K
     refine wpAnyH_ready (rs := [31]) (by kernel_rfl) (by simp) ?_
     refine AllReadyH.cons rfl (fun K hK => ?_) AllReadyH.nil
     go_simp
     obtain ⟨S9, X9⟩ := HS.out
     go_wp2_with (go_at_call 46; refine (jNext X9.M (by rw [HNl.out]; exact hl) x.I).mono ?_; rintro e U1 ⟨rfl, hb⟩; have HS := Lib.hid (show ∃ S1, AlJ R w U1 p S S1 n L B (.slice (some ⟨gv, 0, none⟩) N cv) w.heap.size x (.slice (some ⟨g, off, none⟩) len ca) from ⟨S9, X9.below hb⟩); clear X9 hb)
     refine hK.out _ _ HS.out (fun _ => ?_)
     clear hK K
     refine wpAnyH_take (i := 32) (v := .bool true) rfl (by kernel_rfl) (by kernel_rfl) (by kernel_rfl) (fun _ _ _ h => h) (Or.inl ⟨by rfl, fun w' hSw => by clear hSw; go_simp⟩) HS.out ?_
     simp only [List.getElem_toArray, List.getElem_cons_zero, List.getElem_cons_succ, Act.put, List.setIfInBounds_toArray, List.set_cons_zero, List.set_cons_succ]
     refine wpAnyH_take (i := 33) (v := .bool true) rfl (by kernel_rfl) (by kernel_rfl) (by kernel_rfl) (fun _ _ _ h => h) (Or.inl ⟨by rfl, fun w' hSw => by clear hSw; go_simp⟩) HS.out ?_
     simp only [List.getElem_toArray, List.getElem_cons_zero, List.getElem_cons_succ, Act.put, List.setIfInBounds_toArray, List.set_cons_zero, List.set_cons_succ]
     refine wpAnyH_take (i := 34) (v := .bool true) rfl (by kernel_rfl) (by kernel_rfl) (by kernel_rfl) (fun _ _ _ h => h) (Or.inl ⟨by rfl, fun w' hSw => by clear hSw; go_simp⟩) HS.out ?_
     simp only [List.getElem_toArray, List.getElem_cons_zero, List.getElem_cons_succ, Act.put, List.setIfInBounds_toArray, List.set_cons_zero, List.set_cons_succ]
     refine wpAnyH_take (i := 35) (v := .pointer (some ⟨p, 0, none⟩)) rfl (by kernel_rfl) (by kernel_rfl) (by kernel_rfl) (fun _ _ _ h => h) (Or.inl ⟨by rfl, fun w' hSw => by clear hSw; go_simp⟩) HS.out ?_
     simp only [List.getElem_toArray, List.getElem_cons_zero, List.getElem_cons_succ, Act.put, List.setIfInBounds_toArray, List.set_cons_zero, List.set_cons_succ]
     refine wpAnyH_take (i := 37) (v := .slice (some ⟨gv, 0, none⟩) N cv) rfl (by kernel_rfl) (by kernel_rfl) (by kernel_rfl) (fun _ _ _ h => h) (Or.inl ⟨by rfl, fun w' hSw => by clear hSw; go_simp⟩) HS.out ?_
     simp only [List.getElem_toArray, List.getElem_cons_zero, List.getElem_cons_succ, Act.put, List.setIfInBounds_toArray, List.set_cons_zero, List.set_cons_succ]
     refine wpAnyH_take (i := 38) (v := .int .i64 (N : Int)) rfl (by kernel_rfl) (by kernel_rfl) (by kernel_rfl) (fun _ _ _ h => h) (Or.inl ⟨by rfl, fun w' hSw => by clear hSw; go_simp⟩) HS.out ?_
     simp only [List.getElem_toArray, List.getElem_cons_zero, List.getElem_cons_succ, Act.put, List.setIfInBounds_toArray, List.set_cons_zero, List.set_cons_succ]
     refine wpAnyH_ready (rs := [36]) (by kernel_rfl) (by simp) ?_
     refine AllReadyH.cons rfl (fun K hK => ?_) AllReadyH.nil
     go_simp
     obtain ⟨S9, X9⟩ := HS.out
     go_wp2_with (go_at_call 23; refine (HC.out.total _ p S9 n L (HIN.out _ _ X9.P)).mono ?_; rintro e U1 ⟨he, hv⟩; rw [HNl.out] at he; subst he; obtain ⟨S8, X8, _, _⟩ := X9.left hv; have HS := Lib.hid (show ∃ S1, AlJ R w U1 p S S1 n L B (.slice (some ⟨gv, 0, none⟩) N cv) w.heap.size x (.slice (some ⟨g, off, none⟩) len ca) from ⟨S8, X8⟩); clear X9 X8 hv)
     refine hK.out _ _ HS.out (fun _ => ?_)
     clear hK K
     refine wpAnyH_take (i := 39) (v := .bool true) rfl (by kernel_rfl) (by kernel_rfl) (by kernel_rfl) (fun _ _ _ h => h) (Or.inl ⟨by rfl, fun w' hSw => by clear hSw; go_simp⟩) HS.out ?_
     simp only [List.getElem_toArray, List.getElem_cons_zero, List.getElem_cons_succ, Act.put, List.setIfInBounds_toArray, List.set_cons_zero, List.set_cons_succ]
     refine wpAnyH_take (i := 40) (v := .bool true) rfl (by kernel_rfl) (by kernel_rfl) (by kernel_rfl) (fun _ _ _ h => h) (Or.inl ⟨by rfl, fun w' hSw => by clear hSw; go_simp⟩) HS.out ?_
     simp only [List.getElem_toArray, List.getElem_cons_zero, List.getElem_cons_succ, Act.put, List.setIfInBounds_toArray, List.set_cons_zero, List.set_cons_succ]
     refine wpAnyH_take (i := 41) (v := .bool true) rfl (by kernel_rfl) (by kernel_rfl) (by kernel_rfl) (fun _ _ _ h => h) (Or.inl ⟨by rfl, fun w' hSw => by clear hSw; go_simp⟩) HS.out ?_
     simp only [List.getElem_toArray, List.getElem_cons_zero, List.getElem_cons_succ, Act.put, List.setIfInBounds_toArray, List.set_cons_zero, List.set_cons_succ]
     refine wpAnyH_done (by kernel_rfl) ?_ _
     go_wp2_with fail
     go_ret
     obtain ⟨S9, X9⟩ := HS.out
     exact ⟨rfl, X9.vleft⟩
end Go.Proofs.Ytopkmjiilnoeeaa.B
