/- Several texts in one: Layer 17's own chains, keys of type string: Remove. Layer 17's laws: Same. Layer 17's laws: known, ChainNil. -/
import Derived.Test.YtopkmjiilnoeeaaZAad
import Derived.Test.YtopkmjiilnoeeaaZAak
import Derived.BigQuiet
import Derived.Deep.QuietTactic
namespace Go.Proofs.Ytopkmjiilnoeeaa.B
set_option linter.unusedVariables false
set_option linter.unusedSimpArgs false
set_option maxRecDepth 100000
open Go.ChangeShapes Go.WideShapes Go.RowKit Go.Sort Go.MapKept
def oLkS (b : Nat) (a z : Int) : Obj := .cells #[.pointer (some ⟨b, 0, none⟩), .int .i64 a, .int .i64 z] tLkS (0, 0)
theorem JAtS.set0 {w : World} {p m g n : Nat} {t : Int} {r : Nat → Lk} {b : Nat} {k : ByteArray} {f l c : Int} (h : JAtS w p m g n t r b k f l c) {i : Nat} (hi : i < n) :
 JAtS (((w.setCell ⟨g, i * 3, none⟩ (.pointer none)).setCell ⟨g, i * 3 + 1, none⟩ (.int .i64 0)).setCell ⟨g, i * 3 + 2, none⟩ (.int .i64 0)) p m g n t (j0 r i) b k f l c ∧ Off (· = g) w (((w.setCell ⟨g, i * 3, none⟩ (.pointer none)).setCell ⟨g, i * 3 + 1, none⟩ (.int .i64 0)).setCell ⟨g, i * 3 + 2, none⟩ (.int .i64 0)) := by
 have ho : Off (· = g) w (((w.setCell ⟨g, i * 3, none⟩ (.pointer none)).setCell ⟨g, i * 3 + 1, none⟩ (.int .i64 0)).setCell ⟨g, i * 3 + 2, none⟩ (.int .i64 0)) := ((off_set w g _ _).trans (off_set _ g _ _)).trans (off_set _ g _ _)
 exact ⟨⟨h.P.off ho h.pg, h.R.set0 hi, h.B.off ho fun e => h.gb e.symm⟩, ho⟩
section
variable {w w' : World} {p m g n : Nat} {M : List (ByteArray × Value)} {r : Nat → Lk} {H : ByteArray → Nat} {S : Nat → Prop} {L : List (ByteArray × Int)}
theorem ChBS.gone (B : ChBS w p m g n M r (chAll L) H L.length S) (ok : ChOk n L) {k : ByteArray} {i : Nat} {l1 l2 : List Int} (hk : chAll L k = l1 ++ (i : Int) :: l2) {M' : List (ByteArray × Value)} (hm : mapP w' svS okS m M')
 (hM : M' = if (l1 ++ l2).length = 0 then M.filter (fun q => decide (q.1 ≠ k)) else M) {t : Int} (ht : t = (L.length : Int) - 1)
 (J : JAtS w' p m g n t (jCut r i (chLst l1) (chFst l2)) (H k) k (chFst (l1 ++ l2)) (chLst (l1 ++ l2)) ((l1 ++ l2).length : Int)) (ho : Off (ownS p m g (H k)) w w') : CLeft chRS w p S n (chRem L i) w' := by
 have hA := chAll_rem ok hk
 have hhas : chHas L (i : Int) = true := (chHas_all L i).2 ⟨k, by rw [hk]; simp⟩
 have hlen := chRem_len ok hhas
 refine ⟨S, (B.cut ok.A hk hA hm (fun j v => ?_) J ho).at (by rw [ht]; omega), fun x hx => .inl hx, ho.mono fun x _ e => ?_⟩
 · rw [hA j, hM]
   have hkn : chAll L k ≠ [] := by rw [hk]; simp
   by_cases h0 : (l1 ++ l2).length = 0
   · rw [if_pos h0, List.mem_filter, B.mp j v]
     by_cases e : j = k
     · subst e
       rw [if_pos rfl, List.eq_nil_of_length_eq_zero h0]
       simp
     · rw [if_neg e]; simp [e]
   · rw [if_neg h0, B.mp j v]
     by_cases e : j = k
     · subst e
       have : l1 ++ l2 ≠ [] := fun e2 => h0 (by rw [e2]; rfl)
       rw [if_pos rfl]
       exact ⟨fun h => ⟨this, h.2⟩, fun h => ⟨hkn, h.2⟩⟩
     · rw [if_neg e]
 · rcases e with e | e | e | e
   · rw [e]; exact B.sp
   · rw [e]; exact B.sm
   · rw [e]; exact B.sg
   · rw [e]; exact B.sh k (by rw [hk]; simp)
theorem jRemNoS (B : ChBS w p m g n M r (chAll L) H L.length S) (ok : ChOk n L) (i : Int) (hh : chHas L i = false) :
 Calls Try.prog 39 #[.pointer (some ⟨p, 0, none⟩), .int .i64 i] w fun e w' => e = .returned (.bool false) ∧ Below w.heap.size w w' := by
 have hlk := B.lkd2 ok i
 rw [hh] at hlk
 have HV := Lib.hid B
 clear B ok hh
 go_enter Try.func39, Try.ntmps39
 go_wp2_with (go_at_call 57; refine (jLinkedS HV.out.P HV.out.R i).mono ?_; rintro e w2 ⟨rfl, rfl⟩; rw [hlk])
 go_ret
 exact ⟨rfl, tr0 _⟩
theorem jRemYesS (B : ChBS w p m g n M r (chAll L) H L.length S) (ok : ChOk n L) (n1 : n ≤ 4096) (i : Nat) (hi : i < n) (hh : chHas L i = true) :
 Calls Try.prog 39 #[.pointer (some ⟨p, 0, none⟩), .int .i64 i] w fun e w' => e = .returned (.bool true) ∧ CLeft chRS w p S n (chRem L i) w' := by
 have hlk := B.lkd2 ok i
 rw [hh] at hlk
 have hir : 0 ≤ (i : Int) ∧ (i : Int) < n := by omega
 obtain ⟨k, l1, l2, hk, hr⟩ : ∃ k l1 l2, chAll L k = l1 ++ (i : Int) :: l2 ∧ r i = ⟨some (H k), chLst l1, chFst l2⟩ := by
  cases hx : (r i).h with
  | none => exact absurd ((chHas_all L i).1 hh) fun ⟨k, h⟩ => B.rep.of_none hx k h
  | some b =>
    obtain ⟨k, l1, l2, e, _, h⟩ := B.rep.of_some hi hx
    exact ⟨k, l1, l2, e, h⟩
 have hne : chAll L k ≠ [] := by rw [hk]; simp
 have HJ := Lib.hid (B.J hne)
 have hlen := ok.len
 have hll := chAll_le L k
 have hl12 : (chAll L k).length = (l1 ++ l2).length + 1 := by rw [hk]; simp; omega
 obtain ⟨N, hN⟩ : ∃ N, (l1 ++ l2).length = N := ⟨_, rfl⟩
 rw [hN] at hl12
 have hw1 : IntKind.i64.wrap (((chAll L k).length : Int) - 1) = (N : Int) := by rw [IntKind.wrap_i64]; omega
 have hw2 : IntKind.i64.wrap ((L.length : Int) - 1) = (L.length : Int) - 1 := by rw [IntKind.wrap_i64]; omega
 have HRG := Lib.hid (ok.A.rg k)
 have HA1 := Lib.hid (show ∀ x ∈ l1, 0 ≤ x from fun x hx => (HRG.out x (by rw [hk]; simp [hx])).1)
 have HA2 := Lib.hid (show ∀ x ∈ l2, 0 ≤ x from fun x hx => (HRG.out x (by rw [hk]; simp [hx])).1)
 have HP := Lib.hid (show chLst l1 = -1 ∨ 0 ≤ chLst l1 ∧ chLst l1 < n by
  by_cases e : l1 = []
  · rw [e]; exact .inl rfl
  · exact .inr (HRG.out _ (by rw [hk]; simp [chLst_mem e])))
 have HN := Lib.hid (show chFst l2 = -1 ∨ 0 ≤ chFst l2 ∧ chFst l2 < n by
  by_cases e : l2 = []
  · rw [e]; exact .inl rfl
  · exact .inr (HRG.out _ (by rw [hk]; simp [chFst_mem e])))
 have HW := Lib.hid B
 have HOK := Lib.hid ok
 have HK := Lib.hid hk
 have HKO := Lib.hid (B.map.oks (k, _) ((B.mp k _).2 ⟨hne, rfl⟩))
 have q0 : w.cell? ⟨g, i * 3, none⟩ = some (.pointer (some ⟨H k, 0, none⟩)) := by have := B.R.c0 hi; rw [hr] at this; exact this
 have q1 : w.cell? ⟨g, i * 3 + 1, none⟩ = some (.int .i64 (chLst l1)) := by have := B.R.c1 hi; rw [hr] at this; exact this
 have q2 : w.cell? ⟨g, i * 3 + 2, none⟩ = some (.int .i64 (chFst l2)) := by have := B.R.c2 hi; rw [hr] at this; exact this
 have HM := Lib.hid B.map
 have hpg := (B.J hne).pg
 have hg := B.R.lt
 have hp := B.P.lt
 have c1 := B.P.c1
 have HF := Lib.hid (show (if chLst l1 = -1 then chFst l2 else chFst (chAll L k)) = chFst (l1 ++ l2) by rw [hk]; exact fst_cut HA1.out _ _)
 have HE := Lib.hid (show (if chFst l2 = -1 then chLst l1 else chLst (chAll L k)) = chLst (l1 ++ l2) by rw [hk]; exact lst_cut _ _ HA2.out)
 obtain ⟨b, hb⟩ : ∃ b, H k = b := ⟨_, rfl⟩
 rw [hb] at HJ q0
 have hB := Lib.hid hb
 have HLN := Lib.hid hN
 clear B hh ok hne hk hr hb hN
 go_enter Try.func39, Try.ntmps39
 go_upto_region 4 with (go_at_call 57; refine (jLinkedS HW.out.P HW.out.R i).mono ?_; rintro e w2 ⟨rfl, rfl⟩; rw [hlk])
 have hB3 := trA (tr0 w) (oLkS b (chLst l1) (chFst l2))
 have HX3 := Lib.hid (blk_new w (oLkS b (chLst l1) (chFst l2)))
 have HM3 := Lib.hid (HM.out.below hB3 HM.out.lt)
 have HJ3 := Lib.hid (HJ.out.below hB3)
 have HO3 := Lib.hid (Off.ofBelow (S := ownS p m g b) hB3)
 have hxb : w.heap.size ≠ b := by have := HJ.out.B.lt; omega
 have hxg : w.heap.size ≠ g := by omega
 have hxp : w.heap.size ≠ p := by omega
 rw [show Obj.cells #[Value.pointer (some ⟨b, 0, none⟩), Value.int .i64 (chLst l1), Value.int .i64 (chFst l2)] tLkS (0, 0) = oLkS b (chLst l1) (chFst l2) from rfl]
 generalize w.alloc (oLkS b (chLst l1) (chFst l2)) = W3 at *
 generalize hxx : w.heap.size = x at *
 clear hB3 HM HJ q0 q1 q2 hg hp c1 hxx
 have hg := HJ3.out.R.lt
 have hp := HJ3.out.P.lt
 have c1 := HJ3.out.P.c1
 have q0 := HJ3.out.R.c0 hi
 have q1 := HJ3.out.R.c1 hi
 have q2 := HJ3.out.R.c2 hi
 have g0 := HJ3.out.R.free (i * 3)
 have g1 := HJ3.out.R.free (i * 3 + 1)
 have g2 := HJ3.out.R.free (i * 3 + 2)
 have h4 := HJ3.out.set0 hi
 have HX4 := Lib.hid (h4.2.at HX3.out hxg)
 have HJ4 := Lib.hid h4.1
 have HM4 := Lib.hid (HM3.out.off h4.2 (fun e => by obtain ⟨cur, hc, _⟩ := HJ3.out.R; exact mapP_neS HM3.out hc e))
 have HO4 := Lib.hid (HO3.out.trans (h4.2.mono fun y _ e => .inr (.inr (.inl e))))
 clear h4 HX3 HM3 HO3
 go_upto_region 5 with (fail)
 generalize (((W3.setCell ⟨g, i * 3, none⟩ (.pointer none)).setCell ⟨g, i * 3 + 1, none⟩ (.int .i64 0)).setCell ⟨g, i * 3 + 2, none⟩ (.int .i64 0)) = W4 at *
 clear hg hp c1 q0 q1 q2 g0 g1 g2 HJ3
 have d0 : W4.cell? ⟨x, 0, none⟩ = some (.pointer (some ⟨b, 0, none⟩)) := by rw [blk_cell HX4.out]; rfl
 have d1 : W4.cell? ⟨x, 1, none⟩ = some (.int .i64 (chLst l1)) := by rw [blk_cell HX4.out]; rfl
 have d2 : W4.cell? ⟨x, 2, none⟩ = some (.int .i64 (chFst l2)) := by rw [blk_cell HX4.out]; rfl
 have hx := lt_of_block HX4.out
 go_wp2_with fail
 refine (jJoinS HJ4.out (chLst l1) (chFst l2) HP.out HN.out).mono ?_
 rintro e W5 ⟨rfl, j5, o5⟩
 have HJ5 := Lib.hid (show JAtS W5 p m g n L.length (jCut r i (chLst l1) (chFst l2)) b k (chFst (l1 ++ l2)) (chLst (l1 ++ l2)) ((chAll L k).length : Int) from j5.as (fun _ _ => rfl) HF.out HE.out)
 have HX5 := Lib.hid (o5.at HX4.out (by rintro (e | e); exact hxg e; exact hxb e))
 have HM5 := Lib.hid (HM4.out.off o5 (by
  rintro (e | e)
  · obtain ⟨cur, hc, _⟩ := HJ4.out.R; exact mapP_neS HM4.out hc e
  · exact mapP_neS HM4.out HJ4.out.B e))
 have HO5 := Lib.hid (HO4.out.trans (o5.mono (T := ownS p m g b) fun y _ e => by
  rcases e with e | e
  · exact .inr (.inr (.inl e))
  · exact .inr (.inr (.inr e))))
 clear j5 o5 HJ4 HX4 HM4 HO4 d0 d1 d2 hx
 have d0 : W5.cell? ⟨x, 0, none⟩ = some (.pointer (some ⟨b, 0, none⟩)) := by rw [blk_cell HX5.out]; rfl
 have hx := lt_of_block HX5.out
 have hb := HJ5.out.B.lt
 have c3 := HJ5.out.B.c3
 have fb := HJ5.out.B.free 3
 have h6 := off_set W5 b 3 (.int .i64 N)
 have HJ6 := Lib.hid (HJ5.out.setC N)
 have HX6 := Lib.hid (h6.at HX5.out hxb)
 have HM6 := Lib.hid (HM5.out.off h6 (fun e => mapP_neS HM5.out HJ5.out.B e))
 have HO6 := Lib.hid (HO5.out.trans (h6.mono fun y _ e => .inr (.inr (.inr e))))
 clear h6
 go_upto_region 7 with (fail)
 generalize W5.setCell ⟨b, 3, none⟩ (.int .i64 N) = W6 at *
 clear d0 hx hb c3 fb HJ5 HX5 HM5 HO5
 have hp := HJ6.out.P.lt
 have ct := HJ6.out.P.c2
 have fp := HJ6.out.P.free 2
 have h7 := off_set W6 p 2 (.int .i64 ((L.length : Int) - 1))
 have HJ7 := Lib.hid (HJ6.out.setT ((L.length : Int) - 1))
 have HX7 := Lib.hid (h7.at HX6.out hxp)
 have HM7 := Lib.hid (HM6.out.off h7 (fun e => mapP_neS HM6.out HJ6.out.P e))
 have HO7 := Lib.hid (HO6.out.trans (h7.mono fun y _ e => .inl e))
 clear h7
 go_upto_region 8 with (fail)
 generalize W6.setCell ⟨p, 2, none⟩ (.int .i64 ((L.length : Int) - 1)) = W7 at *
 clear hp ct fp HJ6 HX6 HM6 HO6
 have d0 : W7.cell? ⟨x, 0, none⟩ = some (.pointer (some ⟨b, 0, none⟩)) := by rw [blk_cell HX7.out]; rfl
 have hx := lt_of_block HX7.out
 have hb := HJ7.out.B.lt
 have c3 := HJ7.out.B.c3
 by_cases h0 : N = 0
 · have hz : ((N : Int) == 0) = true := by rw [h0]; rfl
   have hp := HJ7.out.P.lt
   have c0 := HJ7.out.P.c0
   have k0 := HJ7.out.B.k0
   have H0 := Lib.hid h0
   clear h0
   go_upto_region 9 with (fail)
   have hgc := gcell
   have hgf := gfrozen
   refine wp_region_tail_below 9 (by kernel_rfl) (by kernel_rfl) ?_
   simp only [List.take_succ_cons, List.take_zero, List.drop_succ_cons, List.drop_zero]
   repeat (first | go_big_quiet_step (fail) | (refine wpQuiet_nil ?_))
   intro _ hw'
   obtain ⟨⟨dq, osq⟩, hw''⟩ := hw'
   subst hw''
   have hbb := below_regrown W7 dq osq
   have HJ8 := Lib.hid (HJ7.out.below hbb)
   have HM8 := Lib.hid (HM7.out.below hbb HM7.out.lt)
   have HO8 := Lib.hid (HO7.out.trans (Off.ofBelow hbb))
   clear hbb hgc hgf d0 hx hb c3 hp c0 k0 HX7 HJ7 HM7 HO7
   dsimp only at HJ8 HM8 HO8 ⊢
   generalize grow (redrawn W7 dq) osq = W8 at *
   go_wp2_with (at_delete; refine wpList_del keyS rfl _ _ _ rfl Try.underlying103 rfl HM8.out k rfl HKO.out ?_; intro w9 hm9 ho9; have HM9 := Lib.hid hm9; have HO9 := Lib.hid ho9; clear hm9 ho9)
   go_ret
   refine ⟨rfl, HW.out.gone HOK.out HK.out HM9.out ?_ rfl ?_ ?_⟩
   · rw [if_pos (HLN.out.trans H0.out)]
   · rw [HLN.out, hB.out]
     have hne : ∀ y, y = m → y ≠ p ∧ y ≠ g ∧ y ≠ b := by
      rintro y rfl
      obtain ⟨cur, hc, _⟩ := HJ8.out.R
      exact ⟨mapP_neS HM8.out HJ8.out.P, mapP_neS HM8.out hc, mapP_neS HM8.out HJ8.out.B⟩
     obtain ⟨e1, e2, e3⟩ := hne m rfl
     exact ⟨HJ8.out.P.off HO9.out (fun e => e1 e.symm), HJ8.out.R.kept (HO9.out.block g HJ8.out.R.lt fun e => e2 e.symm), HJ8.out.B.off HO9.out fun e => e3 e.symm⟩
   · rw [hB.out]
     exact HO8.out.trans (HO9.out.mono fun y _ e => .inr (.inl e))
 · have hz : ((N : Int) == 0) = false := by simp; omega
   have H0 := Lib.hid h0
   clear h0
   go_wp2_with fail
   go_ret
   refine ⟨rfl, HW.out.gone HOK.out HK.out HM7.out ?_ rfl ?_ ?_⟩
   · rw [if_neg (by rw [HLN.out]; exact H0.out)]
   · rw [HLN.out, hB.out]; exact HJ7.out
   · rw [hB.out]; exact HO7.out
end
theorem jRemoveS (w : World) (p : Nat) (S : Nat → Prop) (n : Nat) (L : List (ByteArray × Int)) (i : Int) (V : CIn okS chRS w p S n L) (hi : i64r i) :
 Calls Try.prog 39 #[.pointer (some ⟨p, 0, none⟩), .int .i64 i] w fun e w' => e = .returned (.bool (chHas L i)) ∧ CLeft chRS w p S n (chRem L i) w' := by
 obtain ⟨⟨m, g, M, r, H, B⟩, n0, n1, ok, ks⟩ := V
 cases hc : chHas L i with
 | false =>
   rw [chRem_no hc]
   refine (jRemNoS B ok i hc).mono ?_
   rintro e w' ⟨rfl, hb⟩
   exact ⟨rfl, chRS_asked (B.at rfl) hb⟩
 | true =>
   obtain ⟨h0, h1⟩ := chHas_rg ok hc
   obtain ⟨j, rfl⟩ := Int.eq_ofNat_of_zero_le h0
   exact jRemYesS B ok n1 j (by omega) hc
end Go.Proofs.Ytopkmjiilnoeeaa.B
namespace Go.Proofs.Ytopkmjiilnoeeaa.B
set_option linter.unusedVariables false
set_option linter.unusedSimpArgs false
set_option maxRecDepth 100000
open Go.ChangeShapes Go.WideShapes Go.RowKit Go.Sort
set_option maxHeartbeats 1600000 in
theorem jSame {w : World} {va vb : Value} {L : List Int} (ha : RdI w va L) (hb : RdI w vb L) : Calls Try.prog 15 #[va, vb] w fun e w' => e = .returned (.bool true) ∧ Below w.heap.size w w' := by
 obtain ⟨ya, ca, rfl, a1, a2, fa⟩ := ha
 obtain ⟨yb, cb, rfl, b1, b2, fb⟩ := hb
 have HFA := Lib.hid fa
 have HFB := Lib.hid fb
 clear fa fb
 obtain ⟨len, hlen⟩ : ∃ len, L.length = len := ⟨_, rfl⟩
 have HL := Lib.hid hlen
 rw [hlen] at a1 b1 ⊢
 clear hlen
 unfold maxLen at a2 b2
 go_enter Try.func15, Try.ntmps15
 go_wp2_with fail
 go_loopw [5] (fun x wr => ∃ (k : Nat), k ≤ len ∧ x = .int .i64 k ∧ Hid (Below w.heap.size w wr)) (fun x wr => len - (intOf x).toNat)
 case atStart => exact ⟨0, by omega, rfl, Lib.hid (tr0 w)⟩
 case round =>
  obtain ⟨k, hk, rfl, HB⟩ := hrel
  rename_i wr
  by_cases hlt : k < len
  · have hkL : k < L.length := by rw [HL.out]; exact hlt
    have hne : ¬ L = [] := fun e => by rw [e] at hkL; exact absurd hkL (by simp)
    obtain ⟨ga, oa, hya, a3, a4⟩ := HFA.out.resolve_left hne
    obtain ⟨gb, ob, hyb, b3, b4⟩ := HFB.out.resolve_left hne
    have c1 := (HB.out.cell (p := ⟨ga, oa + k, none⟩) a3).trans (a4 k _ (List.getElem?_eq_getElem hkL))
    have c2 := (HB.out.cell (p := ⟨gb, ob + k, none⟩) b3).trans (b4 k _ (List.getElem?_eq_getElem hkL))
    have l1 := Nat.lt_of_lt_of_le a3 HB.out.size
    have l2 := Nat.lt_of_lt_of_le b3 HB.out.size
    clear a4 b4 a3 b3
    generalize L[k] = x at *
    subst hya hyb
    have e : decide ((k : Int) < (len : Int)) = true := decide_eq_true (by omega)
    have k0 : 0 ≤ (k : Int) := by omega
    have k1 : (k : Int) < (len : Int) := by omega
    clear hne hkL
    go_upto_region 6 with (fail)
    go_quiet (fail)
    have HB := Lib.hid (trN HB.out nq)
    generalize wr.drewN nq = W3 at *
    clear c1 c2 l1 l2
    go_wp2_with fail
    go_roundw
    case rel => exact ⟨k + 1, by omega, by go_num, HB⟩
    case measure => simp [intOf]; omega
  · obtain rfl : k = len := by omega
    go_wp2_with fail
    go_ret
    exact ⟨rfl, HB.out⟩
theorem rdI_cells {w : World} {g : Nat} (l : List Int) {n : Nat} (hn : l.length = n) (hm : n ≤ maxLen) (h : w.heap[g]? = some (.cells (ivs l).toArray tI (0, 0))) : RdI w (.slice (some ⟨g, 0, none⟩) n n) l := by
 refine ⟨_, n, by rw [hn], by omega, hm, .inr ⟨g, 0, rfl, lt_of_block h, fun k i hk => ?_⟩⟩
 rw [Nat.zero_add, blk_cell h, List.getElem?_toArray]
 unfold ivs
 rw [List.getElem?_map, hk]
 rfl
abbrev Ks := ByteArray
def sa : Ks := { data := #[97] }
def sb : Ks := { data := #[98] }
theorem sba : ¬ sb = sa := by decide
def k1 : List (Ks × Int) := [(sa, 3)]
def k2 : List (Ks × Int) := [(sa, 3), (sa, 1)]
def k3 : List (Ks × Int) := [(sa, 3), (sa, 1), (sb, 2)]
def k4 : List (Ks × Int) := [(sa, 1), (sb, 2)]
theorem k_push : chPush 5 [] sa 3 = k1 ∧ chPush 5 k1 sa 1 = k2 ∧ chPush 5 k2 sb 2 = k3 ∧ chRem k3 3 = k4 ∧ chPush 5 k4 sb 1 = k4 := ⟨by rfl, by rfl, by rfl, by rfl, by rfl⟩
theorem k_can : chCan 5 ([] : List (Ks × Int)) 3 = true ∧ chCan 5 k1 1 = true ∧ chCan 5 k2 2 = true ∧ chHas k3 3 = true ∧ chCan 5 k4 1 = false := ⟨by rfl, by rfl, by rfl, by rfl, by rfl⟩
theorem k_all : chAll k3 sa = [3, 1] ∧ chAll k4 sa = [1] := by
 refine ⟨?_, ?_⟩
 · unfold k3
   rw [chAll_cons, chAll_cons, chAll_cons, if_pos rfl, if_pos rfl, if_neg sba]
   rfl
 · unfold k4
   rw [chAll_cons, chAll_cons, if_pos rfl, if_neg sba]
   rfl
def smallK (L : List (Ks × Int)) : Prop := ∀ x ∈ L, x.1.size < 1000
theorem k_ok : ChOk 5 k1 ∧ ChOk 5 k2 ∧ ChOk 5 k3 ∧ ChOk 5 k4 := by
 have h1 : ChOk 5 k1 := by rw [← k_push.1]; exact (ChOk.nil 5).push sa 3
 have h2 : ChOk 5 k2 := by rw [← k_push.2.1]; exact h1.push sa 1
 have h3 : ChOk 5 k3 := by rw [← k_push.2.2.1]; exact h2.push sb 2
 exact ⟨h1, h2, h3, by rw [← k_push.2.2.2.1]; exact h3.rem 3⟩
theorem k_small : smallK [] ∧ smallK k1 ∧ smallK k2 ∧ smallK k3 ∧ smallK k4 := by
 refine ⟨?_, ?_, ?_, ?_, ?_⟩ <;> intro x hx <;> simp [k1, k2, k3, k4] at hx
 · rw [hx]; decide
 · rcases hx with rfl | rfl <;> decide
 · rcases hx with rfl | rfl | rfl <;> decide
 · rcases hx with rfl | rfl <;> decide
theorem i5 {a : Int} (h : -5 ≤ a ∧ a ≤ 5) : i64r a := ⟨by omega, by omega⟩
set_option maxHeartbeats 3200000 in
theorem jKnown {R : ChainR Ks} (C : ChainS R) (w : World) : Calls Try.prog 8 #[] w fun e w' => e = .returned (.bool true) ∧ Below w.heap.size w w' := by
 have HC := Lib.hid C
 have CN := Lib.hid (fun w' => show Calls _ _ _ w' _ from C.new 5 w' (by decide) (by decide))
 have KO := Lib.hid k_ok
 have KS := Lib.hid k_small
 clear C
 go_enter Try.func8, Try.ntmps8
 go_wp2_with fail
 refine (CN.out _).mono ?_
 rintro e w1 ⟨p, S0, rfl, h1, h2, h3⟩
 have KA := Lib.hid (show CS R w w1 p S0 5 [] from ⟨h1, h2, h3⟩)
 clear h1 h2 h3 CN
 go_wp2_with fail
 refine (HC.out.push w1 p S0 5 [] sa 3 (KA.out.cin (by decide) (by decide) (ChOk.nil 5) KS.out.1) (by decide) (i5 (by decide))).mono ?_
 rintro e w2 ⟨rfl, hv⟩
 obtain ⟨S1, KB, _, ho1⟩ := KA.out.left hv
 have KB := Lib.hid (show CS R w w2 p S1 5 k1 from KB)
 clear hv KA ho1
 rw [k_can.1]
 go_wp2_with fail
 refine (HC.out.push w2 p S1 5 k1 sa 1 (KB.out.cin (by decide) (by decide) KO.out.1 KS.out.2.1) (by decide) (i5 (by decide))).mono ?_
 rintro e w3 ⟨rfl, hv⟩
 obtain ⟨S2, KC, _, ho1⟩ := KB.out.left hv
 have KC := Lib.hid (show CS R w w3 p S2 5 k2 from KC)
 clear hv KB ho1
 rw [k_can.2.1]
 go_wp2_with fail
 refine (HC.out.push w3 p S2 5 k2 sb 2 (KC.out.cin (by decide) (by decide) KO.out.2.1 KS.out.2.2.1) (by decide) (i5 (by decide))).mono ?_
 rintro e w4 ⟨rfl, hv⟩
 obtain ⟨S3, KD, _, ho1⟩ := KC.out.left hv
 have KD := Lib.hid (show CS R w w4 p S3 5 k3 from KD)
 clear hv KC ho1
 rw [k_can.2.2.1]
 go_wp2_with fail
 refine (HC.out.all w4 p S3 5 k3 sa (KD.out.cin (by decide) (by decide) KO.out.2.2.1 KS.out.2.2.2.1) (by decide)).mono ?_
 rintro e w5 ⟨v, rfl, hv⟩
 rw [k_all.1] at hv
 obtain ⟨S4, KE, _, ho1, hr, _⟩ := KD.out.told hv
 have hbb := trA (tr0 w5) (.cells #[.int .i64 3, .int .i64 1] 3 (0, 0))
 have HR := Lib.hid (hr.keep hbb)
 have HR2 := Lib.hid (rdI_cells [3, 1] (n := 2) rfl (by decide) (blk_new w5 (.cells #[.int .i64 3, .int .i64 1] 3 (0, 0))))
 have KE := Lib.hid (KE.below hbb)
 clear hv KD ho1 hr hbb
 go_wp2_with fail
 refine (jSame HR.out HR2.out).mono ?_
 rintro e w6 ⟨rfl, hb6⟩
 have KF := Lib.hid (KE.out.below hb6)
 clear hb6 KE HR HR2
 go_wp2_with fail
 refine (HC.out.remove w6 p S4 5 k3 3 (KF.out.cin (by decide) (by decide) KO.out.2.2.1 KS.out.2.2.2.1) (i5 (by decide))).mono ?_
 rintro e w7 ⟨rfl, hv⟩
 obtain ⟨S5, KG, _, ho1⟩ := KF.out.left hv
 have KG := Lib.hid (show CS R w w7 p S5 5 k4 from KG)
 clear hv KF ho1
 rw [k_can.2.2.2.1]
 go_wp2_with fail
 refine (HC.out.all w7 p S5 5 k4 sa (KG.out.cin (by decide) (by decide) KO.out.2.2.2 KS.out.2.2.2.2) (by decide)).mono ?_
 rintro e w8 ⟨v2, rfl, hv⟩
 rw [k_all.2] at hv
 obtain ⟨S6, KH, _, ho1, hr, _⟩ := KG.out.told hv
 have hbb := trA (tr0 w8) (.cells #[.int .i64 1] 3 (0, 0))
 have HR := Lib.hid (hr.keep hbb)
 have HR2 := Lib.hid (rdI_cells [1] (n := 1) rfl (by decide) (blk_new w8 (.cells #[.int .i64 1] 3 (0, 0))))
 have KH := Lib.hid (KH.below hbb)
 clear hv KG ho1 hr hbb
 go_wp2_with fail
 refine (jSame HR.out HR2.out).mono ?_
 rintro e w9 ⟨rfl, hb9⟩
 have KI := Lib.hid (KH.out.below hb9)
 clear hb9 KH HR HR2
 go_wp2_with fail
 refine (HC.out.push w9 p S6 5 k4 sb 1 (KI.out.cin (by decide) (by decide) KO.out.2.2.2 KS.out.2.2.2.2) (by decide) (i5 (by decide))).mono ?_
 rintro e w10 ⟨rfl, hv⟩
 obtain ⟨S7, KJ, _, ho1⟩ := KI.out.left hv
 have HB := Lib.hid KJ.lo
 clear hv KI KJ ho1
 rw [k_can.2.2.2.2]
 go_wp2_with fail
 go_ret
 exact ⟨rfl, HB.out⟩
set_option maxHeartbeats 3200000 in
theorem jNil {R : ChainR Ks} (C : ChainS R) (N : ChainN) (k i : Int) (w : World) (hk : i64r k) (hi : i64r i) : Calls Try.prog 5 #[.int .i64 k, .int .i64 i] w fun e w' => e = .returned (.bool true) ∧ Below w.heap.size w w' := by
 have HK := Lib.hid (fun w' => jKnown C w')
 have H1 := Lib.hid (fun w' => N.key w' i hi)
 have H2 := Lib.hid (fun w' => N.push w' k i hk hi)
 have H3 := Lib.hid (fun w' => N.remove w' i hi)
 have H4 := Lib.hid (fun w' => N.first w' k hk)
 have H5 := Lib.hid (fun w' => N.next w' i hi)
 have H6 := Lib.hid (fun w' => N.all w' k hk)
 have H7 := Lib.hid (fun w' => N.take w' k hk)
 have H8 := Lib.hid (fun w' => N.len w' k hk)
 have H9 := Lib.hid (fun w' => N.total w')
 have H10 := Lib.hid (fun w' => N.copy w')
 clear C N hk hi
 have HB := Lib.hid (tr0 w)
 go_enter Try.func5, Try.ntmps5
 go_wp2_with (first
  | (go_at_call 8; refine (HK.out _).mono ?_; rintro e w1 ⟨rfl, hb⟩; have HB := Lib.hid (tr HB.out hb); clear hb)
  | (go_at_call 24; refine (H1.out _).mono ?_; rintro e w2 ⟨rfl, hb⟩; have HB := Lib.hid (tr HB.out hb); clear hb)
  | (go_at_call 25; refine (H2.out _).mono ?_; rintro e w3 ⟨rfl, hb⟩; have HB := Lib.hid (tr HB.out hb); clear hb)
  | (go_at_call 26; refine (H3.out _).mono ?_; rintro e w4 ⟨rfl, hb⟩; have HB := Lib.hid (tr HB.out hb); clear hb)
  | (go_at_call 27; refine (H4.out _).mono ?_; rintro e w5 ⟨rfl, hb⟩; have HB := Lib.hid (tr HB.out hb); clear hb)
  | (go_at_call 28; refine (H5.out _).mono ?_; rintro e w6 ⟨rfl, hb⟩; have HB := Lib.hid (tr HB.out hb); clear hb)
  | (go_at_call 29; refine (H6.out _).mono ?_; rintro e w7 ⟨y7, c7, rfl, hb⟩; have HB := Lib.hid (tr HB.out hb); clear hb)
  | (go_at_call 30; refine (H7.out _).mono ?_; rintro e w8 ⟨y8, c8, rfl, hb⟩; have HB := Lib.hid (tr HB.out hb); clear hb)
  | (go_at_call 31; refine (H8.out _).mono ?_; rintro e w9 ⟨rfl, hb⟩; have HB := Lib.hid (tr HB.out hb); clear hb)
  | (go_at_call 32; refine (H9.out _).mono ?_; rintro e w10 ⟨rfl, hb⟩; have HB := Lib.hid (tr HB.out hb); clear hb)
  | (go_at_call 33; refine (H10.out _).mono ?_; rintro e w11 ⟨rfl, hb⟩; have HB := Lib.hid (tr HB.out hb); clear hb))
 go_ret
 exact ⟨rfl, HB.out⟩
end Go.Proofs.Ytopkmjiilnoeeaa.B
