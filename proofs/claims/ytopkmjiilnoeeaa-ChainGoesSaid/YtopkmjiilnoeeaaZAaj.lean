/- Several texts in one: Layer 17's own chains, keys of type [2]int: Remove. Layer 17's own chains, keys of type [2]int: Take. Layer 17's own chains: nil ones (keys of type int). -/
import Derived.Test.YtopkmjiilnoeeaaZAad
import Derived.Test.YtopkmjiilnoeeaaZAaf
import Derived.Test.YtopkmjiilnoeeaaZAag
import Derived.Test.YtopkmjiilnoeeaaZAah
import Derived.Defers
import Derived.Recover
namespace Go.Proofs.Ytopkmjiilnoeeaa.B
set_option linter.unusedVariables false
set_option linter.unusedSimpArgs false
set_option maxRecDepth 100000
open Go.ChangeShapes Go.WideShapes Go.RowKit Go.Sort Go.MapKept
def oLkK (b : Nat) (a z : Int) : Obj := .cells #[.pointer (some ⟨b, 0, none⟩), .int .i64 a, .int .i64 z] tLkK (0, 0)
theorem JAtK.set0 {w : World} {p m g n : Nat} {t : Int} {r : Nat → Lk} {b : Nat} {k : Kp} {f l c : Int} (h : JAtK w p m g n t r b k f l c) {i : Nat} (hi : i < n) :
 JAtK (((w.setCell ⟨g, i * 3, none⟩ (.pointer none)).setCell ⟨g, i * 3 + 1, none⟩ (.int .i64 0)).setCell ⟨g, i * 3 + 2, none⟩ (.int .i64 0)) p m g n t (j0 r i) b k f l c ∧ Off (· = g) w (((w.setCell ⟨g, i * 3, none⟩ (.pointer none)).setCell ⟨g, i * 3 + 1, none⟩ (.int .i64 0)).setCell ⟨g, i * 3 + 2, none⟩ (.int .i64 0)) := by
 have ho : Off (· = g) w (((w.setCell ⟨g, i * 3, none⟩ (.pointer none)).setCell ⟨g, i * 3 + 1, none⟩ (.int .i64 0)).setCell ⟨g, i * 3 + 2, none⟩ (.int .i64 0)) := ((off_set w g _ _).trans (off_set _ g _ _)).trans (off_set _ g _ _)
 exact ⟨⟨h.P.off ho h.pg, h.R.set0 hi, h.B.off ho fun e => h.gb e.symm⟩, ho⟩
section
variable {w w' : World} {p m g n : Nat} {M : List (Kp × Value)} {r : Nat → Lk} {H : Kp → Nat} {S : Nat → Prop} {L : List (Kp × Int)}
theorem ChBK.gone (B : ChBK w p m g n M r (chAll L) H L.length S) (ok : ChOk n L) {k : Kp} {i : Nat} {l1 l2 : List Int} (hk : chAll L k = l1 ++ (i : Int) :: l2) {M' : List (Kp × Value)} (hm : mapP w' kv okk m M')
 (hM : M' = if (l1 ++ l2).length = 0 then M.filter (fun q => decide (q.1 ≠ k)) else M) {t : Int} (ht : t = (L.length : Int) - 1)
 (J : JAtK w' p m g n t (jCut r i (chLst l1) (chFst l2)) (H k) k (chFst (l1 ++ l2)) (chLst (l1 ++ l2)) ((l1 ++ l2).length : Int)) (ho : Off (ownK p m g (H k)) w w') : CLeft chRK w p S n (chRem L i) w' := by
 have hA := chAll_rem ok hk
 have hhas : chHas L (i : Int) = true := (chHas_all L i).2 ⟨k, by rw [hk]; simp⟩
 have hlen := chRem_len ok hhas
 refine ⟨S, (B.cut ok.A hk hA hm (fun j v => ?_) J ho).at (by rw [ht]; omega), fun x hx => .inl hx, ho.mono fun x _ e => ?_⟩
 · rw [hA j, hM]
   have hkn : chAll L k ≠ [] := by rw [hk]; simp
   by_cases h0 : (l1 ++ l2).length = 0
   · rw [if_pos h0, List.mem_filter, B.mp j v]
     by_cases e : j = k
     · subst e
       rw [if_pos rfl, List.eq_nil_of_length_eq_zero h0]
       simp
     · rw [if_neg e]; simp [e]
   · rw [if_neg h0, B.mp j v]
     by_cases e : j = k
     · subst e
       have : l1 ++ l2 ≠ [] := fun e2 => h0 (by rw [e2]; rfl)
       rw [if_pos rfl]
       exact ⟨fun h => ⟨this, h.2⟩, fun h => ⟨hkn, h.2⟩⟩
     · rw [if_neg e]
 · rcases e with e | e | e | e
   · rw [e]; exact B.sp
   · rw [e]; exact B.sm
   · rw [e]; exact B.sg
   · rw [e]; exact B.sh k (by rw [hk]; simp)
theorem jRemNoK (B : ChBK w p m g n M r (chAll L) H L.length S) (ok : ChOk n L) (i : Int) (hh : chHas L i = false) :
 Calls Try.prog 13 #[.pointer (some ⟨p, 0, none⟩), .int .i64 i] w fun e w' => e = .returned (.bool false) ∧ Below w.heap.size w w' := by
 have hlk := B.lkd2 ok i
 rw [hh] at hlk
 have HV := Lib.hid B
 clear B ok hh
 go_enter Try.func13, Try.ntmps13
 go_wp2_with (go_at_call 42; refine (jLinkedK HV.out.P HV.out.R i).mono ?_; rintro e w2 ⟨rfl, rfl⟩; rw [hlk])
 go_ret
 exact ⟨rfl, tr0 _⟩
theorem jRemYesK (B : ChBK w p m g n M r (chAll L) H L.length S) (ok : ChOk n L) (n1 : n ≤ 4096) (i : Nat) (hi : i < n) (hh : chHas L i = true) :
 Calls Try.prog 13 #[.pointer (some ⟨p, 0, none⟩), .int .i64 i] w fun e w' => e = .returned (.bool true) ∧ CLeft chRK w p S n (chRem L i) w' := by
 have hlk := B.lkd2 ok i
 rw [hh] at hlk
 have hir : 0 ≤ (i : Int) ∧ (i : Int) < n := by omega
 obtain ⟨k, l1, l2, hk, hr⟩ : ∃ k l1 l2, chAll L k = l1 ++ (i : Int) :: l2 ∧ r i = ⟨some (H k), chLst l1, chFst l2⟩ := by
  cases hx : (r i).h with
  | none => exact absurd ((chHas_all L i).1 hh) fun ⟨k, h⟩ => B.rep.of_none hx k h
  | some b =>
    obtain ⟨k, l1, l2, e, _, h⟩ := B.rep.of_some hi hx
    exact ⟨k, l1, l2, e, h⟩
 have hne : chAll L k ≠ [] := by rw [hk]; simp
 have HJ := Lib.hid (B.J hne)
 have hlen := ok.len
 have hll := chAll_le L k
 have hl12 : (chAll L k).length = (l1 ++ l2).length + 1 := by rw [hk]; simp; omega
 obtain ⟨N, hN⟩ : ∃ N, (l1 ++ l2).length = N := ⟨_, rfl⟩
 rw [hN] at hl12
 have hw1 : IntKind.i64.wrap (((chAll L k).length : Int) - 1) = (N : Int) := by rw [IntKind.wrap_i64]; omega
 have hw2 : IntKind.i64.wrap ((L.length : Int) - 1) = (L.length : Int) - 1 := by rw [IntKind.wrap_i64]; omega
 have HRG := Lib.hid (ok.A.rg k)
 have HA1 := Lib.hid (show ∀ x ∈ l1, 0 ≤ x from fun x hx => (HRG.out x (by rw [hk]; simp [hx])).1)
 have HA2 := Lib.hid (show ∀ x ∈ l2, 0 ≤ x from fun x hx => (HRG.out x (by rw [hk]; simp [hx])).1)
 have HP := Lib.hid (show chLst l1 = -1 ∨ 0 ≤ chLst l1 ∧ chLst l1 < n by
  by_cases e : l1 = []
  · rw [e]; exact .inl rfl
  · exact .inr (HRG.out _ (by rw [hk]; simp [chLst_mem e])))
 have HN := Lib.hid (show chFst l2 = -1 ∨ 0 ≤ chFst l2 ∧ chFst l2 < n by
  by_cases e : l2 = []
  · rw [e]; exact .inl rfl
  · exact .inr (HRG.out _ (by rw [hk]; simp [chFst_mem e])))
 have HW := Lib.hid B
 have HOK := Lib.hid ok
 have HK := Lib.hid hk
 have HKO := Lib.hid (B.map.oks (k, _) ((B.mp k _).2 ⟨hne, rfl⟩))
 have q0 : w.cell? ⟨g, i * 3, none⟩ = some (.pointer (some ⟨H k, 0, none⟩)) := by have := B.R.c0 hi; rw [hr] at this; exact this
 have q1 : w.cell? ⟨g, i * 3 + 1, none⟩ = some (.int .i64 (chLst l1)) := by have := B.R.c1 hi; rw [hr] at this; exact this
 have q2 : w.cell? ⟨g, i * 3 + 2, none⟩ = some (.int .i64 (chFst l2)) := by have := B.R.c2 hi; rw [hr] at this; exact this
 have HM := Lib.hid B.map
 have hpg := (B.J hne).pg
 have hg := B.R.lt
 have hp := B.P.lt
 have c1 := B.P.c1
 have HF := Lib.hid (show (if chLst l1 = -1 then chFst l2 else chFst (chAll L k)) = chFst (l1 ++ l2) by rw [hk]; exact fst_cut HA1.out _ _)
 have HE := Lib.hid (show (if chFst l2 = -1 then chLst l1 else chLst (chAll L k)) = chLst (l1 ++ l2) by rw [hk]; exact lst_cut _ _ HA2.out)
 obtain ⟨b, hb⟩ : ∃ b, H k = b := ⟨_, rfl⟩
 rw [hb] at HJ q0
 have hB := Lib.hid hb
 have HLN := Lib.hid hN
 clear B hh ok hne hk hr hb hN
 go_enter Try.func13, Try.ntmps13
 go_upto_region 4 with (go_at_call 42; refine (jLinkedK HW.out.P HW.out.R i).mono ?_; rintro e w2 ⟨rfl, rfl⟩; rw [hlk])
 have hB3 := trA (tr0 w) (oLkK b (chLst l1) (chFst l2))
 have HX3 := Lib.hid (blk_new w (oLkK b (chLst l1) (chFst l2)))
 have HM3 := Lib.hid (HM.out.below hB3 HM.out.lt)
 have HJ3 := Lib.hid (HJ.out.below hB3)
 have HO3 := Lib.hid (Off.ofBelow (S := ownK p m g b) hB3)
 have hxb : w.heap.size ≠ b := by have := HJ.out.B.lt; omega
 have hxg : w.heap.size ≠ g := by omega
 have hxp : w.heap.size ≠ p := by omega
 rw [show Obj.cells #[Value.pointer (some ⟨b, 0, none⟩), Value.int .i64 (chLst l1), Value.int .i64 (chFst l2)] tLkK (0, 0) = oLkK b (chLst l1) (chFst l2) from rfl]
 generalize w.alloc (oLkK b (chLst l1) (chFst l2)) = W3 at *
 generalize hxx : w.heap.size = x at *
 clear hB3 HM HJ q0 q1 q2 hg hp c1 hxx
 have hg := HJ3.out.R.lt
 have hp := HJ3.out.P.lt
 have c1 := HJ3.out.P.c1
 have q0 := HJ3.out.R.c0 hi
 have q1 := HJ3.out.R.c1 hi
 have q2 := HJ3.out.R.c2 hi
 have g0 := HJ3.out.R.free (i * 3)
 have g1 := HJ3.out.R.free (i * 3 + 1)
 have g2 := HJ3.out.R.free (i * 3 + 2)
 have h4 := HJ3.out.set0 hi
 have HX4 := Lib.hid (h4.2.at HX3.out hxg)
 have HJ4 := Lib.hid h4.1
 have HM4 := Lib.hid (HM3.out.off h4.2 (fun e => by obtain ⟨cur, hc, _⟩ := HJ3.out.R; exact mapP_neK HM3.out hc e))
 have HO4 := Lib.hid (HO3.out.trans (h4.2.mono fun y _ e => .inr (.inr (.inl e))))
 clear h4 HX3 HM3 HO3
 go_upto_region 5 with (fail)
 generalize (((W3.setCell ⟨g, i * 3, none⟩ (.pointer none)).setCell ⟨g, i * 3 + 1, none⟩ (.int .i64 0)).setCell ⟨g, i * 3 + 2, none⟩ (.int .i64 0)) = W4 at *
 clear hg hp c1 q0 q1 q2 g0 g1 g2 HJ3
 have d0 : W4.cell? ⟨x, 0, none⟩ = some (.pointer (some ⟨b, 0, none⟩)) := by rw [blk_cell HX4.out]; rfl
 have d1 : W4.cell? ⟨x, 1, none⟩ = some (.int .i64 (chLst l1)) := by rw [blk_cell HX4.out]; rfl
 have d2 : W4.cell? ⟨x, 2, none⟩ = some (.int .i64 (chFst l2)) := by rw [blk_cell HX4.out]; rfl
 have hx := lt_of_block HX4.out
 go_wp2_with fail
 refine (jJoinK HJ4.out (chLst l1) (chFst l2) HP.out HN.out).mono ?_
 rintro e W5 ⟨rfl, j5, o5⟩
 have HJ5 := Lib.hid (show JAtK W5 p m g n L.length (jCut r i (chLst l1) (chFst l2)) b k (chFst (l1 ++ l2)) (chLst (l1 ++ l2)) ((chAll L k).length : Int) from j5.as (fun _ _ => rfl) HF.out HE.out)
 have HX5 := Lib.hid (o5.at HX4.out (by rintro (e | e); exact hxg e; exact hxb e))
 have HM5 := Lib.hid (HM4.out.off o5 (by
  rintro (e | e)
  · obtain ⟨cur, hc, _⟩ := HJ4.out.R; exact mapP_neK HM4.out hc e
  · exact mapP_neK HM4.out HJ4.out.B e))
 have HO5 := Lib.hid (HO4.out.trans (o5.mono (T := ownK p m g b) fun y _ e => by
  rcases e with e | e
  · exact .inr (.inr (.inl e))
  · exact .inr (.inr (.inr e))))
 clear j5 o5 HJ4 HX4 HM4 HO4 d0 d1 d2 hx
 have d0 : W5.cell? ⟨x, 0, none⟩ = some (.pointer (some ⟨b, 0, none⟩)) := by rw [blk_cell HX5.out]; rfl
 have hx := lt_of_block HX5.out
 have hb := HJ5.out.B.lt
 have c3 := HJ5.out.B.c3
 have fb := HJ5.out.B.free 4
 have h6 := off_set W5 b 4 (.int .i64 N)
 have HJ6 := Lib.hid (HJ5.out.setC N)
 have HX6 := Lib.hid (h6.at HX5.out hxb)
 have HM6 := Lib.hid (HM5.out.off h6 (fun e => mapP_neK HM5.out HJ5.out.B e))
 have HO6 := Lib.hid (HO5.out.trans (h6.mono fun y _ e => .inr (.inr (.inr e))))
 clear h6
 go_upto_region 7 with (fail)
 generalize W5.setCell ⟨b, 4, none⟩ (.int .i64 N) = W6 at *
 clear d0 hx hb c3 fb HJ5 HX5 HM5 HO5
 have hp := HJ6.out.P.lt
 have ct := HJ6.out.P.c2
 have fp := HJ6.out.P.free 2
 have h7 := off_set W6 p 2 (.int .i64 ((L.length : Int) - 1))
 have HJ7 := Lib.hid (HJ6.out.setT ((L.length : Int) - 1))
 have HX7 := Lib.hid (h7.at HX6.out hxp)
 have HM7 := Lib.hid (HM6.out.off h7 (fun e => mapP_neK HM6.out HJ6.out.P e))
 have HO7 := Lib.hid (HO6.out.trans (h7.mono fun y _ e => .inl e))
 clear h7
 go_upto_region 8 with (fail)
 generalize W6.setCell ⟨p, 2, none⟩ (.int .i64 ((L.length : Int) - 1)) = W7 at *
 clear hp ct fp HJ6 HX6 HM6 HO6
 have d0 : W7.cell? ⟨x, 0, none⟩ = some (.pointer (some ⟨b, 0, none⟩)) := by rw [blk_cell HX7.out]; rfl
 have hx := lt_of_block HX7.out
 have hb := HJ7.out.B.lt
 have c3 := HJ7.out.B.c3
 by_cases h0 : N = 0
 · have hz : ((N : Int) == 0) = true := by rw [h0]; rfl
   have hp := HJ7.out.P.lt
   have c0 := HJ7.out.P.c0
   have k0 := HJ7.out.B.k0
   have k1 := HJ7.out.B.k1
   have H0 := Lib.hid h0
   clear h0
   go_upto_region 9 with (fail)
   have hgc := gcell
   have hgf := gfrozen
   refine wp_region_tail_below 9 (by kernel_rfl) (by kernel_rfl) ?_
   simp only [List.take_succ_cons, List.take_zero, List.drop_succ_cons, List.drop_zero]
   repeat (first | go_big_quiet_step (fail) | (refine wpQuiet_nil ?_))
   intro _ hw'
   obtain ⟨⟨dq, osq⟩, hw''⟩ := hw'
   subst hw''
   have hbb := below_regrown W7 dq osq
   have HJ8 := Lib.hid (HJ7.out.below hbb)
   have HM8 := Lib.hid (HM7.out.below hbb HM7.out.lt)
   have HO8 := Lib.hid (HO7.out.trans (Off.ofBelow hbb))
   clear hbb hgc hgf d0 hx hb c3 hp c0 k0 HX7 HJ7 HM7 HO7
   clear k1
   dsimp only at HJ8 HM8 HO8 ⊢
   generalize grow (redrawn W7 dq) osq = W8 at *
   go_wp2_with (at_delete; refine wpList_del keyK rfl _ _ _ rfl Try.underlying72 rfl HM8.out k rfl HKO.out ?_; intro w9 hm9 ho9; have HM9 := Lib.hid hm9; have HO9 := Lib.hid ho9; clear hm9 ho9)
   go_ret
   refine ⟨rfl, HW.out.gone HOK.out HK.out HM9.out ?_ rfl ?_ ?_⟩
   · rw [if_pos (HLN.out.trans H0.out)]
   · rw [HLN.out, hB.out]
     have hne : ∀ y, y = m → y ≠ p ∧ y ≠ g ∧ y ≠ b := by
      rintro y rfl
      obtain ⟨cur, hc, _⟩ := HJ8.out.R
      exact ⟨mapP_neK HM8.out HJ8.out.P, mapP_neK HM8.out hc, mapP_neK HM8.out HJ8.out.B⟩
     obtain ⟨e1, e2, e3⟩ := hne m rfl
     exact ⟨HJ8.out.P.off HO9.out (fun e => e1 e.symm), HJ8.out.R.kept (HO9.out.block g HJ8.out.R.lt fun e => e2 e.symm), HJ8.out.B.off HO9.out fun e => e3 e.symm⟩
   · rw [hB.out]
     exact HO8.out.trans (HO9.out.mono fun y _ e => .inr (.inl e))
 · have hz : ((N : Int) == 0) = false := by simp; omega
   have H0 := Lib.hid h0
   clear h0
   go_wp2_with fail
   go_ret
   refine ⟨rfl, HW.out.gone HOK.out HK.out HM7.out ?_ rfl ?_ ?_⟩
   · rw [if_neg (by rw [HLN.out]; exact H0.out)]
   · rw [HLN.out, hB.out]; exact HJ7.out
   · rw [hB.out]; exact HO7.out
end
theorem jRemoveK (w : World) (p : Nat) (S : Nat → Prop) (n : Nat) (L : List (Kp × Int)) (i : Int) (V : CIn okk chRK w p S n L) (hi : i64r i) :
 Calls Try.prog 13 #[.pointer (some ⟨p, 0, none⟩), .int .i64 i] w fun e w' => e = .returned (.bool (chHas L i)) ∧ CLeft chRK w p S n (chRem L i) w' := by
 obtain ⟨⟨m, g, M, r, H, B⟩, n0, n1, ok, ks⟩ := V
 cases hc : chHas L i with
 | false =>
   rw [chRem_no hc]
   refine (jRemNoK B ok i hc).mono ?_
   rintro e w' ⟨rfl, hb⟩
   exact ⟨rfl, chRK_asked (B.at rfl) hb⟩
 | true =>
   obtain ⟨h0, h1⟩ := chHas_rg ok hc
   obtain ⟨j, rfl⟩ := Int.eq_ofNat_of_zero_le h0
   exact jRemYesK B ok n1 j (by omega) hc
section
variable {κ : Type} {R : ChainR κ} {w w1 w2 : World} {p : Nat} {S S' : Nat → Prop} {n : Nat} {M M' : List (κ × Int)} {v : Value} {l : List Int}
theorem CTold.from (hb : Below w.heap.size w w1) (h : CTold R w1 p S n M l v w2) : CTold R w p S n M l v w2 := by
 obtain ⟨S', h1, h2, h3, h4, h5⟩ := h
 refine ⟨S', h1, fun k hk => ?_, (Off.ofBelow hb).trans h3, h4, fun g hg => ?_⟩
 · rcases h2 k hk with h | h
   · exact .inl h
   · exact .inr (Nat.le_trans hb.size h)
 · obtain ⟨a, b, c⟩ := h5 g hg
   exact ⟨Nat.le_trans hb.size a, b, c⟩
theorem CTold.step (hS : ∀ k, S' k → S k ∨ w.heap.size ≤ k) (ho : Off S w w1) (hR : RdI w1 v l) (hv : ∀ g, v.ownBlock = some g → w.heap.size ≤ g ∧ g < w1.heap.size ∧ ¬ S' g) (h : CLeft R w1 p S' n M' w2) : CTold R w p S n M' l v w2 := by
 obtain ⟨S2, h1, h2, h3⟩ := h
 refine ⟨S2, h1, fun k hk => ?_, ho.next h3 (fun i hi e => (hS i e).resolve_right (by omega)), hR.off h3 fun g hg => (hv g hg).2.2, fun g hg => ?_⟩
 · rcases h2 k hk with h | h
   · exact hS k h
   · exact .inr (Nat.le_trans ho.size h)
 · obtain ⟨a, b, c⟩ := hv g hg
   refine ⟨a, Nat.lt_of_lt_of_le b h3.size, fun e => ?_⟩
   rcases h2 g e with h | h
   · exact c h
   · omega
end
theorem ChOk.drop {κ : Type} [DecidableEq κ] {n : Nat} {L : List (κ × Int)} (h : ChOk n L) (l : List Int) : ChOk n (chDrop L l) := h.sub List.filter_sublist
set_option maxHeartbeats 3200000 in
theorem jTake (w : World) (p : Nat) (S : Nat → Prop) (n : Nat) (L : List (Kp × Int)) (k : Kp) (V : CIn okk chRK w p S n L) (hk : okk k) :
 Calls Try.prog 16 #[.pointer (some ⟨p, 0, none⟩), kv k] w fun e w' => ∃ v, e = .returned v ∧ CTold chRK w p S n (chTake L k) (chAll L k) v w' := by
 have HB := Lib.hid (trA (tr0 w) (.cells #[.int .i64 k.1, .int .i64 k.2] 27 (0, 0)))
 have HV := Lib.hid (show CIn okk chRK (w.alloc (.cells #[.int .i64 k.1, .int .i64 k.2] 27 (0, 0))) p S n L from ⟨chRK.below V.at_ HB.out, V.n0, V.n1, V.ok, V.ks⟩)
 have HE := Lib.hid (show chDrop L ((chAll L k).take (chAll L k).length) = chTake L k by rw [List.take_length]; exact chDrop_all V.ok k)
 have HPO := Lib.hid (V.ok.A.rg k)
 have hlen : (chAll L k).length ≤ 4096 := by have := chAll_le L k; have := V.ok.len; have := V.n1; omega
 clear V
 show Calls Try.prog _ #[_, .agg #[.int .i64 k.1, .int .i64 k.2]] w _
 go_enter Try.func16, Try.ntmps16
 go_wp2_with fail
 refine (jAllK _ p S n L k HV.out hk).mono ?_
 rintro e w2 ⟨v, rfl, ht⟩
 have HT := Lib.hid (show CTold chRK w p S n (chDrop L ((chAll L k).take 0)) (chAll L k) v w2 by rw [List.take_zero, chDrop_nil]; exact CTold.from HB.out ht)
 obtain ⟨_, _, _, _, ⟨y, cap, rfl, hcap, _⟩, _⟩ := ht
 clear HB
 have HV := Lib.hid (show 1 ≤ n ∧ n ≤ 4096 ∧ ChOk n L ∧ ∀ x ∈ L, okk x.1 from ⟨HV.out.n0, HV.out.n1, HV.out.ok, HV.out.ks⟩)
 generalize hl : chAll L k = l at *
 go_wp2_with fail
 go_loopw [13] (fun x wr => ∃ j, j ≤ l.length ∧ x = .int .i64 (j : Nat) ∧ Hid (CTold chRK w p S n (chDrop L (l.take j)) l (.slice y l.length cap) wr)) (fun x wr => l.length - (intOf x).toNat)
 case atStart => exact ⟨0, Nat.zero_le _, rfl, HT⟩
 case round =>
  clear HT
  obtain ⟨j, hj, rfl, HT⟩ := hrel
  by_cases hjl : j < l.length
  · obtain ⟨x, hx⟩ : ∃ x, l[j]? = some x := ⟨_, List.getElem?_eq_getElem hjl⟩
    obtain ⟨S', h1, h2, h3, h4, h5⟩ := HT.out
    have hR := h4
    obtain ⟨y', cap', e, _, _, hg⟩ := h4
    cases e
    have hne : l ≠ [] := fun e => by rw [e] at hjl; cases hjl
    obtain ⟨g, off, rfl, hgl, hc⟩ := hg.resolve_left hne
    have hcx := hc j x hx
    have hjr : 0 ≤ (j : Int) ∧ (j : Int) < (l.length : Nat) := by omega
    have hlt : (j : Int) < (l.length : Nat) := hjr.2
    have HX := Lib.hid (HPO.out x (List.mem_of_getElem? hx))
    have HS := Lib.hid (fun w3 (h : CLeft chRK wr p S' n (chRem (chDrop L (l.take j)) x) w3) => show CTold chRK w p S n (chDrop L (l.take (j + 1))) l (.slice (some ⟨g, off, none⟩) l.length cap) w3 by
     have h := CTold.step h2 h3 hR h5 h
     rw [chDrop_snoc, show l.take j ++ [x] = l.take (j + 1) by rw [List.take_add_one, hx]; rfl] at h
     exact h)
    have HI := Lib.hid (show CIn okk chRK wr p S' n (chDrop L (l.take j)) from ⟨h1, HV.out.1, HV.out.2.1, HV.out.2.2.1.drop _, fun z hz => HV.out.2.2.2 z (List.mem_filter.1 hz).1⟩)
    have hw : IntKind.i64.wrap ((j : Int) + 1) = (j : Int) + 1 := by rw [IntKind.wrap_i64]; omega
    clear HT h1 h2 h3 h5 hR hg hc hne hx
    go_wp2_with (go_at_call 13; refine (jRemoveK _ p S' n _ x HI.out (by have h := HX.out; have := HV.out.2.1; unfold i64r; omega)).mono ?_; rintro e w3 ⟨rfl, h⟩; have HN := Lib.hid (HS.out w3 h); clear h)
    go_roundw
    case rel => exact ⟨j + 1, hjl, by go_num, HN⟩
    case measure => simp [intOf]; omega
  · have hje : j = l.length := by omega
    have hnl : ¬ (j : Int) < (l.length : Nat) := by omega
    have HD := Lib.hid (show CTold chRK w p S n (chTake L k) l (.slice y l.length cap) wr by have h := HT.out; rw [hje, HE.out] at h; exact h)
    clear HT hje hjl hj
    go_wp2_with fail
    go_ret
    exact ⟨_, rfl, HD.out⟩
attribute [local go_sem] Oper.semAt_some
theorem nHas (i : Int) (w : World) : Calls Try.prog 49 #[.pointer none, .int .i64 i] w fun e w' => e = .returned (.bool false) ∧ w = w' := by
 go_enter Try.func49, Try.ntmps49
 go_wp2_with fail
 go_ret
 exact ⟨rfl, rfl⟩
theorem nLinked (i : Int) (w : World) : Calls Try.prog 47 #[.pointer none, .int .i64 i] w fun e w' => e = .returned (.bool false) ∧ w = w' := by
 go_enter Try.func47, Try.ntmps47
 go_wp2_with (go_at_call 49; refine (nHas i _).mono ?_; rintro e w1 ⟨rfl, rfl⟩)
 go_ret
 exact ⟨rfl, rfl⟩
theorem nDef (p1 p2 : Addr) (w : World) : CallsD Try.prog 65 #[.pointer (some p1), .pointer (some p2)] .returning w fun e u' w' => e = .returned (.tuple #[]) ∧ u' = .returning ∧ w' = w := by
 refine callsD_of_wpS Try.func65 rfl fun c₀ cs hu => ?_
 apply wpS_seq
 apply wpS_region
 simp [wpOpsS, go_sem, recoverD, hu, Try.ntmps65, Exit.thenS]
 refine wpS_cond (t := false) (by simp [Act.eval, Array.replicate]) ?_
 simp only [Bool.false_eq_true, if_false]
 refine wpS_of_wp (wp_skip ?_)
 cases c₀
 simp_all [bodyPostS, results, Try.results65]
theorem nfind_ret {Y : World} {tmps : Array Value} {x y : Nat} (h4 : tmps[4]? = some (.pointer (some ⟨x, 0, none⟩))) (h5 : tmps[5]? = some (.pointer (some ⟨y, 0, none⟩)))
 (hx : Y.heap[x]? = some (.cells #[.pointer none] 84 (0, 0))) (hy : Y.heap[y]? = some (.cells #[.bool false] 4 (0, 0))) {Q : World → Prop} (hQ : Q Y) :
 bodyPostD Try.prog Try.f48 (fun e' w' => e' = .returned (.tuple #[.pointer none, .bool false]) ∧ Q w') Exit.ret { tmps := tmps, defers := [{ target := Target.fn (Fn.func 65) #[.pointer (some ⟨x, 0, none⟩), .pointer (some ⟨y, 0, none⟩)], args := #[] }] } Y := by
 have hy1 := blk_cell hx 0
 have hy2 := blk_cell hy 0
 simp at hy1 hy2
 refine leaves_cons (f := 65) (args := #[.pointer (some ⟨x, 0, none⟩), .pointer (some ⟨y, 0, none⟩)]) (by simp) (by simp [go_sem]) ?_
 refine (nDef ⟨x, 0, none⟩ ⟨y, 0, none⟩ _).mono ?_
 rintro e u' w'' ⟨rfl, rfl, rfl⟩
 simp [Leaves, settle, results, Try.results48, go_sem, h4, h5, hy1, hy2]
 exact hQ
theorem nFind (k : Int) (w : World) : Calls Try.prog 48 #[.pointer none, .int .i64 k] w fun e w' => e = .returned (.tuple #[.pointer none, .bool false]) ∧ Below w.heap.size w w' := by
 have hmf : ∀ (fn : Fn) (first cap : Array Value) (w : World), (Instr.makeFunc fn first cap).run Try.prog w = .ok (.func fn first cap) w := fun _ _ _ _ => rfl
 have HX := Lib.hid (b2_0 w (.cells #[.pointer none] 84 (0, 0)) (.cells #[.bool false] 4 (0, 0)))
 have HY := Lib.hid (b2_1 w (.cells #[.pointer none] 84 (0, 0)) (.cells #[.bool false] 4 (0, 0)))
 have HB := Lib.hid (trA (trA (tr0 w) (.cells #[.pointer none] 84 (0, 0))) (.cells #[.bool false] 4 (0, 0)))
 go_enter_defers Try.func48, Try.ntmps48
 go_upto_region 3 with (fail)
 generalize ((w.alloc (.cells #[.pointer none] 84 (0, 0))).alloc (.cells #[.bool false] 4 (0, 0))) = W at *
 have hX := HX.out
 have hY := HY.out
 have f1 := blk_free hX 0
 have f2 := blk_free hY 0
 have g1 := blk_cell hX 0
 have g2 := blk_cell hY 0
 simp only [List.getElem?_toArray, List.getElem?_cons_zero, List.getElem?_cons_succ] at g1 g2
 have l1 := lt_of_block hX
 have l2 := lt_of_block hY
 clear hX hY
 go_wp2_with fail
 refine nfind_ret (by rfl) (by rfl) ?_ ?_ ?_
 · exact blk_else (blk_set HX.out 0 _) _ _ _ (by omega)
 · exact blk_set (blk_else HY.out _ _ _ (by omega)) 0 _
 · exact (HB.out.setCell (p := ⟨w.heap.size, 0, none⟩) (Nat.le_refl _) _).setCell (p := ⟨w.heap.size + 1, 0, none⟩) (Nat.le_add_right _ _) _
theorem nKey (i : Int) (w : World) : Calls Try.prog 24 #[.pointer none, .int .i64 i] w fun e w' => e = .returned (.tuple #[.int .i64 0, .bool false]) ∧ Below w.heap.size w w' := by
 go_enter Try.func24, Try.ntmps24
 go_wp2_with (go_at_call 47; refine (nLinked i _).mono ?_; rintro e w1 ⟨rfl, rfl⟩)
 go_ret2
 exact ⟨rfl, tr0 _⟩
theorem nPush (k i : Int) (w : World) : Calls Try.prog 25 #[.pointer none, .int .i64 k, .int .i64 i] w fun e w' => e = .returned (.bool false) ∧ Below w.heap.size w w' := by
 go_enter Try.func25, Try.ntmps25
 go_wp2_with (go_at_call 48; refine (nFind k _).mono ?_; rintro e w1 ⟨rfl, hb⟩; have HB := Lib.hid hb; clear hb)
 go_ret
 exact ⟨rfl, HB.out⟩
theorem nRemove (i : Int) (w : World) : Calls Try.prog 26 #[.pointer none, .int .i64 i] w fun e w' => e = .returned (.bool false) ∧ Below w.heap.size w w' := by
 go_enter Try.func26, Try.ntmps26
 go_wp2_with (go_at_call 47; refine (nLinked i _).mono ?_; rintro e w1 ⟨rfl, rfl⟩)
 go_ret
 exact ⟨rfl, tr0 _⟩
theorem nFirst (k : Int) (w : World) : Calls Try.prog 27 #[.pointer none, .int .i64 k] w fun e w' => e = .returned (.int .i64 (-1)) ∧ Below w.heap.size w w' := by
 go_enter Try.func27, Try.ntmps27
 go_wp2_with (go_at_call 48; refine (nFind k _).mono ?_; rintro e w1 ⟨rfl, hb⟩; have HB := Lib.hid hb; clear hb)
 go_ret
 exact ⟨rfl, HB.out⟩
theorem nNext (i : Int) (w : World) : Calls Try.prog 28 #[.pointer none, .int .i64 i] w fun e w' => e = .returned (.int .i64 (-1)) ∧ Below w.heap.size w w' := by
 go_enter Try.func28, Try.ntmps28
 go_wp2_with (go_at_call 47; refine (nLinked i _).mono ?_; rintro e w1 ⟨rfl, rfl⟩)
 go_ret
 exact ⟨rfl, tr0 _⟩
theorem nLen (k : Int) (w : World) : Calls Try.prog 31 #[.pointer none, .int .i64 k] w fun e w' => e = .returned (.int .i64 0) ∧ Below w.heap.size w w' := by
 go_enter Try.func31, Try.ntmps31
 go_wp2_with (go_at_call 48; refine (nFind k _).mono ?_; rintro e w1 ⟨rfl, hb⟩; have HB := Lib.hid hb; clear hb)
 go_ret
 exact ⟨rfl, HB.out⟩
theorem nTotal (w : World) : Calls Try.prog 32 #[.pointer none] w fun e w' => e = .returned (.int .i64 0) ∧ Below w.heap.size w w' := by
 go_enter Try.func32, Try.ntmps32
 go_wp2_with fail
 go_ret
 exact ⟨rfl, tr0 _⟩
theorem nCopy (w : World) : Calls Try.prog 33 #[.pointer none] w fun e w' => e = .returned (.pointer none) ∧ Below w.heap.size w w' := by
 refine calls_marksJ Try.func33 rfl ?_
 simp only [Try.ntmps33, List.size_toArray, List.length_cons, List.length_nil, Nat.reduceAdd, Nat.reduceSub, Array.replicate_succ, Array.replicate_zero, List.push_toArray, List.append_toArray, List.nil_append, List.cons_append]
 go_wp2_with fail
 exact ⟨_, results_tmp rfl _ _ _, rfl, tr0 _⟩
theorem nFrom (i : Int) (w : World) : Calls Try.prog 52 #[.pointer none, .int .i64 i] w
 fun e w' => ∃ bi bc, e = .returned (.func (.func 67) #[] #[.pointer (some ⟨bi, 0, none⟩), .pointer (some ⟨bc, 0, none⟩)]) ∧ OneAt 3 w' bi (.int .i64 i) ∧ Below w.heap.size w w' := by
 have hmf : ∀ (fn : Fn) (first cap : Array Value) (w : World), (Instr.makeFunc fn first cap).run Try.prog w = .ok (.func fn first cap) w := fun _ _ _ _ => rfl
 have H1 := Lib.hid (b2_1 w (.cells #[.pointer none] 51 (0, 0)) (.cells #[.int .i64 i] 3 (0, 0)))
 have HB := Lib.hid (trA (trA (tr0 w) (.cells #[.pointer none] 51 (0, 0))) (.cells #[.int .i64 i] 3 (0, 0)))
 go_enter Try.func52, Try.ntmps52
 go_wp2_with fail
 go_ret
 exact ⟨_, _, rfl, H1.out, HB.out⟩
theorem nFrom1 (bi bc l : Nat) (w : World) (hi : OneAt 3 w bi (.int .i64 (-1))) : Calls Try.prog 67 #[.func (.yield l) #[] #[], .pointer (some ⟨bi, 0, none⟩), .pointer (some ⟨bc, 0, none⟩)] w fun e w' => (∃ v, e = .returned v) ∧ w = w' := by
 have ci := hi.c
 have li := hi.lt
 clear hi
 go_enter Try.func67, Try.ntmps67
 go_wp2_with fail
 refine wp_loop_rounds 1 ?_
 rw [rounds_succ]
 go_wp2_with fail
 go_end0
 exact ⟨⟨_, rfl⟩, rfl⟩
theorem rfNone {g : Operand} {ps : Array Tmp} {assign body : Code} {Q : Exit → Act → World → Prop} {a : Act} {w : World} (bi bc : Nat) (hi : OneAt 3 w bi (.int .i64 (-1)))
 (hg : a.eval g = .func (.func 67) #[] #[.pointer (some ⟨bi, 0, none⟩), .pointer (some ⟨bc, 0, none⟩)])
 (hdone : ∀ (W : World), Below w.heap.size w W → W.heap[w.heap.size]? = some (.deferred (some [])) → Q .normal { a with defers := { target := .collected w.heap.size, args := #[] } :: a.defers } W) :
 (Code.rangeFunc g ps assign body).wpIn Fence.wide 3 Try.prog Q a w := by
 refine wpIn_rangeFunc ?_
 intro fn hfn
 rw [show Fence.wide.round = none from rfl]
 obtain ⟨rec, hrec⟩ : ∃ rec : LoopState → Option Code → Loop, rec = fun st pe => { state := st, pending := pe, fn, tmps := a.tmps, params := ps, assign, body, defers := w.heap.size } := ⟨_, rfl⟩
 obtain ⟨W1, hW1⟩ : ∃ W1, (w.alloc (.deferred (some []))).alloc (.loop (rec .ready none)) = W1 := ⟨_, rfl⟩
 have hb1 : Below w.heap.size w W1 := by rw [← hW1]; exact trA (trA (tr0 w) _) _
 have hL1 : W1.heap[w.heap.size + 1]? = some (.loop (rec .ready none)) := by
  rw [← hW1]; have := World.alloc_heap_new (w.alloc (.deferred (some []))) (.loop (rec .ready none)); rwa [World.size_alloc] at this
 have hK1 : W1.heap[w.heap.size]? = some (.deferred (some [])) := by
  rw [← hW1]; exact (Below.heap_alloc _ _ _ (by simp)).trans (World.alloc_heap_new w _)
 refine ⟨w.heap.size + 1, [{ target := .collected w.heap.size, args := #[] }], W1, { target := .fn (.func 67) #[.pointer (some ⟨bi, 0, none⟩), .pointer (some ⟨bc, 0, none⟩)], args := #[.func (.yield (w.heap.size + 1)) #[] #[]] }, W1, 67,
  #[.func (.yield (w.heap.size + 1)) #[] #[]] ++ #[.pointer (some ⟨bi, 0, none⟩), .pointer (some ⟨bc, 0, none⟩)], W1, ?_, ?_, ?_, ?_, (fun h => (by cases h)), ?_⟩
 · rw [← hW1, hrec]; exact run_enterLoop_outer _ _ _ _ _
 · simp only [resolve, hg]
   simp [go_sem]
 · intro f' hf'; exact trivial
 · simp [invoke, go_sem, enters_of Try.func67 (by kernel_rfl) rfl]
 · refine (callsIn_wide.2 (nFrom1 bi bc (w.heap.size + 1) W1 (hi.below hb1))).mono ?_
   rintro e W2 ⟨⟨v, rfl⟩, rfl⟩
   refine ⟨none, _, by have := run_endLoop (P := Try.prog) hL1 (by rw [hrec]; simp); rw [hrec] at this; exact this, hdone _ ?_ ((World.putObj_heap_other (by omega)).trans hK1)⟩
   exact Off.toBelow hb1 (joff_put (S := fun r => r = w.heap.size + 1) W1 (w.heap.size + 1) _ rfl) (fun j hj e => by omega) (Nat.le_refl _)
set_option maxHeartbeats 3200000 in
theorem nAll (k : Int) (w : World) : Calls Try.prog 29 #[.pointer none, .int .i64 k] w fun e w' => e = .returned (.slice none 0 0) ∧ Below w.heap.size w w' := by
 have HB := Lib.hid (trA (tr0 w) (.cells #[.slice none 0 0] 38 (0, 0)))
 have HS := Lib.hid (show OneAt 38 (w.alloc (.cells #[.slice none 0 0] 38 (0, 0))) w.heap.size (.slice none 0 0) from blk_new w _)
 refine calls_marksJ Try.func29 rfl ?_
 simp only [Try.ntmps29, List.size_toArray, List.length_cons, List.length_nil, Nat.reduceAdd, Nat.reduceSub, Array.replicate_succ, Array.replicate_zero, List.push_toArray, List.append_toArray, List.nil_append, List.cons_append]
 go_upto_region 2 with (fail)
 generalize w.alloc (.cells #[.slice none 0 0] 38 (0, 0)) = W at *
 go_wp2_with (first
  | (go_at_call 27; refine (nFirst k _).mono ?_; rintro e w1 ⟨rfl, hb⟩; have HS := Lib.hid (HS.out.below hb); have HB := Lib.hid (tr HB.out hb); clear hb)
  | (go_at_call 52; refine (nFrom _ _).mono ?_; rintro e w2 ⟨bi, bc, rfl, hx, hb⟩; have HI := Lib.hid hx; have HS := Lib.hid (HS.out.below hb); have HB := Lib.hid (tr HB.out hb); clear hb hx))
 refine (wpIn_wide (n := 3)).1 ?_
 refine rfNone bi bc HI.out rfl ?_
 intro W2 hb hK
 have HZ := Lib.hid (show w.heap.size ≤ w2.heap.size from HB.out.size)
 have HS := Lib.hid (HS.out.below hb)
 have HB := Lib.hid (tr HB.out hb)
 clear hb
 have c := HS.out.c
 have f := HS.out.free
 have l1 := HS.out.lt
 have hl := HB.out.size
 go_wp2_with fail
 refine ⟨by simp, .inl ⟨_, _, rfl, run_takeDeferred hK, ?_⟩⟩
 refine ⟨_, results_tmp rfl _ _ _, rfl, ?_⟩
 exact Off.toBelow HB.out (joff_put (S := fun r => r = w2.heap.size) W2 w2.heap.size (.deferred none) rfl) (fun j hj e => by have := HZ.out; omega) (Nat.le_refl _)
set_option maxHeartbeats 3200000 in
theorem nTake (k : Int) (w : World) : Calls Try.prog 30 #[.pointer none, .int .i64 k] w fun e w' => e = .returned (.slice none 0 0) ∧ Below w.heap.size w w' := by
 go_enter Try.func30, Try.ntmps30
 go_wp2_with fail
 refine (nAll k w).mono ?_
 rintro e w1 ⟨rfl, hb⟩
 go_wp2_with fail
 refine wp_loop_rounds 1 ?_
 rw [rounds_succ]
 go_wp2_with fail
 go_ret
 exact ⟨rfl, hb⟩
theorem chainN : ChainN where
 key w i _ := nKey i w
 push w k i _ _ := nPush k i w
 remove w i _ := nRemove i w
 first w k _ := nFirst k w
 next w i _ := nNext i w
 all w k _ := (nAll k w).mono fun e w' h => ⟨_, _, h.1, h.2⟩
 take w k _ := (nTake k w).mono fun e w' h => ⟨_, _, h.1, h.2⟩
 len w k _ := nLen k w
 total w := nTotal w
 copy w := nCopy w
end Go.Proofs.Ytopkmjiilnoeeaa.B
