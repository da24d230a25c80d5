/- Several texts in one: The law OccGoes: from slot to slot by Next. The law OccTells: what is told of any map, and what is taken in one of several. -/
import Derived.Test.YtgfoeiikocpmdaaZAad
import Derived.Test.YtgfoeiikocpmdaaZAaf
import Derived.Test.YtgfoeiikocpmdaaZAag
import Derived.Test.YtgfoeiikocpmdaaZAah
import Derived.Deep.Cut
import Derived.Deep.RegionHeld
namespace Go.Proofs.Ytgfoeiikocpmdaa.B
set_option linter.unusedVariables false
set_option linter.unusedSimpArgs false
set_option maxRecDepth 100000
open Go.ChangeShapes Go.WideShapes Go.RowKit Go.Sort
def gap15 (n a : Int) (s : Nat) : Prop := ∀ q : Nat, a < (q : Int) → q < s → bit n q = false
theorem gap15.first_ge {n a : Int} {s : Nat} (h : gap15 n a s) (a0 : -1 ≤ a) (hs : s ≤ 64) : first n (a + 1) = -1 ∨ (s : Int) ≤ first n (a + 1) := by
 have key : ∀ (k i : Nat), i + k = 64 → (∀ q : Nat, a + 1 ≤ (q : Int) → q < i → bit n q = false) → firstB n (a + 1) k i = -1 ∨ (s : Int) ≤ firstB n (a + 1) k i := by
  intro k
  induction k with
  | zero => intro i _ _; exact .inl rfl
  | succ k ih =>
    intro i hi hq
    unfold firstB
    split
    · rename_i hb
      refine .inr ?_
      rcases Nat.lt_or_ge i s with hlt | hge
      · have := h i (by omega) hlt
        rw [this] at hb
        exact absurd hb.2 (by decide)
      · omega
    · rename_i hb
      refine ih (i + 1) (by omega) fun q h1 h2 => ?_
      by_cases e : q = i
      · subst e
        cases hx : bit n q
        · rfl
        · exact absurd ⟨h1, hx⟩ hb
      · exact hq q h1 (by omega)
 exact key 64 0 (by omega) fun q _ h2 => by omega
theorem gap15.first_at {n a : Int} {s : Nat} (h : gap15 n a s) (a0 : -1 ≤ a) (ha : a < (s : Int)) (hs : s < 64) (hb : bit n s = true) : first n (a + 1) = s :=
 first_some n (a + 1) s (fun q h1 h2 => h q (by omega) h2) (by omega) hs hb
theorem gap15.first_no {n a : Int} (h : gap15 n a 64) : first n (a + 1) = -1 := first_none n (a + 1) 64 (fun q h1 h2 => h q (by omega) h2) (by omega)
theorem gap15.skip {n a : Int} {s : Nat} (h : gap15 n a s) (hb : bit n s = false) : gap15 n a (s + 1) := fun q h1 h2 => by
 by_cases e : q = s
 · rw [e]; exact hb
 · exact h q h1 (by omega)
theorem gap15.here (n : Int) (s : Nat) : gap15 n (s : Int) (s + 1) := fun q h1 h2 => by omega
set_option maxHeartbeats 6400000 in
theorem occGoes (H : OccC) (w : World) (m : Nat → Int) (hm : okM m) (lv : Int) :
 Calls Try.prog 5 #[.agg (ol m).toArray, .int .i64 lv] w fun e w' => e = .returned (.bool true) ∧ Below w.heap.size w w' := by
 obtain ⟨k, hK, hk⟩ : ∃ k : Nat, wrap64 ((IntKind.u64.wrap lv).tmod 8) = (k : Int) ∧ k < 8 := by
  have h0 : 0 ≤ IntKind.u64.wrap lv ∧ IntKind.u64.wrap lv < 18446744073709551616 := by
   have := bounds_u64 (wf_wrap .u64 lv)
   omega
  refine ⟨((IntKind.u64.wrap lv) % 8).toNat, ?_, by omega⟩
  rw [Int.tmod_eq_emod_of_nonneg h0.1]
  unfold wrap64
  omega
 have CN := Lib.hid (fun f w (hf : i64r f) => by have := H.next m k f w hm (by unfold i64r; omega) hf; rw [mnext_at m k f hk] at this; exact this)
 have CH := Lib.hid (fun (s : Nat) w (hs : s < 64) => by have := H.has m k s w hm (by unfold i64r; omega) (by unfold i64r; omega); rw [mhas_at m k s hk hs] at this; exact this)
 have CK := Lib.hid (fun w => ocKnown H w)
 have HK := Lib.hid hK
 have HM := Lib.hid (show OAt tOM (w.alloc (oO tOM m)) w.heap.size m from blk_new w _)
 have HB := Lib.hid (trA (tr0 w) (oO tOM m))
 generalize m k = n at *
 clear hm hK H
 go_enter Try.func5, Try.ntmps5
 go_upto_region 1 with (fail)
 rw [show Obj.cells (ol m).toArray 24 (0, 0) = oO tOM m from rfl]
 generalize w.alloc (oO tOM m) = W at *
 go_upto_region 2 with (fail)
 simp only [HK.out]
 clear HK
 go_wp2_with fail
 go_loopw [5, 6] (fun x i wr => ∃ (s : Nat) (a : Int), s ≤ 64 ∧ -1 ≤ a ∧ a < (s : Int) ∧ i = .int .i64 s ∧ x = .int .i64 a ∧ Hid (gap15 n a s) ∧ Hid (OAt tOM wr w.heap.size m) ∧ Hid (Below w.heap.size w wr)) (fun x i wr => 64 - (intOf i).toNat)
 case atStart => exact ⟨0, -1, by omega, by omega, by omega, rfl, rfl, Lib.hid (fun q h1 h2 => by omega), HM, HB⟩
 case round =>
  clear HM HB
  obtain ⟨s, a, hs, ha0, has, rfl, rfl, HG, HM, HB⟩ := hrel
  have hw1 : IntKind.i64.wrap (a + 1) = a + 1 := by rw [IntKind.wrap_i64]; omega
  by_cases hlt : s < 64
  · have CHS := Lib.hid (fun w => CH.out s w hlt)
    cases hv : bit n s
    · rw [hv] at CHS
      have HGS := Lib.hid (HG.out.skip hv)
      obtain ⟨F, hF⟩ : ∃ F, first n (a + 1) = F := ⟨_, rfl⟩
      have HFG := Lib.hid (show F = -1 ∨ (s : Int) ≤ F from hF ▸ HG.out.first_ge ha0 hs)
      have CF := Lib.hid (fun w => by have := CN.out (a + 1) w (by unfold i64r; omega); rw [hF] at this; exact this)
      clear hv hF HG
      by_cases hg : F < (s : Int)
      · have g0 : decide (F < (s : Int)) = true := decide_eq_true hg
        have g1 : decide ((0 : Int) ≤ F) = false := decide_eq_false (by rcases HFG.out with e | e <;> omega)
        clear hg
        go_wp2_with (first
        | (refine ldOM rfl (.tmp 2) rfl rfl HM.out ?_)
        | (refine ldOMg (.tmp 2) rfl (by kernel_rfl) rfl HM.out ?_)
        | (go_at_call 14; refine (CF.out _).mono ?_; rintro e w1 ⟨rfl, hb⟩; have HM := Lib.hid (HM.out.below hb); have HB := Lib.hid (tr HB.out hb); clear hb)
        | (go_at_call 13; refine (CHS.out _).mono ?_; rintro e w2 ⟨rfl, hb⟩; have HM := Lib.hid (HM.out.below hb); have HB := Lib.hid (tr HB.out hb); clear hb)
        | (go_at_call 10; refine (CK.out _).mono ?_; rintro e w3 ⟨rfl, hb⟩; have HM := Lib.hid (HM.out.below hb); have HB := Lib.hid (tr HB.out hb); clear hb))
        go_roundw
        case rel => exact ⟨s + 1, a, by omega, by omega, by omega, by go_num, rfl, HGS, HM, HB⟩
        case measure => simp [intOf]; omega
      · have g0 : decide (F < (s : Int)) = false := decide_eq_false hg
        clear hg
        go_wp2_with (first
        | (refine ldOM rfl (.tmp 2) rfl rfl HM.out ?_)
        | (go_at_call 14; refine (CF.out _).mono ?_; rintro e w1 ⟨rfl, hb⟩; have HM := Lib.hid (HM.out.below hb); have HB := Lib.hid (tr HB.out hb); clear hb)
        | (go_at_call 13; refine (CHS.out _).mono ?_; rintro e w2 ⟨rfl, hb⟩; have HM := Lib.hid (HM.out.below hb); have HB := Lib.hid (tr HB.out hb); clear hb)
        | (go_at_call 10; refine (CK.out _).mono ?_; rintro e w3 ⟨rfl, hb⟩; have HM := Lib.hid (HM.out.below hb); have HB := Lib.hid (tr HB.out hb); clear hb))
        go_roundw
        case rel => exact ⟨s + 1, a, by omega, by omega, by omega, by go_num, rfl, HGS, HM, HB⟩
        case measure => simp [intOf]; omega
    · rw [hv] at CHS
      have CF := Lib.hid (fun w => by have := CN.out (a + 1) w (by unfold i64r; omega); rw [HG.out.first_at ha0 has hlt hv] at this; exact this)
      have g0 : decide ((s : Int) < (s : Int)) = false := decide_eq_false (Int.lt_irrefl _)
      have g1 : ((s : Int) != (s : Int)) = false := bne_self_eq_false _
      clear hv HG
      go_wp2_with (first
       | (refine ldOM rfl (.tmp 2) rfl rfl HM.out ?_)
       | (go_at_call 14; refine (CF.out _).mono ?_; rintro e w1 ⟨rfl, hb⟩; have HM := Lib.hid (HM.out.below hb); have HB := Lib.hid (tr HB.out hb); clear hb)
       | (go_at_call 13; refine (CHS.out _).mono ?_; rintro e w2 ⟨rfl, hb⟩; have HM := Lib.hid (HM.out.below hb); have HB := Lib.hid (tr HB.out hb); clear hb)
       | (go_at_call 10; refine (CK.out _).mono ?_; rintro e w3 ⟨rfl, hb⟩; have HM := Lib.hid (HM.out.below hb); have HB := Lib.hid (tr HB.out hb); clear hb))
      go_roundw
      case rel => exact ⟨s + 1, (s : Int), by omega, by omega, by omega, by go_num, rfl, Lib.hid (gap15.here n s), HM, HB⟩
      case measure => simp [intOf]; omega
  · obtain rfl : s = 64 := by omega
    have CF := Lib.hid (fun w => by have := CN.out (a + 1) w (by unfold i64r; omega); rw [HG.out.first_no] at this; exact this)
    have CHS := CK
    go_wp2_with (first
     | (refine ldOMg (.tmp 2) rfl (by kernel_rfl) rfl HM.out ?_)
     | (go_at_call 14; refine (CF.out _).mono ?_; rintro e w1 ⟨rfl, hb⟩; have HM := Lib.hid (HM.out.below hb); have HB := Lib.hid (tr HB.out hb); clear hb)
     | (go_at_call 10; refine (CK.out _).mono ?_; rintro e w3 ⟨rfl, hb⟩; have HM := Lib.hid (HM.out.below hb); have HB := Lib.hid (tr HB.out hb); clear hb))
    go_ret
    exact ⟨rfl, HB.out⟩
theorem rldOT {o : Oper} {f : Operand → Value} {w : World} {b : Nat} {g : Nat → Bool} (y : Operand) (ho : o.op = .load 27 y) (hx : f y = .pointer (some ⟨b, 0, none⟩)) (hg : TbAt w b g) : (execOp f o).run Try.prog w = .ok (.value (.agg (tl g).toArray)) w :=
 run_load_part _ y ho b 0 hx _ (tl g) hg Try.underlying27 rfl (by rw [tl_len]; exact iOT) (part_all _)
theorem eqPr (a b : Int) (w : World) : (Op.equalIn 10000 45 (.agg #[.int .i64 a, .int .i64 b]) (.agg #[.int .i64 a, .int .i64 b])).run Try.prog w = .ok true w := by
 have hi : (Try.prog.info? 3).isSome = true := by kernel_rfl
 obtain ⟨i, hi⟩ := Option.isSome_iff_exists.1 hi
 have hc : Try.prog.cellsOf 3 = 1 := by kernel_rfl
 have h := run_equalIn_array w 9999 (i := i) #[.int .i64 a, .int .i64 b] #[.int .i64 a, .int .i64 b] Try.underlying45 hi
 rw [hc] at h
 have g := eqItems_ints 9998 3 .i64 Try.underlying3 [a, b] [a, b] w (List.range 2) (by intro i hi; simpa using hi)
 have r := all_range [a, b] [a, b] rfl
 rw [show eqs [a, b] [a, b] = true by unfold eqs; exact beq_self_eq_true _] at r
 exact (h.trans g).trans (congrArg (fun b => Result.ok b w) r)
theorem cutM (y : Option Addr) (len cap n : Nat) (hn : n ≤ len) (hc : len ≤ cap) (w : World) : (Instr.slice 38 (.slice y len cap) none (some (.int .i64 n)) none).run Try.prog w = .ok (.slice y n cap) w := by
 have hel : Try.prog.elem 38 = tOM := by kernel_rfl
 have hs : ∀ w, (sizeOf tOM).run Try.prog w = .ok 8 w := fun w => by kernel_rfl
 rw [run_slice_h (P := Try.prog) w 38 y len cap (by rw [hel]; exact Try.underlying38) .i64 n (by omega) (by omega), hel, hs]
 cases y with
 | none => simp [sliced]
 | some x =>
   have : x.add 0 = x := by unfold Addr.add; rw [if_pos rfl]
   simp [sliced, this]
theorem mlow_nil {m : Nat → Int} (h : taken m = []) : mlow m = (-1, -1) := by unfold mlow; rw [h]
theorem mlow_cons {m : Nat → Int} {i : Nat} {L : List Nat} (h : taken m = i :: L) : mlow m = (((i / 64 : Nat) : Int), ((i % 64 : Nat) : Int)) := by unfold mlow; rw [h]
theorem PrAt.cell2 {w : World} {B g n cap : Nat} {L : List Nat} (h : PrAt w B (.slice (some ⟨g, 0, none⟩) n cap) L) {k i : Nat} (hi : L[k]? = some i) : w.cell? ⟨g, k * 2, none⟩ = some (.int .i64 ((i / 64 : Nat) : Int)) ∧ w.cell? ⟨g, k * 2 + 1, none⟩ = some (.int .i64 ((i % 64 : Nat) : Int)) ∧ g < w.heap.size := by
 obtain ⟨y, cap', e, F⟩ := h.form
 cases e
 rcases F with h0 | ⟨g', e', _, h2, _, _, h5⟩
 · have := (List.getElem?_eq_some_iff.1 hi).1
   omega
 · cases e'
   exact ⟨h5 k i hi 0 _ rfl, h5 k i hi 1 _ rfl, h2⟩
theorem RowM.cut {w w' : World} {y : Option Addr} {len cap n : Nat} {zs : Nat → Nat → Int} (h : RowM w y len cap zs) (hn : n ≤ len) (hb : Below w.heap.size w w') : RowM w' y n cap zs := by
 obtain ⟨h0, h⟩ := h
 refine ⟨h0, ?_⟩
 rcases h with h | ⟨g, off, rfl, h1, h2, h3, h4⟩
 · exact .inl (by omega)
 · exact .inr ⟨g, off, rfl, by omega, h2, Nat.lt_of_lt_of_le h3 hb.size, fun k hk j hj => by rw [hb.cell (p := ⟨g, _, none⟩) h3]; exact h4 k (by omega) j hj⟩
structure Tl15 (w0 w : World) (b : Nat) (m : Nat → Int) (v1 v2 : Value) : Prop where
 M : OAt tOM w b m
 R : PrAt w w0.heap.size v1 (taken m)
 Q : PrAt w w0.heap.size v2 (taken m)
 lo : Below w0.heap.size w0 w
theorem Tl15.below {w0 w w' : World} {b : Nat} {m : Nat → Int} {v1 v2 : Value} (h : Tl15 w0 w b m v1 v2) (hb : Below w.heap.size w w') : Tl15 w0 w' b m v1 v2 := ⟨h.M.below hb, h.R.below hb, h.Q.below hb, tr h.lo hb⟩
set_option maxHeartbeats 12800000 in
theorem occTells (H : OccC) (w : World) (m : Nat → Int) (hm : okM m) (y : Option Addr) (len cap : Nat) (zs : Nat → Nat → Int) (hc0 : len ≤ cap) (hy : RowM w y len cap zs) :
 Calls Try.prog 4 #[.agg (ol m).toArray, .slice y len cap] w fun e w' => e = .returned (.bool true) ∧ Below w.heap.size w w' := by
 have hz := zOT
 have HO := Lib.hid (fun w => dOf m hm w)
 have DA := Lib.hid (fun w => dAll m w)
 have CA := Lib.hid (fun w => H.all m w hm)
 have CL := Lib.hid (fun w => H.low m w hm)
 have CC := Lib.hid (fun w => H.count m w hm)
 have CK := Lib.hid (fun w => ocKnown H w)
 have HH := Lib.hid H
 have HY := Lib.hid hy
 have HM := Lib.hid (show OAt tOM (w.alloc (oO tOM m)) w.heap.size m from blk_new w _)
 have HB := Lib.hid (trA (tr0 w) (oO tOM m))
 have HC0 := Lib.hid hc0
 clear hm hy H hc0
 go_enter Try.func4, Try.ntmps4
 go_upto_region 1 with (fail)
 rw [show Obj.cells (ol m).toArray 24 (0, 0) = oO tOM m from rfl]
 generalize w.alloc (oO tOM m) = W at *
 generalize hb : w.heap.size = b at *
 have HBE := Lib.hid hb
 go_upto_region 2 with (first
  | (refine ldOM rfl (.tmp 2) rfl rfl HM.out ?_)
  | (go_at_call 6; refine (HO.out _).mono ?_; rintro e w1 ⟨rfl, hb1⟩; have HM := Lib.hid (HM.out.below hb1); have HB := Lib.hid (show Below w.heap.size w w1 from tr (by rw [hb]; exact HB.out) hb1); clear hb1 HO)
  | (refine stOT rfl (.tmp 5) (.tmp 17) rfl rfl rfl (show TbAt (w1.alloc (oT15 fun _ => false)) w1.heap.size (fun _ => false) from blk_new w1 _) ?_; intro w2 h2 ho; have HT := Lib.hid h2; have HM := Lib.hid ((HM.out.below (trA (tr0 w1) (oT15 fun _ => false))).off ho (by have := HM.out.lt; omega)); have HB := Lib.hid (Off.toBelow (trA HB.out (oT15 fun _ => false)) ho (fun j hj e => by have := HB.out.size; omega) (Nat.le_refl _)); clear h2 ho))
 clear hb hz
 generalize w1.heap.size = t at *
 simp only [Act.put]
 have HG := Lib.hid (show Sg15 w w2.drew b t m from ⟨HM.out.below (trD (tr0 w2)), HT.out.below (trD (tr0 w2)), trD HB.out⟩)
 refine wp_region_held_drew (S := fun w' => OAt tOM w' b m ∧ TbAt w' t (tb m)) (by kernel_rfl) ⟨HM.out, HT.out⟩ (fun _ => ?_)
 clear HM HT HB
 generalize w2.drew = U0 at *
 refine wpAnyH_take (i := 0) (v := .agg (tl (tb m)).toArray) rfl (by kernel_rfl) (by kernel_rfl) (by kernel_rfl) (fun _ _ _ h => h) (Or.inl ⟨by kernel_rfl, fun w' hSw => rldOT (.tmp 5) rfl rfl hSw.2⟩) ⟨HG.out.M, HG.out.T⟩ ?_
 simp only [List.getElem_toArray, List.getElem_cons_zero, List.getElem_cons_succ, Act.put, List.setIfInBounds_toArray, List.set_cons_zero, List.set_cons_succ]
 refine wpAnyH_take (i := 2) (v := .agg (ol m).toArray) rfl (by kernel_rfl) (by kernel_rfl) (by kernel_rfl) (fun _ _ _ h => h) (Or.inl ⟨by kernel_rfl, fun w' hSw => rldOM (.tmp 2) rfl rfl hSw.1⟩) ⟨HG.out.M, HG.out.T⟩ ?_
 simp only [List.getElem_toArray, List.getElem_cons_zero, List.getElem_cons_succ, Act.put, List.setIfInBounds_toArray, List.set_cons_zero, List.set_cons_succ]
 refine wpAnyH_ready (rs := [1]) (by kernel_rfl) (by simp) ?_
 refine AllReadyH.cons rfl (fun K hK => ?_) AllReadyH.nil
 go_simp
 go_wp2_with (go_at_call 16; refine (DA.out _).mono ?_; rintro e U1 ⟨v1, rfl, hR, hb⟩; have HR := Lib.hid (hR.mono HG.out.lo.size); have HG := Lib.hid (HG.out.below hb); clear hb hR)
 refine hK.out _ _ ⟨HG.out.M, HG.out.T⟩ (fun _ => ?_)
 clear hK K
 refine wpAnyH_ready (rs := [3]) (by kernel_rfl) (by simp) ?_
 refine AllReadyH.cons rfl (fun K hK => ?_) AllReadyH.nil
 go_simp
 go_wp2_with (go_at_call 17; refine (CA.out _).mono ?_; rintro e U2 ⟨v2, rfl, hQ, hb⟩; have HT := Lib.hid (HG.out.T.below hb); have HX := Lib.hid (show Tl15 w U2 b m v1 v2 from ⟨HG.out.M.below hb, HR.out.below hb, hQ.mono HG.out.lo.size, tr HG.out.lo hb⟩); clear hb hQ)
 refine hK.out _ _ ⟨HX.out.M, HT.out⟩ (fun _ => ?_)
 clear hK K
 refine wpAnyH_take (i := 4) (v := v1) rfl (by kernel_rfl) (by kernel_rfl) (by kernel_rfl) (fun _ _ _ h => h) (Or.inl ⟨by kernel_rfl, fun w' hSw => by clear hSw; go_simp⟩) ⟨HX.out.M, HT.out⟩ ?_
 simp only [List.getElem_toArray, List.getElem_cons_zero, List.getElem_cons_succ, Act.put, List.setIfInBounds_toArray, List.set_cons_zero, List.set_cons_succ]
 refine wpAnyH_take (i := 5) (v := v2) rfl (by kernel_rfl) (by kernel_rfl) (by kernel_rfl) (fun _ _ _ h => h) (Or.inl ⟨by kernel_rfl, fun w' hSw => by clear hSw; go_simp⟩) ⟨HX.out.M, HT.out⟩ ?_
 simp only [List.getElem_toArray, List.getElem_cons_zero, List.getElem_cons_succ, Act.put, List.setIfInBounds_toArray, List.set_cons_zero, List.set_cons_succ]
 refine wpAnyH_done (by kernel_rfl) ?_ _
 clear HG HR HT DA CA
 have F1 := HX.out.R.form
 have F2 := HX.out.Q.form
 obtain ⟨N, hN⟩ : ∃ N, (taken m).length = N := ⟨_, rfl⟩
 rw [hN] at F1 F2 CC
 obtain ⟨y1, cap1, rfl, F1⟩ := F1
 obtain ⟨y2, cap2, rfl, F2⟩ := F2
 have HF1 := Lib.hid (show N = 0 ∨ ∃ g, y1 = some ⟨g, 0, none⟩ by rcases F1 with h | ⟨g, h, _⟩; exact .inl h; exact .inr ⟨g, h⟩)
 have HF2 := Lib.hid (show N = 0 ∨ ∃ g, y2 = some ⟨g, 0, none⟩ by rcases F2 with h | ⟨g, h, _⟩; exact .inl h; exact .inr ⟨g, h⟩)
 obtain ⟨A1, hA1⟩ : ∃ A1, (mlow m).1 = A1 := ⟨_, rfl⟩
 obtain ⟨A2, hA2⟩ : ∃ A2, (mlow m).2 = A2 := ⟨_, rfl⟩
 rw [hA1, hA2] at CL
 have HA := Lib.hid (And.intro hA1 hA2)
 have HN := Lib.hid hN
 have hNB : N ≤ 512 := hN ▸ takenB_len m 512
 have hNN : ((N : Int) != (N : Int)) = false := bne_self_eq_false _
 clear F1 F2 hN hA1 hA2
 go_upto_region 6 with (first
  | (refine ldOM rfl (.tmp 2) rfl rfl HX.out.M ?_)
  | (refine ldOMg (.tmp 2) rfl (by kernel_rfl) rfl HX.out.M ?_)
  | (go_at_call 18; refine (CL.out _).mono ?_; rintro e w3 ⟨rfl, hb⟩; have HX := Lib.hid (HX.out.below hb); clear hb)
  | (go_at_call 19; refine (CC.out _).mono ?_; rintro e w4 ⟨rfl, hb⟩; have HX := Lib.hid (HX.out.below hb); clear hb))
 clear CL CC hNN
 go_wp2_with fail
 go_loopw [10] (fun i wr => ∃ (k : Nat), k ≤ N ∧ i = .int .i64 k ∧ Hid (Tl15 w wr b m (.slice y1 N cap1) (.slice y2 N cap2))) (fun i wr => N - (intOf i).toNat)
 case atStart => exact ⟨0, by omega, rfl, HX⟩
 case round =>
  clear HX
  obtain ⟨k, hk, rfl, HX⟩ := hrel
  by_cases hlt : k < N
  · obtain ⟨g1, rfl⟩ := HF1.out.resolve_left (by omega)
    obtain ⟨g2, rfl⟩ := HF2.out.resolve_left (by omega)
    obtain ⟨i, hi⟩ : ∃ i, (taken m)[k]? = some i := ⟨_, List.getElem?_eq_getElem (by rw [HN.out]; exact hlt)⟩
    obtain ⟨c0, c1, hl1⟩ := HX.out.R.cell2 hi
    obtain ⟨d0, d1, hl2⟩ := HX.out.Q.cell2 hi
    have hg := gcell
    have hq := eqPr ((i / 64 : Nat) : Int) ((i % 64 : Nat) : Int)
    generalize ((i / 64 : Nat) : Int) = P1 at *
    generalize ((i % 64 : Nat) : Int) = P2 at *
    clear hi
    go_upto_region 9 with (fail)
    have hw0 := Lib.hid (tr0 wr)
    refine wp_region_quiet_below (by kernel_rfl) (by kernel_rfl) ?_
    repeat (go_big_quiet_step (fail))
    refine wpQuiet_nil ?_
    intro _ hw'
    obtain ⟨⟨dq, osq⟩, hw''⟩ := hw'
    subst hw''
    have HX := Lib.hid (HX.out.below (below_regrown _ dq osq))
    dsimp only at HX ⊢
    clear c0 c1 d0 d1 hl1 hl2 hg hq hw0
    generalize grow (redrawn wr dq) osq = W9 at *
    go_wp2_with fail
    go_roundw
    case rel => exact ⟨k + 1, by omega, by go_num, HX⟩
    case measure => simp [intOf]; omega
  · obtain rfl : k = N := by omega
    -- the tail
    have KEY := Lib.hid (show ∀ (C : Prop), (k = 0 → A1 = -1 → A2 = -1 → C) → (∀ g1 i, 0 < k → y1 = some ⟨g1, 0, none⟩ → (taken m)[0]? = some i → A1 = ((i / 64 : Nat) : Int) → A2 = ((i % 64 : Nat) : Int) → C) → C from fun C h0 h1 => by
     cases hL : taken m with
     | nil =>
       have e := mlow_nil hL
       refine h0 (by rw [← HN.out, hL]; rfl) ?_ ?_
       · rw [← HA.out.1, e]
       · rw [← HA.out.2, e]
     | cons i L =>
       have e := mlow_cons hL
       have hpos : 0 < k := by rw [← HN.out, hL]; simp
       obtain ⟨g1, hg1⟩ := HF1.out.resolve_left (by omega)
       refine h1 g1 i hpos hg1 (by rw [hL]; rfl) ?_ ?_
       · rw [← HA.out.1, e]
       · rw [← HA.out.2, e])
    refine KEY.out _ (fun h0 h1 h2 => ?_) (fun g1 i h0 h1 hi h2 h3 => ?_)
    all_goals clear KEY
    · subst h0 h1 h2
      obtain ⟨n5, hn5⟩ : ∃ n5, min len 5 = n5 := ⟨_, rfl⟩
      have HNE := Lib.hid hn5
      have HN5 := Lib.hid (show n5 ≤ len ∧ n5 ≤ 5 by omega)
      clear hn5
      go_upto_region 13 with (fail)
      go_cut [1] from 79 (fun x w' => x = .slice y n5 cap ∧ w' = wr)
      case first =>
       by_cases h5 : 5 < len
       · have h5i : (5 : Int) < (len : Int) := by omega
         have hn : 5 = n5 := by rw [← HNE.out]; omega
         subst hn
         have hcut : ∀ w : World, (Instr.slice 38 (.slice y len cap) none (some (.int .i64 5)) none).run Try.prog w = .ok (.slice y 5 cap) w := cutM y len cap 5 (by omega) HC0.out
         go_wp2_with fail
         go_meet
         case rel => exact ⟨rfl, rfl⟩
       · have hn : len = n5 := by rw [← HNE.out]; omega
         subst hn
         have hcut := cutM y len cap len (Nat.le_refl _) HC0.out
         go_wp2_with fail
         go_meet
         case rel => exact ⟨rfl, rfl⟩
      case rest =>
       obtain ⟨rfl, rfl⟩ := hcut
       have hle := HN5.out.2
       have hnl := HN5.out.1
       have HR5 := Lib.hid (HY.out.cut (n := n5) HN5.out.1 HX.out.lo)
       have CO := Lib.hid (HH.out.or y n5 cap zs _ HR5.out HN5.out.2)
       have HOK := Lib.hid HY.out.1
       have CH := Lib.hid (fun (l s : Nat) (M' : Nat → Int) (hM' : okM M') (hl : l < 8) (hs : s < 64) w => by have := HH.out.has M' l s w hM' (by unfold i64r; omega) (by unfold i64r; omega); rw [mhas_at M' l s hl hs] at this; exact this)
       clear HR5 HF1 HF2
       go_upto_region 15 with (first
        | (go_at_call 20; refine (CO.out).mono ?_; rintro e w5 ⟨M, rfl, hM, hMb, hb⟩; have HMM := Lib.hid hM; have HMB := Lib.hid hMb; have HB := Lib.hid (tr HX.out.lo hb); clear hM hMb hb CO)
        | (rw [zeros8]; refine stOM rfl (.tmp 11) (.tmp 85) rfl rfl rfl (show OAt tOM (w5.alloc (oO tOM fun _ => 0)) w5.heap.size (fun _ => 0) from blk_new w5 _) ?_; intro w6 h6 ho; have HO := Lib.hid h6; have HB := Lib.hid (Off.toBelow (trA HB.out (oO tOM fun _ => 0)) ho (fun j hj e => by have := HB.out.size; omega) (Nat.le_refl _)); clear h6 ho))
       generalize w5.heap.size = ob at *
       clear HX
       go_wp2_with fail
       go_loopw [12] (fun i wr => ∃ (k2 : Nat), k2 ≤ 8 ∧ i = .int .i64 k2 ∧ Hid (OAt tOM wr ob M) ∧ Hid (Below w.heap.size w wr)) (fun i wr => 8 - (intOf i).toNat)
       case atStart => exact ⟨0, by omega, rfl, HO, HB⟩
       case round =>
        clear HO HB
        obtain ⟨k2, hk2, rfl, HO, HB⟩ := hrel
        by_cases hk8 : k2 < 8
        · have e8 : decide ((k2 : Int) < 8) = true := decide_eq_true (by omega)
          go_wp2_with fail
          go_loopw [13] (fun i wr => ∃ (s : Nat), s ≤ 64 ∧ i = .int .i64 s ∧ Hid (OAt tOM wr ob M) ∧ Hid (Below w.heap.size w wr)) (fun i wr => 64 - (intOf i).toNat)
          case atStart => exact ⟨0, by omega, rfl, HO, HB⟩
          case round =>
           clear HO HB
           obtain ⟨s, hs, rfl, HO, HB⟩ := hrel
           by_cases hs64 : s < 64
           · have e64 : decide ((s : Int) < 64) = true := decide_eq_true (by omega)
             go_wp2_with fail
             go_loopw [14, 15] (fun x i wr => ∃ (j : Nat) (v : Bool), j ≤ n5 ∧ i = .int .i64 j ∧ x = .bool v ∧ Hid (v = anyB (fun q => bit (zs q k2) s) j) ∧ Hid (OAt tOM wr ob M) ∧ Hid (Below w.heap.size w wr)) (fun x i wr => n5 - (intOf i).toNat)
             case atStart => exact ⟨0, false, by omega, rfl, rfl, Lib.hid rfl, HO, HB⟩
             case round =>
              clear HO HB
              obtain ⟨j, v, hj, rfl, rfl, HV, HO, HB⟩ := hrel
              by_cases hjn : j < n5
              · cases v
                · obtain ⟨g, off, rfl, h1, h2, h3, h4⟩ := HY.out.at (by omega)
                  unfold maxLen at h2
                  have HIN := Lib.hid (fun wx (hb : Below w.heap.size w wx) => (h4 j (by omega)).below hb)
                  obtain ⟨u, hu⟩ : ∃ u, bit (zs j k2) s = u := ⟨_, rfl⟩
                  have CJ := Lib.hid (fun w => by have := CH.out k2 s (zs j) (HOK.out j) hk8 hs64 w; rw [hu] at this; exact this)
                  have HU := Lib.hid (show u = anyB (fun q => bit (zs q k2) s) (j + 1) by show u = (anyB _ j || _); rw [← HV.out, Bool.false_or]; exact hu.symm)
                  clear h4 hu
                  go_wp2_with (first
                   | (refine ldIng (.tmp 104) rfl (by kernel_rfl) rfl (HIN.out _ HB.out) ?_)
                   | (go_at_call 13; refine (CJ.out _).mono ?_; rintro e w8 ⟨rfl, hb⟩; have HO := Lib.hid (HO.out.below hb); have HB := Lib.hid (tr HB.out hb); clear hb))
                  go_roundw
                  case rel => exact ⟨j + 1, u, by omega, by go_num, rfl, HU, HO, HB⟩
                  case measure => simp [intOf]; omega
                · have HU := Lib.hid (show true = anyB (fun q => bit (zs q k2) s) (j + 1) by show true = (anyB _ j || _); rw [← HV.out, Bool.true_or])
                  go_wp2_with fail
                  go_roundw
                  case rel => exact ⟨j + 1, true, by omega, by go_num, rfl, HU, HO, HB⟩
                  case measure => simp [intOf]; omega
              · have hjj : j = n5 := by omega
                have CJ := Lib.hid (fun w => by have := CH.out k2 s M HMM.out hk8 hs64 w; rw [HMB.out k2 s hk8 hs64, ← hjj, ← HV.out] at this; exact this)
                have hvv : (v != v) = false := by cases v <;> rfl
                clear hjj
                go_wp2_with (first
                 | (refine ldOM rfl (.tmp 11) rfl rfl HO.out ?_)
                 | (go_at_call 13; refine (CJ.out _).mono ?_; rintro e w8 ⟨rfl, hb⟩; have HO := Lib.hid (HO.out.below hb); have HB := Lib.hid (tr HB.out hb); clear hb))
                go_roundw
                case rel => exact ⟨s + 1, by omega, by go_num, HO, HB⟩
                case measure => simp [intOf]; omega
           · obtain rfl : s = 64 := by omega
             go_wp2_with fail
             go_roundw
             case rel => exact ⟨k2 + 1, by omega, by go_num, HO, HB⟩
             case measure => simp [intOf]; omega
        · obtain rfl : k2 = 8 := by omega
          go_wp2_with (go_at_call 10; refine (CK.out _).mono ?_; rintro e w9 ⟨rfl, hb⟩; have HB := Lib.hid (tr HB.out hb); clear hb)
          go_ret
          exact ⟨rfl, HB.out⟩
    · subst h1
      obtain ⟨c0, c1, hl1⟩ := HX.out.R.cell2 hi
      have hq := eqPr ((i / 64 : Nat) : Int) ((i % 64 : Nat) : Int)
      rw [← h2, ← h3] at hq
      rw [← h2] at c0
      rw [← h3] at c1
      rw [Nat.zero_mul] at c0 c1
      have e0 : ((k : Int) == 0) = false := by simp; omega
      have e1 : decide ((0 : Int) < (k : Int)) = true := decide_eq_true (by omega)
      clear h2 h3 hi
      obtain ⟨n5, hn5⟩ : ∃ n5, min len 5 = n5 := ⟨_, rfl⟩
      have HNE := Lib.hid hn5
      have HN5 := Lib.hid (show n5 ≤ len ∧ n5 ≤ 5 by omega)
      clear hn5
      go_upto_region 13 with (fail)
      go_cut [1] from 79 (fun x w' => x = .slice y n5 cap ∧ w' = wr)
      case first =>
       by_cases h5 : 5 < len
       · have h5i : (5 : Int) < (len : Int) := by omega
         have hn : 5 = n5 := by rw [← HNE.out]; omega
         subst hn
         have hcut : ∀ w : World, (Instr.slice 38 (.slice y len cap) none (some (.int .i64 5)) none).run Try.prog w = .ok (.slice y 5 cap) w := cutM y len cap 5 (by omega) HC0.out
         go_wp2_with fail
         go_meet
         case rel => exact ⟨rfl, rfl⟩
       · have hn : len = n5 := by rw [← HNE.out]; omega
         subst hn
         have hcut := cutM y len cap len (Nat.le_refl _) HC0.out
         go_wp2_with fail
         go_meet
         case rel => exact ⟨rfl, rfl⟩
      case rest =>
       obtain ⟨rfl, rfl⟩ := hcut
       have hle := HN5.out.2
       have hnl := HN5.out.1
       have HR5 := Lib.hid (HY.out.cut (n := n5) HN5.out.1 HX.out.lo)
       have CO := Lib.hid (HH.out.or y n5 cap zs _ HR5.out HN5.out.2)
       have HOK := Lib.hid HY.out.1
       have CH := Lib.hid (fun (l s : Nat) (M' : Nat → Int) (hM' : okM M') (hl : l < 8) (hs : s < 64) w => by have := HH.out.has M' l s w hM' (by unfold i64r; omega) (by unfold i64r; omega); rw [mhas_at M' l s hl hs] at this; exact this)
       clear HR5 HF1 HF2
       go_upto_region 15 with (first
        | (go_at_call 20; refine (CO.out).mono ?_; rintro e w5 ⟨M, rfl, hM, hMb, hb⟩; have HMM := Lib.hid hM; have HMB := Lib.hid hMb; have HB := Lib.hid (tr HX.out.lo hb); clear hM hMb hb CO)
        | (rw [zeros8]; refine stOM rfl (.tmp 11) (.tmp 85) rfl rfl rfl (show OAt tOM (w5.alloc (oO tOM fun _ => 0)) w5.heap.size (fun _ => 0) from blk_new w5 _) ?_; intro w6 h6 ho; have HO := Lib.hid h6; have HB := Lib.hid (Off.toBelow (trA HB.out (oO tOM fun _ => 0)) ho (fun j hj e => by have := HB.out.size; omega) (Nat.le_refl _)); clear h6 ho))
       generalize w5.heap.size = ob at *
       clear HX
       go_wp2_with fail
       go_loopw [12] (fun i wr => ∃ (k2 : Nat), k2 ≤ 8 ∧ i = .int .i64 k2 ∧ Hid (OAt tOM wr ob M) ∧ Hid (Below w.heap.size w wr)) (fun i wr => 8 - (intOf i).toNat)
       case atStart => exact ⟨0, by omega, rfl, HO, HB⟩
       case round =>
        clear HO HB
        obtain ⟨k2, hk2, rfl, HO, HB⟩ := hrel
        by_cases hk8 : k2 < 8
        · have e8 : decide ((k2 : Int) < 8) = true := decide_eq_true (by omega)
          go_wp2_with fail
          go_loopw [13] (fun i wr => ∃ (s : Nat), s ≤ 64 ∧ i = .int .i64 s ∧ Hid (OAt tOM wr ob M) ∧ Hid (Below w.heap.size w wr)) (fun i wr => 64 - (intOf i).toNat)
          case atStart => exact ⟨0, by omega, rfl, HO, HB⟩
          case round =>
           clear HO HB
           obtain ⟨s, hs, rfl, HO, HB⟩ := hrel
           by_cases hs64 : s < 64
           · have e64 : decide ((s : Int) < 64) = true := decide_eq_true (by omega)
             go_wp2_with fail
             go_loopw [14, 15] (fun x i wr => ∃ (j : Nat) (v : Bool), j ≤ n5 ∧ i = .int .i64 j ∧ x = .bool v ∧ Hid (v = anyB (fun q => bit (zs q k2) s) j) ∧ Hid (OAt tOM wr ob M) ∧ Hid (Below w.heap.size w wr)) (fun x i wr => n5 - (intOf i).toNat)
             case atStart => exact ⟨0, false, by omega, rfl, rfl, Lib.hid rfl, HO, HB⟩
             case round =>
              clear HO HB
              obtain ⟨j, v, hj, rfl, rfl, HV, HO, HB⟩ := hrel
              by_cases hjn : j < n5
              · cases v
                · obtain ⟨g, off, rfl, h1, h2, h3, h4⟩ := HY.out.at (by omega)
                  unfold maxLen at h2
                  have HIN := Lib.hid (fun wx (hb : Below w.heap.size w wx) => (h4 j (by omega)).below hb)
                  obtain ⟨u, hu⟩ : ∃ u, bit (zs j k2) s = u := ⟨_, rfl⟩
                  have CJ := Lib.hid (fun w => by have := CH.out k2 s (zs j) (HOK.out j) hk8 hs64 w; rw [hu] at this; exact this)
                  have HU := Lib.hid (show u = anyB (fun q => bit (zs q k2) s) (j + 1) by show u = (anyB _ j || _); rw [← HV.out, Bool.false_or]; exact hu.symm)
                  clear h4 hu
                  go_wp2_with (first
                   | (refine ldIng (.tmp 104) rfl (by kernel_rfl) rfl (HIN.out _ HB.out) ?_)
                   | (go_at_call 13; refine (CJ.out _).mono ?_; rintro e w8 ⟨rfl, hb⟩; have HO := Lib.hid (HO.out.below hb); have HB := Lib.hid (tr HB.out hb); clear hb))
                  go_roundw
                  case rel => exact ⟨j + 1, u, by omega, by go_num, rfl, HU, HO, HB⟩
                  case measure => simp [intOf]; omega
                · have HU := Lib.hid (show true = anyB (fun q => bit (zs q k2) s) (j + 1) by show true = (anyB _ j || _); rw [← HV.out, Bool.true_or])
                  go_wp2_with fail
                  go_roundw
                  case rel => exact ⟨j + 1, true, by omega, by go_num, rfl, HU, HO, HB⟩
                  case measure => simp [intOf]; omega
              · have hjj : j = n5 := by omega
                have CJ := Lib.hid (fun w => by have := CH.out k2 s M HMM.out hk8 hs64 w; rw [HMB.out k2 s hk8 hs64, ← hjj, ← HV.out] at this; exact this)
                have hvv : (v != v) = false := by cases v <;> rfl
                clear hjj
                go_wp2_with (first
                 | (refine ldOM rfl (.tmp 11) rfl rfl HO.out ?_)
                 | (go_at_call 13; refine (CJ.out _).mono ?_; rintro e w8 ⟨rfl, hb⟩; have HO := Lib.hid (HO.out.below hb); have HB := Lib.hid (tr HB.out hb); clear hb))
                go_roundw
                case rel => exact ⟨s + 1, by omega, by go_num, HO, HB⟩
                case measure => simp [intOf]; omega
           · obtain rfl : s = 64 := by omega
             go_wp2_with fail
             go_roundw
             case rel => exact ⟨k2 + 1, by omega, by go_num, HO, HB⟩
             case measure => simp [intOf]; omega
        · obtain rfl : k2 = 8 := by omega
          go_wp2_with (go_at_call 10; refine (CK.out _).mono ?_; rintro e w9 ⟨rfl, hb⟩; have HB := Lib.hid (tr HB.out hb); clear hb)
          go_ret
          exact ⟨rfl, HB.out⟩
end Go.Proofs.Ytgfoeiikocpmdaa.B
