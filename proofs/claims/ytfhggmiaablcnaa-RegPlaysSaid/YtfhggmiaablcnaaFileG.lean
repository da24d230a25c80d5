/- A file's Again: every register as behind a reset. -/
import Derived.Test.YtfhggmiaablcnaaFileE
import Derived.Test.YtfhggmiaablcnaaOffs
namespace Go.Proofs.Ytfhggmiaablcnaa.B
set_option linter.unusedVariables false
set_option linter.unusedSimpArgs false
open Go.ChangeShapes Go.WideShapes Go.RowKit Go.Sort Go.MapKept
def Rg.again (x : Rg) : Rg := ⟨x.s, x.s, x.r, x.c⟩
theorem Rg.again_wf {x : Rg} (h : x.wf) : x.again.wf := ⟨h.2.1, h.2.1, h.2.2.1, h.2.2.2⟩
theorem Rg.again_same {x : Rg} (h : x.v = x.s) : x.again = x := by cases x; simp only at h; subst h; rfl
theorem FileAt.perm {w : World} {f m : Nat} {M M' : List (Int × Rg)} (h : FileAt w f m M) (hp : M.Perm M') : FileAt w f m M' :=
  ⟨h.cell, h.map.perm (hp.map _), fun p hq => h.wf p (hp.mem_iff.2 hq)⟩
theorem FileAt.keys {w : World} {f m : Nat} {M : List (Int × Rg)} (h : FileAt w f m M) : (M.map (·.1)).Nodup := by
  have := h.map.nodup
  rw [List.map_map] at this
  exact this
theorem split_hitR {x : Int} {v : Rg} : ∀ {M : List (Int × Rg)}, (M.map (·.1)).Nodup → (x, v) ∈ M → M.Perm ((x, v) :: M.filter fun p => decide (p.1 ≠ x))
  | [], _, h => by cases h
  | q :: M, hn, h => by
    simp only [List.map_cons, List.nodup_cons] at hn
    rcases List.mem_cons.1 h with rfl | h'
    · have : M.filter (fun p => decide (p.1 ≠ x)) = M := List.filter_eq_self.2 fun p hp => by
        have : p.1 ≠ x := fun e => hn.1 (by rw [← e]; exact List.mem_map.2 ⟨p, hp, rfl⟩)
        simpa using this
      rw [List.filter_cons, if_neg (by simp), this]
    · have hq : q.1 ≠ x := fun e => hn.1 (by rw [e]; exact List.mem_map.2 ⟨_, h', rfl⟩)
      rw [List.filter_cons, if_pos (by simpa using hq)]
      exact ((split_hitR hn.2 h').cons q).trans (List.Perm.swap _ _ _)
theorem key_val {M : List (Int × Rg)} (hn : (M.map (·.1)).Nodup) {p q : Int × Rg} (hp : p ∈ M) (hq : q ∈ M) (e : p.1 = q.1) : p = q := by
  induction M with
  | nil => cases hp
  | cons a M ih =>
    simp only [List.map_cons, List.nodup_cons] at hn
    rcases List.mem_cons.1 hp with rfl | hp' <;> rcases List.mem_cons.1 hq with rfl | hq'
    · rfl
    · exact absurd (List.mem_map.2 ⟨q, hq', e.symm⟩) hn.1
    · exact absurd (List.mem_map.2 ⟨p, hp', e⟩) hn.1
    · exact ih hn.2 hp' hq'
theorem putF_perm {M : List (Int × Rg)} {x : Int} {r : Rg} (hn : (M.map (·.1)).Nodup) (hin : (x, r) ∈ M) (y : Rg) : (putF x y M).Perm (M.map fun p => if p.1 = x then (p.1, y) else p) := by
  have h1 := (split_hitR hn hin).map fun p => if p.1 = x then (p.1, y) else p
  rw [List.map_cons, if_pos rfl] at h1
  have h2 : (M.filter fun p => decide (p.1 ≠ x)).map (fun p => if p.1 = x then (p.1, y) else p) = M.filter fun p => decide (p.1 ≠ x) := by
    conv => rhs; rw [← List.map_id (M.filter fun p => decide (p.1 ≠ x))]
    refine List.map_congr_left fun p hp => ?_
    have : p.1 ≠ x := by simpa using (List.mem_filter.1 hp).2
    rw [if_neg this]; rfl
  rw [h2] at h1
  exact h1.symm
/-- Registers of these offsets as behind a reset. -/
def ag (T : List Int) (p : Int × Rg) : Int × Rg := if p.1 ∈ T then (p.1, p.2.again) else p
theorem ag_key (T : List Int) (p : Int × Rg) : (ag T p).1 = p.1 := by unfold ag; split <;> rfl
theorem ag_keys (T : List Int) (M : List (Int × Rg)) : (M.map (ag T)).map (·.1) = M.map (·.1) := by
  rw [List.map_map]; exact List.map_congr_left fun p _ => ag_key T p
theorem ag_nil (M : List (Int × Rg)) : M.map (ag []) = M := by
  conv => rhs; rw [← List.map_id M]
  exact List.map_congr_left fun p _ => rfl
theorem ag_in {T : List Int} {M : List (Int × Rg)} {x : Int} {r : Rg} (hin : (x, r) ∈ M) (hx : x ∉ T) : (x, r) ∈ M.map (ag T) := List.mem_map.2 ⟨(x, r), hin, if_neg hx⟩
theorem ag_next {T : List Int} {M : List (Int × Rg)} {x : Int} {r : Rg} (hn : (M.map (·.1)).Nodup) (hin : (x, r) ∈ M) (hx : x ∉ T) :
    ((M.map (ag T)).map fun p => if p.1 = x then (p.1, r.again) else p) = M.map (ag (T ++ [x])) := by
  rw [List.map_map]
  refine List.map_congr_left fun p hp => ?_
  show (if (ag T p).1 = x then ((ag T p).1, r.again) else ag T p) = ag (T ++ [x]) p
  rw [ag_key]
  by_cases e : p.1 = x
  · have : p = (x, r) := key_val hn hp hin e
    subst this
    rw [if_pos rfl]; unfold ag; rw [if_pos (by simp)]
  · rw [if_neg e]; unfold ag
    by_cases hT : p.1 ∈ T
    · rw [if_pos hT, if_pos (by simp [hT])]
    · rw [if_neg hT, if_neg (by simp [hT, e])]
theorem ag_skip {T : List Int} {M : List (Int × Rg)} {x : Int} {r : Rg} (hn : (M.map (·.1)).Nodup) (hin : (x, r) ∈ M) (hx : x ∉ T) (hr : r.again = r) : M.map (ag T) = M.map (ag (T ++ [x])) := by
  refine List.map_congr_left fun p hp => ?_
  unfold ag
  by_cases e : p.1 = x
  · have : p = (x, r) := key_val hn hp hin e
    subst this
    rw [if_neg hx, if_pos (by simp), hr]
  · by_cases hT : p.1 ∈ T
    · rw [if_pos hT, if_pos (by simp [hT])]
    · rw [if_neg hT, if_neg (by simp [hT, e])]
theorem ag_all {T : List Int} {M : List (Int × Rg)} (h : ∀ p ∈ M, p.1 ∈ T) : M.map (ag T) = M.map fun p => (p.1, p.2.again) :=
  List.map_congr_left fun p hp => if_pos (h p hp)
set_option maxRecDepth 100000 in
set_option maxHeartbeats 3200000 in
theorem fAgain (hSort : SortSaid) (hNil : SortNil) {w : World} {f m : Nat} {M : List (Int × Rg)} (h : FileAt w f m M) (hl : M.length < 100000) :
    Calls Try.prog 14 #[.pointer (some ⟨f, 0, none⟩)] w
      fun e w' => e = .returned (.tuple #[]) ∧ FileAt w' f m (M.map fun p => (p.1, p.2.again)) ∧ Off (· = m) w w' := by
  have hn := h.keys
  have HN := Lib.hid hn
  have hml := h.ltm
  have hfm : f ≠ m := fun e => by obtain ⟨_, _, hb, _⟩ := h.map; rw [← e, h.cell] at hb; cases hb
  have CO := Lib.hid (fOffsets hSort hNil h hl)
  have HF := Lib.hid h
  clear hn h
  go_enter Try.func14, Try.ntmps14
  go_wp2_with fail
  go_step3
  go_wp2_with fail
  go_step3
  go_wp2_with fail
  refine CO.out.mono ?_
  rintro e w1 ⟨V, xs, rfl, hS, hp, hsrt, hB⟩
  have hF1 := HF.out.below hB
  have hO1 : Off (· = m) w w1 := Off.ofBelow hB
  have hnd : xs.Nodup := hp.nodup_iff.2 HN.out
  have hall : ∀ p ∈ M, p.1 ∈ xs := fun p hp' => hp.mem_iff.2 (List.mem_map.2 ⟨p, hp', rfl⟩)
  have hkey : ∀ x ∈ xs, ∃ r, (x, r) ∈ M := fun x hx => by
    obtain ⟨⟨a, r⟩, hq, rfl⟩ := List.mem_map.1 (hp.mem_iff.1 hx)
    exact ⟨r, hq⟩
  have hlen : xs.length < 100000 := by have := hp.length_eq; simp at this; omega
  have HND := Lib.hid hnd
  have HALL := Lib.hid hall
  have HKEY := Lib.hid hkey
  clear CO HF hp hsrt hnd hall hkey hB
  rcases hS with ⟨rfl, rfl⟩ | ⟨g, cap, rfl, hg, hnc, hcm, hD⟩
  · go_wp2_with fail
    refine wp_loop_rounds 1 ?_
    rw [rounds_succ]
    go_wp2_with fail
    rw [Exit.noGoto_normal]
    go_end0
    refine ⟨rfl, ?_, hO1⟩
    have : M = [] := by
      cases M with
      | nil => rfl
      | cons p M => exact absurd (HALL.out p List.mem_cons_self) (by simp)
    subst this
    exact hF1
  · unfold maxLen at hcm
    go_wp2_with fail
    go_loopw [8] (fun i wr => ∃ k : Nat, k ≤ xs.length ∧ i = .int .i64 k ∧ FileAt wr f m (M.map (ag (xs.take k))) ∧ Off (· = m) w wr ∧ DAt wr g xs.toArray) (fun i wr => xs.length - (intOf i).toNat)
    case atStart => exact ⟨0, by omega, rfl, by rw [List.take_zero, ag_nil]; exact hF1, hO1, hD⟩
    case round =>
      clear hF1 hO1 hD
      obtain ⟨k, hk, rfl, hF, hO, hD⟩ := hrel
      by_cases hlt : k < xs.length
      · obtain ⟨x, hx⟩ : ∃ x, xs[k]? = some x := ⟨xs[k], List.getElem?_eq_getElem hlt⟩
        have hxm : x ∈ xs := List.mem_of_getElem? hx
        obtain ⟨r, hr⟩ := HKEY.out x hxm
        have hxt : xs.take (k + 1) = xs.take k ++ [x] := by
          rw [List.take_add_one, hx]; rfl
        have hno : x ∉ xs.take k := by
          intro hin
          have := HND.out
          rw [← List.take_append_drop k xs, List.nodup_append] at this
          refine this.2.2 x hin x ?_ rfl
          rw [List.drop_eq_getElem_cons hlt]
          have : xs[k] = x := by rw [List.getElem?_eq_getElem hlt] at hx; exact Option.some.inj hx
          rw [this]; exact List.mem_cons_self
        have c1 := hD.c k (by simpa using hlt)
        have hxk : xs.toArray[k]! = x := by
          rw [getElem!_pos xs.toArray k (by simpa using hlt)]
          have : xs[k] = x := by rw [List.getElem?_eq_getElem hlt] at hx; exact Option.some.inj hx
          simpa using this
        rw [hxk] at c1
        have hcf := blk_cell hF.cell 0
        simp only [List.getElem?_toArray, List.getElem?_cons_zero] at hcf
        have hin2 := ag_in hr hno
        have HF := Lib.hid hF
        have HO := Lib.hid hO
        have HD := Lib.hid hD
        have hM := hF.map
        have hin' := mem_val hin2
        have hrw := hF.wf _ hin2
        have hfl := hF.ltf
        clear hF hO hD hx hxk
        obtain ⟨v, s, wm, c⟩ := r
        unfold Rg.val at hin'
        have hok : ok32 x := hM.oks _ hin'
        have hkn : ((M.map (ag (xs.take k))).map (·.1)).Nodup := by rw [ag_keys]; exact HN.out
        have hgm : g ≠ m := by omega
        cases hvs : (v == s)
        · have HP := Lib.hid (putF_perm hkn hin2 (Rg.again ⟨v, s, wm, c⟩))
          have HX := Lib.hid (ag_next HN.out hr hno)
          have HW := Lib.hid (Rg.again_wf hrw)
          clear hkn hin2 hr hno hrw
          go_wp2_with (at_lookup; refine wpList_hit placeKey rfl _ _ _ rfl Try.underlying75 rfl hM x _ rfl hin' ?_)
          have hb1 := trA (tr0 wr) (.cells #[.int .u32 v, .int .u32 s, .int .u32 wm, .int .u32 c] 28 (0, 0))
          have hXb := blk_new wr (.cells #[.int .u32 v, .int .u32 s, .int .u32 wm, .int .u32 c] 28 (0, 0))
          have y0 := blk_cell hXb 0
          have y1 := blk_cell hXb 1
          have y2 := blk_cell hXb 2
          have y3 := blk_cell hXb 3
          simp only [List.getElem?_toArray, List.getElem?_cons_zero, List.getElem?_cons_succ] at y0 y1 y2 y3
          have hyl := blk_lt hXb
          have hcf2 := (hb1.cell (p := ⟨f, 0, none⟩) hfl).trans hcf
          have hfl2 : f < (wr.alloc (.cells #[.int .u32 v, .int .u32 s, .int .u32 wm, .int .u32 c] 28 (0, 0))).heap.size := by have := hb1.size; omega
          clear hXb c1 hcf hM hin'
          generalize wr.alloc (.cells #[.int .u32 v, .int .u32 s, .int .u32 wm, .int .u32 c] 28 (0, 0)) = W at *
          have hg2 := gcell
          have hf2 := gfrozen
          refine wp_region_tail_below 8 (by kernel_rfl) (by kernel_rfl) ?_
          simp only [List.take_succ_cons, List.take_zero, List.drop_succ_cons, List.drop_zero]
          repeat (go_big_quiet_step (first
            | (go_at_call 45; exact Calls.regrown_of (Again v s wm c _))))
          refine wpQuiet_nil ?_
          intro _ hw'
          obtain ⟨⟨dq, osq⟩, hw''⟩ := hw'
          subst hw''
          have hb2 := trG hb1 dq osq
          have hM2 := HF.out.map.below hb2 HF.out.ltm
          clear y0 y1 y2 y3 hcf2 hg2 hf2
          generalize grow (redrawn W dq) osq = W2 at *
          go_wp2_with (at_mapUpdate; refine wpList_put placeKey rfl _ _ _ _ rfl Try.underlying75 rfl hM2 x (Rg.again ⟨v, s, wm, c⟩).val rfl rfl hok ?_; intro w3 hM3 ho3)
          have hFN : FileAt w3 f m (M.map (ag (xs.take (k + 1)))) := by
            rw [hxt, ← HX.out]
            exact (HF.out.put HW.out hfm hM3 ((ho3.block f (Nat.lt_of_lt_of_le hfl hb2.size) hfm).trans (hb2.block f hfl))).perm HP.out
          have hON := (HO.out.trans (Off.ofBelow hb2)).trans ho3
          have hDN := (HD.out.below hb2).off ho3 hgm
          clear HF HO HD hM2 hM3 hb2 ho3
          go_wp2_with fail
          go_roundw
          case rel => exact ⟨k + 1, by omega, by go_num, hFN, hON, hDN⟩
          case measure => simp [intOf]; omega
        · have hvs2 : v = s := by simpa using hvs
          have HX := Lib.hid (ag_skip HN.out hr hno (Rg.again_same (x := ⟨v, s, wm, c⟩) hvs2))
          clear hkn hin2 hr hno hrw hvs2
          go_wp2_with (at_lookup; refine wpList_hit placeKey rfl _ _ _ rfl Try.underlying75 rfl hM x _ rfl hin' ?_)
          have hb1 := trA (tr0 wr) (.cells #[.int .u32 v, .int .u32 s, .int .u32 wm, .int .u32 c] 28 (0, 0))
          have hFN : FileAt (wr.alloc (.cells #[.int .u32 v, .int .u32 s, .int .u32 wm, .int .u32 c] 28 (0, 0))) f m (M.map (ag (xs.take (k + 1)))) := by
            rw [hxt, ← HX.out]
            exact HF.out.below hb1
          have hON := HO.out.trans (Off.ofBelow hb1)
          have hDN := HD.out.below hb1
          go_roundw
          case rel => exact ⟨k + 1, by omega, by go_num, hFN, hON, hDN⟩
          case measure => simp [intOf]; omega
      · obtain rfl : k = xs.length := by omega
        have hFin : FileAt wr f m (M.map fun p => (p.1, p.2.again)) := by
          rw [List.take_length] at hF
          rw [← ag_all HALL.out]; exact hF
        have HF := Lib.hid hFin
        clear hF hFin
        go_wp2_with fail
        rw [Exit.noGoto_normal]
        go_end0
        exact ⟨rfl, HF.out, hO⟩
end Go.Proofs.Ytfhggmiaablcnaa.B
