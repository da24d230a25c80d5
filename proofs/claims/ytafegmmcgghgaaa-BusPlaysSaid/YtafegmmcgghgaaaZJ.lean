/- Several texts in one: Package bus: a region and its device are put. Package bus: New, Attach, Regions. The chapter's example of layer 3. -/
import Derived.Test.YtafegmmcgghgaaaZA
import Derived.Test.YtafegmmcgghgaaaZB
import Derived.Test.YtafegmmcgghgaaaZC
import Derived.Deep.Cut
namespace Go.Proofs.Ytafegmmcgghgaaa.B
set_option linter.unusedVariables false
set_option linter.unusedSimpArgs false
open Go.ChangeShapes Go.WideShapes Go.RowKit Go.Sort Go.Shelf
theorem zPage0 (a : Int) (w : World) (a0 : 0 ≤ a) (a1 : a < 16777216) :
    Calls Try.prog 64 #[.int .u32 a] w fun e w' => e = .returned (.agg #[.int .u32 0]) ∧ Below w.heap.size w w' := by
  have h := zPageOf a w a0 (by omega)
  rwa [show a / 16777216 = 0 by omega] at h
/-- What has become of a bus behind a seat that is put. -/
def PutSo (p bm : Nat) (rv sv : Value) (R : List (Int × Int)) (L : List Seat) (x : Seat) (w w' : World) : Prop :=
  ∃ (rv' sv' : Value) (R' : List (Int × Int)), BusAt w' p bm rv' sv' R' (L ++ [x]) ∧ R'.Perm (R ++ [(x.b, x.s)]) ∧ R'.Pairwise (fun x y => x.1 ≤ y.1) ∧ Off (busBlocks p bm rv sv) w w' ∧
    (∀ k, busBlocks p bm rv' sv' k → busBlocks p bm rv sv k ∨ w.heap.size ≤ k)
structure Apart (p bm : Nat) (rv sv : Value) : Prop where
  pm : p ≠ bm
  rp : ∀ k, rv.ownBlock = some k → k ≠ p
  rm : ∀ k, rv.ownBlock = some k → k ≠ bm
  sp : ∀ k, sv.ownBlock = some k → k ≠ p
  sm : ∀ k, sv.ownBlock = some k → k ≠ bm
  rs : ∀ k, rv.ownBlock = some k → sv.ownBlock ≠ some k
theorem BusAt.apart {w : World} {p bm : Nat} {rv sv : Value} {R : List (Int × Int)} {L : List Seat} (h : BusAt w p bm rv sv R L) : Apart p bm rv sv := by
  obtain ⟨_, _, hm, _⟩ := h.map
  refine ⟨?_, fun k hk => ?_, fun k hk => ?_, fun k hk => ?_, fun k hk => ?_, fun k hk hk2 => ?_⟩
  · rintro rfl; rw [h.cell] at hm; cases hm
  · rintro rfl; obtain ⟨c, hc⟩ := row_obj h.regs hk; rw [h.cell] at hc; simp at hc
  · rintro rfl; obtain ⟨c, hc⟩ := row_obj h.regs hk; rw [hm] at hc; cases hc
  · rintro rfl; obtain ⟨c, hc⟩ := row_obj h.seats hk; rw [h.cell] at hc; simp at hc
  · rintro rfl; obtain ⟨c, hc⟩ := row_obj h.seats hk; rw [hm] at hc; cases hc
  · obtain ⟨c, hc⟩ := row_obj h.regs hk; obtain ⟨d, hd⟩ := row_obj h.seats hk2; rw [hc] at hd; simp at hd
theorem put_so {p bm : Nat} {rv sv sv' : Value} {R R' : List (Int × Int)} {L : List Seat} {b s : Int} {f : Nat} {g3 cap3 : Nat} {w W V Y X : World} (hBW : BusAt W p bm rv sv R L) (hbW : Below w.heap.size w W) (hold : ∀ k, busBlocks p bm rv sv k → k < w.heap.size) (hA : Apart p bm rv sv)
    (hO : Off (fun k => k = bm ∨ sv.ownBlock = some k) W V) (hM : mapP V ek ok32 bm [(0, sv')]) (hS : V.ownsRow 0 109 3 sv' (L.length + 1) (L.flatMap Seat.cells ++ (Seat.mk b s f).cells)) (hat : sv'.ownBlock = sv.ownBlock ∨ ∃ k, sv'.ownBlock = some k ∧ W.heap.size ≤ k)
    (hP1 : V.heap[p]? = some (.cells #[rv, .map (some bm), .int .i64 0] 102 (0, 0))) (hRG : V.ownsRow 0 55 2 rv R.length (R.flatMap regCells))
    (hP3 : Y.heap[p]? = some (.cells #[.slice (some ⟨g3, 0, none⟩) (R.length + 1) cap3, .map (some bm), .int .i64 0] 102 (0, 0))) (hO3 : Off (fun k => k = p ∨ rv.ownBlock = some k) V Y) (hat3 : rv.ownBlock = some g3 ∨ V.heap.size ≤ g3)
    (hperm : R'.Perm (R ++ [(b, s)])) (hsorted : R'.Pairwise (fun x y => x.1 ≤ y.1)) (hown5 : X.ownsRow 0 55 2 (.slice (some ⟨g3, 0, none⟩) (R.length + 1) cap3) (R.length + 1) (R'.flatMap regCells)) (hO5 : Off (· = g3) Y X) (hx : Seat.wf ⟨b, s, f⟩) :
    PutSo p bm rv sv R L ⟨b, s, f⟩ w X := by
  have hbm := hM.lt
  have hpl := lt_of_block hP1
  have hgp : g3 ≠ p := by
    rcases hat3 with h | h
    · exact hA.rp g3 h
    · omega
  have hgm : g3 ≠ bm := by
    rcases hat3 with h | h
    · exact hA.rm g3 h
    · omega
  have hks : ∀ k, sv'.ownBlock = some k → k ≠ p ∧ rv.ownBlock ≠ some k ∧ k ≠ g3 := by
    intro k hk
    obtain ⟨c, hc⟩ := row_obj hS hk
    have hr : rv.ownBlock ≠ some k := fun h => by obtain ⟨d, hd⟩ := row_obj hRG h; rw [hc] at hd; simp at hd
    refine ⟨?_, hr, ?_⟩
    · rintro rfl; rw [hP1] at hc; simp at hc
    · rintro rfl
      rcases hat3 with h | h
      · exact hr h
      · have := lt_of_block hc; omega
  have hRl : R'.length = R.length + 1 := by have := hperm.length_eq; simpa using this
  refine ⟨.slice (some ⟨g3, 0, none⟩) (R.length + 1) cap3, sv', R', ⟨?_, ?_, ?_, ?_, ?_, ?_⟩, hperm, hsorted, ?_, ?_⟩
  · exact hO5.at hP3 (fun h => hgp h.symm)
  · rw [hRl]; exact hown5
  · rw [if_neg (by simp)]
    refine hM.kept ?_
    rw [hO5.block bm (Nat.lt_of_lt_of_le hbm hO3.size) (fun h => hgm h.symm), hO3.block bm hbm (fun h => h.elim (fun h => hA.pm h.symm) (fun h => hA.rm bm h rfl))]
  · have : (L ++ [Seat.mk b s f]).length = L.length + 1 := by simp
    rw [this, List.flatMap_append]
    simp only [List.flatMap_cons, List.flatMap_nil, List.append_nil]
    refine row_keep hS fun k hk => ?_
    obtain ⟨h1, h2, h3⟩ := hks k hk
    have hkl := (hS.lt k hk).2
    rw [hO5.block k (Nat.lt_of_lt_of_le hkl hO3.size) h3, hO3.block k hkl (fun h => h.elim h1 h2)]
  · intro y hy
    rcases List.mem_append.1 hy with h | h
    · exact hBW.wf y h
    · simp at h; subst h; exact hx
  · intro h; simp at h
  · have o1 : Off (busBlocks p bm rv sv) w W := Off.ofBelow hbW
    have o2 := o1.andThen hO (U := busBlocks p bm rv sv) (fun _ _ h => h) (fun i _ h => h.elim (fun h => .inr (.inl h)) (fun h => .inr (.inr (.inr h))))
    have o3 := o2.andThen hO3 (U := busBlocks p bm rv sv) (fun _ _ h => h) (fun i _ h => h.elim (fun h => .inl h) (fun h => .inr (.inr (.inl h))))
    refine o3.andThen hO5 (fun _ _ h => h) (fun i hi h => ?_)
    subst h
    rcases hat3 with h | h
    · exact .inr (.inr (.inl h))
    · have := o2.size; omega
  · have o2 := hO.size
    have o1 := hbW.size
    intro k hk
    rcases hk with h | h | h | h
    · exact .inl (.inl h)
    · exact .inl (.inr (.inl h))
    · have : k = g3 := by simp [Value.ownBlock] at h; exact h.symm
      subst this
      rcases hat3 with h | h
      · exact .inl (.inr (.inr (.inl h)))
      · right; omega
    · rcases hat with h2 | ⟨k', h2, h3⟩
      · exact .inl (.inr (.inr (.inr (h2 ▸ h))))
      · rw [h] at h2; cases h2; right; omega
/-- What has become of the pages behind a seat that is put. -/
def PagesSo (bm : Nat) (sv : Value) (L : List Seat) (x : Seat) (w w' : World) : Prop :=
  ∃ sv' : Value, mapP w' ek ok32 bm [(0, sv')] ∧ w'.ownsRow 0 109 3 sv' (L.length + 1) (L.flatMap Seat.cells ++ x.cells) ∧ Off (fun k => k = bm ∨ sv.ownBlock = some k) w w' ∧
    (sv'.ownBlock = sv.ownBlock ∨ ∃ k, sv'.ownBlock = some k ∧ w.heap.size ≤ k)
theorem one3 (b s : Int) (f : Nat) : ∀ u ∈ [Value.int .u32 b, Value.int .u32 s, Value.iface 23 (.pointer (some ⟨f, 0, none⟩))], u.oneCell' = true := by
  intro u hu; simp at hu; rcases hu with rfl | rfl | rfl <;> rfl
theorem put_one (sv v : Value) (L : List Seat) : putM (0 : Int) v (if L = [] then [] else [((0 : Int), sv)]) = [(0, v)] := by
  unfold putM
  split <;> simp
theorem pages_so {bm : Nat} {sv v' : Value} {L : List Seat} {x : Seat} {w w1 w2 w3 w4 : World} {C : Obj} (hbm : bm < w.heap.size) (hsv : ∀ k, sv.ownBlock = some k → k < w.heap.size ∧ k ≠ bm) (hw1 : w1 = (w.alloc C).drew) (h12 : Off (· = bm) w1 w2) (h23 : w2.grownBy w3 sv.ownBlock)
    (hown : w3.ownsRow 0 109 3 v' (L.length + 1) (L.flatMap Seat.cells ++ x.cells)) (hat : v'.ownBlock = sv.ownBlock ∨ v'.ownBlock = some w2.heap.size)
    (hm : mapP w4 ek ok32 bm (putM 0 v' (if L = [] then [] else [(0, sv)]))) (h34 : Off (· = bm) w3 w4) : PagesSo bm sv L x w w4 := by
  rw [put_one] at hm
  have ho1 : Off (fun k => k = bm ∨ sv.ownBlock = some k) w w1 := by subst hw1; exact ⟨rfl, rfl, rfl, (Off.ofAlloc (S := fun k => k = bm ∨ sv.ownBlock = some k) w C).size, fun k hk hs => (Off.ofAlloc (S := fun k => k = bm ∨ sv.ownBlock = some k) w C).block k hk hs⟩
  have hs1 : w.heap.size ≤ w1.heap.size := ho1.size
  have ho2 : Off (fun k => k = bm ∨ sv.ownBlock = some k) w w2 := ho1.andThen h12 (fun _ _ h => h) (fun _ _ h => .inl h)
  have ho3 : Off (fun k => k = bm ∨ sv.ownBlock = some k) w w3 := ho2.andThen (T := fun k => sv.ownBlock = some k) (Off.ofGrown h23 fun k e => e) (fun _ _ h => h) (fun _ _ h => .inr h)
  refine ⟨v', hm, row_keep hown fun g hg => h34.block g (hown.lt g hg).2 ?_, ho3.andThen h34 (fun _ _ h => h) (fun _ _ h => .inl h), ?_⟩
  · rintro rfl
    rcases hat with h | h
    · exact (hsv g (h ▸ hg)).2 rfl
    · rw [hg] at h
      have h5 := h12.size
      have : g = w2.heap.size := Option.some.inj h
      omega
  · rcases hat with h | h
    · exact .inl h
    · exact .inr ⟨_, h, Nat.le_trans hs1 h12.size⟩
set_option maxRecDepth 100000 in
set_option maxHeartbeats 4000000 in
theorem zPut (p bm : Nat) (rv sv : Value) (R : List (Int × Int)) (L : List Seat) (b s : Int) (f : Nat) (w : World) (hB : BusAt w p bm rv sv R L) (hn : R.length < 64) (hl : L.length = R.length) (hx : Seat.wf ⟨b, s, f⟩) :
    Calls Try.prog 51 #[.pointer (some ⟨p, 0, none⟩), .agg #[.int .u32 b, .int .u32 s, .iface 23 (.pointer (some ⟨f, 0, none⟩))]] w fun e w' => e = .returned (.tuple #[]) ∧ PutSo p bm rv sv R L ⟨b, s, f⟩ w w' := by
  obtain ⟨x0, x1, x2⟩ := hx
  simp only at x0 x1 x2
  have hold : ∀ k, busBlocks p bm rv sv k → k < w.heap.size := hB.lt
  go_enter Try.func51, Try.ntmps51
  go_wp2_with fail
  refine (zPage0 _ _ (by omega) (by omega)).mono ?_
  rintro e w1 ⟨rfl, hb1⟩
  have hX := blk_below hb1 (blk_new w _) (by simp)
  have hl1 := lt_of_block hX
  have hc0 := blk_cell hX 0
  simp only [List.getElem?_toArray, List.getElem?_cons_zero] at hc0
  have hbw1 := tr (trA (tr0 w) _) hb1
  clear hb1
  go_upto_region 2 with (fail)
  go_wp2_with fail
  refine (zPage0 _ _ (by omega) (by omega)).mono ?_
  rintro e w2 ⟨rfl, hb2⟩
  have hX2 := blk_below hb2 ((blk_old _ _ hl1).trans hX) (by simp; omega)
  have hY2 := blk_below hb2 (blk_new w1 _) (by simp)
  have hbw2 := tr (trA hbw1 _) hb2
  have hl2 := lt_of_block hX2
  have hl3 := lt_of_block hY2
  clear hb2
  go_upto_region 3 with (fail)
  have hW0 := (blk_old w2 (.cells #[.int .u32 0] 124) hl2).trans hX2
  have hW1 := (blk_old w2 (.cells #[.int .u32 0] 124) hl3).trans hY2
  have hW2 := blk_new w2 (.cells #[.int .u32 0] 124)
  have hbW := trA hbw2 (.cells #[.int .u32 0] 124)
  clear hX hc0 hX2 hY2 hbw1 hbw2
  generalize w2.alloc (.cells #[.int .u32 0] 124) = W at *
  generalize w2.heap.size = at1 at *
  generalize w1.heap.size = last1 at *
  clear w1 w2
  have hlW := lt_of_block hW2
  have hBW := hB.ofBelow hbW
  have hcP := blk_cell hBW.cell 1
  have hc0 := blk_cell hW0 0
  have hc1 := blk_cell hW0 1
  have hc2 := blk_cell hW0 2
  have hd0 := blk_cell hW1 0
  have he0 := blk_cell hW2 0
  simp only [List.getElem?_toArray, List.getElem?_cons_zero, List.getElem?_cons_succ] at hcP hc0 hc1 hc2 hd0 he0
  obtain ⟨i0, hi, hz0, hz1, hz2⟩ := info_parts infoSeat
  have hMl : (if L = [] then [] else [((0 : Int), sv)]).length ≤ maxLen := by split <;> simp [maxLen]
  obtain ⟨v0, st, W2, hE, hoE, hv0, hst⟩ := (hBW.map.kept (w' := (W.alloc (.cells #[.int .u32 b, .int .u32 s, .iface 23 (.pointer (some ⟨f, 0, none⟩))] 109)).drew) (blk_old W _ hBW.map.lt)).entry pageKey pageLawK Try.underlying100 0 ⟨by omega, by omega⟩ hMl zeroSeats
  have hv : v0 = sv := by
    by_cases hL : L = []
    · rw [if_pos hL] at hv0
      rcases hv0 with h | ⟨_, h⟩
      · cases h
      · rw [h, hB.nilv hL]
    · rw [if_neg hL] at hv0
      rcases hv0 with h | ⟨h, _⟩
      · simpa using h
      · exact absurd rfl (h (0, sv) (by simp))
  subst hv
  unfold ek at hE
  have hsvb : ∀ k, v0.ownBlock = some k → k < W.heap.size ∧ k ≠ bm := fun k hk => ⟨(hBW.seats.lt k hk).2, by
    rintro rfl
    obtain ⟨_, _, hb, _⟩ := hBW.map
    rcases hBW.seats.2 with ⟨h1, _⟩ | ⟨g, cap, cur, h1, _, h3, _⟩
    · rw [h1] at hk; cases hk
    · rw [h1] at hk; cases hk; rw [hb] at h3; cases h3⟩
  have hnb : W.heap.size ≠ bm := by have := hBW.map.lt; omega
  have hN := hoE.at (k := W.heap.size) (blk_new W (.cells #[.int .u32 b, .int .u32 s, .iface 23 (.pointer (some ⟨f, 0, none⟩))] 109)) hnb
  have hownW : W2.ownsRow 0 109 3 v0 L.length (L.flatMap Seat.cells) := row_keep hBW.seats fun g hg => by
    rw [hoE.block g (by have := (hsvb g hg).1; show g < (W.alloc _).heap.size; simp; omega) (hsvb g hg).2]
    exact blk_old W _ (hsvb g hg).1
  have hnews := cells3 hN
  have hszW : p < W.heap.size := hBW.ltp
  have hrest : ∀ v' w3, w3.ownsRow 0 109 3 v' (L.length + 1) (L.flatMap Seat.cells ++ [.int .u32 b, .int .u32 s, .iface 23 (.pointer (some ⟨f, 0, none⟩))]) → W2.grownBy w3 v0.ownBlock → (v'.ownBlock = v0.ownBlock ∨ v'.ownBlock = some W2.heap.size) →
      ∃ w4, (Instr.entryStore 100 (.map (some bm)) (.int .i64 st) v').run Try.prog w3 = .ok () w4 ∧ PagesSo bm v0 L ⟨b, s, f⟩ W w4 := by
    intro v' w3 hown3 hgr3 hat3
    have hb3 : w3.heap[bm]? = W2.heap[bm]? := hgr3.block bm (Nat.lt_of_lt_of_le (by have := hBW.map.lt; show bm < (W.alloc _).heap.size; simp; omega) hoE.size) (fun e => (hsvb bm e.symm).2 rfl)
    obtain ⟨w4, hr4, hm4, ho4⟩ := hst w3 v' hb3
    exact ⟨w4, hr4, pages_so hBW.map.lt hsvb rfl hoE hgr3 hown3 hat3 hm4 ho4⟩
  have HOW := Lib.hid hownW
  have HN := Lib.hid hnews
  have HI := Lib.hid hi
  have HZ := Lib.hid hz0
  have HZ1 := Lib.hid hz1
  have HZ2 := Lib.hid hz2
  have HBW := Lib.hid hBW
  have HR := Lib.hid hrest
  clear hrest hst hv0 hoE hN hownW hnews hB hsvb hMl hi hz0 hz1 hz2 hBW
  refine wp_loop_rounds 2 ?_
  rw [rounds_succ]
  go_upto_region 5 with (fail)
  refine wp_asThen fun K5 hK5 => ?_
  go_cut [] from 28 (fun w' => PagesSo bm v0 L ⟨b, s, f⟩ W w')
  case first =>
    go_region_law (refine step_append_own rfl (.tmp 33) (.tmp 35) 126 rfl 0 109 i0 (.agg #[.int .u32 0, .int .u32 0, .nilIface]) 3 24 Try.underlying126 HI.out HZ.out HZ1.out HZ2.out rfl (by decide) v0 L.length (L.flatMap Seat.cells) rfl HOW.out ⟨W.heap.size, 0, none⟩ 1 1 [.int .u32 b, .int .u32 s, .iface 23 (.pointer (some ⟨f, 0, none⟩))] rfl rfl HN.out (one3 b s f) (by unfold maxLen; omega) (by omega) (Nat.zero_le _) ?_; intro v' w3 hown3 hgr3 hnil3 hat3; obtain ⟨w4, hr4, hp4⟩ := HR.out v' w3 hown3 hgr3 hat3)
    all_goals
      go_wp2_with fail
      go_meet
      case rel => assumption
  case rest =>
    have HP := Lib.hid hcut
    have hw1 : W.heap.size ≤ wc.heap.size := by obtain ⟨_, _, _, ho, _⟩ := hcut; exact ho.size
    have hnS : ∀ k o, W.heap[k]? = some o → w.heap.size ≤ k → wc.heap[k]? = some o := fun k o hk h1 => by
      obtain ⟨_, _, _, ho, _⟩ := hcut
      refine ho.at hk fun h => ?_
      rcases h with h | h
      · have := hold bm (.inr (.inl rfl)); omega
      · have := hold k (.inr (.inr (.inr h))); omega
    have hZ0 := hnS _ _ hW0 (Nat.le_refl _)
    have hZ1 := hnS _ _ hW1 (Nat.le_of_lt hl1)
    have hZ2 := hnS _ _ hW2 (Nat.le_of_lt hl2)
    have hz1 := blk_cell hZ1 0
    have hz2 := blk_cell hZ2 0
    simp only [List.getElem?_toArray, List.getElem?_cons_zero, List.getElem?_cons_succ] at hz1 hz2
    have hlz := lt_of_block hZ2
    have hlz1 := lt_of_block hZ1
    have G0 := Lib.hid hZ0
    refine hK5 _ _ ?_
    clear hE hcut hW0 hW1 hW2 hcP hc0 hc1 hc2 hd0 he0 hZ0 hZ1 hZ2 hnS
    go_upto_region 8 with (fail)
    rw [rounds_succ]
    clear HOW HN HI HZ HZ1 HZ2 HR
    go_upto_region 8 with (fail)
    have hA := HBW.out.apart
    obtain ⟨sv', hmap', hseat', hoP, hat'⟩ := HP.out
    have hPW := hoP.at HBW.out.cell (fun h => h.elim hA.pm fun h => hA.sp p h rfl)
    have hregW := row_keep HBW.out.regs fun g hg => hoP.block g (HBW.out.regs.lt g hg).2 (fun h => h.elim (hA.rm g hg) (hA.rs g hg))
    have hP1 := (blk_old wc (.cells #[.int .u32 1] 124) (lt_of_block hPW)).trans hPW
    have hN1 := (blk_old wc (.cells #[.int .u32 1] 124) (lt_of_block G0.out)).trans G0.out
    have hreg1 := hregW.alloc (.cells #[.int .u32 1] 124)
    have ho1 : Off (fun k => k = bm ∨ v0.ownBlock = some k) W (wc.alloc (.cells #[.int .u32 1] 124)) := hoP.trans (Off.ofAlloc _ _)
    have hmap1 := hmap'.kept (blk_old wc (.cells #[.int .u32 1] 124) hmap'.lt)
    have hseat1 := hseat'.alloc (.cells #[.int .u32 1] 124)
    clear hz1 hz2 hlz hlz1 hoP hPW hregW G0 hmap' hseat'
    generalize wc.alloc (.cells #[.int .u32 1] 124) = V at *
    have HO := Lib.hid ho1
    have HM := Lib.hid hmap1
    have HS := Lib.hid hseat1
    have HRG := Lib.hid hreg1
    have HAT := Lib.hid hat'
    have hp0 := blk_cell hP1 0
    have hn0 := blk_cell hN1 0
    have hn1 := blk_cell hN1 1
    simp only [List.getElem?_toArray, List.getElem?_cons_zero, List.getElem?_cons_succ] at hp0 hn0 hn1
    have hlp := lt_of_block hP1
    have HP1 := Lib.hid hP1
    obtain ⟨i0, hi, hz0, hz1, hz2⟩ := info_parts infoReg
    have HI := Lib.hid hi
    have HZ := Lib.hid hz0
    have HZ1 := Lib.hid hz1
    have HZ2 := Lib.hid hz2
    clear ho1 hmap1 hseat1 hreg1 hat' hP1 hN1 hi hz0 hz1 hz2
    have hownV : ((V.alloc (.cells #[.int .u32 b, .int .u32 s] 55)).drew).ownsRow 0 55 2 rv R.length (R.flatMap regCells) := HRG.out.alloc _
    have hnewsV := cells2 (blk_new V (.cells #[.int .u32 b, .int .u32 s] 55))
    have HOV := Lib.hid hownV
    have HNV := Lib.hid hnewsV
    clear hownV hnewsV
    refine wp_asThen fun K8 hK8 => ?_
    go_cut [] from 40 (fun w' => RegsSo p bm rv R b s V w')
    case first =>
      go_region_law (refine step_append_own rfl (.tmp 44) (.tmp 47) 72 rfl 0 55 i0 (.agg #[.int .u32 0, .int .u32 0]) 2 8 Try.underlying72 HI.out HZ.out HZ1.out HZ2.out rfl (by decide) rv R.length (R.flatMap regCells) rfl HOV.out ⟨V.heap.size, 0, none⟩ 1 1 [.int .u32 b, .int .u32 s] rfl rfl HNV.out (one2 b s) (by unfold maxLen; omega) (by omega) (Nat.zero_le _) ?_; intro v' w3 hown3 hgr3 hnil3 hat3; obtain ⟨g3, cap3, rfl, hp03, hf03, hso3⟩ := regs_mid HP1.out hA.rp hgr3 hown3 hat3)
      all_goals
        go_wp2_with fail
        go_meet
        case rel => assumption
    case rest =>
      obtain ⟨g3, cap3, hP3, hown3, ho3, hat3⟩ := hcut
      have hp3 := blk_cell hP3 0
      simp only [List.getElem?_toArray, List.getElem?_cons_zero, List.getElem?_cons_succ] at hp3
      have hlp3 := lt_of_block hP3
      have hlen : (R ++ [(b, s)]).length = R.length + 1 := by simp
      have hown4 : wc.ownsRow 0 55 2 (.slice (some ⟨g3, 0, none⟩) (R ++ [(b, s)]).length cap3) (R ++ [(b, s)]).length ((R ++ [(b, s)]).flatMap regCells) := by
        rw [hlen, List.flatMap_append]; simpa using hown3
      have hsort := zSort (R ++ [(b, s)]) g3 cap3 wc hown4 (by rw [hlen]; omega)
      rw [hlen] at hsort
      have H3 := Lib.hid hP3
      have HO3 := Lib.hid ho3
      have HAT3 := Lib.hid hat3
      refine hK8 _ _ ?_
      clear hP3 hown3 ho3 hat3 hown4 hlen
      go_wp2_with fail
      refine hsort.mono ?_
      rintro e X ⟨rfl, R', hperm, hsorted, hown5, ho5⟩
      have HX := Lib.hid (put_so HBW.out hbW hold hA HO.out HM.out HS.out HAT.out HP1.out HRG.out H3.out HO3.out HAT3.out hperm hsorted hown5 ho5 ⟨x0, x1, x2⟩)
      clear hperm hsorted hown5 ho5 hsort
      go_wp2_with fail
      go_end0
      exact ⟨rfl, HX.out⟩
end Go.Proofs.Ytafegmmcgghgaaa.B
namespace Go.Proofs.Ytafegmmcgghgaaa.B
set_option linter.unusedVariables false
set_option linter.unusedSimpArgs false
open Go.ChangeShapes Go.WideShapes Go.RowKit Go.Sort Go.Shelf
theorem zNew (w : World) :
    Calls Try.prog 19 #[] w fun e w' => e = .returned (.pointer (some ⟨w.heap.size + 1, 0, none⟩)) ∧ BusAt w' (w.heap.size + 1) w.heap.size (.slice none 0 0) (.slice none 0 0) [] [] ∧ Below w.heap.size w w' := by
  have hmm := @run_makeMap Try.prog
  go_enter Try.func19, Try.ntmps19
  go_wp2_with fail
  go_ret
  refine ⟨rfl, ⟨?_, World.ownsRow_nil _ _ _ _, ?_, World.ownsRow_nil _ _ _ _, fun _ h => (by cases h), fun _ => rfl⟩, (((Below.refl _ _).alloc (Nat.le_refl _) _).alloc (by simp) _)⟩
  · exact b2_1 w _ _
  · rw [if_pos rfl]; exact (mapP_made w ek ok32).kept (blk_old _ _ (by simp))
/-- Nil devices, nil buses. -/
theorem zAttachNil (b s : Int) (D : Value) (hD : ∃ t v, D = .iface t v) (w : World) :
    Calls Try.prog 21 #[.pointer none, .agg #[.int .u32 b, .int .u32 s], D] w fun e w' => e = .returned (.int .i64 1) ∧ Below w.heap.size w w' := by
  obtain ⟨t, v, rfl⟩ := hD
  go_enter Try.func21, Try.ntmps21
  go_wp2_with fail
  go_ret
  exact ⟨rfl, trA (tr0 w) _⟩
/-- A region that is no region. -/
theorem zAttachBad (p : Nat) (b s E : Int) (f : Nat) (w : World) (hE : (E != 0) = true)
    (hc : ∀ w', Calls Try.prog 49 #[.agg #[.int .u32 b, .int .u32 s]] w' fun e w'' => e = .returned (.int .i64 E) ∧ Below w'.heap.size w' w'') :
    Calls Try.prog 21 #[.pointer (some ⟨p, 0, none⟩), .agg #[.int .u32 b, .int .u32 s], .iface 23 (.pointer (some ⟨f, 0, none⟩))] w fun e w' => e = .returned (.int .i64 E) ∧ Below w.heap.size w w' := by
  go_enter Try.func21, Try.ntmps21
  go_wp2_with fail
  refine (hc _).mono ?_
  rintro e w1 ⟨rfl, hb⟩
  go_wp2_with fail
  go_ret
  exact ⟨rfl, tr (trA (tr0 w) _) hb⟩
theorem zAttachMany (p bm : Nat) (rv sv : Value) (R : List (Int × Int)) (L : List Seat) (b s : Int) (f : Nat) (w : World) (hB : BusAt w p bm rv sv R L) (hn : 64 ≤ R.length)
    (b0 : 0 ≤ b) (b1 : b < 4294967296) (s0 : 0 ≤ s) (s1 : s < 4294967296) (h1 : (b % 4 != 0) = false) (h2 : (s % 4 != 0) = false) (h3 : (s == 0) = false) (h4 : b + s ≤ 4294967296) :
    Calls Try.prog 21 #[.pointer (some ⟨p, 0, none⟩), .agg #[.int .u32 b, .int .u32 s], .iface 23 (.pointer (some ⟨f, 0, none⟩))] w fun e w' => e = .returned (.int .i64 6) ∧ Below w.heap.size w w' := by
  go_enter Try.func21, Try.ntmps21
  go_wp2_with fail
  refine (zCheck b s _ b0 b1 s0 s1 h1 h2 h3 h4).mono ?_
  rintro e w1 ⟨rfl, hb1⟩
  have hX := blk_below hb1 (blk_new w _) (by simp)
  have hx0 := blk_cell hX 0
  have hx1 := blk_cell hX 1
  simp only [List.getElem?_toArray, List.getElem?_cons_zero, List.getElem?_cons_succ] at hx0 hx1
  have hbw := tr (trA (tr0 w) _) hb1
  clear hX hb1
  go_wp2_with fail
  refine (zRoomMany p bm rv sv R L b s _ (hB.ofBelow hbw) hn).mono ?_
  rintro e w2 ⟨rfl, hb2⟩
  go_wp2_with fail
  go_ret
  exact ⟨rfl, tr hbw hb2⟩
theorem zAttach (p bm : Nat) (rv sv : Value) (R : List (Int × Int)) (L : List Seat) (b s : Int) (f : Nat) (w : World) (hB : BusAt w p bm rv sv R L) (hn : R.length < 64) (hl : L.length = R.length) (hx : Seat.wf ⟨b, s, f⟩)
    (hR : ∀ x ∈ R, (0 ≤ x.1 ∧ x.1 < 4294967296) ∧ 0 ≤ x.2 ∧ x.2 < 4294967296) (hm : anyMeet b s R = false) (h1 : (b % 4 != 0) = false) (h2 : (s % 4 != 0) = false) :
    Calls Try.prog 21 #[.pointer (some ⟨p, 0, none⟩), .agg #[.int .u32 b, .int .u32 s], .iface 23 (.pointer (some ⟨f, 0, none⟩))] w fun e w' => e = .returned (.int .i64 0) ∧ PutSo p bm rv sv R L ⟨b, s, f⟩ w w' := by
  have hx' := hx
  obtain ⟨x0, x1, x2⟩ := hx'
  simp only at x0 x1 x2
  have h3 : (s == 0) = false := by simp; omega
  have HR := Lib.hid hR
  have HM := Lib.hid hm
  clear hR hm
  go_enter Try.func21, Try.ntmps21
  go_wp2_with fail
  refine (zCheck b s _ x0 (by omega) (by omega) (by omega) h1 h2 h3 (by omega)).mono ?_
  rintro e w1 ⟨rfl, hb1⟩
  have hX := blk_below hb1 (blk_new w _) (by simp)
  have hx0 := blk_cell hX 0
  have hx1 := blk_cell hX 1
  simp only [List.getElem?_toArray, List.getElem?_cons_zero, List.getElem?_cons_succ] at hx0 hx1
  have hbw := tr (trA (tr0 w) _) hb1
  have hl1 := lt_of_block hX
  have HX := Lib.hid hX
  clear hX hb1
  go_wp2_with fail
  refine (zRoom p bm rv sv R L b s false _ (hB.ofBelow hbw) hn HR.out x0 (by omega) (by omega) (by omega) HM.out).mono ?_
  rintro e w2 ⟨rfl, hb2⟩
  have hX2 := blk_below hb2 HX.out hl1
  have hy0 := blk_cell hX2 0
  have hy1 := blk_cell hX2 1
  simp only [List.getElem?_toArray, List.getElem?_cons_zero, List.getElem?_cons_succ] at hy0 hy1
  have hbw2 := tr hbw hb2
  clear hX2 hb2
  simp only [Bool.false_eq_true, if_false]
  go_wp2_with fail
  refine (zPut p bm rv sv R L b s f _ (hB.ofBelow hbw2) hn hl hx).mono ?_
  rintro e w3 ⟨rfl, rv', sv', R', hB', hp', hs', ho', hk'⟩
  have HB := Lib.hid hB'
  have HP := Lib.hid hp'
  have HS := Lib.hid hs'
  have HO := Lib.hid ho'
  have HK := Lib.hid hk'
  clear hB' hp' hs' ho' hk'
  go_wp2_with fail
  go_ret
  exact ⟨rfl, rv', sv', R', HB.out, HP.out, HS.out, (Off.ofBelow hbw2).trans (HO.out.mono fun _ _ h => h), fun k hk => (HK.out k hk).imp id fun h => Nat.le_trans hbw2.size h⟩
end Go.Proofs.Ytafegmmcgghgaaa.B
namespace Go.Proofs.Ytafegmmcgghgaaa.B
set_option linter.unusedVariables false
set_option linter.unusedSimpArgs false
open Go.ChangeShapes Go.WideShapes Go.RowKit Go.Sort Go.Shelf
/-- Of blocks that are all new nothing old has turned. -/
theorem off_new {S : Nat → Prop} {B : Nat} {a b : World} (h : Off S a b) (hB : ∀ k, S k → B ≤ k) (hs : B ≤ a.heap.size) : Below B a b := h.below (fun k hk hS => by have := hB k hS; omega) hs
set_option maxRecDepth 100000 in
set_option maxHeartbeats 2000000 in
theorem zknown (w : World) :
    Calls Try.prog 29 #[] w fun e w' => e = .returned (.bool true) ∧ Below w.heap.size w w' := by
  go_enter Try.func29, Try.ntmps29
  go_wp2_with fail
  refine (zNew _).mono ?_
  rintro e w1 ⟨rfl, hB1, hb1⟩
  go_wp2_with fail
  refine (fNew _).mono ?_
  rintro e w2 ⟨rfl, hF2, hb2⟩
  have hB2 := hB1.ofBelow hb2
  have hs1 := hB1.ltp
  have hs2 := hF2.ltf
  have hs0 := hb2.size
  have hbw2 := tr hb1 hb2
  have hbb : ∀ k, busBlocks (w.heap.size + 1) w.heap.size (.slice none 0 0) (.slice none 0 0) k → w.heap.size ≤ k ∧ k < w1.heap.size := fun k hk => by
    have := hB1.lt k hk
    rcases hk with h | h | h | h
    · omega
    · omega
    · cases h
    · cases h
  clear hb1 hb2 hB1
  go_wp2_with fail
  refine (zAttach (w.heap.size + 1) w.heap.size (.slice none 0 0) (.slice none 0 0) [] [] 256 16 (w1.heap.size + 1) _ hB2 (by simp) rfl ⟨by simp, by simp, by simp⟩ (fun _ h => by cases h) rfl (by decide) (by decide)).mono ?_
  rintro e w3 ⟨rfl, rv, sv, R, hB3, hp3, hs3, ho3, hk3⟩
  have hF3 := hF2.off ho3 (fun h => by have := hbb _ h; omega) (fun h => by have := hbb _ h; omega)
  have hbw3 := hbw2.trans (off_new ho3 (fun k h => (hbb k h).1) hbw2.size)
  have hkb : ∀ k, busBlocks (w.heap.size + 1) w.heap.size rv sv k → k ≠ w1.heap.size ∧ k ≠ w1.heap.size + 1 := fun k hk => by
    rcases hk3 k hk with h | h
    · have := hbb k h; omega
    · omega
  clear hbw2 hp3 hs3 ho3 hk3 hF2 hB2
  go_wp2_with fail
  refine (fDefine 4 ⟨7, 0, 0, 0⟩ (w1.heap.size + 1) w1.heap.size [] _ ⟨by simp, by simp, by simp, by simp⟩ (by omega) (by omega) (by decide) hF3 (fun _ h => by cases h)).mono ?_
  rintro e w4 ⟨rfl, hF4, ho4⟩
  have hB4 := hB3.ofOff ho4 (fun k hk h => (hkb k hk).1 h)
  have hbw4 := hbw3.trans (off_new ho4 (B := w.heap.size) (fun k h => by subst h; omega) hbw3.size)
  clear hbw3 ho4 hF3 hB3
  have f1 : findL 260 [⟨256, 16, w1.heap.size + 1⟩] = (.agg #[.int .u32 256, .int .u32 16, .iface 23 (.pointer (some ⟨w1.heap.size + 1, 0, none⟩))], 0) := rfl
  have f2 : findL 272 [⟨256, 16, w1.heap.size + 1⟩] = (zeroSeatV, 10) := rfl
  have HF1 := Lib.hid f1
  have HF2 := Lib.hid f2
  clear f1 f2
  go_wp2_with fail
  refine (zLoad _ _ rv sv R _ 260 256 16 (w1.heap.size + 1) w1.heap.size _ ⟨7, 0, 0, 0⟩ _ (by omega) (by omega) (by decide) hB4 HF1.out (by omega) (by omega) hF4 (by simp) (by decide) (by omega) (by omega)).mono ?_
  rintro e w5 ⟨rfl, hb5⟩
  have hB5 := hB4.ofBelow hb5
  have hbw5 := tr hbw4 hb5
  clear hb5 hbw4 hB4 hF4
  go_wp2_with fail
  refine (zFindX _ _ rv sv R _ 260 256 16 (w1.heap.size + 1) _ (by omega) (by omega) (by decide) hB5 HF1.out (by omega) (by omega)).mono ?_
  rintro e w6 ⟨rfl, hb6⟩
  have hB6 := hB5.ofBelow hb6
  have hbw6 := tr hbw5 hb6
  clear hb6 hbw5 hB5
  go_wp2_with fail
  refine (zLoadErr _ 272 10 _ (by decide) (fun w' hw' => zFind 272 _ _ _ _ rv sv R _ w' (by omega) (by omega) (by decide) ((hB6.ofBelow (trA (tr0 w6) _)).ofBelow hw') HF2.out)).mono ?_
  rintro e w7 ⟨rfl, hb7⟩
  have hbw7 := tr (trA hbw6 _) hb7
  clear hb7 hbw6
  go_wp2_with fail
  refine (zLoadErr _ 258 11 _ (by decide) (fun w' hw' => zFindBad 258 _ w' (by omega) (by decide))).mono ?_
  rintro e w8 ⟨rfl, hb8⟩
  have hbw8 := tr hbw7 hb8
  clear hb8 hbw7
  go_wp2_with fail
  go_ret
  exact ⟨rfl, hbw8⟩
end Go.Proofs.Ytafegmmcgghgaaa.B
