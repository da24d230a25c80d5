/- Several texts in one: A board copied. A board of one's own: what each call does to it. Layer 11's laws: the chapter's example; a nil board. -/
import Derived.Test.YtcgmnjajodegmaaGreatZNbj
import Derived.Laws.StructEq
namespace Go.Proofs.YtcgmnjajodegmaaGreat.B
set_option linter.unusedVariables false
set_option linter.unusedSimpArgs false
set_option maxRecDepth 100000
open Go.ChangeShapes Go.WideShapes Go.RowKit Go.Sort
theorem raw_ev {W : World} {B : Bp} {x : Bx} {h : Int} {v' : Value} (H : BdRaw W B { x with es := [] } h) (he : EvAt W tEv v' x.es) : BdRaw (W.setCell ⟨B.b, 10, none⟩ v') { B with ev := v' } x h := by
  have hso := off_set W B.b 10 v'
  have hne : ∀ k, v'.ownBlock = some k → k ≠ B.b := fun k hk e => by
    have h1 := he.kd hk
    rw [e, kd_of H.cell] at h1; revert h1; decide
  refine ⟨blk_set H.cell 10 v', ?_, H.bus.ofOff hso fun k hk e => H.busApart hk (.inl e), he.keep fun g hg => hso.block g (he.lt hg) (hne g hg)⟩
  have D := H.dv.off hso (fun k hk e => H.bApart (e ▸ hk)) (fun e => H.mcApart (.inl e))
  exact ⟨D.c, D.b, D.d, D.s, D.r, D.l⟩
def CopyPost (B : Bp) (x : Bx) (w : World) (e : Ending) (w' : World) : Prop := ∃ C : Bp, e = .returned (.pointer (some ⟨C.b, 0, none⟩)) ∧ BdAt w' C x ∧ Below w.heap.size w w' ∧ C.new w.heap.size ∧ C.n = B.n ∧ C.c = B.c ∧ C.div = B.div
set_option maxHeartbeats 3200000 in
theorem bdCopy (B : Bp) (x : Bx) (w : World) (H : BdAt w B x) (hl : x.es.length < 4294967296) :
    Calls Tryz.prog 16 #[.pointer (some ⟨B.b, 0, none⟩)] w (CopyPost B x w) := by
  have HH := Lib.hid H
  have HL := Lib.hid hl
  have hX := Lib.hid (show w.drew.heap[B.b]? = some (.cells #[.pointer (some ⟨B.pc, 0, none⟩), .pointer (some ⟨B.pb, 0, none⟩), .pointer (some ⟨B.pd, 0, none⟩), .pointer (some ⟨B.ps, 0, none⟩), .pointer (some ⟨B.pr, 0, none⟩), .pointer (some ⟨B.pl, 0, none⟩), .int .i64 B.n, .int .i64 B.c, .int .u32 B.div, .pointer (some ⟨B.bp, 0, none⟩), B.ev] tBd (0, 0)) from H.raw.cells)
  clear H hl
  go_enter Tryz.func16, Tryz.ntmps16
  go_upto_region 3 with (fail)
  refine wp_region_held_drew (S := fun w' => w'.heap[B.b]? = some (.cells #[.pointer (some ⟨B.pc, 0, none⟩), .pointer (some ⟨B.pb, 0, none⟩), .pointer (some ⟨B.pd, 0, none⟩), .pointer (some ⟨B.ps, 0, none⟩), .pointer (some ⟨B.pr, 0, none⟩), .pointer (some ⟨B.pl, 0, none⟩), .int .i64 B.n, .int .i64 B.c, .int .u32 B.div, .pointer (some ⟨B.bp, 0, none⟩), B.ev] tBd (0, 0))) (by kernel_rfl) hX.out (fun _ => ?_)
  refine wpAnyH_take (i := 0) (v := .pointer (some ⟨B.b, 0, none⟩)) rfl (by kernel_rfl) (by kernel_rfl) (by kernel_rfl) (fun _ _ _ h => h) (Or.inl ⟨by rfl, fun w' hSw => by clear hSw; go_simp⟩) hX.out ?_
  try simp only [Act.put, List.setIfInBounds_toArray, List.set_cons_zero, List.set_cons_succ]
  refine wpAnyH_take (i := 1) (v := .pointer (some ⟨B.b, 0, none⟩)) rfl (by kernel_rfl) (by kernel_rfl) (by kernel_rfl) (fun _ _ _ h => h) (Or.inl ⟨by rfl, fun w' hSw => by clear hSw; go_simp⟩) hX.out ?_
  try simp only [Act.put, List.setIfInBounds_toArray, List.set_cons_zero, List.set_cons_succ]
  refine wpAnyH_take (i := 2) (v := .pointer (some ⟨B.b, 6, none⟩)) rfl (by kernel_rfl) (by kernel_rfl) (by kernel_rfl) (fun _ _ _ h => h) (Or.inl ⟨by rfl, fun w' hSw => by clear hSw; go_simp⟩) hX.out ?_
  try simp only [Act.put, List.setIfInBounds_toArray, List.set_cons_zero, List.set_cons_succ]
  refine wpAnyH_take (i := 3) (v := .agg #[.int .i64 B.n, .int .i64 B.c, .int .u32 B.div]) rfl (by kernel_rfl) (by kernel_rfl) (by kernel_rfl) (fun _ _ _ h => h) (Or.inl ⟨by rfl, fun w' hSw => by have c6 := blk_cell hSw 6; have c7 := blk_cell hSw 7; have c8 := blk_cell hSw 8; simp only [List.getElem?_toArray, List.getElem?_cons_zero, List.getElem?_cons_succ] at c6 c7 c8; clear hSw; go_simp⟩) hX.out ?_
  try simp only [Act.put, List.setIfInBounds_toArray, List.set_cons_zero, List.set_cons_succ]
  refine wpAnyH_take (i := 4) (v := .pointer (some ⟨B.b, 0, none⟩)) rfl (by kernel_rfl) (by kernel_rfl) (by kernel_rfl) (fun _ _ _ h => h) (Or.inl ⟨by rfl, fun w' hSw => by clear hSw; go_simp⟩) hX.out ?_
  try simp only [Act.put, List.setIfInBounds_toArray, List.set_cons_zero, List.set_cons_succ]
  refine wpAnyH_take (i := 5) (v := .pointer (some ⟨B.b, 0, none⟩)) rfl (by kernel_rfl) (by kernel_rfl) (by kernel_rfl) (fun _ _ _ h => h) (Or.inl ⟨by rfl, fun w' hSw => by clear hSw; go_simp⟩) hX.out ?_
  try simp only [Act.put, List.setIfInBounds_toArray, List.set_cons_zero, List.set_cons_succ]
  refine wpAnyH_take (i := 6) (v := .pointer (some ⟨B.b, 0, none⟩)) rfl (by kernel_rfl) (by kernel_rfl) (by kernel_rfl) (fun _ _ _ h => h) (Or.inl ⟨by rfl, fun w' hSw => by clear hSw; go_simp⟩) hX.out ?_
  try simp only [Act.put, List.setIfInBounds_toArray, List.set_cons_zero, List.set_cons_succ]
  refine wpAnyH_take (i := 7) (v := .agg #[.pointer (some ⟨B.pc, 0, none⟩), .pointer (some ⟨B.pb, 0, none⟩), .pointer (some ⟨B.pd, 0, none⟩), .pointer (some ⟨B.ps, 0, none⟩), .pointer (some ⟨B.pr, 0, none⟩), .pointer (some ⟨B.pl, 0, none⟩)]) rfl (by kernel_rfl) (by kernel_rfl) (by kernel_rfl) (fun _ _ _ h => h) (Or.inl ⟨by rfl, fun w' hSw => by have c0 := blk_cell hSw 0; have c1 := blk_cell hSw 1; have c2 := blk_cell hSw 2; have c3 := blk_cell hSw 3; have c4 := blk_cell hSw 4; have c5 := blk_cell hSw 5; simp only [List.getElem?_toArray, List.getElem?_cons_zero, List.getElem?_cons_succ] at c0 c1 c2 c3 c4 c5; clear hSw; go_simp⟩) hX.out ?_
  try simp only [Act.put, List.setIfInBounds_toArray, List.set_cons_zero, List.set_cons_succ]
  refine wpAnyH_ready (rs := [8]) (by kernel_rfl) (by simp) ?_
  refine AllReadyH.cons rfl (fun K hK => ?_) AllReadyH.nil
  go_simp
  go_wp2_with (go_at_call 52; refine (zCopied B x _ _ (HH.out.dv.below (trD (tr0 w)))).mono ?_; rintro e w1 ⟨C, rfl, d1, b1, hf, hn, hc, hv⟩; have hX := Lib.hid (blk_below b1 hX.out (lt_of_block hX.out)); have HB := Lib.hid (tr (trD (tr0 w)) b1); have HD := Lib.hid d1; have HF := Lib.hid hf; have HNC := Lib.hid (show C.n = B.n ∧ C.c = B.c ∧ C.div = B.div from ⟨hn, hc, hv⟩); clear b1 d1 hf hn hc hv)
  refine hK.out _ _ hX.out (fun _ => ?_)
  clear hK K
  refine wpAnyH_ready (rs := [9]) (by kernel_rfl) (by simp) ?_
  refine AllReadyH.cons rfl (fun K hK => ?_) AllReadyH.nil
  go_simp
  have HM := Lib.hid (zMounted C x (wires B.n B.c x) w1 HD.out)
  rw [HNC.out.1, HNC.out.2.1, HNC.out.2.2] at HM
  go_wp2_with (go_at_call 37; refine (HM.out).mono ?_; rintro e w2 ⟨b, p, bm, rv, R, ks, pv, rfl, r2, b2, hb, hu⟩; have hX := Lib.hid (blk_below b2 hX.out (lt_of_block hX.out)); have HR := Lib.hid r2; have HN := Lib.hid (on_new (B := C) (R := R) (fresh_le HF.out (Nat.le_refl _)) (Nat.le_trans HB.out.size hb) (fun k hk => Nat.le_trans HB.out.size (hu k hk))); have HB2 := Lib.hid (tr HB.out b2); clear r2 b2 hb hu)
  refine hK.out _ _ hX.out (fun _ => ?_)
  clear hK K
  refine wpAnyH_take (i := 10) (v := .pointer (some ⟨b, 0, none⟩)) rfl (by kernel_rfl) (by kernel_rfl) (by kernel_rfl) (fun _ _ _ h => h) (Or.inl ⟨by rfl, fun w' hSw => by clear hSw; go_simp⟩) hX.out ?_
  try simp only [Act.put, List.setIfInBounds_toArray, List.set_cons_zero, List.set_cons_succ]
  refine wpAnyH_done (by kernel_rfl) ?_ _
  go_wp2_with fail
  refine (bdResets B x w2 (HH.out.below HB2.out) HL.out).mono ?_
  rintro e w3 ⟨v', rfl, he, b3, hn3⟩
  have HE := Lib.hid he
  have R3 := Lib.hid (HR.out.below b3)
  have HB3 := Lib.hid (tr HB2.out b3)
  have N3 := Lib.hid (show ∀ k, v'.ownBlock = some k → w.heap.size ≤ k from fun k hk => Nat.le_trans HB2.out.size (hn3 k hk))
  have hc := R3.out.cell
  have hlc : b < w3.heap.size := lt_of_block hc
  have hfc : w3.frozen? ⟨b, 10, none⟩ = false := blk_free hc 10
  have hcc : w3.cell? ⟨b, 10, none⟩ = some (.slice none 0 0) := blk_cell hc 10
  have hbl : w.heap.size ≤ b := HN.out b (.inl (.inl rfl))
  have HF1 := Lib.hid (show CopyPost B x w (.returned (.pointer (some ⟨b, 0, none⟩))) (w3.setCell ⟨b, 10, none⟩ v') from by
    have r := raw_ev R3.out HE.out
    have hw : wires B.n B.c x = wires C.n C.c x := by rw [HNC.out.1, HNC.out.2.1]
    rw [hw] at r
    have ok := HH.out.ok
    rw [← HNC.out.1, ← HNC.out.2.1] at ok
    refine ⟨{ C.on b p bm rv R ks pv with ev := v' }, rfl, r.done ok HH.out.still, HB3.out.setCell (p := ⟨b, 10, none⟩) hbl _, fun k hk => ?_, HNC.out.1, HNC.out.2.1, HNC.out.2.2⟩
    rcases hk with (hk | hk | hk) | hk | hk
    · exact HN.out k (.inl (.inl hk))
    · exact HN.out k (.inl (.inr (.inl hk)))
    · exact N3.out k hk
    · exact HN.out k (.inr (.inl hk))
    · exact HN.out k (.inr (.inr hk)))
  clear b3 hn3 hc hbl
  rcases row_form he with ⟨rfl, _⟩ | ⟨g, cap, rfl, _⟩
  all_goals
    clear he
    go_wp2_with fail
    go_ret
    exact HF1.out
end Go.Proofs.YtcgmnjajodegmaaGreat.B
namespace Go.Proofs.YtcgmnjajodegmaaGreat.B
set_option linter.unusedVariables false
set_option linter.unusedSimpArgs false
set_option maxRecDepth 100000
open Go.ChangeShapes Go.WideShapes Go.RowKit Go.Sort
/-- At b lies a board of n harts, c timers and the divider d, in the state x; all its blocks are s or newer. -/
def Has (s : Nat) (w : World) (b n c : Nat) (d : Int) (x : Bx) : Prop := ∃ B : Bp, B.b = b ∧ B.n = n ∧ B.c = c ∧ B.div = d ∧ BdAt w B x ∧ B.new s
section
variable {s : Nat} {w w' : World} {b n c : Nat} {d : Int} {x y : Bx}
theorem Has.below (H : Has s w b n c d x) (hb : Below w.heap.size w w') : Has s w' b n c d x := by
  obtain ⟨B, h1, h2, h3, h4, h5, h6⟩ := H
  exact ⟨B, h1, h2, h3, h4, h5.below hb, h6⟩
theorem Has.lt (H : Has s w b n c d x) : b < w.heap.size := by
  obtain ⟨B, rfl, h2, h3, h4, h5, h6⟩ := H
  exact h5.lt (.inl (.inl rfl))
theorem Has.ok (H : Has s w b n c d x) : x.ok n c := by
  obtain ⟨B, h1, rfl, rfl, h4, h5, h6⟩ := H
  exact h5.ok
theorem Has.still (H : Has s w b n c d x) : x.still := by
  obtain ⟨B, h1, rfl, rfl, h4, h5, h6⟩ := H
  exact h5.still
theorem Has.le (H : Has s w b n c d x) : s ≤ b := by
  obtain ⟨B, rfl, h2, h3, h4, h5, h6⟩ := H
  exact h6 _ (.inl (.inl rfl))
theorem Has.like (H : Has s w b n c d x) (l : Bx.like c x y) : Has s w b n c d y := by
  obtain ⟨B, h1, h2, rfl, h4, h5, h6⟩ := H
  exact ⟨B, h1, h2, rfl, h4, h5.like l, h6⟩
theorem left_new {B : Bp} {ev' : Value} {s : Nat} {w : World} (h : B.new s) (hs : s ≤ w.heap.size) (he : ∀ k, ev'.ownBlock = some k → B.ev.ownBlock = some k ∨ w.heap.size ≤ k) : ({ B with ev := ev' } : Bp).new s := by
  rintro k ((hk | hk | hk) | hk | hk)
  · exact h k (.inl (.inl hk))
  · exact h k (.inl (.inr (.inl hk)))
  · exact (he k hk).elim (fun e => h k (.inl (.inr (.inr e)))) fun e => Nat.le_trans hs e
  · exact h k (.inr (.inl hk))
  · exact h k (.inr (.inr hk))
theorem Left.has {B : Bp} (L : Left B y w w') (h : B.new s) (hs : s ≤ w.heap.size) : Has s w' B.b B.n B.c B.div y ∧ Below s w w' := by
  obtain ⟨ev', H, ho, he⟩ := L
  exact ⟨⟨{ B with ev := ev' }, rfl, rfl, rfl, rfl, H, left_new h hs he⟩, ho.below (fun k hk ho => by have := h k (.inl ho); omega) hs⟩
theorem hStore (H : Has s w b n c d x) (hs : s ≤ w.heap.size) (a v : Int) (a0 : 0 ≤ a) (a1 : a < 4294967296) (v0 : 0 ≤ v) (v1 : v < 4294967296) (hl : x.es.length < 4294967296) :
    Calls Tryz.prog 28 #[.pointer (some ⟨b, 0, none⟩), .int .u32 a, .int .u32 v] w fun e w' => e = .returned (.int .i64 (Bx.ste n c a)) ∧ Has s w' b n c d (x.sto n c a v) ∧ Below s w w' := by
  obtain ⟨B, rfl, rfl, rfl, rfl, h5, h6⟩ := H
  exact (bdStore B x a v w h5 a0 a1 v0 v1 hl).mono fun e w' h => ⟨h.1, h.2.has h6 hs⟩
theorem hTick (H : Has s w b n c d x) (hs : s ≤ w.heap.size) (N : Int) (n0 : 0 ≤ N) (n1 : N < 18446744073709551616) (hl : x.es.length < 4294967296) :
    Calls Tryz.prog 17 #[.pointer (some ⟨b, 0, none⟩), .int .u64 N] w fun e w' => e = .returned (.tuple #[]) ∧ Has s w' b n c d (x.tick N) ∧ Below s w w' := by
  obtain ⟨B, rfl, rfl, rfl, rfl, h5, h6⟩ := H
  exact (bdTick B x N w h5 n0 n1 hl).mono fun e w' h => ⟨h.1, h.2.has h6 hs⟩
theorem hLoad (H : Has s w b n c d x) (a : Int) (a0 : 0 ≤ a) (a1 : a < 4294967296) :
    Calls Tryz.prog 31 #[.pointer (some ⟨b, 0, none⟩), .int .u32 a] w fun e w' => e = .returned (.tuple #[.int .u32 (x.ldv n c a), .int .i64 (Bx.lde n c a)]) ∧ Below w.heap.size w w' := by
  obtain ⟨B, rfl, rfl, rfl, rfl, h5, h6⟩ := H
  exact bdLoad B x a w h5 a0 a1
theorem hTime (H : Has s w b n c d x) :
    Calls Tryz.prog 19 #[.pointer (some ⟨b, 0, none⟩)] w fun e w' => e = .returned (.int .u64 x.ti) ∧ Below w.heap.size w w' := by
  obtain ⟨B, rfl, rfl, rfl, rfl, h5, h6⟩ := H
  exact bdTime B x w h5
theorem hCompare (H : Has s w b n c d x) (h : Int) :
    Calls Tryz.prog 29 #[.pointer (some ⟨b, 0, none⟩), .int .i64 h] w fun e w' => e = .returned (.int .u64 (cCmp n x.D h)) ∧ Below w.heap.size w w' := by
  obtain ⟨B, rfl, rfl, rfl, rfl, h5, h6⟩ := H
  exact bdCompare B x h w h5
theorem hLine (H : Has s w b n c d x) (h : Int) :
    Calls Tryz.prog 30 #[.pointer (some ⟨b, 0, none⟩), .int .i64 h] w fun e w' => e = .returned (.bool (cLn x.ti n x.D h)) ∧ Below w.heap.size w w' := by
  obtain ⟨B, rfl, rfl, rfl, rfl, h5, h6⟩ := H
  exact bdLine B x h w h5
theorem hHigh (H : Has s w b n c d x) :
    Calls Tryz.prog 20 #[.pointer (some ⟨b, 0, none⟩)] w fun e w' => e = .returned (.int .u32 (wires n c x)) ∧ Below w.heap.size w w' := by
  obtain ⟨B, rfl, rfl, rfl, rfl, h5, h6⟩ := H
  exact bdHigh B x w h5
theorem hOut (H : Has s w b n c d x) :
    Calls Tryz.prog 21 #[.pointer (some ⟨b, 0, none⟩)] w fun e w' => e = .returned (.bool (outB (wires n c x) x.msk)) ∧ Below w.heap.size w w' := by
  obtain ⟨B, rfl, rfl, rfl, rfl, h5, h6⟩ := H
  exact bdOut B x w h5
theorem hConfig (H : Has s w b n c d x) :
    Calls Tryz.prog 11 #[.pointer (some ⟨b, 0, none⟩)] w fun e w' => e = .returned (.agg #[.int .i64 n, .int .i64 c, .int .u32 d]) ∧ Below w.heap.size w w' := by
  obtain ⟨B, rfl, rfl, rfl, rfl, h5, h6⟩ := H
  exact bdConfig B x w h5
theorem hResets (H : Has s w b n c d x) (hl : x.es.length < 4294967296) :
    Calls Tryz.prog 18 #[.pointer (some ⟨b, 0, none⟩)] w fun e w' => ∃ v', e = .returned v' ∧ EvAt w' tEv v' x.es ∧ Below w.heap.size w w' ∧ (∀ k, v'.ownBlock = some k → w.heap.size ≤ k) := by
  obtain ⟨B, rfl, rfl, rfl, rfl, h5, h6⟩ := H
  exact bdResets B x w h5 hl
theorem hDog (H : Has s w b n c d x) :
    Calls Tryz.prog 22 #[.pointer (some ⟨b, 0, none⟩)] w fun e w' => ∃ p', e = .returned (.pointer (some ⟨p', 0, none⟩)) ∧ DAt w' p' x.wd ∧ Below w.heap.size w w' := by
  obtain ⟨B, rfl, rfl, rfl, rfl, h5, h6⟩ := H
  exact bdDog B x w h5
theorem hRtc (H : Has s w b n c d x) :
    Calls Tryz.prog 24 #[.pointer (some ⟨b, 0, none⟩)] w fun e w' => ∃ p', e = .returned (.pointer (some ⟨p', 0, none⟩)) ∧ EAt w' p' tRtc x.rk ∧ Below w.heap.size w w' := by
  obtain ⟨B, rfl, rfl, rfl, rfl, h5, h6⟩ := H
  exact bdRtc B x w h5
theorem hBank (H : Has s w b n c d x) :
    Calls Tryz.prog 26 #[.pointer (some ⟨b, 0, none⟩)] w fun e w' => ∃ p' g' q', e = .returned (.pointer (some ⟨p', 0, none⟩)) ∧ BkAt w' p' g' c q' x.tm ∧ Below w.heap.size w w' := by
  obtain ⟨B, rfl, rfl, rfl, rfl, h5, h6⟩ := H
  exact bdBank B x w h5
theorem hCopy (H : Has s w b n c d x) (hl : x.es.length < 4294967296) :
    Calls Tryz.prog 16 #[.pointer (some ⟨b, 0, none⟩)] w fun e w' => ∃ b', e = .returned (.pointer (some ⟨b', 0, none⟩)) ∧ Has w.heap.size w' b' n c d x ∧ Below w.heap.size w w' := by
  obtain ⟨B, rfl, rfl, rfl, rfl, h5, h6⟩ := H
  refine (bdCopy B x w h5 hl).mono ?_
  rintro e w' ⟨C, rfl, h1, h2, h3, h7, h8, h9⟩
  exact ⟨C.b, rfl, ⟨C, rfl, h7, h8, h9, h1, h3⟩, h2⟩
end
theorem hNew (n c : Nat) (d : Int) (w : World) (n0 : 1 ≤ n) (n8 : n ≤ 8) (c0 : 1 ≤ c) (c8 : c ≤ 8) (d0 : 1 ≤ d) (d1 : d < 4294967296) :
    Calls Tryz.prog 8 #[.agg #[.int .i64 n, .int .i64 c, .int .u32 d]] w fun e w' => ∃ b, e = .returned (.tuple #[.pointer (some ⟨b, 0, none⟩), .int .i64 0]) ∧ Has w.heap.size w' b n c d (bx0 d) ∧ Below w.heap.size w w' := by
  refine (bdNew n c d w n0 n8 c0 c8 d0 d1).mono ?_
  rintro e w' ⟨B, rfl, h1, h2, h3, h7, h8, h9⟩
  exact ⟨B.b, rfl, ⟨B, rfl, h7, h8, h9, h1, h3⟩, h2⟩
/-! Two boards: what is done to the first leaves the second. -/
structure Two (w : World) (B C : Bp) (x y : Bx) : Prop where
  one : BdAt w B x
  two : BdAt w C y
  ap : ∀ k, C.all k → ¬ B.own k
theorem Two.below {w w' : World} {B C : Bp} {x y : Bx} (H : Two w B C x y) (hb : Below w.heap.size w w') : Two w' B C x y := ⟨H.one.below hb, H.two.below hb, H.ap⟩
theorem Two.left {w w' : World} {B C : Bp} {x y z : Bx} (H : Two w B C x y) (L : Left B z w w') : ∃ ev', Two w' { B with ev := ev' } C z y ∧ ∀ k, ev'.ownBlock = some k → B.ev.ownBlock = some k ∨ w.heap.size ≤ k := by
  obtain ⟨ev', h, ho, he⟩ := L
  refine ⟨ev', ⟨h, H.two.off ho H.ap, fun k hk ho => ?_⟩, he⟩
  rcases ho with h1 | h1 | h1
  · exact H.ap k hk (.inl h1)
  · exact H.ap k hk (.inr (.inl h1))
  · exact (he k h1).elim (fun e => H.ap k hk (.inr (.inr e))) fun e => by have := H.two.lt hk; omega
theorem two_copy {w w' : World} {B C : Bp} {x : Bx} (H : BdAt w B x) (hb : Below w.heap.size w w') (h : BdAt w' C x) (hn : C.new w.heap.size) : Two w' B C x x :=
  ⟨H.below hb, h, fun k hk ho => by have := hn k hk; have := H.lt (.inl ho); omega⟩
end Go.Proofs.YtcgmnjajodegmaaGreat.B
namespace Go.Proofs.YtcgmnjajodegmaaGreat.B
set_option linter.unusedVariables false
set_option linter.unusedSimpArgs false
set_option maxRecDepth 100000
open Go.ChangeShapes Go.WideShapes Go.RowKit Go.Sort
/-- The example's states. -/
def kx0 : Bx := bx0 10
def kx1 : Bx := kx0.sto 1 1 268566536 5
def kx2 : Bx := kx1.sto 1 1 268566528 1
def kx3 : Bx := kx2.tick 8
theorem kx_1 : Bx.ste 1 1 268566536 = 0 := by decide +kernel
theorem kx_2 : Bx.ste 1 1 268566528 = 0 := by decide +kernel
theorem kx_e0 : kx0.es.length < 4294967296 := by decide +kernel
theorem kx_e1 : kx1.es.length < 4294967296 := by decide +kernel
theorem kx_e2 : kx2.es.length < 4294967296 := by decide +kernel
theorem kx_e3 : kx3.es = [(5, 2)] := by decide +kernel
theorem kx_t : kx3.ti = 8 := by decide +kernel
theorem kx_v : kx3.ldv 1 1 268566536 = 0 := by decide +kernel
theorem kx_l : Bx.lde 1 1 268566536 = 0 := by decide +kernel
set_option maxHeartbeats 3200000 in
theorem bdKnown (w : World) : Calls Tryz.prog 10 #[] w fun e w' => e = .returned (.bool true) ∧ Below w.heap.size w w' := by
  have HNW := Lib.hid (hNew 1 1 10 w (by decide) (by decide) (by decide) (by decide) (by decide) (by decide))
  go_enter Tryz.func10, Tryz.ntmps10
  go_wp2_with fail
  refine (HNW.out).mono ?_
  rintro e w1 ⟨b, rfl, H1, b1⟩
  have HH := Lib.hid (show Has w.heap.size w1 b 1 1 10 kx0 from H1)
  have HB := Lib.hid b1
  clear H1 b1 HNW
  go_wp2_with fail
  refine (hStore HH.out HB.out.size 268566536 5 (by decide) (by decide) (by decide) (by decide) kx_e0).mono ?_
  rw [kx_1]
  rintro e w2 ⟨rfl, H1, b1⟩
  have HH := Lib.hid (show Has w.heap.size w2 b 1 1 10 kx1 from H1)
  have HB := Lib.hid (HB.out.trans b1)
  clear H1 b1
  go_wp2_with fail
  refine (hStore HH.out HB.out.size 268566528 1 (by decide) (by decide) (by decide) (by decide) kx_e1).mono ?_
  rw [kx_2]
  rintro e w3 ⟨rfl, H1, b1⟩
  have HH := Lib.hid (show Has w.heap.size w3 b 1 1 10 kx2 from H1)
  have HB := Lib.hid (HB.out.trans b1)
  clear H1 b1
  go_wp2_with fail
  refine (hTick HH.out HB.out.size 8 (by decide) (by decide) kx_e2).mono ?_
  rintro e w4 ⟨rfl, H1, b1⟩
  have HH := Lib.hid (show Has w.heap.size w4 b 1 1 10 kx3 from H1)
  have HB := Lib.hid (HB.out.trans b1)
  clear H1 b1
  go_wp2_with fail
  refine (hResets HH.out (by rw [kx_e3]; decide)).mono ?_
  rintro e w5 ⟨v', rfl, he, b1, _⟩
  have HH := Lib.hid (HH.out.below b1)
  have HB := Lib.hid (tr HB.out b1)
  rw [kx_e3] at he
  obtain ⟨g, cap, rfl⟩ := row_some (m := 0) he
  have hE := Lib.hid he
  clear he b1
  go_wp2_with fail
  refine (hLoad HH.out 268566536 (by decide) (by decide)).mono ?_
  rw [kx_v, kx_l]
  rintro e w6 ⟨rfl, b1⟩
  have HH := Lib.hid (HH.out.below b1)
  have HB := Lib.hid (tr HB.out b1)
  have hE := Lib.hid (hE.out.below b1)
  clear b1
  go_wp2_with fail
  refine (hTime HH.out).mono ?_
  rw [kx_t]
  rintro e w7 ⟨rfl, b1⟩
  have HB := Lib.hid (tr HB.out b1)
  have hE := (hE.out.below b1)
  have c0 : w7.cell? ⟨g, 0, none⟩ = some (.int .u64 5) := by have := row_cell (f := evC) evC_len (w := w7) (L := [(5, 2)]) hE rfl (k := 0) rfl 0 (by decide); simpa [evC] using this
  have c1 : w7.cell? ⟨g, 1, none⟩ = some (.int .i64 2) := by have := row_cell (f := evC) evC_len (w := w7) (L := [(5, 2)]) hE rfl (k := 0) rfl 1 (by decide); simpa [evC] using this
  clear b1 hE
  go_wp2_with fail
  go_ret
  exact ⟨rfl, HB.out⟩
set_option maxHeartbeats 3200000 in
theorem boardNil (a v N : Int) (w : World) (a0 : 0 ≤ a) (a1 : a < 4294967296) (E : Int) (hE : E = if (a % 4 != 0) = true then 11 else 10) :
    Calls Tryz.prog 6 #[.int .u32 a, .int .u32 v, .int .u64 N] w fun e w' => e = .returned (.bool true) ∧ Below w.heap.size w w' := by
  have HE := Lib.hid hE
  have HLD := Lib.hid (fun w => bdLoadNil a E w a0 hE)
  have HST := Lib.hid (fun w => bdStoreNil a v E w a0 hE)
  by_cases h4 : (a % 4 != 0) = true
  all_goals
    first
      | (rw [if_pos h4] at hE; subst hE)
      | (rw [if_neg h4] at hE; subst hE)
    go_enter Tryz.func6, Tryz.ntmps6
    go_wp2_with fail
    refine (bdTickNil N w).mono ?_
    rintro e w1 ⟨rfl, rfl⟩
    go_wp2_with fail
    refine (HLD.out _).mono ?_
    rintro e w2 ⟨rfl, b1⟩
    have HB := Lib.hid b1
    clear b1
    go_wp2_with fail
    refine (bdKnown _).mono ?_
    rintro e w3 ⟨rfl, b1⟩
    have HB := Lib.hid (tr HB.out b1)
    clear b1
    go_wp2_with fail
    refine (HST.out _).mono ?_
    rintro e w4 ⟨rfl, b1⟩
    have HB := Lib.hid (tr HB.out b1)
    clear b1
    go_wp2_with fail
    refine (bdTimeNil _).mono ?_
    rintro e w5 ⟨rfl, b1⟩
    have HB := Lib.hid (tr HB.out b1)
    clear b1
    go_wp2_with fail
    refine (bdCompareNil 0 _).mono ?_
    rintro e w6 ⟨rfl, b1⟩
    have HB := Lib.hid (tr HB.out b1)
    clear b1
    go_wp2_with fail
    refine (bdLineNil 0 _).mono ?_
    rintro e w7 ⟨rfl, b1⟩
    have HB := Lib.hid (tr HB.out b1)
    clear b1
    go_wp2_with fail
    refine (bdHighNil _).mono ?_
    rintro e w8 ⟨rfl, b1⟩
    have HB := Lib.hid (tr HB.out b1)
    clear b1
    go_wp2_with fail
    refine (bdOutNil _).mono ?_
    rintro e w9 ⟨rfl, b1⟩
    have HB := Lib.hid (tr HB.out b1)
    clear b1
    go_wp2_with fail
    refine (bdResetsNil _).mono ?_
    rintro e w10 ⟨rfl, b1⟩
    have HB := Lib.hid (tr HB.out b1)
    clear b1
    go_wp2_with fail
    refine (bdConfigNil _).mono ?_
    rintro e w11 ⟨rfl, b1⟩
    have HB := Lib.hid (tr HB.out b1)
    clear b1
    go_wp2_with fail
    refine (bdDogNil _).mono ?_
    rintro e w12 ⟨rfl, b1⟩
    have HB := Lib.hid (tr HB.out b1)
    clear b1
    go_wp2_with fail
    refine (bdBankNil _).mono ?_
    rintro e w13 ⟨rfl, b1⟩
    have HB := Lib.hid (tr HB.out b1)
    clear b1
    go_wp2_with fail
    refine (bdRtcNil _).mono ?_
    rintro e w14 ⟨rfl, b1⟩
    have HB := Lib.hid (tr HB.out b1)
    clear b1
    go_wp2_with fail
    refine (bdCopyNil _).mono ?_
    rintro e w15 ⟨rfl, rfl⟩
    go_wp2_with fail
    go_ret
    exact ⟨rfl, HB.out⟩
end Go.Proofs.YtcgmnjajodegmaaGreat.B
