/- Several texts in one: Layer 15, package occ: a loop over the iterator: the caller's law (the iterator turns a block of its own between two .. -/
import Derived.Test.YtgfoeiikocpmdaaZAad
import Derived.Test.YtgfoeiikocpmdaaZAae
import Derived.Shelf.RegionOpen
import Derived.Shelf.Abstract
namespace Go.Proofs.Ytgfoeiikocpmdaa.B
set_option linter.unusedVariables false
set_option linter.unusedSimpArgs false
set_option maxRecDepth 100000
open Go.ChangeShapes Go.WideShapes Go.RowKit Go.Sort
def KeepX (B : Nat) (A A' : World) : Prop := A.heap.size ≤ A'.heap.size ∧ ∀ r, B ≤ r → r < B + 3 → A'.heap[r]? = A.heap[r]?
def OwnX (B : Nat) (I : World → Prop) : Prop := ∀ A A', I A → Off (fun r => B ≤ r ∧ r < B + 3) A A' → I A'
def postX (B : Nat) (I Ix : List Nat → World → Prop) (xs : List Nat) (W : World) : Exit → Act → World → Prop
 | .normal, _, W' => KeepX B W W' ∧ I xs W'
 | .ret, _, W' => KeepX B W W' ∧ Ix xs W'
 | _, _, _ => False
theorem off_put {S : Nat → Prop} (w : World) (r : Nat) (o : Obj) (h : S r) : Off S w (w.putObj r o) := ⟨rfl, rfl, rfl, by simp, fun k _ hk => World.putObj_heap_other (fun e => hk (by rw [e]; exact h))⟩
theorem Off.wide {S T : Nat → Prop} {w w' : World} (h : Off S w w') (hs : ∀ r, S r → T r) : Off T w w' := ⟨h.os, h.tape, h.output, h.size, fun k hk ht => h.block k hk fun x => ht (hs k x)⟩
set_option maxHeartbeats 1600000 in
theorem rfTaken {g : Operand} {ps : Array Tmp} {assign body : Code} {Q : Exit → Act → World → Prop} {a : Act} {w : World} (m : Nat → Int) (hm : okM m) (bm : Nat) (hbm : OAt tOM w bm m)
 (hg : a.eval g = .func (.func 30) #[] #[.pointer (some ⟨bm, 0, none⟩)]) (hps : ps.size = 2)
 (I Ix : List Nat → World → Prop) (hI : ∀ xs, OwnX w.heap.size (I xs)) (hIx : ∀ xs, OwnX w.heap.size (Ix xs)) (h0 : I [] w) (a₁ : Nat → Act)
 (hassign : ∀ (l : Nat) (x : Nat) (W : World) (K : Act → World → Prop), K (a₁ x) W →
   assign.wpIn (Fence.wide.inRound l) 1 Try.prog (Exit.then K (fun _ _ _ => False)) { tmps := (ps.zip (prA x)).foldl (fun t (p, v) => t.setIfInBounds p v) a.tmps, defers := [] } W)
 (hbody : ∀ (l : Nat) (pre : List Nat) (x : Nat) (W : World), I pre W → w.heap.size + 3 ≤ W.heap.size → pre ++ [x] <+: taken m → body.wpIn (Fence.wide.inRound l) 1 Try.prog (postX w.heap.size I Ix (pre ++ [x]) W) (a₁ x) W)
 (hdone : ∀ (W : World), I (taken m) W → W.heap[w.heap.size]? = some (.deferred (some [])) → Q .normal { a with defers := { target := .collected w.heap.size, args := #[] } :: a.defers } W)
 (hstop : ∀ (pre : List Nat) (W : World), pre <+: taken m → Ix pre W → W.heap[w.heap.size]? = some (.deferred (some [])) → Code.ret.wpIn Fence.wide 3 Try.prog Q { a with defers := { target := .collected w.heap.size, args := #[] } :: a.defers } W) :
 (Code.rangeFunc g ps assign body).wpIn Fence.wide 3 Try.prog Q a w := by
 refine wpIn_rangeFunc ?_
 intro fn hfn
 rw [show Fence.wide.round = none from rfl]
 obtain ⟨rec, hrec⟩ : ∃ rec : LoopState → Option Code → Loop, rec = fun st pe => { state := st, pending := pe, fn, tmps := a.tmps, params := ps, assign, body, defers := w.heap.size } := ⟨_, rfl⟩
 obtain ⟨W1, hW1⟩ : ∃ W1, (w.alloc (.deferred (some []))).alloc (.loop (rec .ready none)) = W1 := ⟨_, rfl⟩
 have hsz : W1.heap.size = w.heap.size + 2 := by rw [← hW1]; simp
 have hL1 : W1.heap[w.heap.size + 1]? = some (.loop (rec .ready none)) := by
  rw [← hW1]; have := World.alloc_heap_new (w.alloc (.deferred (some []))) (.loop (rec .ready none)); rwa [World.size_alloc] at this
 have hK1 : W1.heap[w.heap.size]? = some (.deferred (some [])) := by
  rw [← hW1]; exact (Below.heap_alloc _ _ _ (by simp)).trans (World.alloc_heap_new w _)
 have hI1 : I [] W1 := by rw [← hW1]; exact hI _ _ _ (hI _ _ _ h0 (offA _ _)) (offA _ _)
 have hb1 : OAt tOM W1 bm m := by rw [← hW1]; exact (hbm.below (trA (tr0 w) _)).below (trA (tr0 _) _)
 refine ⟨w.heap.size + 1, [{ target := .collected w.heap.size, args := #[] }], W1, { target := .fn (.func 30) #[.pointer (some ⟨bm, 0, none⟩)], args := #[.func (.yield (w.heap.size + 1)) #[] #[]] }, W1, 30,
  #[.func (.yield (w.heap.size + 1)) #[] #[]] ++ #[.pointer (some ⟨bm, 0, none⟩)], W1, ?_, ?_, ?_, ?_, (fun h => (by cases h)), ?_⟩
 · rw [← hW1, hrec]; exact run_enterLoop_outer _ _ _ _ _
 · simp only [resolve, hg]
   simp [go_sem]
 · intro f' hf'; exact trivial
 · simp [invoke, go_sem, enters_of Try.func30 (by kernel_rfl) rfl]
 · refine (callsIn_wide.2 (oTaken1 (w.heap.size + 1) bm m hm
    (fun pre W => I pre W ∧ W.heap[w.heap.size + 1]? = some (.loop (rec .ready none)) ∧ W.heap[w.heap.size]? = some (.deferred (some [])))
    (fun pre W => Ix pre W ∧ W.heap[w.heap.size + 1]? = some (.loop (rec .done (some .ret))) ∧ W.heap[w.heap.size]? = some (.deferred (some [])))
    W1 ?_ ?_ hb1 ⟨hI1, hL1, hK1⟩)).mono ?_
   · intro s A A' ⟨hi, hl, hk⟩ ho
     exact ⟨hI _ _ _ hi (Off.wide ho fun r e => by omega), ho.at hl (by omega), ho.at hk (by omega)⟩
   · -- one round
     rintro pre x W ⟨hi, hl, hk⟩ hlen hpre
     have hlt : w.heap.size + 1 < W.heap.size := (Array.getElem?_eq_some_iff.1 hl).1
     have hy := run_yield (P := Try.prog) (args := prA x) hl (by rw [hrec]; exact hps.symm)
     rw [hrec] at hy
     refine ⟨fn, _, assign, body, hy, roundIn_of_wpIn hfn (hassign _ x W _ ⟨_, run_beginRound hl (by rw [hrec]), ?_⟩)⟩
     have hl2 : (W.putObj (w.heap.size + 1) (.loop { rec .ready none with state := .busy })).heap[w.heap.size + 1]? = some (.loop { rec .ready none with state := .busy }) := World.putObj_heap_same hlt
     have hk2 : (W.putObj (w.heap.size + 1) (.loop { rec .ready none with state := .busy })).heap[w.heap.size]? = some (.deferred (some [])) := (World.putObj_heap_other (by omega)).trans hk
     refine wpIn_mono (hbody _ pre x _ (hI _ _ _ hi (off_put _ _ _ (by omega))) (by simp; omega) hpre) ?_
     have fin : ∀ (jump : Option Code) (W3 : World), KeepX w.heap.size (W.putObj (w.heap.size + 1) (.loop { rec .ready none with state := .busy })) W3 →
      (Instr.endRound (w.heap.size + 1) jump).run Try.prog W3 = .ok (.bool jump.isNone) (W3.putObj (w.heap.size + 1) (.loop (rec (if jump.isNone then .ready else .done) jump))) ∧
      (W3.putObj (w.heap.size + 1) (.loop (rec (if jump.isNone then .ready else .done) jump))).heap[w.heap.size + 1]? = some (.loop (rec (if jump.isNone then .ready else .done) jump)) ∧
      (W3.putObj (w.heap.size + 1) (.loop (rec (if jump.isNone then .ready else .done) jump))).heap[w.heap.size]? = some (.deferred (some [])) ∧
      KeepB (w.heap.size + 2) W (W3.putObj (w.heap.size + 1) (.loop (rec (if jump.isNone then .ready else .done) jump))) := fun jump W3 hk3 => by
      have hl3 := (hk3.2 (w.heap.size + 1) (by omega) (by omega)).trans hl2
      have hd3 := (hk3.2 w.heap.size (by omega) (by omega)).trans hk2
      have hr3 := hk3.2 (w.heap.size + 2) (by omega) (by omega)
      have hs3 := hk3.1
      have := run_endRound (P := Try.prog) jump hl3
      rw [hrec] at this ⊢
      refine ⟨this, World.putObj_heap_same (Array.getElem?_eq_some_iff.1 hl3).1, (World.putObj_heap_other (by omega)).trans hd3, ?_, ?_⟩
      · simp at hs3 ⊢; exact hs3
      · rw [World.putObj_heap_other (by omega), hr3, World.putObj_heap_other (by omega)]
     rw [hsz]
     rintro e a3 W3 hp
     cases e with
     | normal =>
       obtain ⟨hk3, hi3⟩ := hp
       obtain ⟨hr, hl4, hk4, hkb⟩ := fin none W3 hk3
       exact ⟨_, _, hr, .inl ⟨rfl, ⟨hI _ _ _ hi3 (off_put _ _ _ (by omega)), hl4, hk4⟩, hkb⟩⟩
     | ret =>
       obtain ⟨hk3, hi3⟩ := hp
       obtain ⟨hr, hl4, hk4, hkb⟩ := fin (some .ret) W3 hk3
       exact ⟨_, _, hr, .inr ⟨rfl, hIx _ _ _ hi3 (off_put _ _ _ (by omega)), hl4, hk4⟩⟩
     | exit id => exact hp.elim
     | goto t => exact hp.elim
     | panic ch => exact hp.elim
     | outgrown => exact hp.elim
   · rintro e W2 ⟨⟨v, rfl⟩, (⟨hi, hl, hk⟩ | ⟨pre, hSp, hi, hl, hk⟩)⟩
     · exact ⟨none, _, by have := run_endLoop (P := Try.prog) hl (by rw [hrec]; simp); rw [hrec] at this; exact this, hdone _ (hI _ _ _ hi (off_put _ _ _ (by omega))) ((World.putObj_heap_other (by omega)).trans hk)⟩
     · exact ⟨some .ret, _, by have := run_endLoop (P := Try.prog) hl (by rw [hrec]; simp); rw [hrec] at this; exact this, hstop pre _ hSp (hIx _ _ _ hi (off_put _ _ _ (by omega))) ((World.putObj_heap_other (by omega)).trans hk)⟩
attribute [local go_sem] Oper.semAt_some
theorem calls_marks {f : FuncId} {fn : Func} {c : Code} {args : Array Value} {w : World} {R : Ending → World → Prop} (hf : Try.prog.funcs[f]? = some fn) (hb : fn.body = some c)
 (h : c.wp Try.prog (bodyPostM Fence.wide 3 Try.prog fn R) { tmps := args ++ Array.replicate (fn.ntmps - args.size) undef, defers := [] } w) : Calls Try.prog f args w R :=
 (callsIn_wide (n := 3)).1 (callsIn_of_wp_marks hf hb trivial ((wpIn_wide (n := 3)).2 h) rfl)
theorem oTaken (m : Nat → Int) (w : World) : Calls Try.prog 26 #[.agg (ol m).toArray] w fun e w' => e = .returned (.func (.func 30) #[] #[.pointer (some ⟨w.heap.size, 0, none⟩)]) ∧ OAt tOM w' w.heap.size m ∧ Below w.heap.size w w' := by
 have HA := Lib.hid (show OAt tOM (w.alloc (oO tOM m)) w.heap.size m from blk_new w _)
 have HB := Lib.hid (trA (tr0 w) (oO tOM m))
 go_enter Try.func26, Try.ntmps26
 go_upto_region 1 with (fail)
 rw [show Obj.cells (ol m).toArray 24 (0, 0) = oO tOM m from rfl]
 generalize w.alloc (oO tOM m) = W at *
 go_wp2_with fail
 go_ret
 exact ⟨rfl, HA.out, HB.out⟩
def IAt (w : World) (b : Nat) (v : Int) : Prop := w.heap[b]? = some (.cells #[.int .i64 v] 3 (0, 0))
section
variable {w w' : World} {b : Nat} {v : Int}
theorem IAt.lt (h : IAt w b v) : b < w.heap.size := lt_of_block h
theorem IAt.below (h : IAt w b v) (hb : Below w.heap.size w w') : IAt w' b v := blk_below hb h (lt_of_block h)
theorem IAt.c (h : IAt w b v) : w.cell? ⟨b, 0, none⟩ = some (.int .i64 v) := by rw [blk_cell h]; rfl
theorem IAt.free (h : IAt w b v) : w.frozen? ⟨b, 0, none⟩ = false := blk_free h 0
theorem IAt.set (h : IAt w b v) (u : Int) : IAt (w.setCell ⟨b, 0, none⟩ (.int .i64 u)) b u := by
 unfold IAt
 rw [blk_set h]
 rfl
theorem IAt.else (h : IAt w b v) (g j : Nat) (u : Value) (hg : b ≠ g) : IAt (w.setCell ⟨g, j, none⟩ u) b v := blk_else h g j u hg
end
structure LwAt (w0 w : World) (x y : Int) : Prop where
 X : IAt w (w0.heap.size + 1) x
 Y : IAt w (w0.heap.size + 1 + 1) y
 lo : Below w0.heap.size w0 w
theorem LwAt.below {w0 w w' : World} {x y : Int} (h : LwAt w0 w x y) (hb : Below w.heap.size w w') : LwAt w0 w' x y := ⟨h.X.below hb, h.Y.below hb, tr h.lo hb⟩
theorem LwAt.off {w0 w w' : World} {x y : Int} {B : Nat} (h : LwAt w0 w x y) (hB : w0.heap.size + 2 < B) (ho : Off (fun r => B ≤ r ∧ r < B + 3) w w') : LwAt w0 w' x y := ⟨ho.at h.X (by omega), ho.at h.Y (by omega), Off.toBelow h.lo ho (fun j hj e => by omega) (Nat.le_refl _)⟩
theorem LwAt.put {w0 w : World} {x y : Int} (h : LwAt w0 w x y) (u v : Int) : LwAt w0 ((w.setCell ⟨w0.heap.size + 1, 0, none⟩ (.int .i64 u)).setCell ⟨w0.heap.size + 1 + 1, 0, none⟩ (.int .i64 v)) u v :=
 ⟨(h.X.set u).else _ _ _ (by omega), (h.Y.else _ _ _ (by omega)).set v, (h.lo.setCell (p := ⟨w0.heap.size + 1, 0, none⟩) (by show w0.heap.size ≤ w0.heap.size + 1; omega) _).setCell (p := ⟨w0.heap.size + 1 + 1, 0, none⟩) (by show w0.heap.size ≤ w0.heap.size + 1 + 1; omega) _⟩
theorem keepX_set {B : Nat} (w : World) (g j : Nat) (v : Value) (h : g < B) : KeepX B w (w.setCell ⟨g, j, none⟩ v) := ⟨by simp, fun r h1 h2 => Below.heap_setCell w ⟨g, j, none⟩ v r (by show r ≠ g; omega)⟩
theorem KeepX.trans {B : Nat} {a b c : World} (h : KeepX B a b) (k : KeepX B b c) : KeepX B a c := ⟨Nat.le_trans h.1 k.1, fun r h1 h2 => (k.2 r h1 h2).trans (h.2 r h1 h2)⟩
theorem low_end {m : Nat → Int} {w W2 : World} {B : Nat} {tmps : Array Value} {x y : Int} (hl : LwAt w W2 x y) (hB : w.heap.size + 2 < B) (hK : W2.heap[B]? = some (.deferred (some []))) (h2 : tmps[2]? = some (.pointer (some ⟨w.heap.size + 1, 0, none⟩))) (h3 : tmps[3]? = some (.pointer (some ⟨w.heap.size + 1 + 1, 0, none⟩))) (hm : mlow m = (x, y)) :
 bodyPostM Fence.wide 3 Try.prog Try.f18 (fun e w' => e = .returned (.tuple #[.int .i64 (mlow m).1, .int .i64 (mlow m).2]) ∧ Below w.heap.size w w') .ret { tmps := tmps, defers := [{ target := .collected B, args := #[] }] } W2 := by
 have hl := hl.off hB (off_put (S := fun r => B ≤ r ∧ r < B + 3) W2 B (.deferred none) (by omega))
 refine ⟨by simp, .inl ⟨_, _, rfl, run_takeDeferred hK, ?_⟩⟩
 have c1 := hl.X.c
 have c2 := hl.Y.c
 refine ⟨.tuple #[.int .i64 x, .int .i64 y], ?_, by rw [hm], hl.lo⟩
 simp [results, Try.f18, go_sem, h2, h3, c1, c2]
set_option maxHeartbeats 3200000 in
theorem oLow (m : Nat → Int) (w : World) (hm : okM m) : Calls Try.prog 18 #[.agg (ol m).toArray] w fun e w' => e = .returned (.tuple #[.int .i64 (mlow m).1, .int .i64 (mlow m).2]) ∧ Below w.heap.size w w' := by
 have HM := Lib.hid hm
 have HA := Lib.hid (show OAt tOM (((w.alloc (oO tOM m)).alloc (.cells #[.int .i64 0] 3)).alloc (.cells #[.int .i64 0] 3)) w.heap.size m from b3_0 w _ _ _)
 have HL := Lib.hid (show LwAt w (((w.alloc (oO tOM m)).alloc (.cells #[.int .i64 0] 3)).alloc (.cells #[.int .i64 0] 3)) 0 0 from ⟨b3_1 w _ _ _, b3_2 w _ _ _, trA (trA (trA (tr0 w) _) _) _⟩)
 refine calls_marks Try.func18 rfl ?_
 simp only [Try.ntmps18, List.size_toArray, List.length_cons, List.length_nil, Nat.reduceAdd, Nat.reduceSub, Array.replicate_succ, Array.replicate_zero, List.push_toArray, List.append_toArray, List.nil_append, List.cons_append]
 go_upto_region 1 with (fail)
 rw [show Obj.cells (ol m).toArray 24 (0, 0) = oO tOM m from rfl]
 generalize ((w.alloc (oO tOM m)).alloc (.cells #[.int .i64 0] 3)).alloc (.cells #[.int .i64 0] 3) = W at *
 clear hm
 go_wp2_with (first
  | (refine ldOM rfl (.tmp 1) rfl rfl HA.out ?_)
  | (go_at_call 26; refine (oTaken m _).mono ?_; rintro e w1 ⟨rfl, h1, hb⟩; have HT := Lib.hid h1; have HL := Lib.hid (HL.out.below hb); clear h1 hb))
 have HS := Lib.hid (show w.heap.size + 2 < w1.heap.size from HL.out.Y.lt)
 generalize W.heap.size = bm at *
 clear HA
 refine (wpIn_wide (n := 3)).1 ?_
 refine rfTaken m HM.out bm HT.out rfl rfl (fun pre W => pre = [] ∧ LwAt w W 0 0) (fun pre W => ∃ i : Nat, pre = [i] ∧ LwAt w W ((i / 64 : Nat) : Int) ((i % 64 : Nat) : Int)) ?hI ?hIx ⟨rfl, HL.out⟩
  (fun x => { tmps := #[.agg (ol m).toArray, .pointer (some ⟨w.heap.size, 0, none⟩), .pointer (some ⟨w.heap.size + 1, 0, none⟩), .pointer (some ⟨w.heap.size + 1 + 1, 0, none⟩), .int .i64 ((x / 64 : Nat) : Int), .int .i64 ((x % 64 : Nat) : Int), .agg (ol m).toArray, .func (.func 30) #[] #[.pointer (some ⟨bm, 0, none⟩)], .int .i64 ((x / 64 : Nat) : Int), .int .i64 ((x % 64 : Nat) : Int), undef, undef], defers := [] }) ?assign ?body ?done ?stop
 case hI => exact fun xs A A' h ho => ⟨h.1, h.2.off HS.out ho⟩
 case hIx =>
  rintro xs A A' ⟨i, h, hl⟩ ho
  exact ⟨i, h, hl.off HS.out ho⟩
 case assign =>
  intro l x W2 K hK
  unfold prA
  generalize ((x / 64 : Nat) : Int) = a at *
  generalize ((x % 64 : Nat) : Int) = b at *
  gi_wp2
  exact hK
 case body =>
  rintro l pre x W2 ⟨rfl, hl⟩ hs _
  have HP := Lib.hid (fun aa : Act => show postX w1.heap.size (fun pre W => pre = [] ∧ LwAt w W 0 0) (fun pre W => ∃ i : Nat, pre = [i] ∧ LwAt w W ((i / 64 : Nat) : Int) ((i % 64 : Nat) : Int)) ([] ++ [x]) W2 .ret aa
   ((W2.setCell ⟨w.heap.size + 1, 0, none⟩ (.int .i64 ((x / 64 : Nat) : Int))).setCell ⟨w.heap.size + 1 + 1, 0, none⟩ (.int .i64 ((x % 64 : Nat) : Int))) from
   ⟨(keepX_set _ _ _ _ (by have := HS.out; omega)).trans (keepX_set _ _ _ _ (by have := HS.out; omega)), x, rfl, hl.put _ _⟩)
  generalize postX w1.heap.size (fun pre W => pre = [] ∧ LwAt w W 0 0) (fun pre W => ∃ i : Nat, pre = [i] ∧ LwAt w W ((i / 64 : Nat) : Int) ((i % 64 : Nat) : Int)) ([] ++ [x]) W2 = QQ at *
  have c1 := hl.X.c
  have c2 := hl.Y.c
  have f1 := hl.X.free
  have f2 := hl.Y.free
  have l1 := hl.X.lt
  have l2 := hl.Y.lt
  generalize ((x / 64 : Nat) : Int) = a at *
  generalize ((x % 64 : Nat) : Int) = b at *
  gi_wp2
  exact HP.out _
 case done =>
  rintro W2 ⟨h, hl⟩ hK
  have HE := Lib.hid (show mlow m = (-1, -1) by unfold mlow; rw [h])
  have c1 := hl.X.c
  have c2 := hl.Y.c
  have f1 := hl.X.free
  have f2 := hl.Y.free
  have l1 := hl.X.lt
  have l2 := hl.Y.lt
  go_wp2_with fail
  exact low_end (hl.put _ _) HS.out (by rw [Below.heap_setCell _ _ _ _ (by show w1.heap.size ≠ w.heap.size + 1 + 1; have := HS.out; omega), Below.heap_setCell _ _ _ _ (by show w1.heap.size ≠ w.heap.size + 1; have := HS.out; omega)]; exact hK) rfl rfl HE.out
 case stop =>
  rintro pre W2 hp ⟨i, rfl, hl⟩ hK
  refine (wpIn_wide (n := 3)).2 ?_
  go_wp2_with fail
  obtain ⟨r, hr⟩ := hp
  exact low_end hl HS.out hK rfl rfl (by unfold mlow; rw [← hr]; rfl)
attribute [local go_sem] Oper.semAt_some
section
variable {F : Fence} {n : Nat} {ops : Array Oper} {rest : List Oper} {o : Oper} {a : Act} {w : World} {Q : Exit → Act → World → Prop}
theorem wpIn_run (hgd : o.guard = none) (hc : ∀ c, o.op ≠ .call c) (hd : ∀ c, o.op ≠ .defer c) {v : Value} {w' : World} (hr : (execOp a.eval o).run Try.prog w = .ok (.value v) w')
 (h : wpListIn F n Try.prog ops Q rest (a.put o.dst v) w') : wpListIn F n Try.prog ops Q (o :: rest) a w :=
 wpListIn_plain hgd fun _ hK => by
  unfold Oper.wpIn
  refine ⟨?_, ?_⟩
  · intro f hf
    unfold Oper.about at hf
    cases ho : o.op <;> simp [ho] at hf
    exact absurd ho (hc _)
  · rw [Oper.semAt_plain F _ _ hd, hr]
    exact hK _ _ h
theorem buildPrIn (hgd : o.guard = none) (x : Operand) (ho : o.op = .buildSlice 39 1 #[(0, x)]) {i : Nat} (hx : a.eval x = .agg (pr2 i).toArray)
 (h : wpListIn F n Try.prog ops Q rest (a.put o.dst (.slice (some ⟨w.heap.size, 0, none⟩) 1 1)) (w.alloc (oPr i))) : wpListIn F n Try.prog ops Q (o :: rest) a w := by
 obtain ⟨i0, hi, hz0, hz1, hz2⟩ := info_parts infoPr
 refine wpIn_run hgd (by rw [ho]; intro c hc; cases hc) (by rw [ho]; intro c hc; cases hc) ?_ h
 unfold execOp
 simp only [ho, Sem.run_bind]
 rw [run_buildSlice w _ 45 1 _ (pr2 i).toArray i0 _ Try.underlying39 hi hz0 (by rw [hz1]; decide) (by rw [hz1]; decide)]
 · rfl
 · rw [hz1]
   simp only [List.map_toArray, List.map_cons, List.map_nil, hx]
   rw [show Array.range (1 * 2) = #[0, 1] by decide]
   simp [Instr.fill, Value.cells, pr2]
theorem appendPrIn (hgd : o.guard = none) (s x : Operand) (ho : o.op = .call { callee := .builtin .append, args := #[s, x], argTypes := #[39, 39] })
 {B g : Nat} {v : Value} {L : List Nat} {i : Nat} (hs : a.eval s = v) (hO : PrAt w B v L) (hx : a.eval x = .slice (some ⟨g, 0, none⟩) 1 1) (hy : w.heap[g]? = some (oPr i)) (hk : L.length < 1000) (hB : B ≤ w.heap.size)
 (h : ∀ v' w', PrAt w' B v' (L ++ [i]) → Off (fun b => v.ownBlock = some b) w w' → wpListIn F n Try.prog ops Q rest (a.put o.dst v') w') : wpListIn F n Try.prog ops Q (o :: rest) a w := by
 obtain ⟨i0, hi, hz0, hz1, hz2⟩ := info_parts infoPr
 refine wpListIn_append_own w hgd s x _ ho B 45 i0 _ 2 16 Try.underlying39 hi hz0 hz1 hz2 rfl (by decide) v L.length (prf L) hs hO ⟨g, 0, none⟩ 1 1 (pr2 i) hx rfl (fun j u hu => ?_) (fun u hu => ?_) (by unfold maxLen; omega) (by omega) hB fun v' w' h3 h4 _ => ?_
 · rw [Addr.add_lit, Nat.zero_add, blk_cell hy, List.getElem?_toArray]
   exact hu
 · simp only [pr2, List.mem_cons, List.not_mem_nil, or_false] at hu
   rcases hu with rfl | rfl <;> rfl
 · refine h v' w' ?_ (Off.ofGrown h4 fun k e => e)
   unfold PrAt
   rw [prf_snoc, List.length_append]
   exact h3
end
def SAt (w : World) (b : Nat) (v : Value) : Prop := w.heap[b]? = some (.cells #[v] 39 (0, 0))
section
variable {w w' : World} {b : Nat} {v : Value}
theorem SAt.lt (h : SAt w b v) : b < w.heap.size := lt_of_block h
theorem SAt.below (h : SAt w b v) (hb : Below w.heap.size w w') : SAt w' b v := blk_below hb h (lt_of_block h)
theorem SAt.c (h : SAt w b v) : w.cell? ⟨b, 0, none⟩ = some v := by rw [blk_cell h]; rfl
theorem SAt.free (h : SAt w b v) : w.frozen? ⟨b, 0, none⟩ = false := blk_free h 0
theorem SAt.set (h : SAt w b v) (u : Value) : SAt (w.setCell ⟨b, 0, none⟩ u) b u := by
 unfold SAt
 rw [blk_set h]
 rfl
end
theorem PrAt.off {w w' : World} {B : Nat} {v : Value} {L : List Nat} {S : Nat → Prop} (h : PrAt w B v L) (ho : Off S w w') (hs : ∀ r, B ≤ r → ¬ S r) : PrAt w' B v L := by
 refine ⟨h.1, ?_⟩
 rcases h.2 with h | ⟨g, cap, cur, h1, h2, h3, h4⟩
 · exact .inl h
 · exact .inr ⟨g, cap, cur, h1, h2, ho.at h3 (hs g h2), h4⟩
structure AcAt (w0 w : World) (B : Nat) (v : Value) (L : List Nat) : Prop where
 S : SAt w (w0.heap.size + 1) v
 R : PrAt w (B + 3) v L
 lo : Below w0.heap.size w0 w
theorem AcAt.off {w0 w w' : World} {B : Nat} {v : Value} {L : List Nat} (h : AcAt w0 w B v L) (hB : w0.heap.size + 1 < B) (ho : Off (fun r => B ≤ r ∧ r < B + 3) w w') : AcAt w0 w' B v L :=
 ⟨ho.at h.S (by omega), h.R.off ho fun r h1 h2 => by omega, Off.toBelow h.lo ho (fun j hj e => by omega) (Nat.le_refl _)⟩
theorem AcAt.put {w0 w w2 : World} {B : Nat} {v v' : Value} {L : List Nat} {i : Nat} (h : AcAt w0 w B v L) (hB : w0.heap.size + 1 < B) (hs : B + 3 ≤ w.heap.size) (h3 : PrAt w2 (B + 3) v' (L ++ [i])) (ho : Off (fun b => v.ownBlock = some b) (w.alloc (oPr i)) w2) :
 AcAt w0 (w2.setCell ⟨w0.heap.size + 1, 0, none⟩ v') B v' (L ++ [i]) ∧ KeepX B w (w2.setCell ⟨w0.heap.size + 1, 0, none⟩ v') := by
 have hb := trA (tr0 w) (oPr i)
 have hS : SAt w2 (w0.heap.size + 1) v := ho.at (h.S.below hb) fun e => by have := ((h.R.below hb).block e).1; omega
 refine ⟨⟨hS.set v', h3.off (off_set w2 (w0.heap.size + 1) 0 v') (fun r h1 h2 => by omega), ?_⟩, ?_⟩
 · exact (Off.toBelow (tr h.lo hb) ho (fun j hj e => by have := ((h.R.below hb).block e).1; omega) (Nat.le_refl _)).setCell (p := ⟨w0.heap.size + 1, 0, none⟩) (by show w0.heap.size ≤ w0.heap.size + 1; omega) _
 · refine KeepX.trans (b := w2) ⟨Nat.le_trans hb.size ho.size, fun r h1 h2 => ?_⟩ (keepX_set _ _ _ _ (by omega))
   rw [ho.block r (Nat.lt_of_lt_of_le (by omega) hb.size) fun e => by have := ((h.R.below hb).block e).1; omega]
   exact hb.block r (by omega)
set_option maxHeartbeats 3200000 in
theorem oAll (m : Nat → Int) (w : World) (hm : okM m) : Calls Try.prog 17 #[.agg (ol m).toArray] w fun e w' => ∃ v, e = .returned v ∧ PrAt w' w.heap.size v (taken m) ∧ Below w.heap.size w w' := by
 have HM := Lib.hid hm
 have HA := Lib.hid (show OAt tOM ((w.alloc (oO tOM m)).alloc (.cells #[.slice none 0 0] 39)) w.heap.size m from b2_0 w _ _)
 have HS := Lib.hid (show SAt ((w.alloc (oO tOM m)).alloc (.cells #[.slice none 0 0] 39)) (w.heap.size + 1) (.slice none 0 0) from b2_1 w _ _)
 have HB := Lib.hid (trA (trA (tr0 w) (oO tOM m)) (.cells #[.slice none 0 0] 39))
 refine calls_marks Try.func17 rfl ?_
 simp only [Try.ntmps17, List.size_toArray, List.length_cons, List.length_nil, Nat.reduceAdd, Nat.reduceSub, Array.replicate_succ, Array.replicate_zero, List.push_toArray, List.append_toArray, List.nil_append, List.cons_append]
 go_upto_region 2 with (fail)
 rw [show Obj.cells (ol m).toArray 24 (0, 0) = oO tOM m from rfl]
 generalize (w.alloc (oO tOM m)).alloc (.cells #[.slice none 0 0] 39) = W at *
 clear hm
 go_wp2_with (first
  | (refine ldOM rfl (.tmp 1) rfl rfl HA.out ?_)
  | (go_at_call 26; refine (oTaken m _).mono ?_; rintro e w1 ⟨rfl, h1, hb⟩; have HT := Lib.hid h1; have HS := Lib.hid (HS.out.below hb); have HB := Lib.hid (tr HB.out hb); clear h1 hb))
 have HZ := Lib.hid (show w.heap.size + 1 < w1.heap.size from HS.out.lt)
 have HI := Lib.hid (show AcAt w w1 w1.heap.size (.slice none 0 0) [] from ⟨HS.out, pr_nil _ _, HB.out⟩)
 generalize W.heap.size = bm at *
 clear HA HS HB
 refine (wpIn_wide (n := 3)).1 ?_
 refine rfTaken m HM.out bm HT.out rfl rfl (fun pre W => ∃ v, AcAt w W w1.heap.size v pre) (fun pre W => False) ?hI (fun _ _ _ h _ => h) ⟨_, HI.out⟩
  (fun x => { tmps := #[.agg (ol m).toArray, .pointer (some ⟨w.heap.size, 0, none⟩), .slice none 0 0, .pointer (some ⟨w.heap.size + 1, 0, none⟩), .int .i64 ((x / 64 : Nat) : Int), .int .i64 ((x % 64 : Nat) : Int), .agg (ol m).toArray, .func (.func 30) #[] #[.pointer (some ⟨bm, 0, none⟩)], .int .i64 ((x / 64 : Nat) : Int), .int .i64 ((x % 64 : Nat) : Int), undef, undef, undef, undef, undef, undef, undef], defers := [] }) ?assign ?body ?done ?stop
 case hI =>
  rintro xs A A' ⟨v, hv⟩ ho
  exact ⟨v, hv.off HZ.out ho⟩
 case assign =>
  intro l x W2 K hK
  unfold prA
  generalize ((x / 64 : Nat) : Int) = a at *
  generalize ((x % 64 : Nat) : Int) = b at *
  gi_wp2
  exact hK
 case body =>
  rintro l pre x W2 ⟨v, hv⟩ hs hpre
  have HL := Lib.hid (show pre.length < 1000 by
   have h1 := hpre.length_le
   rw [List.length_append] at h1
   have h2 : (taken m).length ≤ 512 := takenB_len m 512
   have h3 : [x].length = 1 := rfl
   omega)
  have hb := trA (tr0 W2) (oPr x)
  have HE := Lib.hid (show Value.agg #[.int .i64 ((x / 64 : Nat) : Int), .int .i64 ((x % 64 : Nat) : Int)] = .agg (pr2 x).toArray from rfl)
  have HY := Lib.hid (blk_new W2 (oPr x))
  have HR := Lib.hid (hv.R.below hb)
  have HS := Lib.hid (hv.S.below hb)
  have HZ2 := Lib.hid (show w1.heap.size + 3 ≤ (W2.alloc (oPr x)).heap.size from Nat.le_trans hs hb.size)
  have HP := Lib.hid (fun (v' : Value) (w3 : World) (aa : Act) (h3 : PrAt w3 (w1.heap.size + 3) v' (pre ++ [x])) (ho : Off (fun b => v.ownBlock = some b) (W2.alloc (oPr x)) w3) => show postX w1.heap.size (fun pre W => ∃ v, AcAt w W w1.heap.size v pre) (fun pre W => False) (pre ++ [x]) W2 .normal aa (w3.setCell ⟨w.heap.size + 1, 0, none⟩ v') from
   let h := hv.put HZ.out hs h3 ho
   ⟨h.2, _, h.1⟩)
  have HQ := Lib.hid (fun (w3 : World) (ho : Off (fun b => v.ownBlock = some b) (W2.alloc (oPr x)) w3) => show SAt w3 (w.heap.size + 1) v from ho.at HS.out fun e => by have := (HR.out.block e).1; have := HZ.out; omega)
  generalize postX w1.heap.size (fun pre W => ∃ v, AcAt w W w1.heap.size v pre) (fun pre W => False) (pre ++ [x]) W2 = QQ at *
  have c := hv.S.c
  have f := hv.S.free
  have l1 := hv.S.lt
  obtain ⟨y0, cap0, rfl, _⟩ := hv.R.form
  clear hv hs hpre hb
  generalize ((x / 64 : Nat) : Int) = a at *
  generalize ((x % 64 : Nat) : Int) = b at *
  gi_wp2_with (first
   | (refine buildPrIn rfl (.tmp 13) rfl HE.out ?_)
   | (refine appendPrIn rfl (.tmp 10) (.tmp 14) rfl rfl HR.out rfl HY.out HL.out HZ2.out ?_; intro v' w3 h3 ho; have HN := Lib.hid (fun aa => HP.out v' w3 aa h3 ho); have HS3 := HQ.out w3 ho; have c3 := HS3.c; have f3 := HS3.free; have l3 := HS3.lt; obtain ⟨y1, cap1, rfl, _⟩ := h3.form; clear h3 ho HS3))
  have h := HN.out
  rw [List.length_append] at h
  exact h _
 case done =>
  rintro W2 ⟨v, hv⟩ hK
  have HV := Lib.hid hv
  have c := hv.S.c
  have f := hv.S.free
  have l1 := hv.S.lt
  obtain ⟨y0, cap0, rfl, _⟩ := hv.R.form
  clear hv
  go_wp2_with fail
  refine ⟨by simp, .inl ⟨_, _, rfl, run_takeDeferred hK, ?_⟩⟩
  have hv := HV.out.off HZ.out (off_put (S := fun r => w1.heap.size ≤ r ∧ r < w1.heap.size + 3) W2 w1.heap.size (.deferred none) (by omega))
  exact ⟨_, results_tmp rfl _ _ _, _, rfl, hv.R.mono (by have := HZ.out; omega), hv.lo⟩
 case stop => exact fun _ _ _ h _ => h.elim
def InM (w : World) (g o : Nat) (m : Nat → Int) : Prop := ∃ cur t fr, w.heap[g]? = some (.cells cur t fr) ∧ PartAt cur o (ol m)
theorem InM.below {w0 w : World} {g o : Nat} {m : Nat → Int} (h : InM w0 g o m) (hb : Below w0.heap.size w0 w) : InM w g o m := by
 obtain ⟨cur, t, fr, h1, h2⟩ := h
 exact ⟨cur, t, fr, blk_below hb h1 (lt_of_block h1), h2⟩
theorem inM_of {w : World} {g o : Nat} {m : Nat → Int} (h : ∀ j, j < 8 → w.cell? ⟨g, o + j, none⟩ = some (.int .u64 (m j))) : InM w g o m := by
 have h0 := h 0 (by omega)
 have key : ∃ cur t fr, w.heap[g]? = some (.cells cur t fr) := by
  unfold World.cell? at h0
  cases hh : w.heap[g]? with
  | none => simp [hh] at h0
  | some ob =>
    cases ob with
    | cells cur t fr => exact ⟨cur, t, fr, rfl⟩
    | _ => simp [hh] at h0
 obtain ⟨cur, t, fr, hc⟩ := key
 refine ⟨cur, t, fr, hc, fun j v hv => ?_⟩
 have hj : j < 8 := by have := (List.getElem?_eq_some_iff.1 hv).1; rw [ol_len] at this; exact this
 have := h j hj
 rw [cell_of_row w g (o + j) cur t fr hc] at this
 rw [this, ← hv]
 exact (il_get _ _ _ _ hj).symm
theorem ldIng {ops : Array Oper} {rest : List Oper} {o : Oper} {a : Act} {w : World} {Q : Exit → Act → World → Prop} (x : Operand) (ho : o.op = .load 24 x) (hw : Region.wanted o (yielded ops a.tmps) = true) {g off : Nat} (hx : a.eval x = .pointer (some ⟨g, off, none⟩)) {m : Nat → Int} (hg : InM w g off m)
 (h : wpList Try.prog ops Q rest (a.put o.dst (.agg (ol m).toArray)) w) : wpList Try.prog ops Q (o :: rest) a w := by
 obtain ⟨cur, t, fr, h1, h2⟩ := hg
 exact wpList_load_part_g _ x ho hw g off hx _ (ol m) h1 Try.underlying24 rfl (by rw [ol_len]; exact iOM) h2 h
theorem RowM.at {w : World} {y : Option Addr} {len cap : Nat} {zs : Nat → Nat → Int} (h : RowM w y len cap zs) (hl : 0 < len) : ∃ g off, y = some ⟨g, off, none⟩ ∧ len ≤ cap ∧ cap ≤ maxLen ∧ g < w.heap.size ∧ ∀ k, k < len → InM w g (off + k * 8) (zs k) := by
 obtain ⟨_, h⟩ := h
 rcases h with h | ⟨g, off, rfl, h1, h2, h3, h4⟩
 · omega
 · exact ⟨g, off, rfl, h1, h2, h3, fun k hk => inM_of fun j hj => by rw [Nat.add_assoc]; exact h4 k hk j hj⟩
theorem ldIn {ops : Array Oper} {rest : List Oper} {o : Oper} {a : Act} {w : World} {Q : Exit → Act → World → Prop} (hgd : o.guard = none) (x : Operand) (ho : o.op = .load 24 x) {g off : Nat} (hx : a.eval x = .pointer (some ⟨g, off, none⟩)) {m : Nat → Int} (hg : InM w g off m)
 (h : wpList Try.prog ops Q rest (a.put o.dst (.agg (ol m).toArray)) w) : wpList Try.prog ops Q (o :: rest) a w := by
 obtain ⟨cur, t, fr, h1, h2⟩ := hg
 exact wpList_load_part hgd _ x ho g off hx _ (ol m) h1 Try.underlying24 rfl (by rw [ol_len]; exact iOM) h2 h
end Go.Proofs.Ytgfoeiikocpmdaa.B
