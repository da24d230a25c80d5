/- Several texts in one: Layer 17's own chains, keys of type [2]int: a range over the iterator; All. Layer 17's own chains, keys of type [2]int: Push. -/
import Derived.Test.YtopkmjiilnoeeaaZAaf
import Derived.Test.YtopkmjiilnoeeaaZAag
namespace Go.Proofs.Ytopkmjiilnoeeaa.B
set_option linter.unusedVariables false
set_option linter.unusedSimpArgs false
set_option maxRecDepth 100000
open Go.ChangeShapes Go.WideShapes Go.RowKit Go.Sort Go.MapKept
attribute [local go_sem] Oper.semAt_some
set_option maxHeartbeats 1600000 in
theorem rfFromK {g : Operand} {ps : Array Tmp} {assign body : Code} {Q : Exit → Act → World → Prop} {a : Act} {w : World} {n p : Nat} {L : List (Kp × Int)} (ok : ChOk n L) (k : Kp) (bi bc : Nat)
 (hi : OneAt 3 w bi (.int .i64 (chFst (chAll L k)))) (hc : OneAt tPcK w bc (.pointer (some ⟨p, 0, none⟩))) (hne : bi ≠ bc)
 (hg : a.eval g = .func (.func 64) #[] #[.pointer (some ⟨bi, 0, none⟩), .pointer (some ⟨bc, 0, none⟩)]) (hps : ps.size = 1)
 (I : List Int → World → Prop) (hI : ∀ xs A A', I xs A → Off (fun r => r = bi ∨ r = w.heap.size ∨ r = w.heap.size + 1) A A' → I xs A')
 (hC : ∀ xs A, I xs A → ∃ m g M r H S, ChBK A p m g n M r (chAll L) H L.length S) (h0 : I [] w) (a₁ : Int → Act)
 (hassign : ∀ (l : Nat) (x : Int) (W : World) (K : Act → World → Prop), K (a₁ x) W →
   assign.wpIn (Fence.wide.inRound l) 1 Try.prog (Exit.then K (fun _ _ _ => False)) { tmps := (ps.zip #[Value.int .i64 x]).foldl (fun t (p, v) => t.setIfInBounds p v) a.tmps, defers := [] } W)
 (hbody : ∀ (l : Nat) (pre : List Int) (x : Int) (W : World), I pre W → w.heap.size + 2 ≤ W.heap.size → pre ++ [x] <+: chAll L k → body.wpIn (Fence.wide.inRound l) 1 Try.prog (post4 bi bc w.heap.size I (pre ++ [x]) W) (a₁ x) W)
 (hdone : ∀ (W : World), I (chAll L k) W → W.heap[w.heap.size]? = some (.deferred (some [])) → Q .normal { a with defers := { target := .collected w.heap.size, args := #[] } :: a.defers } W) :
 (Code.rangeFunc g ps assign body).wpIn Fence.wide 3 Try.prog Q a w := by
 have hbi := hi.lt
 have hbc := hc.lt
 refine wpIn_rangeFunc ?_
 intro fn hfn
 rw [show Fence.wide.round = none from rfl]
 obtain ⟨rec, hrec⟩ : ∃ rec : LoopState → Option Code → Loop, rec = fun st pe => { state := st, pending := pe, fn, tmps := a.tmps, params := ps, assign, body, defers := w.heap.size } := ⟨_, rfl⟩
 obtain ⟨W1, hW1⟩ : ∃ W1, (w.alloc (.deferred (some []))).alloc (.loop (rec .ready none)) = W1 := ⟨_, rfl⟩
 have hL1 : W1.heap[w.heap.size + 1]? = some (.loop (rec .ready none)) := by
  rw [← hW1]; have := World.alloc_heap_new (w.alloc (.deferred (some []))) (.loop (rec .ready none)); rwa [World.size_alloc] at this
 have hK1 : W1.heap[w.heap.size]? = some (.deferred (some [])) := by
  rw [← hW1]; exact (Below.heap_alloc _ _ _ (by simp)).trans (World.alloc_heap_new w _)
 have hI1 : I [] W1 := by rw [← hW1]; exact hI _ _ _ (hI _ _ _ h0 (Off.ofAlloc _ _)) (Off.ofAlloc _ _)
 have hi1 : OneAt 3 W1 bi (.int .i64 (chFst (chAll L k))) := by rw [← hW1]; exact (hi.below (trA (tr0 w) _)).below (trA (tr0 _) _)
 have hc1 : OneAt tPcK W1 bc (.pointer (some ⟨p, 0, none⟩)) := by rw [← hW1]; exact (hc.below (trA (tr0 w) _)).below (trA (tr0 _) _)
 refine ⟨w.heap.size + 1, [{ target := .collected w.heap.size, args := #[] }], W1, { target := .fn (.func 64) #[.pointer (some ⟨bi, 0, none⟩), .pointer (some ⟨bc, 0, none⟩)], args := #[.func (.yield (w.heap.size + 1)) #[] #[]] }, W1, 64,
  #[.func (.yield (w.heap.size + 1)) #[] #[]] ++ #[.pointer (some ⟨bi, 0, none⟩), .pointer (some ⟨bc, 0, none⟩)], W1, ?_, ?_, ?_, ?_, (fun h => (by cases h)), ?_⟩
 · rw [← hW1, hrec]; exact run_enterLoop_outer _ _ _ _ _
 · simp only [resolve, hg]
   simp [go_sem]
 · intro f' hf'; exact trivial
 · simp [invoke, go_sem, enters_of Try.func64 (by kernel_rfl) rfl]
 · refine (callsIn_wide.2 (jFrom1K ok k (l := w.heap.size + 1)
    (fun pre W => I pre W ∧ W.heap[w.heap.size + 1]? = some (.loop (rec .ready none)) ∧ W.heap[w.heap.size]? = some (.deferred (some [])))
    W1 ?_ (fun s A h => hC s A h.1) ?_ hi1 hc1 hne ⟨hI1, hL1, hK1⟩)).mono ?_
   · intro s A A' ⟨hi, hl, hk⟩ ho
     exact ⟨hI _ _ _ hi (ho.mono fun r _ e => .inl e), ho.at hl (by omega), ho.at hk (by omega)⟩
   · -- one round
     rintro pre x W ⟨hi, hl, hk⟩ hb1 hb2 hpre
     have hlt : w.heap.size + 1 < W.heap.size := (Array.getElem?_eq_some_iff.1 hl).1
     have hy := run_yield (P := Try.prog) (args := #[Value.int .i64 x]) hl (by rw [hrec]; exact hps.symm)
     rw [hrec] at hy
     refine ⟨fn, _, assign, body, hy, roundIn_of_wpIn hfn (hassign _ x W _ ⟨_, run_beginRound hl (by rw [hrec]), ?_⟩)⟩
     have hl2 : (W.putObj (w.heap.size + 1) (.loop { rec .ready none with state := .busy })).heap[w.heap.size + 1]? = some (.loop { rec .ready none with state := .busy }) := World.putObj_heap_same hlt
     have hk2 : (W.putObj (w.heap.size + 1) (.loop { rec .ready none with state := .busy })).heap[w.heap.size]? = some (.deferred (some [])) := (World.putObj_heap_other (by omega)).trans hk
     refine wpIn_mono (hbody _ pre x _ (hI _ _ _ hi (joff_put _ _ _ (.inr (.inr rfl)))) (by simp; omega) hpre) ?_
     rintro e a3 W3 hp
     cases e with
     | normal =>
       obtain ⟨hk3, hi3⟩ := hp
       have hl3 := (hk3.2 (w.heap.size + 1) (.inr (.inr (.inr rfl)))).trans hl2
       have hd3 := (hk3.2 w.heap.size (.inr (.inr (.inl rfl)))).trans hk2
       have hr3 := hk3.2 bi (.inl rfl)
       have hr4 := hk3.2 bc (.inr (.inl rfl))
       have hs3 := hk3.1
       have := run_endRound (P := Try.prog) none hl3
       rw [hrec] at this
       refine ⟨_, _, this, rfl, ⟨hI _ _ _ hi3 (joff_put _ _ _ (.inr (.inr rfl))), ?_, (World.putObj_heap_other (by omega)).trans hd3⟩, ?_, ?_, ?_⟩
       · rw [World.putObj_heap_same (Array.getElem?_eq_some_iff.1 hl3).1, hrec]; rfl
       · simp at hs3 ⊢; exact hs3
       · rw [World.putObj_heap_other (by omega), hr3, World.putObj_heap_other (by omega)]
       · rw [World.putObj_heap_other (by omega), hr4, World.putObj_heap_other (by omega)]
     | ret => exact hp.elim
     | exit id => exact hp.elim
     | goto t => exact hp.elim
     | panic ch => exact hp.elim
     | outgrown => exact hp.elim
   · rintro e W2 ⟨⟨v, rfl⟩, hi, hl, hk⟩
     exact ⟨none, _, by have := run_endLoop (P := Try.prog) hl (by rw [hrec]; simp); rw [hrec] at this; exact this, hdone _ (hI _ _ _ hi (joff_put _ _ _ (.inr (.inr rfl)))) ((World.putObj_heap_other (by omega)).trans hk)⟩
set_option maxHeartbeats 3200000 in
theorem jAll0K {w : World} {p m g n : Nat} {M : List (Kp × Value)} {r : Nat → Lk} {H : Kp → Nat} {S : Nat → Prop} {L : List (Kp × Int)} (B : ChBK w p m g n M r (chAll L) H L.length S) (ok : ChOk n L) (n1 : n ≤ 4096) (k : Kp) (hk : okk k) :
 Calls Try.prog 34 #[.pointer (some ⟨p, 0, none⟩), kv k] w fun e w' => ∃ v, e = .returned v ∧ IsAt w' w.heap.size v (chAll L k) ∧ Below w.heap.size w w' := by
 obtain ⟨lb, hlb⟩ : ∃ lb, w.heap.size + 1 = lb := ⟨_, rfl⟩
 have HB := Lib.hid (trA (trA (tr0 w) (.cells #[.int .i64 k.1, .int .i64 k.2] 27 (0, 0))) (.cells #[.slice none 0 0] 38 (0, 0)))
 have HS := Lib.hid (show OneAt 38 ((w.alloc (.cells #[.int .i64 k.1, .int .i64 k.2] 27 (0, 0))).alloc (.cells #[.slice none 0 0] 38 (0, 0))) lb (.slice none 0 0) from by rw [← hlb]; exact b2_1 w _ _)
 have HK := Lib.hid (b2_0 w (.cells #[.int .i64 k.1, .int .i64 k.2] 27 (0, 0)) (.cells #[.slice none 0 0] 38 (0, 0)))
 have HW := Lib.hid B
 have HOK := Lib.hid ok
 have HLE := Lib.hid (show (chAll L k).length < 5000 from by have := chAll_le L k; have := ok.len; omega)
 clear B ok
 show Calls Try.prog _ #[_, .agg #[.int .i64 k.1, .int .i64 k.2]] w _
 refine calls_marksJ Try.func34 rfl ?_
 simp only [Try.ntmps34, List.size_toArray, List.length_cons, List.length_nil, Nat.reduceAdd, Nat.reduceSub, Array.replicate_succ, Array.replicate_zero, List.push_toArray, List.append_toArray, List.nil_append, List.cons_append]
 go_upto_region 2 with (fail)
 try simp only [hlb]
 generalize (w.alloc (.cells #[.int .i64 k.1, .int .i64 k.2] 27 (0, 0))).alloc (.cells #[.slice none 0 0] 38 (0, 0)) = W at *
 have hy := lt_of_block HK.out
 have y0 : W.cell? ⟨w.heap.size, 0, none⟩ = some (.int .i64 k.1) := by rw [blk_cell HK.out]; rfl
 have y1 : W.cell? ⟨w.heap.size, 1, none⟩ = some (.int .i64 k.2) := by rw [blk_cell HK.out]; rfl
 have HV := Lib.hid (HW.out.below HB.out)
 go_wp2_with (first
  | (go_at_call 19; refine (jFirstK HV.out k hk).mono ?_; rintro e w1 ⟨rfl, hb⟩; have HS := Lib.hid (HS.out.below hb); have HB := Lib.hid (tr HB.out hb); clear hb)
  | (go_at_call 45; refine (jFromK p _ _).mono ?_; rintro e w2 ⟨bi, bc, rfl, hl1, hl2, hx, hy2, hb⟩; have HI := Lib.hid hx; have HC := Lib.hid hy2; have HZ := Lib.hid (show lb < bc ∧ bc < bi from ⟨Nat.lt_of_lt_of_le HS.out.lt hl1, hl2⟩); have HS := Lib.hid (HS.out.below hb); have HB := Lib.hid (tr HB.out hb); clear hb hx hy2 hl1 hl2))
 have HZ2 := Lib.hid (show w.heap.size ≤ lb ∧ lb < bc ∧ bc < bi ∧ bi < w2.heap.size ∧ lb < w2.heap.size from ⟨by omega, HZ.out.1, HZ.out.2, HI.out.lt, HS.out.lt⟩)
 have HA := Lib.hid (show AlAt w w2 lb w2.heap.size (.slice none 0 0) [] from ⟨HS.out, is_nil _ _, HB.out⟩)
 clear HS HB HZ HV hlb
 clear hy y0 y1 HK
 refine (wpIn_wide (n := 3)).1 ?_
 refine rfFromK HOK.out k bi bc HI.out HC.out (by have := HZ2.out; omega) rfl rfl (fun pre W => ∃ v, AlAt w W lb w2.heap.size v pre) ?hI (fun xs A h => ⟨_, _, _, _, _, _, HW.out.below (by obtain ⟨v, h⟩ := h; exact h.lo)⟩) ⟨_, HA.out⟩
  (fun x => { tmps := #[.pointer (some ⟨p, 0, none⟩), .agg #[.int .i64 k.1, .int .i64 k.2], undef, .pointer (some ⟨w.heap.size, 0, none⟩), .slice none 0 0, .pointer (some ⟨lb, 0, none⟩), .int .i64 x, .pointer (some ⟨p, 0, none⟩), .pointer (some ⟨p, 0, none⟩), .agg #[.int .i64 k.1, .int .i64 k.2], .int .i64 (chFst (chAll L k)), .func (.func 64) #[] #[.pointer (some ⟨bi, 0, none⟩), .pointer (some ⟨bc, 0, none⟩)], .int .i64 x, undef, undef, undef, undef, undef], defers := [] }) ?assign ?body ?done
 case hI =>
  rintro xs A A' ⟨v, hv⟩ ho
  have hz := HZ2.out
  exact ⟨v, hv.off hz.1 (Nat.lt_trans hz.2.1 hz.2.2.1) hz.2.2.2.1 ho⟩
 case assign =>
  intro l x W2 K hK
  gi_wp2
  exact hK
 case body =>
  rintro l pre x W2 ⟨v, hv⟩ hs hpre
  have hz := HZ2.out
  have HL := Lib.hid (show pre.length < 5000 by
   have h1 := hpre.length_le
   rw [List.length_append] at h1
   have h2 := HLE.out
   omega)
  have hb := trA (tr0 W2) (oI x)
  have HY := Lib.hid (blk_new W2 (oI x))
  have HR := Lib.hid (hv.R.below hb)
  have HS := Lib.hid (hv.S.below hb)
  have HZ3 := Lib.hid (show w2.heap.size + 2 ≤ (W2.alloc (oI x)).heap.size from Nat.le_trans hs hb.size)
  have HP := Lib.hid (fun (v' : Value) (w3 : World) (aa : Act) (h3 : IsAt w3 (w2.heap.size + 2) v' (pre ++ [x])) (ho : Off (fun b => v.ownBlock = some b) (W2.alloc (oI x)) w3) => show post4 bi bc w2.heap.size (fun pre W => ∃ v, AlAt w W lb w2.heap.size v pre) (pre ++ [x]) W2 .normal aa (w3.setCell ⟨lb, 0, none⟩ v') from
   let h := hv.put hz.1 hz.2.1 hz.2.2.1 hz.2.2.2.1 hs h3 ho
   ⟨h.2, _, h.1⟩)
  have HQ := Lib.hid (fun (w3 : World) (ho : Off (fun b => v.ownBlock = some b) (W2.alloc (oI x)) w3) => show OneAt 38 w3 lb v from HS.out.off ho fun e => by have := (HR.out.block e).1; omega)
  generalize post4 bi bc w2.heap.size (fun pre W => ∃ v, AlAt w W lb w2.heap.size v pre) (pre ++ [x]) W2 = QQ at *
  have c := hv.S.c
  have f := hv.S.free
  have l1 := hv.S.lt
  obtain ⟨y0, cap0, rfl, _⟩ := hv.R.rd
  clear hv hs hpre hb hz
  gi_wp2_with (first
   | (refine buildIIn rfl (.tmp 14) rfl rfl ?_)
   | (refine appendIIn rfl (.tmp 13) (.tmp 15) rfl rfl HR.out rfl HY.out HL.out HZ3.out ?_; intro v' w3 h3 ho; have HN := Lib.hid (fun aa => HP.out v' w3 aa h3 ho); have HS3 := HQ.out w3 ho; have c3 := HS3.c; have f3 := HS3.free; have l3 := HS3.lt; obtain ⟨y1, cap1, rfl, _⟩ := h3.rd; clear h3 ho HS3))
  have h := HN.out
  rw [List.length_append] at h
  exact h _
 case done =>
  rintro W2 ⟨v, hv⟩ hK
  have HV := Lib.hid hv
  have c := hv.S.c
  have f := hv.S.free
  have l1 := hv.S.lt
  obtain ⟨y0, cap0, rfl, _⟩ := hv.R.rd
  clear hv
  go_wp2_with fail
  refine ⟨by simp, .inl ⟨_, _, rfl, run_takeDeferred hK, ?_⟩⟩
  have hz := HZ2.out
  have hv := HV.out.off (bi := bi) hz.1 (Nat.lt_trans hz.2.1 hz.2.2.1) hz.2.2.2.1 (joff_put (S := fun r => r = bi ∨ r = w2.heap.size ∨ r = w2.heap.size + 1) W2 w2.heap.size (.deferred none) (.inr (.inl rfl)))
  exact ⟨_, results_tmp rfl _ _ _, _, rfl, hv.R.mono (by omega), hv.lo⟩
theorem jAllK (w : World) (p : Nat) (S : Nat → Prop) (n : Nat) (L : List (Kp × Int)) (k : Kp) (V : CIn okk chRK w p S n L) (hk : okk k) :
 Calls Try.prog 34 #[.pointer (some ⟨p, 0, none⟩), kv k] w fun e w' => ∃ v, e = .returned v ∧ CTold chRK w p S n L (chAll L k) v w' := by
 obtain ⟨⟨m, g, M, r, H, B⟩, n0, n1, ok, ks⟩ := V
 refine (jAll0K B ok n1 k hk).mono ?_
 rintro e w' ⟨v, rfl, hv, hb⟩
 refine ⟨v, rfl, S, (B.below hb).at rfl, fun x hx => .inl hx, Off.ofBelow hb, hv.rd, fun x hx => ?_⟩
 have h1 := hv.block hx
 exact ⟨h1.1, h1.2, fun h2 => by have := B.lt x h2; omega⟩
def oKey (k : Kp) : Obj := .cells #[.int .i64 k.1, .int .i64 k.2] 27 (0, 0)
section
variable {w w' W : World} {p m g n b : Nat} {M : List (Kp × Value)} {r : Nat → Lk} {A : Kp → List Int} {H : Kp → Nat} {S : Nat → Prop} {L : List (Kp × Int)} {t : Int} {k : Kp}
structure PRdyK (w W : World) (p m g n : Nat) (r : Nat → Lk) (A : Kp → List Int) (H : Kp → Nat) (t : Int) (S : Nat → Prop) (k : Kp) (b : Nat) : Prop where
 J : JAtK W p m g n t r b k (chFst (A k)) (chLst (A k)) ((A k).length : Int)
 off : Off (ownK p m g b) w W
 sb : S b ∨ w.heap.size ≤ b
 mp : ∃ (M' : List (Kp × Value)) (H' : Kp → Nat), mapP W kv okk m M' ∧ (∀ j v, (j, v) ∈ M' ↔ (j = k ∨ A j ≠ []) ∧ v = .pointer (some ⟨H' j, 0, none⟩)) ∧ (∀ j, A j ≠ [] → H' j = H j) ∧ H' k = b
 nw : A k = [] → w.heap.size ≤ b
theorem ChBK.there (B : ChBK w p m g n M r A H t S) (hb : Below w.heap.size w W) (h : A k ≠ []) : PRdyK w W p m g n r A H t S k (H k) where
 J := (B.below hb).J h
 off := Off.ofBelow hb
 sb := .inl (B.sh k h)
 mp := ⟨M, H, B.map.below hb B.map.lt, fun j v => by
  rw [B.mp j v]
  constructor
  · rintro ⟨h1, h2⟩; exact ⟨.inr h1, h2⟩
  · rintro ⟨h1 | h1, h2⟩
    · subst h1; exact ⟨h, h2⟩
    · exact ⟨h1, h2⟩, fun _ _ => rfl, rfl⟩
 nw := fun e => absurd e h
theorem ChBK.made {w1 : World} (B : ChBK w p m g n M r A H t S) (hb : Below w.heap.size w w1) (h : A k = []) (hl : w1.heap.size ≤ b) (hd : HdAtK W b k (-1) (-1) 0) (hm : mapP W kv okk m (putM k (.pointer (some ⟨b, 0, none⟩)) M)) (ho : Off (· = m) w1 W) : PRdyK w W p m g n r A H t S k b where
 J := by
  rw [h]
  have B1 := B.below hb
  refine ⟨B1.P.off ho (fun e => mapP_neK B1.map B1.P e.symm), B1.R.kept (ho.block g B1.R.lt fun e => ?_), hd⟩
  obtain ⟨cur, h1, _⟩ := B1.R
  exact mapP_neK B1.map h1 e.symm
 off := (Off.ofBelow hb).trans (ho.mono fun x _ e => .inr (.inl e))
 sb := .inr (Nat.le_trans hb.size hl)
 mp := ⟨_, fun j => if j = k then b else H j, hm, fun j v => by
  unfold putM
  rw [List.mem_cons, List.mem_filter]
  by_cases e : j = k
  · subst e; simp
  · simp [e, B.mp j v], fun j hj => by
  have e : j ≠ k := fun e => hj (by rw [e]; exact h)
  show (if j = k then b else H j) = _
  rw [if_neg e], by show (if k = k then b else H k) = b; rw [if_pos rfl]⟩
 nw := fun _ => Nat.le_trans hb.size hl
theorem PRdyK.below {W2 : World} (R : PRdyK w W p m g n r A H t S k b) (hb : Below W.heap.size W W2) : PRdyK w W2 p m g n r A H t S k b where
 J := R.J.below hb
 off := R.off.trans (Off.ofBelow hb)
 sb := R.sb
 mp := by
  obtain ⟨M', H', hm, h⟩ := R.mp
  exact ⟨M', H', hm.below hb hm.lt, h⟩
 nw := R.nw
theorem PRdyK.done (R : PRdyK w W p m g n r (chAll L) H L.length S k b) (B : ChBK w p m g n M r (chAll L) H L.length S) (ok : ChOk n L) {i : Nat} (hi : i < n) (hno : ∀ j, (i : Int) ∉ chAll L j)
 (J : JAtK w' p m g n ((L.length : Int) + 1) (jPut r i (some b) (chLst (chAll L k))) b k (chFst (chAll L k ++ [(i : Int)])) i (((chAll L k).length : Int) + 1)) (ho : Off (fun x => x = p ∨ x = g ∨ x = b) W w') : CLeft chRK w p S n (L ++ [(k, (i : Int))]) w' := by
 obtain ⟨M', H', hm, h1, h2, h3⟩ := R.mp
 have hm' : mapP w' kv okk m M' := hm.off ho (by
  rintro (e | e | e)
  · exact mapP_neK hm R.J.P e
  · obtain ⟨cur, hc, _⟩ := R.J.R
    exact mapP_neK hm hc e
  · exact mapP_neK hm R.J.B e)
 have ho' : Off (ownK p m g b) w w' := R.off.trans (ho.mono fun x _ e => by
  rcases e with e | e | e
  · exact .inl e
  · exact .inr (.inr (.inl e))
  · exact .inr (.inr (.inr e)))
 refine ⟨_, (B.push ok.A hi hno (chAll_snoc L k i) h2 h3 R.nw hm' h1 J ho').at (by rw [List.length_append]; rfl), fun x hx => ?_, ?_⟩
 · rcases hx with hx | rfl
   · exact .inl hx
   · exact R.sb
 · refine ho'.restored fun x hx h1 h2 => ?_
   rcases h1 with e | e | e | e
   · rw [e] at h2; exact absurd B.sp h2
   · rw [e] at h2; exact absurd B.sm h2
   · rw [e] at h2; exact absurd B.sg h2
   · rcases R.sb with h3 | h3
     · rw [e] at h2; exact absurd h3 h2
     · omega
end
section
variable {w : World} {p m g n : Nat} {M : List (Kp × Value)} {r : Nat → Lk} {H : Kp → Nat} {S : Nat → Prop} {L : List (Kp × Int)}
theorem jPushNoK (B : ChBK w p m g n M r (chAll L) H L.length S) (ok : ChOk n L) (k : Kp) (hk : okk k) (i : Int) (hc : chCan n L i = false) :
 Calls Try.prog 10 #[.pointer (some ⟨p, 0, none⟩), kv k, .int .i64 i] w fun e w' => e = .returned (.bool false) ∧ Below w.heap.size w w' := by
 have HB := Lib.hid (trA (tr0 w) (oKey k))
 have HV := Lib.hid (B.below HB.out)
 have hlk := B.lkd2 ok i
 obtain ⟨v, hv⟩ : ∃ v, looks M k (.pointer none) (.pointer v) := ⟨_, B.looks k⟩
 have HLK := Lib.hid hv
 clear hv
 clear B
 show Calls Try.prog _ #[_, .agg #[.int .i64 k.1, .int .i64 k.2], _] w _
 by_cases hi : 0 ≤ i ∧ i < n
 · have hh : chHas L i = true := by
    cases h : chHas L i with
    | true => rfl
    | false => rw [(chCan_iff n L i).2 ⟨hi, h⟩] at hc; cases hc
   rw [hh] at hlk
   clear hc hh
   go_enter Try.func10, Try.ntmps10
   go_wp2_with fail
   refine (jFindK HV.out.P HV.out.map k hk v HLK.out).mono ?_
   rintro e w1 ⟨rfl, hb1⟩
   have HV1 := Lib.hid (HV.out.below hb1)
   have HB1 := Lib.hid (tr HB.out hb1)
   clear hb1 HB
   go_wp2_with (first
    | (go_at_call 41; refine (jHasK HV1.out.P i).mono ?_; rintro e w2 ⟨rfl, rfl⟩; rw [decide_eq_true hi])
    | (go_at_call 42; refine (jLinkedK HV1.out.P HV1.out.R i).mono ?_; rintro e w2 ⟨rfl, rfl⟩; rw [hlk]))
   go_ret
   exact ⟨rfl, HB1.out⟩
 · clear hc hlk
   go_enter Try.func10, Try.ntmps10
   go_wp2_with fail
   refine (jFindK HV.out.P HV.out.map k hk v HLK.out).mono ?_
   rintro e w1 ⟨rfl, hb1⟩
   have HV1 := Lib.hid (HV.out.below hb1)
   have HB1 := Lib.hid (tr HB.out hb1)
   clear hb1 HB
   go_wp2_with (go_at_call 41; refine (jHasK HV1.out.P i).mono ?_; rintro e w2 ⟨rfl, rfl⟩; rw [decide_eq_false hi])
   go_ret
   exact ⟨rfl, HB1.out⟩
theorem jPushYesK (B : ChBK w p m g n M r (chAll L) H L.length S) (ok : ChOk n L) (n1 : n ≤ 4096) (k : Kp) (hk : okk k) (i : Nat) (hi : i < n) (hh : chHas L i = false) :
 Calls Try.prog 10 #[.pointer (some ⟨p, 0, none⟩), kv k, .int .i64 i] w fun e w' => e = .returned (.bool true) ∧ CLeft chRK w p S n (L ++ [(k, (i : Int))]) w' := by
 have HB := Lib.hid (trA (tr0 w) (oKey k))
 have HV := Lib.hid (B.below HB.out)
 have hlk := B.lkd2 ok i
 rw [hh] at hlk
 have HNO := Lib.hid (show ∀ j, (i : Int) ∉ chAll L j from fun j hj => by rw [(chHas_all L i).2 ⟨j, hj⟩] at hh; cases hh)
 have hir : 0 ≤ (i : Int) ∧ (i : Int) < n := by omega
 have HW := Lib.hid B
 have HOK := Lib.hid ok
 have hlen := ok.len
 have hll := chAll_le L k
 have hw1 : IntKind.i64.wrap (((chAll L k).length : Int) + 1) = (((chAll L k).length : Int) + 1) := by rw [IntKind.wrap_i64]; omega
 have hw2 : IntKind.i64.wrap ((L.length : Int) + 1) = ((L.length : Int) + 1) := by rw [IntKind.wrap_i64]; omega
 have HA0 := Lib.hid (show ∀ x ∈ chAll L k, 0 ≤ x from fun x hx => (ok.A.rg k x hx).1)
 have HLA := Lib.hid (show chLst (chAll L k) = -1 ∨ 0 ≤ chLst (chAll L k) ∧ chLst (chAll L k) < n by
  by_cases e : chAll L k = []
  · rw [e]; exact .inl rfl
  · exact .inr (ok.A.rg k _ (chLst_mem e)))
 clear B hh ok
 show Calls Try.prog _ #[_, .agg #[.int .i64 k.1, .int .i64 k.2], _] w _
 by_cases h0 : chAll L k = []
 · have HLK := Lib.hid (HV.out.looks k)
   rw [if_pos h0] at HLK
   have H0 := Lib.hid h0
   clear h0
   go_enter Try.func10, Try.ntmps10
   go_wp2_with fail
   refine (jFindK HV.out.P HV.out.map k hk _ HLK.out).mono ?_
   rintro e w1 ⟨rfl, hb1⟩
   have HV1 := Lib.hid (HV.out.below hb1)
   have HB1 := Lib.hid (tr HB.out hb1)
   have HK1 := Lib.hid (blk_below hb1 (blk_new w (oKey k)) (by simp))
   have y0 : w1.cell? ⟨w.heap.size, 0, none⟩ = some (.int .i64 k.1) := by rw [blk_cell HK1.out]; rfl
   have y1 : w1.cell? ⟨w.heap.size, 1, none⟩ = some (.int .i64 k.2) := by rw [blk_cell HK1.out]; rfl
   have hy := lt_of_block HK1.out
   clear hb1 HB HV HLK
   go_wp2_with (first
    | (go_at_call 41; refine (jHasK HV1.out.P i).mono ?_; rintro e w2 ⟨rfl, rfl⟩; rw [decide_eq_true hir])
    | (go_at_call 42; refine (jLinkedK HV1.out.P HV1.out.R i).mono ?_; rintro e w2 ⟨rfl, rfl⟩; rw [hlk]))
   refine (jOpenK HV1.out.P HV1.out.map k hk).mono ?_
   rintro e W ⟨b, rfl, hl, hd, hm, ho⟩
   have HR := Lib.hid (HW.out.made HB1.out H0.out hl hd hm ho)
   clear hl hd hm ho HV1
   have hg := HR.out.J.R.lt
   have hb := HR.out.J.B.lt
   have hp := HR.out.J.P.lt
   have c1 := HR.out.J.P.c1
   have cg := HR.out.J.R.c0 hi
   have fg := HR.out.J.R.free (i * 3)
   have H6 := Lib.hid (show JAtK (W.setCell ⟨g, i * 3, none⟩ (.pointer (some ⟨b, 0, none⟩))) p m g n L.length (jI r i (some b)) b k (chFst (chAll L k)) (chLst (chAll L k)) ((chAll L k).length : Int) from HR.out.J.setR (HR.out.J.R.setH hi (some b)))
   have O6 := Lib.hid (off_set W g (i * 3) (.pointer (some ⟨b, 0, none⟩)))
   go_upto_region 7 with (fail)
   generalize W.setCell ⟨g, i * 3, none⟩ (.pointer (some ⟨b, 0, none⟩)) = W6 at *
   clear hg hb hp c1 cg fg
   have hb := H6.out.B.lt
   have c2 := H6.out.B.c2
   go_wp2_with fail
   refine (jJoinK H6.out (chLst (chAll L k)) i HLA.out (.inr hir)).mono ?_
   rintro e W7 ⟨rfl, j7, o7⟩
   have H7 := Lib.hid j7
   have O7 := Lib.hid ((O6.out.mono (T := fun x => x = g ∨ x = b) (fun x _ e => .inl e)).trans o7)
   clear j7 o7 H6 O6 hb c2
   go_wp2_with fail
   refine (jJoinK H7.out i (-1) (.inr hir) (.inl rfl)).mono ?_
   rintro e W8 ⟨rfl, j8, o8⟩
   have H8 := Lib.hid (show JAtK W8 p m g n L.length (jPut r i (some b) (chLst (chAll L k))) b k (chFst (chAll L k ++ [(i : Int)])) i ((chAll L k).length : Int) from j8.as (fun _ _ => rfl) (by rw [if_neg (show ¬ (i : Int) = -1 by omega)]; exact fst_put HA0.out i) (if_pos rfl))
   have O8 := Lib.hid (O7.out.trans o8)
   clear j8 o8 H7 O7
   have hb := H8.out.B.lt
   have c3 := H8.out.B.c3
   have fb := H8.out.B.free 4
   have H9 := Lib.hid (H8.out.setC (((chAll L k).length : Int) + 1))
   have O9 := Lib.hid (O8.out.trans ((off_set W8 b 4 (.int .i64 (((chAll L k).length : Int) + 1))).mono (fun x _ e => .inr e)))
   go_upto_region 10 with (fail)
   generalize W8.setCell ⟨b, 4, none⟩ (.int .i64 (((chAll L k).length : Int) + 1)) = W9 at *
   clear H8 O8 hb c3 fb
   have hp := H9.out.P.lt
   have ct := H9.out.P.c2
   have fp := H9.out.P.free 2
   have H10 := Lib.hid (H9.out.setT ((L.length : Int) + 1))
   have O10 := Lib.hid ((O9.out.mono (T := fun x => x = p ∨ x = g ∨ x = b) (fun x _ e => .inr e)).trans ((off_set W9 p 2 (.int .i64 ((L.length : Int) + 1))).mono (fun x _ e => .inl e)))
   go_wp2_with fail
   go_ret
   exact ⟨rfl, HR.out.done HW.out HOK.out hi HNO.out H10.out O10.out⟩
 · have HR := Lib.hid (HW.out.there HB.out h0)
   have HLK := Lib.hid (HV.out.looks k)
   rw [if_neg h0] at HLK
   generalize H k = b at *
   clear h0
   go_enter Try.func10, Try.ntmps10
   go_wp2_with fail
   refine (jFindK HV.out.P HV.out.map k hk _ HLK.out).mono ?_
   rintro e W ⟨rfl, hb1⟩
   have HV1 := Lib.hid (HV.out.below hb1)
   have HR := Lib.hid (HR.out.below hb1)
   clear hb1 HB HV HLK
   go_upto_region 6 with (first
    | (go_at_call 41; refine (jHasK HV1.out.P i).mono ?_; rintro e w2 ⟨rfl, rfl⟩; rw [decide_eq_true hir])
    | (go_at_call 42; refine (jLinkedK HV1.out.P HV1.out.R i).mono ?_; rintro e w2 ⟨rfl, rfl⟩; rw [hlk]))
   clear HV1
   have hg := HR.out.J.R.lt
   have hb := HR.out.J.B.lt
   have hp := HR.out.J.P.lt
   have c1 := HR.out.J.P.c1
   have cg := HR.out.J.R.c0 hi
   have fg := HR.out.J.R.free (i * 3)
   have H6 := Lib.hid (show JAtK (W.setCell ⟨g, i * 3, none⟩ (.pointer (some ⟨b, 0, none⟩))) p m g n L.length (jI r i (some b)) b k (chFst (chAll L k)) (chLst (chAll L k)) ((chAll L k).length : Int) from HR.out.J.setR (HR.out.J.R.setH hi (some b)))
   have O6 := Lib.hid (off_set W g (i * 3) (.pointer (some ⟨b, 0, none⟩)))
   go_upto_region 7 with (fail)
   generalize W.setCell ⟨g, i * 3, none⟩ (.pointer (some ⟨b, 0, none⟩)) = W6 at *
   clear hg hb hp c1 cg fg
   have hb := H6.out.B.lt
   have c2 := H6.out.B.c2
   go_wp2_with fail
   refine (jJoinK H6.out (chLst (chAll L k)) i HLA.out (.inr hir)).mono ?_
   rintro e W7 ⟨rfl, j7, o7⟩
   have H7 := Lib.hid j7
   have O7 := Lib.hid ((O6.out.mono (T := fun x => x = g ∨ x = b) (fun x _ e => .inl e)).trans o7)
   clear j7 o7 H6 O6 hb c2
   go_wp2_with fail
   refine (jJoinK H7.out i (-1) (.inr hir) (.inl rfl)).mono ?_
   rintro e W8 ⟨rfl, j8, o8⟩
   have H8 := Lib.hid (show JAtK W8 p m g n L.length (jPut r i (some b) (chLst (chAll L k))) b k (chFst (chAll L k ++ [(i : Int)])) i ((chAll L k).length : Int) from j8.as (fun _ _ => rfl) (by rw [if_neg (show ¬ (i : Int) = -1 by omega)]; exact fst_put HA0.out i) (if_pos rfl))
   have O8 := Lib.hid (O7.out.trans o8)
   clear j8 o8 H7 O7
   have hb := H8.out.B.lt
   have c3 := H8.out.B.c3
   have fb := H8.out.B.free 4
   have H9 := Lib.hid (H8.out.setC (((chAll L k).length : Int) + 1))
   have O9 := Lib.hid (O8.out.trans ((off_set W8 b 4 (.int .i64 (((chAll L k).length : Int) + 1))).mono (fun x _ e => .inr e)))
   go_upto_region 10 with (fail)
   generalize W8.setCell ⟨b, 4, none⟩ (.int .i64 (((chAll L k).length : Int) + 1)) = W9 at *
   clear H8 O8 hb c3 fb
   have hp := H9.out.P.lt
   have ct := H9.out.P.c2
   have fp := H9.out.P.free 2
   have H10 := Lib.hid (H9.out.setT ((L.length : Int) + 1))
   have O10 := Lib.hid ((O9.out.mono (T := fun x => x = p ∨ x = g ∨ x = b) (fun x _ e => .inr e)).trans ((off_set W9 p 2 (.int .i64 ((L.length : Int) + 1))).mono (fun x _ e => .inl e)))
   go_wp2_with fail
   go_ret
   exact ⟨rfl, HR.out.done HW.out HOK.out hi HNO.out H10.out O10.out⟩
end
theorem jPushK (w : World) (p : Nat) (S : Nat → Prop) (n : Nat) (L : List (Kp × Int)) (k : Kp) (i : Int) (V : CIn okk chRK w p S n L) (hk : okk k) (hi : i64r i) :
 Calls Try.prog 10 #[.pointer (some ⟨p, 0, none⟩), kv k, .int .i64 i] w fun e w' => e = .returned (.bool (chCan n L i)) ∧ CLeft chRK w p S n (chPush n L k i) w' := by
 obtain ⟨⟨m, g, M, r, H, B⟩, n0, n1, ok, ks⟩ := V
 cases hc : chCan n L i with
 | false =>
   rw [show chPush n L k i = L by unfold chPush; rw [hc]; rfl]
   refine (jPushNoK B ok k hk i hc).mono ?_
   rintro e w' ⟨rfl, hb⟩
   exact ⟨rfl, chRK_asked (B.at rfl) hb⟩
 | true =>
   rw [show chPush n L k i = L ++ [(k, i)] by unfold chPush; rw [hc]; rfl]
   obtain ⟨⟨h0, h1⟩, hh⟩ := (chCan_iff n L i).1 hc
   obtain ⟨j, rfl⟩ := Int.eq_ofNat_of_zero_le h0
   exact jPushYesK B ok n1 k hk j (by omega) hh
end Go.Proofs.Ytopkmjiilnoeeaa.B
