/- Layer 17's own chains, keys of type [2]int: Copy. -/
import Derived.Test.YtopkmjiilnoeeaaZAah
import Derived.OrdersIn
namespace Go.Proofs.Ytopkmjiilnoeeaa.B
set_option linter.unusedVariables false
set_option linter.unusedSimpArgs false
set_option maxRecDepth 100000
open Go.ChangeShapes Go.WideShapes Go.RowKit Go.Sort Go.MapKept
attribute [local go_sem] Oper.semAt_some
section
variable {κ : Type} [DecidableEq κ] {n : Nat} {L : List (κ × Int)}
def cpA (L : List (κ × Int)) (q : Nat) (k : κ) : List Int := if chFst (chAll L k) < (q : Int) then chAll L k else []
theorem cpA_zero (ok : ChOk n L) (k : κ) : cpA L 0 k = [] := by
 unfold cpA
 split
 · rename_i h
   by_cases e : chAll L k = []
   · exact e
   · have := (ok.A.rg k _ (chFst_mem e)).1
     omega
 · rfl
theorem cpA_end (ok : ChOk n L) (k : κ) : cpA L n k = chAll L k := by
 unfold cpA
 by_cases e : chAll L k = []
 · rw [e]; split <;> rfl
 · rw [if_pos (ok.A.rg k _ (chFst_mem e)).2]
theorem cpA_skip {q : Nat} (h : ∀ k, chFst (chAll L k) ≠ (q : Int)) (k : κ) : cpA L (q + 1) k = cpA L q k := by
 unfold cpA
 have := h k
 by_cases e : chFst (chAll L k) < (q : Int)
 · rw [if_pos e, if_pos (by omega)]
 · rw [if_neg e, if_neg (by omega)]
theorem cpA_hit (ok : ChOk n L) {q : Nat} {k : κ} (h : chFst (chAll L k) = (q : Int)) (j : κ) : cpA L (q + 1) j = if j = k then chAll L k else cpA L q j := by
 unfold cpA
 by_cases e : j = k
 · subst e; rw [if_pos rfl, if_pos (by omega)]
 · rw [if_neg e]
   have : chFst (chAll L j) ≠ (q : Int) := fun e2 => by
    have h1 : chAll L j ≠ [] := fun e3 => by rw [e3] at e2; have : chFst [] = -1 := rfl; omega
    have h2 : chAll L k ≠ [] := fun e3 => by rw [e3] at h; have : chFst [] = -1 := rfl; omega
    have m1 := chFst_mem h1
    have m2 := chFst_mem h2
    rw [e2] at m1; rw [h] at m2
    exact e (ok.A.dj j k _ m1 m2)
   by_cases e4 : chFst (chAll L j) < (q : Int)
   · rw [if_pos e4, if_pos (by omega)]
   · rw [if_neg e4, if_neg (by omega)]
theorem cpA_self {q : Nat} {k : κ} (h : chFst (chAll L k) = (q : Int)) : cpA L q k = [] := by unfold cpA; rw [if_neg (by omega)]
theorem cpA_sub (q : Nat) (k : κ) (i : Int) (h : i ∈ cpA L q k) : i ∈ chAll L k := by
 unfold cpA at h
 split at h
 · exact h
 · cases h
theorem ch_len {L L' : List (κ × Int)} (ok : ChOk n L) (ok' : ChOk n L') (h : ∀ k, chAll L k = chAll L' k) : L.length = L'.length := by
 have n1 : L.Nodup := List.Pairwise.of_map (fun x : κ × Int => x.2) (fun a b h e => h (by rw [e])) ok.nd
 have n2 : L'.Nodup := List.Pairwise.of_map (fun x : κ × Int => x.2) (fun a b h e => h (by rw [e])) ok'.nd
 refine (List.perm_ext_iff_of_nodup n1 n2).2 (fun x => ?_) |>.length_eq
 rw [show x = (x.1, x.2) from rfl, ← chAll_mem, ← chAll_mem, h]
theorem cp_can (ok : ChOk n L) {q : Nat} {k : κ} {Lx : List (κ × Int)} {pre : List Int} {x : Int} (hp : pre ++ [x] <+: chAll L k) (h : ∀ j, chAll Lx j = if j = k then pre else cpA L q j) : chPush n Lx k x = Lx ++ [(k, x)] ∧ ∀ j, chAll (Lx ++ [(k, x)]) j = if j = k then pre ++ [x] else cpA L q j := by
 obtain ⟨r, hr⟩ := hp
 have hx : x ∈ chAll L k := by rw [← hr]; simp
 have hno : chHas Lx x = false := by
  cases hh : chHas Lx x with
  | false => rfl
  | true =>
    obtain ⟨j, hj⟩ := (chHas_all Lx x).1 hh
    rw [h j] at hj
    by_cases e : j = k
    · rw [if_pos e] at hj
      have nd := chAll_nd ok k
      rw [← hr, List.append_assoc, List.nodup_append] at nd
      exact absurd rfl (nd.2.2 x hj x (by simp))
    · rw [if_neg e] at hj
      exact absurd (ok.A.dj j k x (cpA_sub q j x hj) hx) e
 have hc : chCan n Lx x = true := (chCan_iff n Lx x).2 ⟨ok.A.rg k x hx, hno⟩
 refine ⟨by unfold chPush; rw [if_pos hc], fun j => ?_⟩
 rw [chAll_snoc, h j, h k, if_pos rfl]
 by_cases e : j = k
 · rw [if_pos e, if_pos e]
 · rw [if_neg e, if_neg e, if_neg e]
end
def mkD (r : Nat) : Deferred := { target := .collected r, args := #[] }
theorem leaves_marks {fn : Func} {tmps : Array Value} {R : Ending → World → Prop} : ∀ (rs : List Nat) (w : World), rs.Nodup → (∀ r ∈ rs, w.heap[r]? = some (.deferred (some []))) →
 (∀ w', Off (fun x => x ∈ rs) w w' → LeavesInM Fence.wide 3 Try.prog fn tmps R [] .returning w') → LeavesInM Fence.wide 3 Try.prog fn tmps R (rs.map mkD) .returning w
 | [], w, _, _, h => h w (Off.refl _ _)
 | r :: rs, w, hn, hd, h => by
   obtain ⟨n1, n2⟩ := List.nodup_cons.1 hn
   refine ⟨by simp, .inl ⟨r, _, rfl, run_takeDeferred (hd r (by simp)), ?_⟩⟩
   refine leaves_marks rs _ n2 (fun x hx => ?_) fun w' ho => h w' ?_
   · rw [World.putObj_heap_other (fun e => n1 (by rw [← e]; exact hx))]
     exact hd x (List.mem_cons_of_mem _ hx)
   · exact ((joff_put (S := fun x => x ∈ r :: rs) w r (.deferred none) (by simp)).trans (ho.mono fun x _ e => List.mem_cons_of_mem _ e))
structure CpAt (w0 w : World) (p2 ob n : Nat) (L : List (Kp × Int)) (q : Nat) (rs : List Nat) : Prop where
 ex : ∃ (Lq : List (Kp × Int)) (S2 : Nat → Prop), chRK.At w p2 S2 n Lq ∧ (∀ x, S2 x → w0.heap.size ≤ x ∧ x ≠ ob ∧ x ∉ rs) ∧ ChOk n Lq ∧ (∀ x ∈ Lq, okk x.1) ∧ ∀ k, chAll Lq k = cpA L q k
 V : OneAt tPcK w ob (.pointer (some ⟨p2, 0, none⟩))
 lo : Below w0.heap.size w0 w
 ob0 : w0.heap.size ≤ ob
 nd : rs.Nodup
 ms : ∀ r ∈ rs, w0.heap.size ≤ r ∧ r ≠ ob ∧ w.heap[r]? = some (.deferred (some []))
theorem CpAt.below {w0 w w' : World} {p2 ob n : Nat} {L : List (Kp × Int)} {q : Nat} {rs : List Nat} (h : CpAt w0 w p2 ob n L q rs) (hb : Below w.heap.size w w') : CpAt w0 w' p2 ob n L q rs where
 ex := by
  obtain ⟨Lq, S2, h1, h2⟩ := h.ex
  exact ⟨Lq, S2, chRK.below h1 hb, h2⟩
 V := h.V.below hb
 lo := tr h.lo hb
 ob0 := h.ob0
 nd := h.nd
 ms := fun r hr => by
  obtain ⟨h1, h2, h3⟩ := h.ms r hr
  exact ⟨h1, h2, (hb.block r (lt_of_block h3)).trans h3⟩
theorem CpAt.skip {w0 w : World} {p2 ob n : Nat} {L : List (Kp × Int)} {q : Nat} {rs : List Nat} (h : CpAt w0 w p2 ob n L q rs) (hs : ∀ k, chFst (chAll L k) ≠ (q : Int)) : CpAt w0 w p2 ob n L (q + 1) rs :=
 ⟨by
  obtain ⟨Lq, S2, h1, h2, h3, h4, h5⟩ := h.ex
  exact ⟨Lq, S2, h1, h2, h3, h4, fun k => (h5 k).trans (cpA_skip hs k).symm⟩, h.V, h.lo, h.ob0, h.nd, h.ms⟩
def CpEnd (w w' : World) (p2 n : Nat) (L : List (Kp × Int)) : Prop := ∃ (Lq : List (Kp × Int)) (S2 : Nat → Prop), chRK.At w' p2 S2 n Lq ∧ (∀ x, S2 x → w.heap.size ≤ x) ∧ ChOk n Lq ∧ (∀ k, chAll Lq k = chAll L k) ∧ Below w.heap.size w w'
structure CpI (w0 w3 W : World) (p2 n : Nat) (L : List (Kp × Int)) (q : Nat) (k : Kp) (Y : Nat → Prop) (X : Nat → Prop) (pre : List Int) : Prop where
 ex : ∃ (Lx : List (Kp × Int)) (S2 : Nat → Prop), chRK.At W p2 S2 n Lx ∧ (∀ x, S2 x → w0.heap.size ≤ x ∧ ¬ X x ∧ ¬ Y x) ∧ ChOk n Lx ∧ (∀ x ∈ Lx, okk x.1) ∧ ∀ j, chAll Lx j = if j = k then pre else cpA L q j
 st : ∀ x, X x → W.heap[x]? = w3.heap[x]?
 sz : w3.heap.size ≤ W.heap.size
 lo : Below w0.heap.size w0 W
theorem CpI.off {w0 w3 W W' : World} {p2 n : Nat} {L : List (Kp × Int)} {q : Nat} {k : Kp} {X Y : Nat → Prop} {pre : List Int} {T : Nat → Prop} (h : CpI w0 w3 W p2 n L q k Y X pre) (ho : Off T W W') (hT : ∀ x, T x → Y x) (hXT : ∀ x, X x → ¬ T x) (hX : ∀ x, X x → x < w3.heap.size) (h0 : ∀ x, T x → w0.heap.size ≤ x) : CpI w0 w3 W' p2 n L q k Y X pre where
 ex := by
  obtain ⟨Lx, S2, h1, h2, h3⟩ := h.ex
  exact ⟨Lx, S2, chRK.off h1 ho (fun x hx e => (h2 x hx).2.2 (hT x e)), h2, h3⟩
 st := fun x hx => (ho.block x (Nat.lt_of_lt_of_le (hX x hx) h.sz) (hXT x hx)).trans (h.st x hx)
 sz := Nat.le_trans h.sz ho.size
 lo := Off.toBelow h.lo ho (fun j hj e => by have := h0 j e; omega) (Nat.le_refl _)
theorem CpI.put {w0 w3 W W2 W' : World} {p2 n : Nat} {L : List (Kp × Int)} {q : Nat} {k : Kp} {X Y : Nat → Prop} {pre : List Int} {x : Int} {Lx : List (Kp × Int)} {S2 : Nat → Prop} (h : CpI w0 w3 W p2 n L q k Y X pre) (ok : ChOk n L) (hp : pre ++ [x] <+: chAll L k) (hk : okk k)
 (h2 : ∀ x, S2 x → w0.heap.size ≤ x ∧ ¬ X x ∧ ¬ Y x) (h3 : ChOk n Lx) (h4 : ∀ x ∈ Lx, okk x.1) (h5 : ∀ j, chAll Lx j = if j = k then pre else cpA L q j) (hX : ∀ x, X x → x < w3.heap.size) (hY : ∀ x, Y x → x < W.heap.size)
 (hb : Below W.heap.size W W2) (hl : CLeft chRK W2 p2 S2 n (chPush n Lx k x) W') : CpI w0 w3 W' p2 n L q k Y X (pre ++ [x]) ∧ W.heap.size ≤ W'.heap.size ∧ ∀ y, Y y → W'.heap[y]? = W.heap[y]? := by
 obtain ⟨c1, c2⟩ := cp_can ok hp h5
 have hok := h3.push k x
 rw [c1] at hl hok
 obtain ⟨S3, a1, a2, a3⟩ := hl
 have hsz := h.sz
 have hbs := hb.size
 refine ⟨⟨⟨_, S3, a1, fun y hy => ?_, hok, fun y hy => ?_, c2⟩, fun y hy => ?_, by have := a3.size; omega, ?_⟩, by have := a3.size; omega, fun y hy => ?_⟩
 · rcases a2 y hy with e | e
   · exact h2 y e
   · exact ⟨by have := h.lo.size; omega, fun e2 => by have := hX y e2; omega, fun e2 => by have := hY y e2; omega⟩
 · rcases List.mem_append.1 hy with e | e
   · exact h4 y e
   · simp at e; rw [e]; exact hk
 · have hlt := hX y hy
   rw [a3.block y (by omega) (fun e => (h2 y e).2.1 hy), hb.block y (by omega)]
   exact h.st y hy
 · exact Off.toBelow (tr h.lo hb) a3 (fun j hj e => by have := (h2 j e).1; omega) (Nat.le_refl _)
 · have hlt := hY y hy
   rw [a3.block y (by omega) (fun e => (h2 y e).2.2 hy), hb.block y (by omega)]
theorem CpI.done {w w3 W2 : World} {p2 ob n q xb bi bc : Nat} {L : List (Kp × Int)} {k : Kp} {rs : List Nat} (h : CpI w w3 W2 p2 n L q k (four bi bc w3.heap.size) (fun x => x = ob ∨ x = xb ∨ x ∈ rs) (chAll L k)) (hK : W2.heap[w3.heap.size]? = some (.deferred (some [])))
 (ok : ChOk n L) (hQ : chFst (chAll L k) = (q : Int)) (H3 : CpAt w w3 p2 ob n L q rs) (h1 : w.heap.size ≤ w3.heap.size) (h2 : ob < w3.heap.size) (h3 : xb < w3.heap.size) (h4 : ∀ x ∈ rs, x < w3.heap.size) : CpAt w W2 p2 ob n L (q + 1) (w3.heap.size :: rs) where
 ex := by
  obtain ⟨Lx, S5, b1, b2, b3, b4, b5⟩ := h.ex
  refine ⟨Lx, S5, b1, fun x hx => ⟨(b2 x hx).1, fun e => (b2 x hx).2.1 (.inl e), fun e => ?_⟩, b3, b4, fun j => ?_⟩
  · rcases List.mem_cons.1 e with e | e
    · exact (b2 x hx).2.2 (.inr (.inr (.inl e)))
    · exact (b2 x hx).2.1 (.inr (.inr e))
  · rw [b5 j, cpA_hit ok hQ j]
 V := (h.st ob (.inl rfl)).trans H3.V
 lo := h.lo
 ob0 := H3.ob0
 nd := List.nodup_cons.2 ⟨fun e => by have := h4 _ e; omega, H3.nd⟩
 ms := fun x hx => by
  rcases List.mem_cons.1 hx with e | e
  · rw [e]; exact ⟨h1, by omega, hK⟩
  · obtain ⟨m1, m2, m3⟩ := H3.ms x e
    exact ⟨m1, m2, (h.st x (.inr (.inr e))).trans m3⟩
set_option maxHeartbeats 6400000 in
theorem jCopy0 {w : World} {p m g n : Nat} {M : List (Kp × Value)} {r : Nat → Lk} {H : Kp → Nat} {S : Nat → Prop} {L : List (Kp × Int)} (B : ChBK w p m g n M r (chAll L) H L.length S) (ok : ChOk n L) (n1 : n ≤ 4096) (ks : ∀ x ∈ L, okk x.1) :
 Calls Try.prog 17 #[.pointer (some ⟨p, 0, none⟩)] w fun e w' => ∃ p2, e = .returned (.pointer (some ⟨p2, 0, none⟩)) ∧ CpEnd w w' p2 n L := by
 have c1 := B.P.c1
 have hp := B.P.lt
 have HW := Lib.hid B
 have HOK := Lib.hid ok
 have HKS := Lib.hid ks
 clear B ok ks
 refine calls_marksJ Try.func17 rfl ?_
 simp only [Try.ntmps17, List.size_toArray, List.length_cons, List.length_nil, Nat.reduceAdd, Nat.reduceSub, Array.replicate_succ, Array.replicate_zero, List.push_toArray, List.append_toArray, List.nil_append, List.cons_append]
 go_wp2_with fail
 refine (jEmptyK n n1 w).mono ?_
 rintro e w1 ⟨p2, S2, rfl, hA, hS, hb⟩
 go_upto_region 4 with (fail)
 have h2 := blk_new w1 (.cells #[.pointer (some ⟨p2, 0, none⟩)] tPcK (0, 0))
 have hb2 := trA (tr0 w1) (.cells #[.pointer (some ⟨p2, 0, none⟩)] tPcK (0, 0))
 have HC := Lib.hid (show CpAt w (w1.alloc (.cells #[.pointer (some ⟨p2, 0, none⟩)] tPcK (0, 0))) p2 w1.heap.size n L 0 [] from
  ⟨⟨[], S2, chRK.below hA hb2, fun x hx => ⟨hS x hx, by have := chRK.lt hA x hx; omega, by simp⟩, ChOk.nil n, (fun x hx => nomatch hx), fun k => (cpA_zero HOK.out k).symm⟩, h2, tr hb hb2, hb.size, List.nodup_nil, (fun r hr => nomatch hr)⟩)
 clear hA hS hb h2 hb2 c1 hp
 generalize w1.alloc (.cells #[.pointer (some ⟨p2, 0, none⟩)] tPcK (0, 0)) = W1 at *
 generalize w1.heap.size = ob at *
 have HP1 := HW.out.below HC.out.lo
 have c1 := HP1.P.c1
 have hp := HP1.P.lt
 clear HP1
 go_wp2_with fail
 refine wp_loop (fun a wr => ∃ (q : Nat) (rs : List Nat) (u4 u5 u6 u21 u22 u23 u24 u25 u26 u27 u28 u29 u30 u31 u32 u33 u34 u35 u36 u37 u38 u39 u40 u41 u42 u43 u44 u45 : Value), q ≤ n ∧ a = { tmps := #[.pointer (some ⟨p, 0, none⟩), undef, .pointer none, .pointer (some ⟨ob, 0, none⟩), u4, u5, u6, .pointer (some ⟨p, 0, none⟩), .bool false, .pointer (some ⟨p, 0, none⟩), .pointer (some ⟨p, 0, none⟩), .pointer (some ⟨p, 1, none⟩), .slice (some ⟨g, 0, none⟩) n n, .int .i64 n, .pointer (some ⟨p2, 0, none⟩), .pointer (some ⟨p, 0, none⟩), .pointer (some ⟨p, 0, none⟩), .pointer (some ⟨p, 1, none⟩), .slice (some ⟨g, 0, none⟩) n n, .int .i64 n, .int .i64 (q : Nat), u21, u22, u23, u24, u25, u26, u27, u28, u29, u30, u31, u32, u33, u34, u35, u36, u37, u38, u39, u40, u41, u42, u43, u44, u45, undef], defers := rs.map mkD } ∧ Hid (CpAt w wr p2 ob n L q rs)) (fun a wr => n - (intOf (a.tmps.getD 20 undef)).toNat) ?_ ?_
 · exact ⟨0, [], _, _, _, _, _, _, _, _, _, _, _, _, _, _, _, _, _, _, _, _, _, _, _, _, _, _, _, _, Nat.zero_le _, rfl, HC⟩
 · clear HC c1 hp
   rintro a wr ⟨q, rs, u4, u5, u6, u21, u22, u23, u24, u25, u26, u27, u28, u29, u30, u31, u32, u33, u34, u35, u36, u37, u38, u39, u40, u41, u42, u43, u44, u45, hq, rfl, HC⟩
   have HB := Lib.hid (HW.out.below HC.out.lo)
   by_cases hqn : q < n
   · have hqr : 0 ≤ (q : Int) ∧ (q : Int) < n := by omega
     have hlt : (q : Int) < n := by omega
     have hg := HB.out.R.lt
     have q0 := HB.out.R.c0 hqn
     have q1 := HB.out.R.c1 hqn
     have q2 := HB.out.R.c2 hqn
     cases hh : (r q).h with
     | none =>
       have hr := HW.out.rep.no q hqn (HW.out.rep.of_none hh)
       rw [hr] at q0 q1 q2
       have e0 : wr.cell? ⟨g, q * 3, none⟩ = some (.pointer none) := q0
       have e1 : wr.cell? ⟨g, q * 3 + 1, none⟩ = some (.int .i64 0) := q1
       have e2 : wr.cell? ⟨g, q * 3 + 2, none⟩ = some (.int .i64 0) := q2
       clear q0 q1 q2
       have HB2 := Lib.hid (trA (tr0 wr) (.cells #[.pointer none, .int .i64 0, .int .i64 0] tLkK (0, 0)))
       have hw : IntKind.i64.wrap ((q : Int) + 1) = (q : Int) + 1 := by rw [IntKind.wrap_i64]; omega
       have HN := Lib.hid (HC.out.skip fun k e => HW.out.rep.of_none hh k (by
        rw [← e]
        exact chFst_mem fun e2 => by rw [e2] at e; have : chFst [] = -1 := rfl; omega))
       clear hr hh
       go_wp2_with fail
       refine ⟨⟨q + 1, rs, _, _, _, _, _, _, _, _, _, _, _, _, _, _, _, _, _, _, _, _, _, _, _, _, _, _, _, _, hqn, rfl, Lib.hid (HN.out.below HB2.out)⟩, ?_⟩
       simp [intOf]
       omega
     | some b =>
       obtain ⟨k, l1, l2, hk, _, hr⟩ := HW.out.rep.of_some hqn hh
       rw [hr] at q0 q1 q2
       have e0 : wr.cell? ⟨g, q * 3, none⟩ = some (.pointer (some ⟨H k, 0, none⟩)) := q0
       have e1 : wr.cell? ⟨g, q * 3 + 1, none⟩ = some (.int .i64 (chLst l1)) := q1
       have e2 : wr.cell? ⟨g, q * 3 + 2, none⟩ = some (.int .i64 (chFst l2)) := q2
       clear q0 q1 q2 hr hh
       have hw : IntKind.i64.wrap ((q : Int) + 1) = (q : Int) + 1 := by rw [IntKind.wrap_i64]; omega
       by_cases h0 : l1 = []
       · subst h0
         replace e1 : wr.cell? ⟨g, q * 3 + 1, none⟩ = some (.int .i64 (-1)) := e1
         have hb2 := trA (tr0 wr) (.cells #[.pointer (some ⟨H k, 0, none⟩), .int .i64 (-1), .int .i64 (chFst l2)] tLkK (0, 0))
         have HX := Lib.hid (blk_new wr (.cells #[.pointer (some ⟨H k, 0, none⟩), .int .i64 (-1), .int .i64 (chFst l2)] tLkK (0, 0)))
         have HC2 := Lib.hid (HC.out.below hb2)
         obtain ⟨Lq, S2, a1, a2, a3, a4, a5⟩ := HC.out.ex
         have a6 := chRK.lt a1
         have HA := Lib.hid (chRK.below a1 hb2)
         have HS2 := Lib.hid (show ∀ x, S2 x → w.heap.size ≤ x ∧ x ≠ ob ∧ x ∉ rs ∧ x < wr.heap.size from fun x hx => ⟨(a2 x hx).1, (a2 x hx).2.1, (a2 x hx).2.2, a6 x hx⟩)
         have HL5 := Lib.hid (show ChOk n Lq ∧ (∀ x ∈ Lq, okk x.1) ∧ ∀ j, chAll Lq j = cpA L q j from ⟨a3, a4, a5⟩)
         have HKO := Lib.hid (show okk k from HKS.out (k, (q : Int)) ((chAll_mem L k q).1 (by rw [hk]; simp)))
         have HNE := Lib.hid (show chAll L k ≠ [] by rw [hk]; simp)
         clear a1 a2 a3 a4 a5 a6
         have HQ := Lib.hid (show chFst (chAll L k) = (q : Int) by rw [hk]; rfl)
         have HZ := Lib.hid (show ob < wr.heap.size ∧ w.heap.size ≤ wr.heap.size from ⟨HC.out.V.lt, HC.out.lo.size⟩)
         have HRS := Lib.hid (show ∀ x ∈ rs, x < wr.heap.size from fun x hx => lt_of_block (HC.out.ms x hx).2.2)
         clear hk hb2 HC HB
         go_wp2_with (go_at_call 45; refine (jFromK p _ _).mono ?_; rintro e w3 ⟨bi, bc, rfl, hl1, hl2, hx, hy2, hb⟩; have HI := Lib.hid hx; have HD := Lib.hid hy2; have HZ2 := Lib.hid (show wr.heap.size < bc ∧ bc < bi from ⟨by simp at hl1; omega, hl2⟩); have HX := Lib.hid (blk_below hb HX.out (lt_of_block HX.out)); have HC3 := Lib.hid (HC2.out.below hb); have HA := Lib.hid (chRK.below HA.out hb); clear hb hx hy2 hl1 hl2 HC2)
         have hz := HZ.out
         have hz2 := HZ2.out
         have hw3 : wr.heap.size < w3.heap.size := lt_of_block HX.out
         have hbi := HI.out.lt
         have hbc := HD.out.lt
         have HI0 := Lib.hid (show CpI w w3 w3 p2 n L q k (four bi bc w3.heap.size) (fun x => x = ob ∨ x = wr.heap.size ∨ x ∈ rs) [] from
          ⟨⟨Lq, S2, HA.out, fun x hx => ⟨(HS2.out x hx).1, (by
           rintro (e | e | e)
           · exact (HS2.out x hx).2.1 e
           · have := (HS2.out x hx).2.2.2; omega
           · exact (HS2.out x hx).2.2.1 e), (by
           have := (HS2.out x hx).2.2.2
           unfold four
           omega)⟩, HL5.out.1, HL5.out.2.1, fun j => by
           rw [HL5.out.2.2 j]
           by_cases e : j = k
           · subst e; rw [if_pos rfl]; exact cpA_self HQ.out
           · rw [if_neg e]⟩, fun x _ => rfl, Nat.le_refl _, HC3.out.lo⟩)
         have HXL := Lib.hid (show ∀ x, (x = ob ∨ x = wr.heap.size ∨ x ∈ rs) → x ≤ wr.heap.size from fun x hx => by
          rcases hx with e | e | e
          · omega
          · omega
          · have := HRS.out x e; omega)
         refine (wpIn_wide (n := 3)).1 ?_
         refine rfFromK HOK.out k bi bc (by rw [HQ.out]; exact HI.out) HD.out (by omega) rfl rfl (fun pre W => CpI w w3 W p2 n L q k (four bi bc w3.heap.size) (fun x => x = ob ∨ x = wr.heap.size ∨ x ∈ rs) pre) ?hI (fun xs A h => ⟨_, _, _, _, _, _, HW.out.below h.lo⟩) HI0.out
          (fun x => { tmps := #[.pointer (some ⟨p, 0, none⟩), undef, .pointer none, .pointer (some ⟨ob, 0, none⟩), .int .i64 q, .pointer (some ⟨wr.heap.size, 0, none⟩), .int .i64 x, .pointer (some ⟨p, 0, none⟩), .bool false, .pointer (some ⟨p, 0, none⟩), .pointer (some ⟨p, 0, none⟩), .pointer (some ⟨p, 1, none⟩), .slice (some ⟨g, 0, none⟩) n n, .int .i64 n, .pointer (some ⟨p2, 0, none⟩), .pointer (some ⟨p, 0, none⟩), .pointer (some ⟨p, 0, none⟩), .pointer (some ⟨p, 1, none⟩), .slice (some ⟨g, 0, none⟩) n n, .int .i64 n, .int .i64 q, .bool true, .int .i64 q, .pointer (some ⟨g, q * 3, none⟩), .agg #[.pointer (some ⟨H k, 0, none⟩), .int .i64 (-1), .int .i64 (chFst l2)], .pointer (some ⟨wr.heap.size, 0, none⟩), .pointer (some ⟨H k, 0, none⟩), .bool false, .bool false, .pointer (some ⟨wr.heap.size, 1, none⟩), .int .i64 (-1), .bool false, .bool false, .pointer (some ⟨p, 0, none⟩), .int .i64 q, .func (.func 64) #[] #[.pointer (some ⟨bi, 0, none⟩), .pointer (some ⟨bc, 0, none⟩)], .int .i64 x, u37, u38, u39, u40, u41, u42, u43, u44, u45, undef], defers := [] }) ?assign ?body ?done
         case hI =>
          intro xs A A' h ho
          refine CpI.off h ho (fun x e => ?_) (fun x e1 e2 => ?_) (fun x e => ?_) (fun x e => ?_)
          · unfold four; omega
          · have := HXL.out x e1; omega
          · have := HXL.out x e; omega
          · omega
         case assign =>
          intro l x W2 K hK
          gi_wp2
          exact hK
         case body =>
          intro l pre x W2 h hs hpre
          obtain ⟨Lx, S5, b1, b2, b3, b4, b5⟩ := h.ex
          have hV : OneAt tPcK W2 ob (.pointer (some ⟨p2, 0, none⟩)) := (h.st ob (.inl rfl)).trans HC3.out.V
          have hX2 := (h.st wr.heap.size (.inr (.inl rfl))).trans HX.out
          have hH := (HW.out.below h.lo).hd k HNE.out
          have hbd : Below W2.heap.size W2 W2.drew := trD (tr0 W2)
          have HV := Lib.hid (show CIn okk chRK W2.drew p2 S5 n Lx from ⟨chRK.below b1 hbd, by omega, n1, b3, b4⟩)
          have HP := Lib.hid (fun (W' : World) (aa : Act) (hl : CLeft chRK W2.drew p2 S5 n (chPush n Lx k x) W') => show post4 bi bc w3.heap.size (fun pre W => CpI w w3 W p2 n L q k (four bi bc w3.heap.size) (fun x => x = ob ∨ x = wr.heap.size ∨ x ∈ rs) pre) (pre ++ [x]) W2 .normal aa W' from
           let hh := h.put HOK.out hpre HKO.out b2 b3 b4 b5 (fun x e => by have := HXL.out x e; omega) (fun x e => by unfold four at e; omega) hbd hl
           ⟨hh.2, hh.1⟩)
          have HXR := Lib.hid (show i64r x from by have h1 := HOK.out.A.rg k x (hpre.subset (by simp)); unfold i64r; omega)
          generalize post4 bi bc w3.heap.size (fun pre W => CpI w w3 W p2 n L q k (four bi bc w3.heap.size) (fun x => x = ob ∨ x = wr.heap.size ∨ x ∈ rs) pre) (pre ++ [x]) W2 = QQ at *
          have d0 := hV.c
          have l0 := hV.lt
          have d1 : W2.cell? ⟨wr.heap.size, 0, none⟩ = some (.pointer (some ⟨H k, 0, none⟩)) := by rw [blk_cell hX2]; rfl
          have l1 := lt_of_block hX2
          have d2 := hH.k0
          have d3 := hH.k1
          have l2 := hH.lt
          generalize wr.heap.size = xb at *
          generalize H k = hk at *
          clear h hs hpre b1 b2 b3 b4 b5 hV hX2 hH hbd hz hz2 hw3 hbi hbc HI0 HXL HI HD HZ2 HX HC3 HA HZ HRS HQ HNE HL5 HS2 e0 e1 e2 hw hqr hlt hg hq
          gi_wp2
          refine wpIn_region_any (by kernel_rfl) ?_
          try (change wpAnyIn _ _ _ _ _ _ _ _ _ (World.drew _))
          repeat' (first
           | (refine wpAnyIn_ready (rs := [5]) (by decide +kernel) (by simp) ?_; refine AllReadyIn.cons rfl (fun K hK => ?_) AllReadyIn.nil <;> (go_simp; refine hK _ _ ?_; clear hK K))
           | (refine wpAnyIn_ready (rs := [4]) (by decide +kernel) (by simp) ?_; refine AllReadyIn.cons rfl (fun K hK => ?_) AllReadyIn.nil <;> (go_simp; refine hK _ _ ?_; clear hK K))
           | (refine wpAnyIn_ready (rs := [3]) (by decide +kernel) (by simp) ?_; refine AllReadyIn.cons rfl (fun K hK => ?_) AllReadyIn.nil <;> (go_simp; refine hK _ _ ?_; clear hK K))
           | (refine wpAnyIn_ready (rs := [2]) (by decide +kernel) (by simp) ?_; refine AllReadyIn.cons rfl (fun K hK => ?_) AllReadyIn.nil <;> (go_simp; refine hK _ _ ?_; clear hK K))
           | (refine wpAnyIn_ready (rs := [1]) (by decide +kernel) (by simp) ?_; refine AllReadyIn.cons rfl (fun K hK => ?_) AllReadyIn.nil <;> (go_simp; refine hK _ _ ?_; clear hK K))
           | (refine wpAnyIn_ready (rs := [5, 6]) (by decide +kernel) (by simp) ?_; refine AllReadyIn.cons rfl (fun K hK => ?_) (AllReadyIn.cons rfl (fun K hK => ?_) AllReadyIn.nil) <;> (go_simp; refine hK _ _ ?_; clear hK K))
           | (refine wpAnyIn_ready (rs := [4, 6]) (by decide +kernel) (by simp) ?_; refine AllReadyIn.cons rfl (fun K hK => ?_) (AllReadyIn.cons rfl (fun K hK => ?_) AllReadyIn.nil) <;> (go_simp; refine hK _ _ ?_; clear hK K))
           | (refine wpAnyIn_ready (rs := [3, 6]) (by decide +kernel) (by simp) ?_; refine AllReadyIn.cons rfl (fun K hK => ?_) (AllReadyIn.cons rfl (fun K hK => ?_) AllReadyIn.nil) <;> (go_simp; refine hK _ _ ?_; clear hK K))
           | (refine wpAnyIn_ready (rs := [2, 6]) (by decide +kernel) (by simp) ?_; refine AllReadyIn.cons rfl (fun K hK => ?_) (AllReadyIn.cons rfl (fun K hK => ?_) AllReadyIn.nil) <;> (go_simp; refine hK _ _ ?_; clear hK K))
           | (refine wpAnyIn_ready (rs := [1, 6]) (by decide +kernel) (by simp) ?_; refine AllReadyIn.cons rfl (fun K hK => ?_) (AllReadyIn.cons rfl (fun K hK => ?_) AllReadyIn.nil) <;> (go_simp; refine hK _ _ ?_; clear hK K))
           | (refine wpAnyIn_ready (rs := [0, 5]) (by decide +kernel) (by simp) ?_; refine AllReadyIn.cons rfl (fun K hK => ?_) (AllReadyIn.cons rfl (fun K hK => ?_) AllReadyIn.nil) <;> (go_simp; refine hK _ _ ?_; clear hK K))
           | (refine wpAnyIn_ready (rs := [0, 4]) (by decide +kernel) (by simp) ?_; refine AllReadyIn.cons rfl (fun K hK => ?_) (AllReadyIn.cons rfl (fun K hK => ?_) AllReadyIn.nil) <;> (go_simp; refine hK _ _ ?_; clear hK K))
           | (refine wpAnyIn_ready (rs := [0, 3]) (by decide +kernel) (by simp) ?_; refine AllReadyIn.cons rfl (fun K hK => ?_) (AllReadyIn.cons rfl (fun K hK => ?_) AllReadyIn.nil) <;> (go_simp; refine hK _ _ ?_; clear hK K))
           | (refine wpAnyIn_ready (rs := [0, 2]) (by decide +kernel) (by simp) ?_; refine AllReadyIn.cons rfl (fun K hK => ?_) (AllReadyIn.cons rfl (fun K hK => ?_) AllReadyIn.nil) <;> (go_simp; refine hK _ _ ?_; clear hK K))
           | (refine wpAnyIn_ready (rs := [0, 1]) (by decide +kernel) (by simp) ?_; refine AllReadyIn.cons rfl (fun K hK => ?_) (AllReadyIn.cons rfl (fun K hK => ?_) AllReadyIn.nil) <;> (go_simp; refine hK _ _ ?_; clear hK K))
           | (refine wpAnyIn_ready (rs := [0, 5, 6]) (by decide +kernel) (by simp) ?_; refine AllReadyIn.cons rfl (fun K hK => ?_) (AllReadyIn.cons rfl (fun K hK => ?_) (AllReadyIn.cons rfl (fun K hK => ?_) AllReadyIn.nil)) <;> (go_simp; refine hK _ _ ?_; clear hK K))
           | (refine wpAnyIn_ready (rs := [0, 4, 6]) (by decide +kernel) (by simp) ?_; refine AllReadyIn.cons rfl (fun K hK => ?_) (AllReadyIn.cons rfl (fun K hK => ?_) (AllReadyIn.cons rfl (fun K hK => ?_) AllReadyIn.nil)) <;> (go_simp; refine hK _ _ ?_; clear hK K))
           | (refine wpAnyIn_ready (rs := [0, 3, 6]) (by decide +kernel) (by simp) ?_; refine AllReadyIn.cons rfl (fun K hK => ?_) (AllReadyIn.cons rfl (fun K hK => ?_) (AllReadyIn.cons rfl (fun K hK => ?_) AllReadyIn.nil)) <;> (go_simp; refine hK _ _ ?_; clear hK K))
           | (refine wpAnyIn_ready (rs := [0, 2, 6]) (by decide +kernel) (by simp) ?_; refine AllReadyIn.cons rfl (fun K hK => ?_) (AllReadyIn.cons rfl (fun K hK => ?_) (AllReadyIn.cons rfl (fun K hK => ?_) AllReadyIn.nil)) <;> (go_simp; refine hK _ _ ?_; clear hK K))
           | (refine wpAnyIn_ready (rs := [0, 1, 6]) (by decide +kernel) (by simp) ?_; refine AllReadyIn.cons rfl (fun K hK => ?_) (AllReadyIn.cons rfl (fun K hK => ?_) (AllReadyIn.cons rfl (fun K hK => ?_) AllReadyIn.nil)) <;> (go_simp; refine hK _ _ ?_; clear hK K))
           | (refine wpAnyIn_ready (rs := [0, 6]) (by decide +kernel) (by simp) ?_; refine AllReadyIn.cons rfl (fun K hK => ?_) (AllReadyIn.cons rfl (fun K hK => ?_) AllReadyIn.nil) <;> (go_simp; refine hK _ _ ?_; clear hK K))
           | (refine wpAnyIn_ready (rs := [6]) (by decide +kernel) (by simp) ?_; refine AllReadyIn.cons rfl (fun K hK => ?_) AllReadyIn.nil <;> (go_simp; refine hK _ _ ?_; clear hK K))
           | (refine wpAnyIn_ready (rs := [0]) (by decide +kernel) (by simp) ?_; refine AllReadyIn.cons rfl (fun K hK => ?_) AllReadyIn.nil <;> (go_simp; refine hK _ _ ?_; clear hK K))
           | (refine wpAnyIn_ready (rs := [7]) (by decide +kernel) (by simp) ?_; refine AllReadyIn.cons rfl (fun K hK => ?_) AllReadyIn.nil; go_simp; refine ⟨trivial, ?_⟩; refine (show CallsIn (Fence.wide.inRound l) 0 Try.prog _ _ _ _ from (callsIn_wide (n := 0)).2 ((jPushK _ p2 S5 n Lx k x HV.out HKO.out HXR.out).mono ?_)); rintro e w5 ⟨rfl, hl⟩; refine hK _ _ ?_; refine wpAnyIn_done (by kernel_rfl) ?_ _; exact HP.out w5 _ hl))
         case done =>
          intro W2 h hK
          have HE := Lib.hid (CpI.done (ob := ob) (rs := rs) (xb := wr.heap.size) (bi := bi) (bc := bc) h hK HOK.out HQ.out HC3.out (by omega) (by omega) (by omega) (fun x hx => by have := HRS.out x hx; omega))
          clear h hK
          go_wp2_with fail
          refine ⟨⟨q + 1, w3.heap.size :: rs, _, _, _, _, _, _, _, _, _, _, _, _, _, _, _, _, _, _, _, _, _, _, _, _, _, _, _, _, hqn, rfl, HE⟩, ?_⟩
          simp [intOf]
          omega
       · have hne : (chLst l1 != -1) = true := by
          have h1 := chLst_mem h0
          have h2 := (HOK.out.A.rg k (chLst l1) (by rw [hk]; simp [h1])).1
          simp; omega
         have HB2 := Lib.hid (trA (tr0 wr) (.cells #[.pointer (some ⟨H k, 0, none⟩), .int .i64 (chLst l1), .int .i64 (chFst l2)] tLkK (0, 0)))
         have HN := Lib.hid (HC.out.skip fun j e => by
          have hq : (q : Int) ∈ chAll L k := by rw [hk]; simp
          have hj : chAll L j ≠ [] := fun e2 => by rw [e2] at e; have : chFst [] = -1 := rfl; omega
          have hjq := chFst_mem hj
          rw [e] at hjq
          have hjk := HOK.out.A.dj j k _ hjq hq
          subst hjk
          rw [hk, chFst_app _ _ h0] at e
          have nd := chAll_nd HOK.out j
          rw [hk, List.nodup_append] at nd
          exact nd.2.2 _ (chFst_mem h0) _ (List.mem_cons_self) e)
         clear h0
         go_wp2_with fail
         refine ⟨⟨q + 1, rs, _, _, _, _, _, _, _, _, _, _, _, _, _, _, _, _, _, _, _, _, _, _, _, _, _, _, _, _, hqn, rfl, Lib.hid (HN.out.below HB2.out)⟩, ?_⟩
         simp [intOf]
         omega
   · have hqe : q = n := by omega
     have hnl : ¬ (q : Int) < (n : Nat) := by omega
     have cv := HC.out.V.c
     have lv := HC.out.V.lt
     go_wp2_with fail
     refine leaves_marks rs _ HC.out.nd (fun x hx => (HC.out.ms x hx).2.2) fun w' ho => ?_
     obtain ⟨Lq, S2, h1, h2, h3, h4, h5⟩ := HC.out.ex
     refine ⟨_, results_tmp rfl _ _ _, p2, rfl, Lq, S2, chRK.off h1 ho (fun x hx e => (h2 x hx).2.2 e), fun x hx => (h2 x hx).1, h3, fun k => ?_, Off.toBelow HC.out.lo ho (fun j hj e => by have := (HC.out.ms j e).1; omega) (Nat.le_refl _)⟩
     rw [h5 k, hqe]
     exact cpA_end HOK.out k
end Go.Proofs.Ytopkmjiilnoeeaa.B
