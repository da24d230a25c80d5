/- Several texts in one: Layer 11 in plain numbers: ticks in two calls are as in one; resets are told in the order of their times. No Go. What a .. -/
import Derived.Test.YtcgmnjajodegmaaGreatZTbj
import Derived.Test.YtcgmnjajodegmaaGreatZTbl
import Derived.Test.YtcgmnjajodegmaaGreatZTbp
import Derived.Test.YtcgmnjajodegmaaGreatZTbq
set_option linter.unusedVariables false
set_option linter.unusedSimpArgs false
set_option maxRecDepth 100000
namespace Go.Proofs.YtcgmnjajodegmaaGreat.B
structure Bx.asc (x : Bx) : Prop where
 two : ∀ (i : Nat) (a b : Int × Int), x.es[i]? = some a -> x.es[i + 1]? = some b -> a.1 <= b.1
 last : ∀ (i : Nat) (a : Int × Int), x.es[i]? = some a -> a.1 <= x.ti
theorem asc_nil {x : Bx} (h : x.es = []) : x.asc := ⟨fun i a b ha _ => by rw [h] at ha; simp at ha, fun i a ha => by rw [h] at ha; simp at ha⟩
theorem asc_keep {x y : Bx} (h : x.asc) (he : y.es = x.es) (ht : x.ti <= y.ti) : y.asc :=
 ⟨fun i a b ha hb => h.two i a b (he ▸ ha) (he ▸ hb), fun i a ha => Int.le_trans (h.last i a (he ▸ ha)) ht⟩
theorem asc_more {x y : Bx} (h : x.asc) {t q : Int} (he : y.es = x.es ++ [(t, q)]) (h1 : x.ti <= t) (h2 : t <= y.ti) : y.asc := by
 have key : ∀ i a, y.es[i]? = some a -> (i < x.es.length /\ x.es[i]? = some a) \/ (i = x.es.length /\ a = (t, q)) := by
  intro i a ha
  rw [he] at ha
  by_cases hi : i < x.es.length
  . rw [List.getElem?_append_left hi] at ha; exact .inl ⟨hi, ha⟩
  . rw [List.getElem?_append_right (by omega)] at ha
    by_cases hj : i = x.es.length
    . subst hj; simp at ha; exact .inr ⟨rfl, ha.symm⟩
    . rw [List.getElem?_eq_none (by simp; omega)] at ha; cases ha
 refine ⟨fun i a b ha hb => ?_, fun i a ha => ?_⟩
 . rcases key _ _ ha with ⟨_, h3⟩ | ⟨h3, _⟩ <;> rcases key _ _ hb with ⟨_, h4⟩ | ⟨h4, rfl⟩
   . exact h.two i a b h3 h4
   . exact Int.le_trans (h.last i a h3) h1
   . omega
   . omega
 . rcases key _ _ ha with ⟨_, h3⟩ | ⟨_, rfl⟩
   . exact Int.le_trans (h.last i a h3) (Int.le_trans h1 h2)
   . exact h2
theorem addS_le {a k : Int} (h1 : a < 18446744073709551616) (k0 : 0 <= k) : a <= addS a k := by unfold addS; split <;> omega
theorem addS_addS {a j k : Int} (a0 : 0 <= a) (a1 : a < 18446744073709551616) (j0 : 0 <= j) (k0 : 0 <= k) : addS (addS a j) k = addS a (j + k) := by
 unfold addS
 by_cases h1 : 18446744073709551615 - j < a
 . rw [if_pos h1, if_pos (show 18446744073709551615 - (j + k) < a by omega)]; split <;> omega
 . rw [if_neg h1]
   by_cases h2 : 18446744073709551615 - k < a + j
   . rw [if_pos h2, if_pos (by omega)]
   . rw [if_neg h2, if_neg (by omega)]; omega
theorem ran_add {t : Wd} (hf : t.fa = 0) {a b : Int} (h : (t.tick a).fa = 0) : t.ran (a + b) = a + (t.tick a).ran b := by
 obtain ⟨en, lk, ar, cl, tot, si, fa⟩ := t
 simp only at hf
 subst hf
 cases en
 . simp [Wd.ran, Wd.tick]
 . unfold Wd.tick at h ⊢
   simp only [true_and, if_true] at h ⊢
   by_cases h1 : tot <= si + a
   . rw [if_pos h1] at h; exact absurd h (show ¬ (2 : Int) = 0 by decide)
   . rw [if_neg h1]
     unfold Wd.ran
     simp only [ne_eq, not_true_eq_false, if_false, if_true]
     by_cases h2 : tot <= si + (a + b)
     . rw [if_pos h2, if_pos (by omega)]; omega
     . rw [if_neg h2, if_neg (by omega)]
theorem tick_more {t : Wd} (hf : t.fa = 0) {a b : Int} (b0 : 0 <= b) (h : (t.tick a).fa ≠ 0) : t.tick (a + b) = t.tick a /\ t.ran (a + b) = t.ran a := by
 obtain ⟨en, lk, ar, cl, tot, si, fa⟩ := t
 simp only at hf
 subst hf
 cases en
 . exact absurd rfl h
 . unfold Wd.tick at h ⊢
   simp only [true_and, if_true] at h ⊢
   by_cases h1 : tot <= si + a
   . unfold Wd.ran
     simp only [ne_eq, not_true_eq_false, if_false, if_true]
     rw [if_pos h1, if_pos (show tot <= si + (a + b) by omega), if_pos h1, if_pos (show tot <= si + (a + b) by omega)]
     exact ⟨rfl, rfl⟩
   . rw [if_neg h1] at h; exact absurd rfl h
section
variable {n c : Nat} {x : Bx}
theorem tick_ti (h : x.ok n c) (hs : x.still) {N : Int} (n0 : 0 <= N) (n1 : N < 18446744073709551616) : x.ti <= (x.later N).ti /\ (x.later N).ti <= (x.tick N).ti := by
 have hb := ran_bounds h.wd hs.1 n0
 have ho := Bx.later_ok h hs.1 n0 n1
 refine ⟨addS_le h.t1 hb.1, ?_⟩
 unfold Bx.tick
 split
 . exact Int.le_refl _
 . exact addS_le ho.t1 (by omega)
theorem tick_asc (h : x.ok n c) (hs : x.still) {N : Int} (n0 : 0 <= N) (n1 : N < 18446744073709551616) (ha : x.asc) : (x.tick N).asc := by
 have ht := tick_ti h hs n0 n1
 by_cases hf : (x.later N).wd.fa = 0
 . exact asc_keep ha (by rw [Bx.tick_no hf]; rfl) (Int.le_trans ht.1 ht.2)
 . exact asc_more ha (t := (x.later N).ti) (q := (x.later N).wd.fa) (by rw [Bx.tick_yes hf]; rfl) ht.1 ht.2
theorem put_ti (x : Bx) (a v : Int) : (x.put n c a v).ti = x.ti := by
 unfold Bx.put
 split <;> (try split) <;> rfl
theorem sto_asc (a v : Int) (ha : x.asc) : (x.sto n c a v).asc := by
 have h1 := put_es (n := n) (c := c) x a v
 have h2 := put_ti (n := n) (c := c) (x := x) a v
 unfold Bx.sto Bx.look
 split
 . exact asc_keep ha h1 (by rw [h2]; exact Int.le_refl _)
 . refine asc_more ha (t := x.ti) (q := (x.put n c a v).due) ?_ (Int.le_refl _) (by show x.ti <= (x.put n c a v).ti; rw [h2]; exact Int.le_refl _)
   show (x.put n c a v).es ++ [((x.put n c a v).ti, _)] = _
   rw [h1, h2]
end
def Nx (n c : Nat) (x y : Bx) : Prop := y = x \/ (∃ N : Int, 0 <= N /\ N < 18446744073709551616 /\ y = x.tick N) \/ ∃ a v : Int, y = x.sto n c a v
theorem tick_es (x : Bx) (N : Int) : (x.tick N).es = x.es \/ (x.tick N).es = x.es ++ [((x.later N).ti, (x.later N).wd.fa)] := by
 unfold Bx.tick
 split
 . exact .inl rfl
 . exact .inr rfl
theorem tick_len (x : Bx) (N : Int) : (x.tick N).es.length <= x.es.length + 1 := by
 rcases tick_es x N with h | h <;> rw [h] <;> simp
theorem sto_len {n c : Nat} (x : Bx) (a v : Int) : (x.sto n c a v).es.length <= x.es.length + 1 := by
 have hp := put_es (n := n) (c := c) x a v
 unfold Bx.sto Bx.look
 split
 . rw [hp]; omega
 . show ((x.put n c a v).es ++ [_]).length <= _
   rw [hp]; simp
theorem Nx.len {n c : Nat} {x y : Bx} (h : Nx n c x y) : y.es.length <= x.es.length + 1 := by
 rcases h with rfl | ⟨N, _, _, rfl⟩ | ⟨a, v, rfl⟩
 . omega
 . exact tick_len x N
 . exact sto_len x a v
theorem Nx.asc {n c : Nat} {x y : Bx} (h : Nx n c x y) (o : x.ok n c) (s : x.still) (a : x.asc) : y.asc := by
 rcases h with rfl | ⟨N, h0, h1, rfl⟩ | ⟨b, v, rfl⟩
 . exact a
 . exact tick_asc o s h0 h1 a
 . exact sto_asc b v a
theorem tm_tt {t : Tm} (o : t.ok) {a b : Int} (a0 : 0 <= a) (b0 : 0 <= b) : (t.tick a).tick b = t.tick (a + b) := Tm.tick_tick o a0 b0
theorem rk_tt {t : Rk} (o : t.ok) {a b : Int} (a0 : 0 <= a) (b0 : 0 <= b) : (t.tick a).tick b = t.tick (a + b) := tick_tick o a0 b0
theorem Bx.tick_tick {n c : Nat} {x : Bx} (h : x.ok n c) (hs : x.still) {a b : Int} (a0 : 0 <= a) (b0 : 0 <= b) (ab : a + b < 18446744073709551616) : Bx.like c ((x.tick a).tick b) (x.tick (a + b)) := by
 have hra := ran_bounds h.wd hs.1 a0
 have htt : (x.wd.tick a).tick b = x.wd.tick (a + b) := Wd.tick_tick a0 b0
 by_cases hf : (x.later a).wd.fa = 0
 . rw [Bx.tick_no hf]
   have e1 : x.wd.ran a = a := ran_all hs.1 hf
   have e2 : x.wd.ran (a + b) = a + (x.wd.tick a).ran b := ran_add hs.1 hf
   have hr2 : 0 <= (x.wd.tick a).ran b /\ (x.wd.tick a).ran b <= b := ran_bounds (Wd.tick_ok h.wd a0) hf b0
   have L : Bx.like c ((x.later a).later b) (x.later (a + b)) := by
    refine ⟨?_, rfl, rfl, fun i hi => ?_, htt, rfl, ?_, rfl, rfl⟩
    . show addS (addS x.ti (x.wd.ran a)) ((x.wd.tick a).ran b) = addS x.ti (x.wd.ran (a + b))
      rw [e1, e2, addS_addS h.t0 h.t1 a0 hr2.1]
    . show ((x.tm i).tick (x.wd.ran a)).tick ((x.wd.tick a).ran b) = (x.tm i).tick (x.wd.ran (a + b))
      rw [e1, e2, tm_tt (h.tm i hi) a0 hr2.1]
    . show (x.rk.tick (x.wd.ran a)).tick ((x.wd.tick a).ran b) = x.rk.tick (x.wd.ran (a + b))
      rw [e1, e2, rk_tt h.rk a0 hr2.1]
   by_cases hg : ((x.later a).later b).wd.fa = 0
   . rw [Bx.tick_no hg, Bx.tick_no (L.wd ▸ hg)]; exact L
   . rw [Bx.tick_yes hg, Bx.tick_yes (L.wd ▸ hg)]
     have e3 : b - (x.later a).wd.ran b = a + b - x.wd.ran (a + b) := by
      show b - (x.wd.tick a).ran b = _
      rw [e2]; omega
     rw [e3, L.wd, L.ti, L.rk]
     exact ⟨rfl, rfl, rfl, fun _ _ => rfl, rfl, (by show ((x.later a).later b).rs.ltc _ = (x.later (a + b)).rs.ltc _; rfl), rfl, rfl, (by show ((x.later a).later b).es ++ [(((x.later a).later b).ti, _)] = (x.later (a + b)).es ++ [((x.later (a + b)).ti, _)]; rw [L.ti]; rfl)⟩
 . have e0 := tick_more hs.1 b0 hf
   have eL : x.later (a + b) = x.later a := by unfold Bx.later; rw [e0.1, e0.2]
   have ho := Bx.later_ok h hs.1 a0 (by omega)
   rw [Bx.tick_yes (x := x) (N := a + b) (by rw [eL]; exact hf), eL, e0.2, Bx.tick_yes hf]
   generalize hX : ({ (x.later a).rst (x.later a).wd.fa with ti := addS (x.later a).ti (a - x.wd.ran a), rk := (x.later a).rk.zero.tick (a - x.wd.ran a) } : Bx) = X
   have hw : X.wd = wz := by rw [<- hX]; rfl
   have hX1 : X.tick b = X.later b := Bx.tick_no (by show (X.wd.tick b).fa = 0; rw [hw]; rfl)
   rw [hX1]
   have hr : X.wd.ran b = b := by rw [hw]; rfl
   have e4 : a + b - x.wd.ran a = a - x.wd.ran a + b := by omega
   refine ⟨?_, (by rw [<- hX]; rfl), (by rw [<- hX]; rfl), fun i hi => ?_, ?_, (by rw [<- hX]; rfl), ?_, (by rw [<- hX]; rfl), (by rw [<- hX]; rfl)⟩
   . show addS X.ti (X.wd.ran b) = addS (x.later a).ti (a + b - x.wd.ran a)
     rw [hr, <- hX, e4, <- addS_addS ho.t0 ho.t1 (by omega) b0]
   . show (X.tm i).tick (X.wd.ran b) = tz
     rw [<- hX]; exact tz_tick _
   . show X.wd.tick b = wz
     rw [hw]; rfl
   . show X.rk.tick (X.wd.ran b) = (x.later a).rk.zero.tick (a + b - x.wd.ran a)
     rw [hr, <- hX, e4, <- rk_tt (Rk.zero_ok ho.rk) (by omega) b0]
end Go.Proofs.YtcgmnjajodegmaaGreat.B
namespace Go.Proofs.YtcgmnjajodegmaaGreat.B
open Go.ChangeShapes Go.WideShapes Go.RowKit Go.Sort
def ownK (m : Nat) : Bool := devK m || (m == tBd + 1 || m == tEv + 1)
def allK (m : Nat) : Bool := ownK m || busK m
section
variable {w w' : World} {B : Bp} {x y : Bx}
theorem BdAt.ownKd (H : BdAt w B x) {k : Nat} (hk : B.own k) : ownK (kd w k) = true := by
 unfold ownK
 rcases hk with rfl | hd | he
 . rw [kd_of H.cell]; decide
 . rw [H.dv.kd hd]; rfl
 . rw [H.ev.kd he]; decide
theorem BdAt.allKd (H : BdAt w B x) {k : Nat} (hk : B.all k) : allK (kd w k) = true := by
 unfold allK
 rcases hk with hk | rfl | hk
 . rw [H.ownKd hk]; rfl
 . rw [kd_map H.dv.c.map]; decide
 . rw [H.bus.kd hk, Bool.or_true]
theorem BdAt.offk (H : BdAt w B x) {k : Nat} {cs : Array Value} {T : TypeId} {f : Nat × Nat} (ho : Off (· = k) w w') (hk : w.heap[k]? = some (.cells cs T f)) (hT : allK (T + 1) = false) : BdAt w' B x :=
 H.off ho fun j hj e => by have := H.allKd hj; rw [e, kd_of hk, hT] at this; cases this
def Kp (w w' : World) : Prop := ∀ (k : Nat) (cs : Array Value) (T : TypeId) (f : Nat × Nat), w.heap[k]? = some (.cells cs T f) -> ownK (T + 1) = false -> w'.heap[k]? = some (.cells cs T f)
theorem Kp.refl (w : World) : Kp w w := fun _ _ _ _ h _ => h
theorem Kp.trans {a b c : World} (h : Kp a b) (g : Kp b c) : Kp a c := fun k cs T f hk hT => g k cs T f (h k cs T f hk hT) hT
theorem Kp.ofBelow (hb : Below w.heap.size w w') : Kp w w' := fun _ _ _ _ h _ => blk_below hb h (lt_of_block h)
theorem Kp.ofOff {S : Nat -> Prop} (ho : Off S w w') (hs : ∀ k, k < w.heap.size -> S k -> ownK (kd w k) = true) : Kp w w' := fun k cs T f hk hT =>
 ho.at hk fun hS => by have := hs k (lt_of_block hk) hS; rw [kd_of hk, hT] at this; cases this
theorem Left.kp (H : BdAt w B x) (L : Left B y w w') : Kp w w' := by
 obtain ⟨ev', h, ho, he⟩ := L
 exact Kp.ofOff ho fun k _ hk => H.ownKd hk
structure Lft (s : Nat) (B C : Bp) (y : Bx) (w w' : World) : Prop where
 h : BdAt w' C y
 nw : C.new s
 e : C.b = B.b
 n : C.n = B.n
 c : C.c = B.c
 d : C.div = B.div
 lo : Below s w w'
 kp : Kp w w'
theorem Left.lft {s : Nat} (H : BdAt w B x) (L : Left B y w w') (h : B.new s) (hs : s <= w.heap.size) : ∃ C, Lft s B C y w w' := by
 have K := L.kp H
 obtain ⟨ev', H1, ho, he⟩ := L
 exact ⟨{ B with ev := ev' }, H1, left_new h hs he, rfl, rfl, rfl, rfl, ho.below (fun k hk ho => by have := h k (.inl ho); omega) hs, K⟩
end
theorem Two.lft {w w' : World} {B C : Bp} {x y z : Bx} {s : Nat} (H : Two w B C x y) (L : Left B z w w') (h : B.new s) (hs : s <= w.heap.size) : ∃ B', Lft s B B' z w w' /\ Two w' B' C z y := by
 have K := L.kp H.one
 obtain ⟨ev', H2, he⟩ := H.left L
 obtain ⟨ev2, H1, ho, he2⟩ := L
 exact ⟨{ B with ev := ev' }, ⟨H2.one, left_new h hs he, rfl, rfl, rfl, rfl, ho.below (fun k hk ho => by have := h k (.inl ho); omega) hs, K⟩, H2⟩
section
variable {w w' : World} {b n c : Nat} {x : Bx} {bk ev : Value}
theorem NAt.kp (h : NAt w b n x bk ev) (K : Kp w w') : NAt w' b n x bk ev := K _ _ _ _ h (by decide)
theorem MV.kp (M : MV w c x bk ev) (K : Kp w w') : MV w' c x bk ev := by
 obtain ⟨g, cap, h1, h2⟩ := M.k
 obtain ⟨cur, h3, h4, h5⟩ := h2.row
 refine ⟨⟨g, cap, h1, ⟨cur, K _ _ _ _ h3 (by decide), h4, h5⟩, h2.nc, h2.cm⟩, M.e.keep fun k hk => ?_⟩
 obtain ⟨cur, hc⟩ := row_obj M.e hk
 rw [hc]
 exact K _ _ _ _ hc (by decide)
theorem mv_offM {cs : Array Value} (M : MV w c x bk ev) (ho : Off (· = b) w w') (h : w.heap[b]? = some (.cells cs tM11 (0, 0))) : MV w' c x bk ev := by
 obtain ⟨g, cap, h3, h4⟩ := M.k
 exact ⟨⟨g, cap, h3, h4.off ho (h4.ne h rfl)⟩, M.e.keep fun k hk => ho.block k (M.e.lt hk) (fun e2 => by have h5 := M.e.kd hk; rw [e2, kd_of h] at h5; revert h5; decide)⟩
end
abbrev tA11 : TypeId := 52
def actO (K N a v : Int) : Obj := .cells #[.int .i64 K, .int .u64 N, .int .u32 a, .int .u32 v] tA11 (0, 0)
structure D11 (w0 w : World) (s b n : Nat) (x : Bx) (bk ev : Value) (K N a v : Int) : Prop where
 h : NAt w b n x bk ev
 a : w.heap[b + 1]? = some (actO K N a v)
 z : ∃ cs : Array Value, w.heap[b + 2]? = some (.cells cs tM11 (0, 0)) /\ cs.size = 110
 lo : Below s w0 w
 kp : Kp w0 w
 sb : s <= w0.heap.size
 b0 : w0.heap.size <= b
section
variable {w0 w w' : World} {s b n : Nat} {x : Bx} {bk ev : Value} {K N a v : Int}
theorem D11.ss (F : D11 w0 w s b n x bk ev K N a v) : s <= w.heap.size := Nat.le_trans F.sb F.lo.size
theorem D11.step (F : D11 w0 w s b n x bk ev K N a v) (kp : Kp w w') (lo : Below s w w') : D11 w0 w' s b n x bk ev K N a v := by
 obtain ⟨cs, h1, h2⟩ := F.z
 exact ⟨F.h.kp kp, kp _ _ _ _ F.a (by decide), ⟨cs, kp _ _ _ _ h1 (by decide), h2⟩, F.lo.trans lo, F.kp.trans kp, F.sb, F.b0⟩
theorem D11.below (F : D11 w0 w s b n x bk ev K N a v) (hb : Below w.heap.size w w') : D11 w0 w' s b n x bk ev K N a v := F.step (Kp.ofBelow hb) (hb.mono F.ss)
theorem D11.x0 (F : D11 w0 w s b n x bk ev K N a v) : w.cell? ⟨b + 1, 0, none⟩ = some (.int .i64 K) := by have := blk_cell F.a 0; simpa using this
theorem D11.x1 (F : D11 w0 w s b n x bk ev K N a v) : w.cell? ⟨b + 1, 1, none⟩ = some (.int .u64 N) := by have := blk_cell F.a 1; simpa using this
theorem D11.x2 (F : D11 w0 w s b n x bk ev K N a v) : w.cell? ⟨b + 1, 2, none⟩ = some (.int .u32 a) := by have := blk_cell F.a 2; simpa using this
theorem D11.x3 (F : D11 w0 w s b n x bk ev K N a v) : w.cell? ⟨b + 1, 3, none⟩ = some (.int .u32 v) := by have := blk_cell F.a 3; simpa using this
theorem d11_new (w : World) (s n : Nat) (x : Bx) (bk ev : Value) (K N a v : Int) (hs : s <= w.heap.size) : D11 w (((w.alloc (oM11 n x bk ev)).alloc (actO K N a v)).alloc zM11) s w.heap.size n x bk ev K N a v := by
 have hb := trA (trA (trA (tr0 w) (oM11 n x bk ev)) (actO K N a v)) zM11
 exact ⟨b3_0 w _ _ _, b3_1 w _ _ _, ⟨_, b3_2 w _ _ _, rfl⟩, hb.mono hs, Kp.ofBelow hb, hs, Nat.le_refl _⟩
end
def DoPost11 (s : Nat) (B : Bp) (x : Bx) (w0 : World) (e : Ending) (w' : World) : Prop := ∃ C y bk ev, e = .returned (.tuple #[.pointer (some ⟨C.b, 0, none⟩), .agg (ml B.n y bk ev).toArray, .bool true]) /\ BdAt w' C y /\ C.new s /\ (C.n = B.n /\ C.c = B.c /\ C.div = B.div) /\ MV w' B.c y bk ev /\ Nx B.n B.c x y /\ Below s w0 w' /\ Kp w0 w'
theorem resN3 {fn : Func} {p q r : Tmp} (h : fn.results = #[.tmp q, .cell p 47, .tmp r]) (tmps : Array Value) (w : World) {b n : Nat} {x : Bx} {bk ev : Value} (y z : Value) (hq : tmps[q]? = some y) (hp : tmps[p]? = some (.pointer (some ⟨b, 0, none⟩))) (hr : tmps[r]? = some z) (hg : NAt w b n x bk ev) :
 (results fn tmps).run Tryz.prog w = .ok (.tuple #[y, .agg (ml n x bk ev).toArray, z]) w := by
 simp [results, h, hp, hq, hr, asAddr, loadVar_part w b 0 _ _ _ _ _ (ml n x bk ev) hg Tryz.underlying47 rfl (by rw [ml_len]; exact iM11) (part_all _)]
theorem d11_end {w0 w w' : World} {s b n : Nat} {x0 x y : Bx} {bk ev bk' ev' : Value} {K N a v : Int} {B C : Bp} (F : D11 w0 w s b n x0 bk ev K N a v) (H : BdAt w C y) (hn : C.new s) (he : C.n = B.n /\ C.c = B.c /\ C.div = B.div) (M : MV w B.c y bk' ev') (hl : Nx B.n B.c x y) (ho : Off (· = b + 2) w w') :
 DoPost11 s B x w0 (.returned (.tuple #[.pointer (some ⟨C.b, 0, none⟩), .agg (ml B.n y bk' ev').toArray, .bool true])) w' := by
 obtain ⟨cs, h1, h2⟩ := F.z
 have h3 := F.b0
 have h4 := F.sb
 refine ⟨C, y, bk', ev', rfl, H.offk ho h1 (by decide), hn, he, mv_offM M ho h1, hl, Off.toBelow F.lo ho (fun k hk e => by omega) F.sb, fun k cs T f hk hT => ?_⟩
 exact ho.at (F.kp k cs T f hk hT) fun e => by have := lt_of_block hk; omega
theorem rnLoadB {o : Oper} {f : Operand -> Value} {w : World} {b n : Nat} {x : Bx} {bk ev : Value} (y : Operand) (ho : o.op = .load 47 y) (hx : f y = .pointer (some ⟨b, 0, none⟩)) (hg : NAt w b n x bk ev) : (execOp f o).run Tryz.prog w = .ok (.value (.agg (ml n x bk ev).toArray)) w :=
 run_load_part _ y ho b 0 hx _ (ml n x bk ev) hg Tryz.underlying47 rfl (by rw [ml_len]; exact iM11) (part_all _)
theorem nLoadBg {ops : Array Oper} {rest : List Oper} {o : Oper} {a : Act} {w : World} {Q : Exit -> Act -> World -> Prop} {b n : Nat} {x : Bx} {bk ev : Value} (y : Operand) (ho : o.op = .load 47 y) (hw : Region.wanted o (yielded ops a.tmps) = true) (hx : a.eval y = .pointer (some ⟨b, 0, none⟩)) (hg : NAt w b n x bk ev)
 (h : wpList Tryz.prog ops Q rest (a.put o.dst (.agg (ml n x bk ev).toArray)) w) : wpList Tryz.prog ops Q (o :: rest) a w :=
 wpList_load_part_g _ y ho hw b 0 hx _ (ml n x bk ev) hg Tryz.underlying47 rfl (by rw [ml_len]; exact iM11) (part_all _) h
theorem step_store_B {ops : Array Oper} {o : Oper} {a : Act} {w : World} {K : Act -> World -> Prop} {Q : Exit -> Act -> World -> Prop} {E : Prop} (hgd : o.guard = none) (y z : Operand) (ho : o.op = .store 47 y z) {b : Nat} (hx : a.eval y = .pointer (some ⟨b, 0, none⟩)) (n' : Nat) (x' : Bx) (bk' ev' : Value) (hy : a.eval z = .agg (ml n' x' bk' ev').toArray) (hz : ∃ cs : Array Value, w.heap[b]? = some (.cells cs tM11 (0, 0)) /\ cs.size = 110) (h1 : bk'.oneCell' = true /\ ev'.oneCell' = true)
 (h : ∀ w', NAt w' b n' x' bk' ev' -> Off (· = b) w w' -> K (a.put o.dst undef) w') : if Region.wanted o (yielded ops a.tmps) = true then Oper.wp Tryz.prog o a w K Q else E := by
 obtain ⟨cs, hg, hl⟩ := hz
 have hR : NAt (w.setRow b (ml n' x' bk' ev').toArray) b n' x' bk' ev' := row_set _ hg
 refine step_store_part hgd _ y z ho b 0 hx (ml n' x' bk' ev') hy hg (by rw [ml_len]; exact iM11) (by rw [ml_len, hl]; omega) (ml_one n' x' bk' ev' h1.1 h1.2) ?_
 rw [spliced_all _ _ (by rw [hl, ml_len])]
 exact h _ hR ⟨rfl, rfl, rfl, by simp, fun k _ hs => setRow_other w b k _ hs⟩
theorem keep_or {w w' : World} {q r n : Nat} {y : Bx} {bk ev : Value} (h : NAt w q n y bk ev) (ho : Off (· = r) w w') (hN : NAt w' r n y bk ev) : NAt w' q n y bk ev := by
 by_cases hq : q = r
 . rw [hq]; exact hN
 . exact ho.at h hq
set_option maxHeartbeats 1600000 in
theorem yDo0 (B : Bp) (x : Bx) (bk ev : Value) (K N a v : Int) (s : Nat) (w : World) (H : BdAt w B x) (hn : B.new s) (hs : s <= w.heap.size) (M : MV w B.c x bk ev) (hl : x.es.length < 4294967290) (n0 : 0 <= N) (n1 : N < 18446744073709551616) (a0 : 0 <= a) (a1 : a < 4294967296) (v0 : 0 <= v) (v1 : v < 4294967296) (hK : K = 0) :
 Calls Tryz.prog 13 #[.pointer (some ⟨B.b, 0, none⟩), .agg (ml B.n x bk ev).toArray, .agg #[.int .i64 K, .int .u64 N, .int .u32 a, .int .u32 v]] w (DoPost11 s B x w) := by
 have hb := trA (trA (trA (tr0 w) (oM11 B.n x bk ev)) (actO K N a v)) zM11
 have HF := Hd (d11_new w s B.n x bk ev K N a v hs)
 have HH := Hd (H.below hb)
 have HM := Hd (M.below hb)
 have HNW := Hd hn
 have HOK := Hd H.ok
 have HST := Hd H.still
 have HL := Hd (show x.es.length < 4294967296 by omega)
 have HL2 := Hd hl
 clear H M hn hs hb hl
 subst hK
 go_enter Tryz.func13, Tryz.ntmps13
 go_upto_region 1 with (fail)
 rw [oM11_eq, zM11_eq, show Obj.cells #[.int .i64 0, .int .u64 N, .int .u32 a, .int .u32 v] 52 (0, 0) = actO 0 N a v from rfl]
 generalize ((w.alloc (oM11 B.n x bk ev)).alloc (actO 0 N a v)).alloc zM11 = W at *
 have x0 := HF.out.x0
 have x1 := HF.out.x1
 go_upto_region 4 with (go_at_call 17; refine (bdTick B x N _ HH.out n0 n1 HL.out).mono ?_; rintro e W1 ⟨rfl, hL⟩; obtain ⟨C, LC⟩ := hL.lft HH.out HNW.out HF.out.ss; have HF1 := Hd (HF.out.step LC.kp LC.lo); have HM1 := Hd (HM.out.kp LC.kp); have HLC := Hd LC; clear LC hL x1 x0)
 have x1 := HF1.out.x1
 clear HF HM HH
 go_wp2_with (first | (refine nLoadB rfl (.tmp 4) rfl rfl HF1.out.h ?_) | (go_at_call 41; refine (yTick B.n B.c x bk ev N _ HM1.out HOK.out HST.out n0 n1 HL.out).mono ?_; rintro e W2 ⟨bk', ev', rfl, M2, hb⟩; have HF2 := Hd (HF1.out.below hb); have HM2 := Hd M2; have HC := Hd (HLC.out.h.below hb); clear hb M2 x1) | (obtain ⟨cz, hz1, hz2⟩ := HF2.out.z; refine nStoreB rfl (.tmp 7) (.tmp 28) rfl rfl (x.tick N) bk' ev' _ rfl hz1 hz2 HM2.out.one ?_; intro W9 hN9 ho9; have HX := Hd (d11_end HF2.out HC.out HLC.out.nw ⟨HLC.out.n, HLC.out.c, HLC.out.d⟩ HM2.out (.inr (.inl ⟨N, n0, n1, rfl⟩)) ho9); rw [HLC.out.e] at HX; clear hz1 hz2 ho9))
 exact bodyPost_ret (resN3 rfl _ _ _ _ rfl rfl rfl hN9) rfl HX.out
set_option maxHeartbeats 1600000 in
theorem yDo1 (B : Bp) (x : Bx) (bk ev : Value) (K N a v : Int) (s : Nat) (w : World) (H : BdAt w B x) (hn : B.new s) (hs : s <= w.heap.size) (M : MV w B.c x bk ev) (hl : x.es.length < 4294967290) (n0 : 0 <= N) (n1 : N < 18446744073709551616) (a0 : 0 <= a) (a1 : a < 4294967296) (v0 : 0 <= v) (v1 : v < 4294967296) (hK : K = 1) :
 Calls Tryz.prog 13 #[.pointer (some ⟨B.b, 0, none⟩), .agg (ml B.n x bk ev).toArray, .agg #[.int .i64 K, .int .u64 N, .int .u32 a, .int .u32 v]] w (DoPost11 s B x w) := by
 have hb := trA (trA (trA (tr0 w) (oM11 B.n x bk ev)) (actO K N a v)) zM11
 have HF := Hd (d11_new w s B.n x bk ev K N a v hs)
 have HH := Hd (H.below hb)
 have HM := Hd (M.below hb)
 have HNW := Hd hn
 have HOK := Hd H.ok
 have HST := Hd H.still
 have HL := Hd (show x.es.length < 4294967296 by omega)
 have HL2 := Hd hl
 clear H M hn hs hb hl
 subst hK
 go_enter Tryz.func13, Tryz.ntmps13
 go_upto_region 1 with (fail)
 rw [oM11_eq, zM11_eq, show Obj.cells #[.int .i64 1, .int .u64 N, .int .u32 a, .int .u32 v] 52 (0, 0) = actO 1 N a v from rfl]
 generalize ((w.alloc (oM11 B.n x bk ev)).alloc (actO 1 N a v)).alloc zM11 = W at *
 have x0 := HF.out.x0
 obtain ⟨V, hV⟩ : ∃ V, x.ldv B.n B.c a = V := ⟨_, rfl⟩
 obtain ⟨E, hE⟩ : ∃ E, Bx.lde B.n B.c a = E := ⟨_, rfl⟩
 have CL := Hd (fun w' (h : BdAt w' B x) => by have := bdLoad B x a w' h a0 a1; rw [hV, hE] at this; exact this)
 have RL := Hd (fun w' (h : MV w' B.c x bk ev) => by have := yLoad B.n B.c x bk ev a w' h HOK.out a0 a1; rw [hV, hE] at this; exact this)
 have zV := beq_self_eq_true V
 have zE := beq_self_eq_true E
 clear hV hE
 have x2 := HF.out.x2
 go_upto_region 7 with (first | (refine nLoadB rfl (.tmp 4) rfl rfl HF.out.h ?_) | (go_at_call 42; refine (RL.out _ HM.out).mono ?_; rintro e W1 ⟨rfl, hb⟩; have HF := Hd (HF.out.below hb); have HM := Hd (HM.out.below hb); have HH := Hd (HH.out.below hb); clear hb x2 x0))
 have x2 := HF.out.x2
 go_upto_region 8 with (go_at_call 31; refine (CL.out _ HH.out).mono ?_; rintro e W2 ⟨rfl, hb⟩; have HF := Hd (HF.out.below hb); have HM := Hd (HM.out.below hb); have HH := Hd (HH.out.below hb); clear hb x2)
 have HF := Hd (HF.out.below (trD (tr0 W2)))
 have HM := Hd (HM.out.below (trD (tr0 W2)))
 have HH := Hd (HH.out.below (trD (tr0 W2)))
 refine wp_region_held_drew (S := fun w' => NAt w' w.heap.size B.n x bk ev) (by kernel_rfl) HF.out.h (fun _ => ?_)
 generalize W2.drew = W3 at *
 refine tkH (i := 0) (v := .pointer (some ⟨B.b, 0, none⟩)) rfl (by kernel_rfl) (fun _ _ _ h => h) (fun w' hSw => by clear hSw; go_simp) HF.out.h ?_
 simp only [lgA, lgZ, lgS, Act.put, lsA, lsZ, lsS]
 refine tkH (i := 1) (v := .agg (ml B.n x bk ev).toArray) rfl (by kernel_rfl) (fun _ _ _ h => h) (fun w' hSw => rnLoadB (.tmp 4) rfl rfl hSw) HF.out.h ?_
 simp only [lgA, lgZ, lgS, Act.put, lsA, lsZ, lsS]
 refine tkH (i := 2) (v := .int .u32 V) rfl (by kernel_rfl) (fun _ _ _ h => h) (fun w' hSw => by clear hSw; go_simp) HF.out.h ?_
 simp only [lgA, lgZ, lgS, Act.put, lsA, lsZ, lsS]
 refine tkH (i := 3) (v := .int .u32 V) rfl (by kernel_rfl) (fun _ _ _ h => h) (fun w' hSw => by clear hSw; go_simp) HF.out.h ?_
 simp only [lgA, lgZ, lgS, Act.put, lsA, lsZ, lsS]
 refine tkH (i := 4) (v := .bool true) rfl (by kernel_rfl) (fun _ _ _ h => h) (fun w' hSw => by clear hSw; go_simp) HF.out.h ?_
 simp only [lgA, lgZ, lgS, Act.put, lsA, lsZ, lsS]
 refine tkH (i := 5) (v := .bool true) rfl (by kernel_rfl) (fun _ _ _ h => h) (fun w' hSw => by clear hSw; go_simp) HF.out.h ?_
 simp only [lgA, lgZ, lgS, Act.put, lsA, lsZ, lsS]
 refine tkH (i := 6) (v := .int .i64 E) rfl (by kernel_rfl) (fun _ _ _ h => h) (fun w' hSw => by clear hSw; go_simp) HF.out.h ?_
 simp only [lgA, lgZ, lgS, Act.put, lsA, lsZ, lsS]
 refine tkH (i := 7) (v := .int .i64 E) rfl (by kernel_rfl) (fun _ _ _ h => h) (fun w' hSw => by clear hSw; go_simp) HF.out.h ?_
 simp only [lgA, lgZ, lgS, Act.put, lsA, lsZ, lsS]
 refine tkH (i := 8) (v := .bool true) rfl (by kernel_rfl) (fun _ _ _ h => h) (fun w' hSw => by clear hSw; go_simp) HF.out.h ?_
 simp only [lgA, lgZ, lgS, Act.put, lsA, lsZ, lsS]
 refine tkH (i := 9) (v := .bool true) rfl (by kernel_rfl) (fun _ _ _ h => h) (fun w' hSw => by clear hSw; go_simp) HF.out.h ?_
 simp only [lgA, lgZ, lgS, Act.put, lsA, lsZ, lsS]
 refine tkH (i := 10) (v := .pointer (some ⟨B.b, 0, none⟩)) rfl (by kernel_rfl) (fun _ _ _ h => h) (fun w' hSw => by clear hSw; go_simp) HF.out.h ?_
 simp only [lgA, lgZ, lgS, Act.put, lsA, lsZ, lsS]
 refine rdH (i := 11) (by kernel_rfl) rfl fun K hK => ?_
 refine step_store_B rfl (.tmp 7) (.tmp 46) rfl rfl B.n x bk ev rfl HF.out.z HM.out.one ?_
 intro W9 hN9 ho9
 have HX := Hd (d11_end HF.out HH.out HNW.out ⟨rfl, rfl, rfl⟩ HM.out (.inl rfl) ho9)
 have hS9 := (show NAt W9 w.heap.size B.n x bk ev from ho9.at HF.out.h (by omega))
 refine hK.out _ _ hS9 (fun _ => ?_)
 clear hK K ho9
 simp only [Act.put]
 refine tkH (i := 12) (v := .bool true) rfl (by kernel_rfl) (fun _ _ _ h => h) (fun w' hSw => by clear hSw; go_simp) hS9 ?_
 simp only [lgA, lgZ, lgS, Act.put, lsA, lsZ, lsS]
 clear hS9
 refine wpAnyH_done (by kernel_rfl) ?_ _
 go_wp2_with fail
 exact bodyPost_ret (resN3 rfl _ _ _ _ rfl rfl rfl hN9) rfl HX.out
end Go.Proofs.YtcgmnjajodegmaaGreat.B
