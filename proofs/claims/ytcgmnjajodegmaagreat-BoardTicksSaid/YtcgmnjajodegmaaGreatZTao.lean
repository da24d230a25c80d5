/- Several texts in one: The document's timers in a row: a slice of structs of eight cells. The document's board by value: 110 cells. A region that .. -/
import Derived.Test.YtcgmnjajodegmaaGreatZTaf
import Derived.Test.YtcgmnjajodegmaaGreatZTai
import Derived.Test.YtcgmnjajodegmaaGreatZTak
import Derived.Test.YtcgmnjajodegmaaGreatZTam
import Derived.Test.YtcgmnjajodegmaaGreatZTan
import Derived.Laws.AppendOwn
import Derived.Laws.OwnMore
import Derived.OwnWalk
import Derived.Great.BuildSlice
import Derived.Deep.RegionHeld
set_option linter.unusedVariables false
set_option linter.unusedSimpArgs false
set_option maxRecDepth 100000
namespace Go.Proofs.YtcgmnjajodegmaaGreat.B
open Go.ChangeShapes Go.WideShapes Go.RowKit Go.Sort
theorem rl_len (t : Tm) : (rl t).length = 8 := rfl
theorem rl_one (t : Tm) : ∀ x ∈ rl t, x.oneCell' = true := r8_one _ _ _ _ _ _ _ _
def InAt (w : World) (g o : Nat) (s : Tm) : Prop := ∃ cur t fr, w.heap[g]? = some (.cells cur t fr) /\ PartAt cur o (rl s)
theorem InAt.cell {w : World} {g o : Nat} {s : Tm} (h : InAt w g o s) (j : Nat) (v : Value) (hj : (rl s)[j]? = some v) : w.cell? ⟨g, o + j, none⟩ = some v := by
 obtain ⟨cur, t, fr, h1, h2⟩ := h
 rw [cell_of_row w g (o + j) cur t fr h1]
 exact h2 j v hj
theorem InAt.below {w w' : World} {g o : Nat} {s : Tm} (h : InAt w g o s) (hb : Below w.heap.size w w') : InAt w' g o s := by
 obtain ⟨cur, t, fr, h1, h2⟩ := h
 exact ⟨cur, t, fr, blk_below hb h1 (lt_of_block h1), h2⟩
theorem InAt.lt {w : World} {g o : Nat} {s : Tm} (h : InAt w g o s) : g < w.heap.size := by
 obtain ⟨cur, t, fr, h1, h2⟩ := h
 exact lt_of_block h1
structure RwAt (w : World) (g n cap : Nat) (t : Nat -> Tm) : Prop where
 row : ∃ cur, w.heap[g]? = some (.cells cur tM (0, 0)) /\ cur.size = cap * 8 /\ ∀ i, i < n -> PartAt cur (i * 8) (rl (t i))
 nc : n <= cap
 cm : cap <= maxLen
section
variable {w w' : World} {g n cap B : Nat} {t s : Nat -> Tm}
theorem RwAt.lt (h : RwAt w g n cap t) : g < w.heap.size := by obtain ⟨cur, h1, _⟩ := h.row; exact lt_of_block h1
theorem RwAt.below (h : RwAt w g n cap t) (hb : Below w.heap.size w w') : RwAt w' g n cap t := by
 obtain ⟨cur, h1, h2, h3⟩ := h.row
 exact ⟨⟨cur, blk_below hb h1 h.lt, h2, h3⟩, h.nc, h.cm⟩
theorem RwAt.off {S : Nat -> Prop} (h : RwAt w g n cap t) (ho : Off S w w') (hs : ¬ S g) : RwAt w' g n cap t := by
 obtain ⟨cur, h1, h2, h3⟩ := h.row
 exact ⟨⟨cur, ho.at h1 hs, h2, h3⟩, h.nc, h.cm⟩
theorem RwAt.congr (h : RwAt w g n cap t) (hs : ∀ i, i < n -> t i = s i) : RwAt w g n cap s := by
 obtain ⟨cur, h1, h2, h3⟩ := h.row
 exact ⟨⟨cur, h1, h2, fun i hi => by rw [<- hs i hi]; exact h3 i hi⟩, h.nc, h.cm⟩
theorem RwAt.at (h : RwAt w g n cap t) {i : Nat} (hi : i < n) : InAt w g (i * 8) (t i) := by
 obtain ⟨cur, h1, h2, h3⟩ := h.row
 exact ⟨cur, _, _, h1, h3 i hi⟩
theorem RwAt.free (h : RwAt w g n cap t) (j : Nat) : w.frozen? ⟨g, j, none⟩ = false := by
 obtain ⟨cur, h1, _⟩ := h.row
 exact blk_free h1 j
theorem RwAt.c (h : RwAt w g n cap t) {i : Nat} (hi : i < n) (j : Nat) (v : Value) (hj : (rl (t i))[j]? = some v) : w.cell? ⟨g, i * 8 + j, none⟩ = some v := (h.at hi).cell j v hj
theorem RwAt.ne {b : Nat} {x : Array Value} {T : TypeId} {f : Nat × Nat} (h : RwAt w g n cap t) (hb : w.heap[b]? = some (.cells x T f)) (hne : (T == tM) = false) : g ≠ b := by
 obtain ⟨cur, h1, _⟩ := h.row
 rintro rfl
 rw [h1] at hb
 cases hb
 simp at hne
end
def OutAt (w : World) (B : Nat) (v : Value) (k : Nat) (t : Nat -> Tm) : Prop := ∃ xs, w.ownsRow B tM 8 v k xs /\ ∀ i, i < k -> ∀ j u, (rl (t i))[j]? = some u -> xs[i * 8 + j]? = some u
theorem out_nil (w : World) (B : Nat) (t : Nat -> Tm) : OutAt w B (.slice none 0 0) 0 t := ⟨[], World.ownsRow_nil w B tM 8, fun i hi => by omega⟩
theorem own_kept {w w' : World} {B : Nat} {e : TypeId} {z : Nat} {v : Value} {n : Nat} {xs : List Value} (h : w.ownsRow B e z v n xs) (hb : Below w.heap.size w w') : w'.ownsRow B e z v n xs := by
 refine ⟨h.1, ?_⟩
 rcases h.2 with h | ⟨g, cap, cur, h1, h2, h3, h4⟩
 . exact .inl h
 . exact .inr ⟨g, cap, cur, h1, h2, blk_below hb h3 (lt_of_block h3), h4⟩
theorem OutAt.below {w w' : World} {B : Nat} {v : Value} {k : Nat} {t : Nat -> Tm} (h : OutAt w B v k t) (hb : Below w.heap.size w w') : OutAt w' B v k t := by
 obtain ⟨xs, h1, h2⟩ := h
 exact ⟨xs, own_kept h1 hb, h2⟩
theorem OutAt.congr {w : World} {B : Nat} {v : Value} {k : Nat} {t s : Nat -> Tm} (h : OutAt w B v k t) (hs : ∀ i, i < k -> t i = s i) : OutAt w B v k s := by
 obtain ⟨xs, h1, h2⟩ := h
 exact ⟨xs, h1, fun i hi j u hu => h2 i hi j u (by rw [hs i hi]; exact hu)⟩
theorem out_push {w' : World} {B : Nat} {v' : Value} {k : Nat} {t : Nat -> Tm} {xs : List Value} (hl : xs.length = k * 8) (h2 : ∀ i, i < k -> ∀ j u, (rl (t i))[j]? = some u -> xs[i * 8 + j]? = some u) {x : Tm} (hx : t k = x)
 (h1 : w'.ownsRow B tM 8 v' (k + 1) (xs ++ rl x)) : OutAt w' B v' (k + 1) t := by
 subst hx
 refine ⟨_, h1, fun i hi j u hu => ?_⟩
 have hj : j < 8 := by have := (List.getElem?_eq_some_iff.1 hu).1; rw [rl_len] at this; exact this
 by_cases e : i = k
 . subst e
   rw [List.getElem?_append_right (by omega), hl, show i * 8 + j - i * 8 = j by omega]
   exact hu
 . rw [List.getElem?_append_left (by rw [hl]; omega)]
   exact h2 i (by omega) j u hu
theorem OutAt.rw {w : World} {B : Nat} {v : Value} {k : Nat} {t : Nat -> Tm} (h : OutAt w B v k t) (h0 : 0 < k) : ∃ g cap, v = .slice (some ⟨g, 0, none⟩) k cap /\ B <= g /\ RwAt w g k cap t := by
 obtain ⟨xs, ⟨hl, ho⟩, h2⟩ := h
 rcases ho with ⟨_, hk⟩ | ⟨g, cap, cur, rfl, hB, hg, hkc, hcm, hcs, htk⟩
 . omega
 . refine ⟨g, cap, rfl, hB, ⟨⟨cur, hg, hcs, fun i hi j u hu => ?_⟩, hkc, hcm⟩⟩
   have h3 := h2 i hi j u hu
   rw [<- htk, List.getElem?_take] at h3
   split at h3
   . simpa using h3
   . cases h3
theorem RwAt.out {w : World} {g n cap B : Nat} {t : Nat -> Tm} (h : RwAt w g n cap t) (hB : B <= g) : OutAt w B (.slice (some ⟨g, 0, none⟩) n cap) n t := by
 obtain ⟨cur, h1, h2, h3⟩ := h.row
 have hnc := h.nc
 refine ⟨cur.toList.take (n * 8), ⟨by simp; omega, .inr ⟨g, cap, cur, rfl, hB, h1, hnc, h.cm, h2, rfl⟩⟩, fun i hi j u hu => ?_⟩
 have hj : j < 8 := by have := (List.getElem?_eq_some_iff.1 hu).1; rw [rl_len] at this; exact this
 rw [List.getElem?_take, if_pos (by omega)]
 simpa using h3 i hi j u hu
theorem Off.ofOwn {w w' : World} {v : Value} (h : w.grownBy w' v.ownBlock) : Off (fun k => v.ownBlock = some k) w w' := Off.ofGrown h fun k e => e
theorem OutAt.block {w : World} {B : Nat} {v : Value} {k : Nat} {t : Nat -> Tm} (h : OutAt w B v k t) {b : Nat} (hb : v.ownBlock = some b) : B <= b := by
 obtain ⟨xs, h1, _⟩ := h
 exact (h1.lt b hb).1
section
variable {ops : Array Oper} {rest : List Oper} {o : Oper} {a : Act} {w : World} {Q : Exit -> Act -> World -> Prop}
theorem loadR (hgd : o.guard = none) (x : Operand) (ho : o.op = .load 171 x) {g off : Nat} (hx : a.eval x = .pointer (some ⟨g, off, none⟩)) {t : Tm} (hg : InAt w g off t)
 (h : wpList Tryz.prog ops Q rest (a.put o.dst (.agg (rl t).toArray)) w) : wpList Tryz.prog ops Q (o :: rest) a w := by
 obtain ⟨cur, ty, fr, h1, h2⟩ := hg
 exact wpList_load_part hgd _ x ho g off hx _ (rl t) h1 Tryz.underlying171 rfl iM h2 h
theorem loadRg (x : Operand) (ho : o.op = .load 171 x) (hw : Region.wanted o (yielded ops a.tmps) = true) {g off : Nat} (hx : a.eval x = .pointer (some ⟨g, off, none⟩)) {t : Tm} (hg : InAt w g off t)
 (h : wpList Tryz.prog ops Q rest (a.put o.dst (.agg (rl t).toArray)) w) : wpList Tryz.prog ops Q (o :: rest) a w := by
 obtain ⟨cur, ty, fr, h1, h2⟩ := hg
 exact wpList_load_part_g _ x ho hw g off hx _ (rl t) h1 Tryz.underlying171 rfl iM h2 h
end
theorem infoM : (Tryz.prog.info? 171).map (fun i => (i.zero, i.size, i.bytes)) = some (some (.agg (rl tz).toArray), 8, 24) := by kernel_rfl
theorem inNew (w : World) (s : Tm) : InAt (w.alloc (oM s)) w.heap.size 0 s := ⟨_, _, _, blk_new w (oM s), part_all _⟩
section
variable {ops : Array Oper} {rest : List Oper} {o : Oper} {a : Act} {w : World} {Q : Exit -> Act -> World -> Prop}
theorem buildR (hgd : o.guard = none) (x : Operand) (ho : o.op = .buildSlice 37 1 #[(0, x)]) {s : Tm} (hx : a.eval x = .agg (rl s).toArray)
 (h : wpList Tryz.prog ops Q rest (a.put o.dst (.slice (some ⟨w.heap.size, 0, none⟩) 1 1)) (w.alloc (oM s))) : wpList Tryz.prog ops Q (o :: rest) a w := by
 obtain ⟨i0, hi, hz0, hz1, hz2⟩ := info_parts infoM
 refine wpList_buildSlice hgd _ 171 1 #[(0, x)] ho (rl s).toArray i0 _ Tryz.underlying37 hi hz0 (by rw [hz1]; decide) (by rw [hz1]; decide) ?_ h
 rw [hz1]
 simp only [List.map_toArray, List.map_cons, List.map_nil, hx]
 rw [show Array.range (1 * 8) = #[0, 1, 2, 3, 4, 5, 6, 7] by decide]
 simp [Instr.fill, Value.cells, rl, r8]
theorem appendR (hgd : o.guard = none) (s x : Operand) (ho : o.op = .call { callee := .builtin .append, args := #[s, x], argTypes := #[37, 37] })
 {B k g : Nat} {v : Value} {t : Nat -> Tm} {y : Tm} (hs : a.eval s = v) (hO : OutAt w B v k t) (hx : a.eval x = .slice (some ⟨g, 0, none⟩) 1 1) (hy : InAt w g 0 y) (hyt : t k = y) (hk : k < 8) (hB : B <= w.heap.size)
 (h : ∀ v' w', OutAt w' B v' (k + 1) t -> Off (fun b => v.ownBlock = some b) w w' -> wpList Tryz.prog ops Q rest (a.put o.dst v') w') : wpList Tryz.prog ops Q (o :: rest) a w := by
 obtain ⟨i0, hi, hz0, hz1, hz2⟩ := info_parts infoM
 obtain ⟨xs, h1, h2⟩ := hO
 refine wpList_append_own w hgd s x _ ho B 171 i0 _ 8 24 Tryz.underlying37 hi hz0 hz1 hz2 rfl (by decide) v k xs hs h1 ⟨g, 0, none⟩ 1 1 (rl y) hx rfl (fun j u hu => ?_) (rl_one y) (by unfold maxLen; omega) (by omega) hB fun v' w' h3 h4 _ => ?_
 . have := hy.cell j u hu
   simpa [Addr.add_lit] using this
 . exact h v' w' (out_push h1.1 h2 hyt h3) (Off.ofOwn h4)
theorem appendAllR (hgd : o.guard = none) (s x : Operand) (ho : o.op = .call { callee := .builtin .append, args := #[s, x], argTypes := #[37, 37] })
 {B g n cap : Nat} {v : Value} {t : Nat -> Tm} (hs : a.eval s = v) (hO : w.ownsRow B 171 8 v 0 []) (hx : a.eval x = .slice (some ⟨g, 0, none⟩) n cap) (hR : RwAt w g n cap t) (hn : n <= 8) (hB : B <= w.heap.size)
 (h : ∀ v' w', OutAt w' B v' n t -> Off (fun b => v.ownBlock = some b) w w' -> wpList Tryz.prog ops Q rest (a.put o.dst v') w') : wpList Tryz.prog ops Q (o :: rest) a w := by
 obtain ⟨i0, hi, hz0, hz1, hz2⟩ := info_parts infoM
 obtain ⟨cur, h1, h2, h3⟩ := hR.row
 have hnc := hR.nc
 have key : ∀ (j : Nat) (u : Value), (cur.toList.take (n * 8))[j]? = some u -> cur[j]? = some u /\ u.oneCell' = true := by
  intro j u hu
  rw [List.getElem?_take] at hu
  split at hu
  . rename_i hj
    have hu' : cur[j]? = some u := by simpa using hu
    refine ⟨hu', ?_⟩
    have hj8 : j % 8 < (rl (t (j / 8))).length := by rw [rl_len]; omega
    have h4 := h3 (j / 8) (by omega) (j % 8) _ (List.getElem?_eq_getElem hj8)
    rw [show j / 8 * 8 + j % 8 = j by omega, hu'] at h4
    cases h4
    exact rl_one _ _ (List.getElem_mem hj8)
  . cases hu
 refine wpList_append_own w hgd s x _ ho B 171 i0 _ 8 24 Tryz.underlying37 hi hz0 hz1 hz2 rfl (by decide) v 0 [] hs hO ⟨g, 0, none⟩ n cap (cur.toList.take (n * 8)) hx (by simp; omega) (fun j u hu => ?_) (fun u hu => ?_) (by unfold maxLen; omega) (by omega) hB fun v' w' h5 h6 _ => ?_
 . rw [Addr.add_lit, Nat.zero_add, cell_of_row w g j cur _ _ h1]
   exact (key j u hu).1
 . obtain ⟨j, hj⟩ := List.mem_iff_getElem?.1 hu
   exact (key j u hj).2
 . refine h v' w' ⟨_, by simpa using h5, fun i hi j u hu => ?_⟩ (Off.ofOwn h6)
   have hj : j < 8 := by have := (List.getElem?_eq_some_iff.1 hu).1; rw [rl_len] at this; exact this
   rw [List.getElem?_take, if_pos (by omega)]
   simpa using h3 i hi j u hu
theorem storeR (hgd : o.guard = none) (x y : Operand) (ho : o.op = .store 171 x y) {g n cap k : Nat} {t : Nat -> Tm} {s : Tm} (hx : a.eval x = .pointer (some ⟨g, k * 8, none⟩)) (hy : a.eval y = .agg (rl s).toArray) (hR : RwAt w g n cap t) (hk : k < n)
 (h : ∀ w', RwAt w' g n cap (upd1 t k s) -> Off (· = g) w w' -> wpList Tryz.prog ops Q rest (a.put o.dst undef) w') : wpList Tryz.prog ops Q (o :: rest) a w := by
 obtain ⟨cur, h1, h2, h3⟩ := hR.row
 have hnc := hR.nc
 refine wpList_store_part hgd _ x y ho g (k * 8) hx (rl s) hy h1 iM (by rw [rl_len]; omega) (rl_one s) (h _ ?_ ?_)
 . refine ⟨⟨spliced cur (k * 8) (rl s), row_set _ h1, ?_, fun i hi j u hu => ?_⟩, hR.nc, hR.cm⟩
   . simp [spliced, rl_len]; omega
   . have hj : j < 8 := by have := (List.getElem?_eq_some_iff.1 hu).1; rw [rl_len] at this; exact this
     unfold spliced
     have hlen : (cur.toList.take (k * 8)).length = k * 8 := by simp; omega
     by_cases e : i = k
     . subst e
       rw [upd1_at] at hu
       rw [List.getElem?_toArray, List.append_assoc, List.getElem?_append_right (by omega), hlen, show i * 8 + j - i * 8 = j by omega, List.getElem?_append_left (by rw [rl_len]; exact hj)]
       exact hu
     . rw [upd1_ne _ _ e] at hu
       have h4 := h3 i hi j u hu
       rw [List.getElem?_toArray, List.append_assoc]
       by_cases c : i < k
       . rw [List.getElem?_append_left (by omega), List.getElem?_take, if_pos (by omega)]
         simpa using h4
       . rw [List.getElem?_append_right (by omega), hlen, List.getElem?_append_right (by rw [rl_len]; omega), rl_len, List.getElem?_drop, show k * 8 + 8 + (i * 8 + j - k * 8 - 8) = i * 8 + j by omega]
         simpa using h4
 . exact ⟨rfl, rfl, rfl, by simp, fun b _ hs => setRow_other w g b _ hs⟩
end
theorem iM11 : (Tryz.prog.info? 47).map (·.size) = some 110 := by kernel_rfl
abbrev tM11 : TypeId := 47
def ml (n : Nat) (x : Bx) (bk ev : Value) : List Value := rcl x.ti n x.D x.S ++ ([bk] ++ (vl x.wd ++ (ul x.rs ++ (kl x.rk ++ (bl (bit x.msk) 32 ++ [ev])))))
theorem ul_len (t : Rs) : (ul t).length = 35 := sl_len _ _ _ _
theorem ml_len (n : Nat) (x : Bx) (bk ev : Value) : (ml n x bk ev).length = 110 := by
 unfold ml
 simp only [List.length_append, rcl_len, ul_len, bl_len]
 rfl
theorem part_mid (xs ys zs : List Value) (o : Nat) (ho : xs.length = o) : PartAt (xs ++ (ys ++ zs)).toArray o ys := fun j v h => by
 have hj : j < ys.length := (List.getElem?_eq_some_iff.1 h).1
 simp only [List.getElem?_toArray]
 rw [<- ho, List.getElem?_append_right (by omega), Nat.add_sub_cancel_left, List.getElem?_append_left hj]
 exact h
theorem spliced_mid (xs ys zs vs : List Value) (o : Nat) (ho : xs.length = o) (h : ys.length = vs.length) : spliced (xs ++ (ys ++ zs)).toArray o vs = (xs ++ (vs ++ zs)).toArray := by
 unfold spliced
 subst ho
 congr 1
 simp only [List.take_left, <- h]
 rw [<- List.append_assoc xs ys zs, <- List.length_append, List.drop_left, List.append_assoc]
theorem set_mid (xs ys : List Value) (v u : Value) (o : Nat) (ho : xs.length = o) : (xs ++ ([v] ++ ys)).set o u = xs ++ ([u] ++ ys) := by
 subst ho
 rw [List.set_append_right _ _ (Nat.le_refl _)]
 simp
theorem get_mid (xs ys zs : List Value) (o j : Nat) (v : Value) (ho : xs.length = o) (h : ys[j]? = some v) : (xs ++ (ys ++ zs))[o + j]? = some v := by
 have hj : j < ys.length := (List.getElem?_eq_some_iff.1 h).1
 rw [<- ho, List.getElem?_append_right (by omega), Nat.add_sub_cancel_left, List.getElem?_append_left hj]
 exact h
section
variable (n : Nat) (x : Bx) (bk ev : Value)
theorem ml_C : ml n x bk ev = [] ++ (rcl x.ti n x.D x.S ++ ([bk] ++ (vl x.wd ++ (ul x.rs ++ (kl x.rk ++ (bl (bit x.msk) 32 ++ [ev])))))) := rfl
theorem ml_B : ml n x bk ev = rcl x.ti n x.D x.S ++ ([bk] ++ (vl x.wd ++ (ul x.rs ++ (kl x.rk ++ (bl (bit x.msk) 32 ++ [ev]))))) := rfl
theorem ml_V : ml n x bk ev = (rcl x.ti n x.D x.S ++ [bk]) ++ (vl x.wd ++ (ul x.rs ++ (kl x.rk ++ (bl (bit x.msk) 32 ++ [ev])))) := by unfold ml; simp only [List.append_assoc]
theorem ml_U : ml n x bk ev = (rcl x.ti n x.D x.S ++ ([bk] ++ vl x.wd)) ++ (ul x.rs ++ (kl x.rk ++ (bl (bit x.msk) 32 ++ [ev]))) := by unfold ml; simp only [List.append_assoc]
theorem ml_K : ml n x bk ev = (rcl x.ti n x.D x.S ++ ([bk] ++ (vl x.wd ++ ul x.rs))) ++ (kl x.rk ++ (bl (bit x.msk) 32 ++ [ev])) := by unfold ml; simp only [List.append_assoc]
theorem ml_M : ml n x bk ev = (rcl x.ti n x.D x.S ++ ([bk] ++ (vl x.wd ++ (ul x.rs ++ kl x.rk)))) ++ (bl (bit x.msk) 32 ++ [ev]) := by unfold ml; simp only [List.append_assoc]
theorem ml_E : ml n x bk ev = (rcl x.ti n x.D x.S ++ ([bk] ++ (vl x.wd ++ (ul x.rs ++ (kl x.rk ++ bl (bit x.msk) 32))))) ++ ([ev] ++ []) := by unfold ml; simp only [List.append_assoc, List.append_nil]
theorem len_B : (rcl x.ti n x.D x.S).length = 26 := rcl_len _ _ _ _
theorem len_V : (rcl x.ti n x.D x.S ++ [bk]).length = 27 := by simp only [List.length_append, rcl_len]; rfl
theorem len_U : (rcl x.ti n x.D x.S ++ ([bk] ++ vl x.wd)).length = 34 := by simp only [List.length_append, rcl_len]; rfl
theorem len_K : (rcl x.ti n x.D x.S ++ ([bk] ++ (vl x.wd ++ ul x.rs))).length = 69 := by simp only [List.length_append, rcl_len, ul_len]; rfl
theorem len_M : (rcl x.ti n x.D x.S ++ ([bk] ++ (vl x.wd ++ (ul x.rs ++ kl x.rk)))).length = 77 := by simp only [List.length_append, rcl_len, ul_len]; rfl
theorem len_E : (rcl x.ti n x.D x.S ++ ([bk] ++ (vl x.wd ++ (ul x.rs ++ (kl x.rk ++ bl (bit x.msk) 32))))).length = 109 := by simp only [List.length_append, rcl_len, ul_len, bl_len]; rfl
theorem ml_one (hb : bk.oneCell' = true) (he : ev.oneCell' = true) : ∀ v ∈ ml n x bk ev, v.oneCell' = true := by
 intro v hv
 unfold ml at hv
 simp only [List.mem_append, List.mem_singleton] at hv
 rcases hv with h | h | h | h | h | h | h
 . exact rcl_one _ _ _ _ v h
 . rw [h]; exact hb
 . exact r7_one _ _ _ _ _ _ _ v h
 . exact sl_one _ _ _ _ v h
 . exact k8_one _ _ _ _ _ _ _ _ v h
 . exact bl_one _ _ v h
 . rw [h]; exact he
end
def NAt (w : World) (b n : Nat) (x : Bx) (bk ev : Value) : Prop := w.heap[b]? = some (.cells (ml n x bk ev).toArray tM11 (0, 0))
section
variable {w w' : World} {b n : Nat} {x : Bx} {bk ev : Value}
theorem NAt.lt (h : NAt w b n x bk ev) : b < w.heap.size := lt_of_block h
theorem NAt.below (h : NAt w b n x bk ev) (hb : Below w.heap.size w w') : NAt w' b n x bk ev := blk_below hb h h.lt
theorem NAt.free (h : NAt w b n x bk ev) (j : Nat) : w.frozen? ⟨b, j, none⟩ = false := blk_free h j
theorem NAt.get (h : NAt w b n x bk ev) (j : Nat) (v : Value) (hj : (ml n x bk ev)[j]? = some v) : w.cell? ⟨b, j, none⟩ = some v := by rw [blk_cell h j, List.getElem?_toArray]; exact hj
theorem NAt.cT (h : NAt w b n x bk ev) : w.cell? ⟨b, 0, none⟩ = some (.int .u64 x.ti) := h.get 0 _ rfl
theorem NAt.cS (h : NAt w b n x bk ev) (i : Nat) (hi : i < 8) : w.cell? ⟨b, 17 + i, none⟩ = some (.int .u32 (x.S i)) := h.get _ _ (by rw [ml_C]; have := get_mid [] (rcl x.ti n x.D x.S) ([bk] ++ (vl x.wd ++ (ul x.rs ++ (kl x.rk ++ (bl (bit x.msk) 32 ++ [ev]))))) 0 (17 + i) _ rfl (rcr_S _ _ _ _ _ i hi); rwa [Nat.zero_add] at this)
theorem NAt.cN (h : NAt w b n x bk ev) : w.cell? ⟨b, 25, none⟩ = some (.int .i64 n) := h.get _ _ (by rw [ml_C]; have := get_mid [] (rcl x.ti n x.D x.S) ([bk] ++ (vl x.wd ++ (ul x.rs ++ (kl x.rk ++ (bl (bit x.msk) 32 ++ [ev]))))) 0 25 _ rfl (rcr_N _ _ _ _ _); rwa [Nat.zero_add] at this)
theorem NAt.cB (h : NAt w b n x bk ev) : w.cell? ⟨b, 26, none⟩ = some bk := h.get _ _ (by rw [ml_B]; exact get_mid _ [bk] _ 26 0 _ (len_B n x) rfl)
theorem NAt.cF (h : NAt w b n x bk ev) : w.cell? ⟨b, 33, none⟩ = some (.int .i64 x.wd.fa) := h.get _ _ (by rw [ml_V]; exact get_mid _ (vl x.wd) _ 27 6 _ (len_V n x bk) rfl)
theorem NAt.cQ (h : NAt w b n x bk ev) : w.cell? ⟨b, 68, none⟩ = some (.bool x.rs.qs) := h.get _ _ (by rw [ml_U]; exact get_mid _ (ul x.rs) _ 34 34 _ (len_U n x bk) (sl_34 _ _ _ _))
theorem NAt.cR (h : NAt w b n x bk ev) : w.cell? ⟨b, 76, none⟩ = some (.bool x.rk.st) := h.get _ _ (by rw [ml_K]; exact get_mid _ (kl x.rk) _ 69 7 _ (len_K n x bk) rfl)
theorem NAt.cE (h : NAt w b n x bk ev) : w.cell? ⟨b, 109, none⟩ = some ev := h.get _ _ (by rw [ml_E]; exact get_mid _ [ev] _ 109 0 _ (len_E n x bk) rfl)
theorem NAt.setB (h : NAt w b n x bk ev) (v : Value) : NAt (w.setCell ⟨b, 26, none⟩ v) b n x v ev := by
 unfold NAt
 rw [blk_set h, set_arr, ml_B, set_mid _ _ _ _ 26 (len_B n x)]
 rfl
theorem NAt.setE (h : NAt w b n x bk ev) (v : Value) : NAt (w.setCell ⟨b, 109, none⟩ v) b n x bk v := by
 unfold NAt
 rw [blk_set h, set_arr, ml_E, set_mid _ _ _ _ 109 (len_E n x bk), <- ml_E]
end
structure Fr (w0 w : World) (b r n : Nat) (x : Bx) (bk ev : Value) : Prop where
 h : NAt w b n x bk ev
 z : ∃ cs : Array Value, w.heap[r]? = some (.cells cs tM11 (0, 0)) /\ cs.size = 110
 lo : Below w0.heap.size w0 w
 hb : w0.heap.size <= b
 hr : w0.heap.size <= r
 ne : b ≠ r
 one : bk.oneCell' = true /\ ev.oneCell' = true
section
variable {w0 w w' : World} {b r n : Nat} {x : Bx} {bk ev : Value}
theorem Fr.below (F : Fr w0 w b r n x bk ev) (hb : Below w.heap.size w w') : Fr w0 w' b r n x bk ev := by
 obtain ⟨cs, h1, h2⟩ := F.z
 exact ⟨F.h.below hb, ⟨cs, blk_below hb h1 (lt_of_block h1), h2⟩, tr F.lo hb, F.hb, F.hr, F.ne, F.one⟩
theorem Fr.lt (F : Fr w0 w b r n x bk ev) : b < w.heap.size /\ r < w.heap.size := by
 obtain ⟨cs, h1, h2⟩ := F.z
 exact ⟨F.h.lt, lt_of_block h1⟩
theorem Fr.turn {y : Bx} {bk' ev' : Value} (F : Fr w0 w b r n x bk ev) (h : NAt w' b n y bk' ev') (ho : Off (· = b) w w') (h1 : bk'.oneCell' = true /\ ev'.oneCell' = true) : Fr w0 w' b r n y bk' ev' := by
 obtain ⟨cs, h2, h3⟩ := F.z
 exact ⟨h, ⟨cs, ho.at h2 (fun e => F.ne e.symm), h3⟩, Off.toBelow F.lo ho (fun k hk e => by have := F.hb; omega) (Nat.le_refl _), F.hb, F.hr, F.ne, h1⟩
theorem Fr.other {S : Nat -> Prop} (F : Fr w0 w b r n x bk ev) (ho : Off S w w') (h1 : ¬ S b) (h2 : ¬ S r) (h3 : ∀ k, k < w0.heap.size -> ¬ S k) : Fr w0 w' b r n x bk ev := by
 obtain ⟨cs, h4, h5⟩ := F.z
 exact ⟨ho.at F.h h1, ⟨cs, ho.at h4 h2, h5⟩, Off.toBelow F.lo ho h3 (Nat.le_refl _), F.hb, F.hr, F.ne, F.one⟩
end
def zM11 : Obj := .cells #[.int .u64 0, .int .u32 0, .int .u32 0, .int .u32 0, .int .u32 0, .int .u32 0, .int .u32 0, .int .u32 0, .int .u32 0, .int .u32 0, .int .u32 0, .int .u32 0, .int .u32 0, .int .u32 0, .int .u32 0, .int .u32 0, .int .u32 0, .int .u32 0, .int .u32 0, .int .u32 0, .int .u32 0, .int .u32 0, .int .u32 0, .int .u32 0, .int .u32 0, .int .i64 0, .slice none 0 0, .bool false, .bool false, .bool false, .int .u32 0, .int .u32 0, .int .u64 0, .int .i64 0, .bool false, .bool false, .bool false, .bool false, .bool false, .bool false, .bool false, .bool false, .bool false, .bool false, .bool false, .bool false, .bool false, .bool false, .bool false, .bool false, .bool false, .bool false, .bool false, .bool false, .bool false, .bool false, .bool false, .bool false, .bool false, .bool false, .bool false, .bool false, .bool false, .bool false, .bool false, .bool false, .int .i64 0, .int .u32 0, .bool false, .int .u32 0, .int .u32 0, .int .u32 0, .int .u64 0, .int .u32 0, .int .u32 0, .bool false, .bool false, .bool false, .bool false, .bool false, .bool false, .bool false, .bool false, .bool false, .bool false, .bool false, .bool false, .bool false, .bool false, .bool false, .bool false, .bool false, .bool false, .bool false, .bool false, .bool false, .bool false, .bool false, .bool false, .bool false, .bool false, .bool false, .bool false, .bool false, .bool false, .bool false, .bool false, .bool false, .bool false, .slice none 0 0] tM11 (0, 0)
theorem zM11_eq : Obj.cells Tryz.zeroCells47 47 (0, 0) = zM11 := by kernel_rfl
def oM11 (n : Nat) (x : Bx) (bk ev : Value) : Obj := .cells (ml n x bk ev).toArray tM11 (0, 0)
theorem oM11_eq (n : Nat) (x : Bx) (bk ev : Value) : Obj.cells (ml n x bk ev).toArray 47 (0, 0) = oM11 n x bk ev := rfl
theorem fr_new (w : World) (n : Nat) (x : Bx) (bk ev : Value) (h1 : bk.oneCell' = true /\ ev.oneCell' = true) : Fr w ((w.alloc (oM11 n x bk ev)).alloc zM11) w.heap.size (w.heap.size + 1) n x bk ev :=
 ⟨b2_0 w _ _, ⟨_, b2_1 w _ _, rfl⟩, trA (trA (tr0 w) _) _, Nat.le_refl _, Nat.le_succ _, Nat.ne_of_lt (Nat.lt_succ_self _), h1⟩
section
variable {ops : Array Oper} {rest : List Oper} {o : Oper} {a : Act} {w : World} {Q : Exit -> Act -> World -> Prop} {b n : Nat} {x : Bx} {bk ev : Value}
theorem nLoadC (hgd : o.guard = none) (y : Operand) (ho : o.op = .load 36 y) (hx : a.eval y = .pointer (some ⟨b, 0, none⟩)) (hg : NAt w b n x bk ev)
 (h : wpList Tryz.prog ops Q rest (a.put o.dst (.agg (rcl x.ti n x.D x.S).toArray)) w) : wpList Tryz.prog ops Q (o :: rest) a w :=
 wpList_load_part hgd _ y ho b 0 hx _ (rcl x.ti n x.D x.S) hg Tryz.underlying36 rfl (by rw [show (rcl x.ti n x.D x.S).length = 26 from rcl_len _ _ _ _]; exact iC) (by rw [ml_C]; exact part_mid [] _ _ 0 rfl) h
theorem nStoreC (hgd : o.guard = none) (y z : Operand) (ho : o.op = .store 36 y z) (hx : a.eval y = .pointer (some ⟨b, 0, none⟩)) (t : Int) (D S : Nat -> Int) (hy : a.eval z = .agg (rcl t n D S).toArray) {w0 : World} {r : Nat} (F : Fr w0 w b r n x bk ev)
 (h : ∀ w', Fr w0 w' b r n { x with ti := t, D := D, S := S } bk ev -> Off (· = b) w w' -> wpList Tryz.prog ops Q rest (a.put o.dst undef) w') : wpList Tryz.prog ops Q (o :: rest) a w := by
 have e : spliced (ml n x bk ev).toArray 0 (rcl t n D S) = (ml n { x with ti := t, D := D, S := S } bk ev).toArray := by rw [ml_C, spliced_mid [] _ _ _ 0 rfl (by rw [rcl_len, rcl_len])]; rfl
 have hR : NAt (w.setRow b (ml n { x with ti := t, D := D, S := S } bk ev).toArray) b n { x with ti := t, D := D, S := S } bk ev := row_set _ F.h
 refine wpList_store_part hgd _ y z ho b 0 hx (rcl t n D S) hy F.h (by rw [show (rcl t n D S).length = 26 from rcl_len _ _ _ _]; exact iC) (by rw [List.size_toArray, ml_len, show (rcl t n D S).length = 26 from rcl_len _ _ _ _]; omega) (rcl_one _ _ _ _) ?_
 rw [e]
 exact h _ (F.turn hR ⟨rfl, rfl, rfl, by simp, fun k _ hs => setRow_other w b k _ hs⟩ F.one) ⟨rfl, rfl, rfl, by simp, fun k _ hs => setRow_other w b k _ hs⟩
theorem nLoadV (hgd : o.guard = none) (y : Operand) (ho : o.op = .load 39 y) (hx : a.eval y = .pointer (some ⟨b, 27, none⟩)) (hg : NAt w b n x bk ev)
 (h : wpList Tryz.prog ops Q rest (a.put o.dst (.agg (vl x.wd).toArray)) w) : wpList Tryz.prog ops Q (o :: rest) a w :=
 wpList_load_part hgd _ y ho b 27 hx _ (vl x.wd) hg Tryz.underlying39 rfl (by rw [show (vl x.wd).length = 7 from (rfl : (vl _).length = 7)]; exact iV) (by rw [ml_V]; exact part_mid _ _ _ 27 (len_V n x bk)) h
theorem nStoreV (hgd : o.guard = none) (y z : Operand) (ho : o.op = .store 39 y z) (hx : a.eval y = .pointer (some ⟨b, 27, none⟩)) (t : Wd) (hy : a.eval z = .agg (vl t).toArray) {w0 : World} {r : Nat} (F : Fr w0 w b r n x bk ev)
 (h : ∀ w', Fr w0 w' b r n { x with wd := t } bk ev -> Off (· = b) w w' -> wpList Tryz.prog ops Q rest (a.put o.dst undef) w') : wpList Tryz.prog ops Q (o :: rest) a w := by
 have e : spliced (ml n x bk ev).toArray 27 (vl t) = (ml n { x with wd := t } bk ev).toArray := by rw [ml_V, spliced_mid _ _ _ _ 27 (len_V n x bk) (show (vl x.wd).length = (vl t).length from rfl), ml_V]
 have hR : NAt (w.setRow b (ml n { x with wd := t } bk ev).toArray) b n { x with wd := t } bk ev := row_set _ F.h
 refine wpList_store_part hgd _ y z ho b 27 hx (vl t) hy F.h (by rw [show (vl t).length = 7 from (rfl : (vl _).length = 7)]; exact iV) (by rw [List.size_toArray, ml_len, show (vl t).length = 7 from (rfl : (vl _).length = 7)]; omega) (r7_one _ _ _ _ _ _ _) ?_
 rw [e]
 exact h _ (F.turn hR ⟨rfl, rfl, rfl, by simp, fun k _ hs => setRow_other w b k _ hs⟩ F.one) ⟨rfl, rfl, rfl, by simp, fun k _ hs => setRow_other w b k _ hs⟩
theorem nLoadU (hgd : o.guard = none) (y : Operand) (ho : o.op = .load 42 y) (hx : a.eval y = .pointer (some ⟨b, 34, none⟩)) (hg : NAt w b n x bk ev)
 (h : wpList Tryz.prog ops Q rest (a.put o.dst (.agg (ul x.rs).toArray)) w) : wpList Tryz.prog ops Q (o :: rest) a w :=
 wpList_load_part hgd _ y ho b 34 hx _ (ul x.rs) hg Tryz.underlying42 rfl (by rw [show (ul x.rs).length = 35 from ul_len _]; exact iR9) (by rw [ml_U]; exact part_mid _ _ _ 34 (len_U n x bk)) h
theorem nStoreU (hgd : o.guard = none) (y z : Operand) (ho : o.op = .store 42 y z) (hx : a.eval y = .pointer (some ⟨b, 34, none⟩)) (t : Rs) (hy : a.eval z = .agg (ul t).toArray) {w0 : World} {r : Nat} (F : Fr w0 w b r n x bk ev)
 (h : ∀ w', Fr w0 w' b r n { x with rs := t } bk ev -> Off (· = b) w w' -> wpList Tryz.prog ops Q rest (a.put o.dst undef) w') : wpList Tryz.prog ops Q (o :: rest) a w := by
 have e : spliced (ml n x bk ev).toArray 34 (ul t) = (ml n { x with rs := t } bk ev).toArray := by rw [ml_U, spliced_mid _ _ _ _ 34 (len_U n x bk) (by rw [ul_len, ul_len]), ml_U]
 have hR : NAt (w.setRow b (ml n { x with rs := t } bk ev).toArray) b n { x with rs := t } bk ev := row_set _ F.h
 refine wpList_store_part hgd _ y z ho b 34 hx (ul t) hy F.h (by rw [show (ul t).length = 35 from ul_len _]; exact iR9) (by rw [List.size_toArray, ml_len, show (ul t).length = 35 from ul_len _]; omega) (sl_one _ _ _ _) ?_
 rw [e]
 exact h _ (F.turn hR ⟨rfl, rfl, rfl, by simp, fun k _ hs => setRow_other w b k _ hs⟩ F.one) ⟨rfl, rfl, rfl, by simp, fun k _ hs => setRow_other w b k _ hs⟩
theorem nLoadK (hgd : o.guard = none) (y : Operand) (ho : o.op = .load 44 y) (hx : a.eval y = .pointer (some ⟨b, 69, none⟩)) (hg : NAt w b n x bk ev)
 (h : wpList Tryz.prog ops Q rest (a.put o.dst (.agg (kl x.rk).toArray)) w) : wpList Tryz.prog ops Q (o :: rest) a w :=
 wpList_load_part hgd _ y ho b 69 hx _ (kl x.rk) hg Tryz.underlying44 rfl (by rw [show (kl x.rk).length = 8 from (rfl : (kl _).length = 8)]; exact iK) (by rw [ml_K]; exact part_mid _ _ _ 69 (len_K n x bk)) h
theorem nStoreK (hgd : o.guard = none) (y z : Operand) (ho : o.op = .store 44 y z) (hx : a.eval y = .pointer (some ⟨b, 69, none⟩)) (t : Rk) (hy : a.eval z = .agg (kl t).toArray) {w0 : World} {r : Nat} (F : Fr w0 w b r n x bk ev)
 (h : ∀ w', Fr w0 w' b r n { x with rk := t } bk ev -> Off (· = b) w w' -> wpList Tryz.prog ops Q rest (a.put o.dst undef) w') : wpList Tryz.prog ops Q (o :: rest) a w := by
 have e : spliced (ml n x bk ev).toArray 69 (kl t) = (ml n { x with rk := t } bk ev).toArray := by rw [ml_K, spliced_mid _ _ _ _ 69 (len_K n x bk) (show (kl x.rk).length = (kl t).length from rfl), ml_K]
 have hR : NAt (w.setRow b (ml n { x with rk := t } bk ev).toArray) b n { x with rk := t } bk ev := row_set _ F.h
 refine wpList_store_part hgd _ y z ho b 69 hx (kl t) hy F.h (by rw [show (kl t).length = 8 from (rfl : (kl _).length = 8)]; exact iK) (by rw [List.size_toArray, ml_len, show (kl t).length = 8 from (rfl : (kl _).length = 8)]; omega) (k8_one _ _ _ _ _ _ _ _) ?_
 rw [e]
 exact h _ (F.turn hR ⟨rfl, rfl, rfl, by simp, fun k _ hs => setRow_other w b k _ hs⟩ F.one) ⟨rfl, rfl, rfl, by simp, fun k _ hs => setRow_other w b k _ hs⟩
theorem nLoadM (hgd : o.guard = none) (y : Operand) (ho : o.op = .load 40 y) (hx : a.eval y = .pointer (some ⟨b, 77, none⟩)) (hg : NAt w b n x bk ev)
 (h : wpList Tryz.prog ops Q rest (a.put o.dst (.agg (bl (bit x.msk) 32).toArray)) w) : wpList Tryz.prog ops Q (o :: rest) a w :=
 wpList_load_part hgd _ y ho b 77 hx _ (bl (bit x.msk) 32) hg Tryz.underlying40 rfl (by rw [show (bl (bit x.msk) 32).length = 32 from bl_len _ _]; exact i25) (by rw [ml_M]; exact part_mid _ _ _ 77 (len_M n x bk)) h
theorem nStoreM (hgd : o.guard = none) (y z : Operand) (ho : o.op = .store 40 y z) (hx : a.eval y = .pointer (some ⟨b, 77, none⟩)) (m : Int) (hy : a.eval z = .agg (bl (bit m) 32).toArray) {w0 : World} {r : Nat} (F : Fr w0 w b r n x bk ev)
 (h : ∀ w', Fr w0 w' b r n { x with msk := m } bk ev -> Off (· = b) w w' -> wpList Tryz.prog ops Q rest (a.put o.dst undef) w') : wpList Tryz.prog ops Q (o :: rest) a w := by
 have e : spliced (ml n x bk ev).toArray 77 (bl (bit m) 32) = (ml n { x with msk := m } bk ev).toArray := by rw [ml_M, spliced_mid _ _ _ _ 77 (len_M n x bk) (by rw [bl_len, bl_len]), ml_M]
 have hR : NAt (w.setRow b (ml n { x with msk := m } bk ev).toArray) b n { x with msk := m } bk ev := row_set _ F.h
 refine wpList_store_part hgd _ y z ho b 77 hx (bl (bit m) 32) hy F.h (by rw [show (bl (bit m) 32).length = 32 from bl_len _ _]; exact i25) (by rw [List.size_toArray, ml_len, show (bl (bit m) 32).length = 32 from bl_len _ _]; omega) (bl_one _ _) ?_
 rw [e]
 exact h _ (F.turn hR ⟨rfl, rfl, rfl, by simp, fun k _ hs => setRow_other w b k _ hs⟩ F.one) ⟨rfl, rfl, rfl, by simp, fun k _ hs => setRow_other w b k _ hs⟩
theorem nLoadB (hgd : o.guard = none) (y : Operand) (ho : o.op = .load 47 y) (hx : a.eval y = .pointer (some ⟨b, 0, none⟩)) (hg : NAt w b n x bk ev)
 (h : wpList Tryz.prog ops Q rest (a.put o.dst (.agg (ml n x bk ev).toArray)) w) : wpList Tryz.prog ops Q (o :: rest) a w :=
 wpList_load_part hgd _ y ho b 0 hx _ (ml n x bk ev) hg Tryz.underlying47 rfl (by rw [ml_len]; exact iM11) (part_all _) h
theorem nStoreB (hgd : o.guard = none) (y z : Operand) (ho : o.op = .store 47 y z) (hx : a.eval y = .pointer (some ⟨b, 0, none⟩)) (x' : Bx) (bk' ev' : Value) (n' : Nat) (hy : a.eval z = .agg (ml n' x' bk' ev').toArray) {cs : Array Value} (hg : w.heap[b]? = some (.cells cs tM11 (0, 0))) (hl : cs.size = 110) (h1 : bk'.oneCell' = true /\ ev'.oneCell' = true)
 (h : ∀ w', NAt w' b n' x' bk' ev' -> Off (· = b) w w' -> wpList Tryz.prog ops Q rest (a.put o.dst undef) w') : wpList Tryz.prog ops Q (o :: rest) a w := by
 have hR : NAt (w.setRow b (ml n' x' bk' ev').toArray) b n' x' bk' ev' := row_set _ hg
 refine wpList_store_part hgd _ y z ho b 0 hx (ml n' x' bk' ev') hy hg (by rw [ml_len]; exact iM11) (by rw [ml_len, hl]; omega) (ml_one n' x' bk' ev' h1.1 h1.2) ?_
 rw [spliced_all _ _ (by rw [hl, ml_len])]
 exact h _ hR ⟨rfl, rfl, rfl, by simp, fun k _ hs => setRow_other w b k _ hs⟩
end
theorem resN {fn : Func} {p : Tmp} (h : fn.results = #[.cell p 47]) (tmps : Array Value) (w : World) {b n : Nat} {x : Bx} {bk ev : Value} (hp : tmps[p]? = some (.pointer (some ⟨b, 0, none⟩))) (hg : NAt w b n x bk ev) :
 (results fn tmps).run Tryz.prog w = .ok (.agg (ml n x bk ev).toArray) w :=
 results_cell_one h tmps w b 0 _ (ml n x bk ev) hp hg Tryz.underlying47 rfl (by rw [ml_len]; exact iM11) (part_all _)
theorem resN2 {fn : Func} {p q : Tmp} (h : fn.results = #[.cell p 47, .tmp q]) (tmps : Array Value) (w : World) {b n : Nat} {x : Bx} {bk ev : Value} (y : Value) (hp : tmps[p]? = some (.pointer (some ⟨b, 0, none⟩))) (hq : tmps[q]? = some y) (hg : NAt w b n x bk ev) :
 (results fn tmps).run Tryz.prog w = .ok (.tuple #[.agg (ml n x bk ev).toArray, y]) w :=
 results_cell_slot h tmps w b 0 _ (ml n x bk ev) y hp hq hg Tryz.underlying47 rfl (by rw [ml_len]; exact iM11) (part_all _)
end Go.Proofs.YtcgmnjajodegmaaGreat.B
namespace Go.Proofs.YtcgmnjajodegmaaGreat.B
section
variable {P : Program} {ops : Array Oper} {Q : Exit -> Act -> World -> Prop} {md : Region.Mode} {S : World -> Prop}
theorem tkH {i : Nat} {oi : Oper} {v : Value} {fuel : Nat} {listed : Array Bool} {a : Act} {w : World} (hi : ops[i]? = some oi)
 (hb : (Region.noSelect ops && Region.free md ops listed i && (Region.ready md ops listed).contains i && Region.wanted oi (yielded ops a.tmps)) = true)
 (hQ : ∀ c a w, Q (.panic c) (a.put oi.dst v) w -> Q (.panic c) a w) (hy : ∀ w, S w -> (execOp a.eval oi).run P w = .ok (.value v) w) (hS : S w)
 (h : wpAnyH P md ops Q S fuel (listed.setIfInBounds i true) (a.put oi.dst v) w) : wpAnyH P md ops Q S (fuel + 1) listed a w := by
 simp only [Bool.and_eq_true] at hb
 exact wpAnyH_take hi hb.1.1.1 hb.1.1.2 hb.1.2 hQ (.inl ⟨hb.2, hy⟩) hS h
theorem rdH {fuel : Nat} {listed : Array Bool} {a : Act} {w : World} {i : Nat} {o : Oper} (hr : Region.ready md ops listed = [i]) (ho : ops[i]? = some o)
 (h : ∀ K' : Act -> World -> Prop, Shut (∀ a w, S w -> (S w -> wpAnyH P md ops Q S fuel (listed.setIfInBounds i true) a w) -> K' a w) -> if Region.wanted o (yielded ops a.tmps) = true then Oper.wp P o a w K' Q else K' (a.put o.dst undef) w) :
 wpAnyH P md ops Q S (fuel + 1) listed a w := wpAnyH_ready hr (by simp) (AllReadyH.cons ho h AllReadyH.nil)
end
theorem lgA {α : Type} {xs : List α} {i : Nat} (h : i < xs.toArray.size) : xs.toArray[i]'h = xs[i]'(by simpa using h) := List.getElem_toArray h
theorem lgZ {α : Type} {a : α} {bs : List α} (h : 0 < (a :: bs).length) : (a :: bs)[0]'h = a := List.getElem_cons_zero _ _ h
theorem lgS {α : Type} {a : α} {bs : List α} {i : Nat} (h : i + 1 < (a :: bs).length) : (a :: bs)[i + 1]'h = bs[i]'(by simpa using h) := List.getElem_cons_succ _ _ _ h
theorem lsA {α : Type} {l : List α} {i : Nat} {x : α} : l.toArray.setIfInBounds i x = (l.set i x).toArray := List.setIfInBounds_toArray _ _ _
theorem lsZ {α : Type} {x y : α} {l : List α} : (x :: l).set 0 y = y :: l := List.set_cons_zero
theorem lsS {α : Type} {x y : α} {l : List α} {n : Nat} : (x :: l).set (n + 1) y = x :: l.set n y := List.set_cons_succ
end Go.Proofs.YtcgmnjajodegmaaGreat.B
