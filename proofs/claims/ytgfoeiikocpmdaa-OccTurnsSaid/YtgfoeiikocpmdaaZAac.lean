/- Several texts in one: Layer 15: eight words and a table of 512 truths, by value. A bit of a word, as the document's own answers ask it. What the .. -/
import Derived.Test.YtgfoeiikocpmdaaZAaa
import Derived.Test.YtgfoeiikocpmdaaZAab
import Derived.WalkLawsBesides
import Derived.Deep.QuietTactic
import Derived.BigQuiet
import Derived.Deep.Cut
namespace Go.Proofs.Ytgfoeiikocpmdaa.B
set_option linter.unusedVariables false
set_option linter.unusedSimpArgs false
set_option maxRecDepth 100000
open Go.ChangeShapes Go.WideShapes Go.RowKit Go.Sort
abbrev tO8 : TypeId := 23
abbrev tOT : TypeId := 27
abbrev tOM : TypeId := 24
theorem iO8 : (Try.prog.info? 23).map (·.size) = some 8 := by kernel_rfl
theorem iOT : (Try.prog.info? 27).map (·.size) = some 512 := by kernel_rfl
theorem iOM : (Try.prog.info? 24).map (·.size) = some 8 := by kernel_rfl
def ol (m : Nat → Int) : List Value := il .u64 m 8
theorem ol_len (m : Nat → Int) : (ol m).length = 8 := il_len _ _ _
theorem ol_one (m : Nat → Int) : ∀ v ∈ ol m, v.oneCell' = true := il_one _ _ _
def oO (T : TypeId) (m : Nat → Int) : Obj := .cells (ol m).toArray T (0, 0)
def OAt (T : TypeId) (w : World) (b : Nat) (m : Nat → Int) : Prop := w.heap[b]? = some (oO T m)
def tl (f : Nat → Bool) : List Value := bl f 512
theorem tl_len (f : Nat → Bool) : (tl f).length = 512 := bl_len _ _
theorem tl_one (f : Nat → Bool) : ∀ v ∈ tl f, v.oneCell' = true := bl_one _ _
theorem zOT (w : World) : (zeroValue 27).run Try.prog w = .ok (.agg (tl (fun _ => false)).toArray) w := by kernel_rfl
def oT15 (f : Nat → Bool) : Obj := .cells (tl f).toArray tOT (0, 0)
def TbAt (w : World) (b : Nat) (f : Nat → Bool) : Prop := w.heap[b]? = some (oT15 f)
section
variable {w w' : World} {b : Nat} {T : TypeId} {m : Nat → Int} {f : Nat → Bool}
theorem OAt.lt (h : OAt T w b m) : b < w.heap.size := lt_of_block h
theorem OAt.below (h : OAt T w b m) (hb : Below w.heap.size w w') : OAt T w' b m := blk_below hb h (lt_of_block h)
theorem OAt.c (h : OAt T w b m) (k : Nat) (hk : k < 8) : w.cell? ⟨b, k, none⟩ = some (.int .u64 (m k)) := by
 rw [blk_cell h, List.getElem?_toArray]
 exact il_get _ _ _ _ hk
theorem OAt.free (h : OAt T w b m) (j : Nat) : w.frozen? ⟨b, j, none⟩ = false := blk_free h j
theorem OAt.set (h : OAt T w b m) (k : Nat) (v : Int) : OAt T (w.setCell ⟨b, k, none⟩ (.int .u64 v)) b (upd m k v) := by
 unfold OAt
 rw [blk_set h, set_arr]
 unfold oO ol
 rw [il_set]
theorem OAt.else (h : OAt T w b m) (g j : Nat) (v : Value) (hg : b ≠ g) : OAt T (w.setCell ⟨g, j, none⟩ v) b m := blk_else h g j v hg
theorem OAt.congr {m' : Nat → Int} (h : OAt T w b m) (hm : ∀ i, i < 8 → m i = m' i) : OAt T w b m' := by
 unfold OAt oO ol at *
 rw [← il_congr _ _ _ _ hm]
 exact h
theorem TbAt.lt (h : TbAt w b f) : b < w.heap.size := lt_of_block h
theorem TbAt.below (h : TbAt w b f) (hb : Below w.heap.size w w') : TbAt w' b f := blk_below hb h (lt_of_block h)
theorem TbAt.c (h : TbAt w b f) (i : Nat) (hi : i < 512) : w.cell? ⟨b, i, none⟩ = some (.bool (f i)) := by
 rw [blk_cell h, List.getElem?_toArray]
 exact bl_get _ _ _ hi
theorem TbAt.free (h : TbAt w b f) (j : Nat) : w.frozen? ⟨b, j, none⟩ = false := blk_free h j
theorem TbAt.set (h : TbAt w b f) (k : Nat) (v : Bool) : TbAt (w.setCell ⟨b, k, none⟩ (.bool v)) b (fun i => if i = k then v else f i) := by
 unfold TbAt
 rw [blk_set h, set_arr]
 unfold oT15 tl
 rw [bl_set]
theorem TbAt.else (h : TbAt w b f) (g j : Nat) (v : Value) (hg : b ≠ g) : TbAt (w.setCell ⟨g, j, none⟩ v) b f := blk_else h g j v hg
theorem TbAt.congr {g : Nat → Bool} (h : TbAt w b f) (hm : ∀ i, i < 512 → f i = g i) : TbAt w b g := by
 unfold TbAt oT15 tl at *
 rw [← bl_congr _ _ _ hm]
 exact h
end
section
variable {ops : Array Oper} {rest : List Oper} {o : Oper} {a : Act} {w : World} {Q : Exit → Act → World → Prop}
theorem ldO8 (hgd : o.guard = none) (x : Operand) (ho : o.op = .load 23 x) {g : Nat} (hx : a.eval x = .pointer (some ⟨g, 0, none⟩)) {T : TypeId} {m : Nat → Int} (hg : OAt T w g m)
 (h : wpList Try.prog ops Q rest (a.put o.dst (.agg (ol m).toArray)) w) : wpList Try.prog ops Q (o :: rest) a w :=
 wpList_load_part hgd _ x ho g 0 hx _ (ol m) hg Try.underlying23 rfl (by rw [ol_len]; exact iO8) (part_all _) h
theorem stO8 (hgd : o.guard = none) (x y : Operand) (ho : o.op = .store 23 x y) {g : Nat} (hx : a.eval x = .pointer (some ⟨g, 0, none⟩)) {T : TypeId} {m : Nat → Int} (hy : a.eval y = .agg (ol m).toArray) {m0 : Nat → Int} (hg : OAt T w g m0)
 (h : ∀ w', OAt T w' g m → Off (· = g) w w' → wpList Try.prog ops Q rest (a.put o.dst undef) w') : wpList Try.prog ops Q (o :: rest) a w := by
 have hR : OAt T (w.setRow g (ol m).toArray) g m := row_set _ hg
 refine wpList_store_part hgd _ x y ho g 0 hx (ol m) hy hg (by rw [ol_len]; exact iO8) (by rw [ol_len, List.size_toArray, ol_len]; omega) (ol_one _) ?_
 rw [spliced_all _ _ (by rw [List.size_toArray, ol_len, ol_len])]
 exact h _ hR ⟨rfl, rfl, rfl, by simp, fun k _ hs => setRow_other w g k _ hs⟩
theorem resO8 {fn : Func} {q : Tmp} (h : fn.results = #[.cell q 23]) (tmps : Array Value) (w : World) {g : Nat} {T : TypeId} {m : Nat → Int} (hp : tmps[q]? = some (.pointer (some ⟨g, 0, none⟩))) (hg : OAt T w g m) :
 (results fn tmps).run Try.prog w = .ok (.agg (ol m).toArray) w :=
 results_cell_one h tmps w g 0 _ (ol m) hp hg Try.underlying23 rfl (by rw [ol_len]; exact iO8) (part_all _)
theorem ldOM (hgd : o.guard = none) (x : Operand) (ho : o.op = .load 24 x) {g : Nat} (hx : a.eval x = .pointer (some ⟨g, 0, none⟩)) {T : TypeId} {m : Nat → Int} (hg : OAt T w g m)
 (h : wpList Try.prog ops Q rest (a.put o.dst (.agg (ol m).toArray)) w) : wpList Try.prog ops Q (o :: rest) a w :=
 wpList_load_part hgd _ x ho g 0 hx _ (ol m) hg Try.underlying24 rfl (by rw [ol_len]; exact iOM) (part_all _) h
theorem ldOMg (x : Operand) (ho : o.op = .load 24 x) (hw : Region.wanted o (yielded ops a.tmps) = true) {g : Nat} (hx : a.eval x = .pointer (some ⟨g, 0, none⟩)) {T : TypeId} {m : Nat → Int} (hg : OAt T w g m)
 (h : wpList Try.prog ops Q rest (a.put o.dst (.agg (ol m).toArray)) w) : wpList Try.prog ops Q (o :: rest) a w :=
 wpList_load_part_g _ x ho hw g 0 hx _ (ol m) hg Try.underlying24 rfl (by rw [ol_len]; exact iOM) (part_all _) h
theorem qldOM {C : World → Prop} {K : Act → Prop} (x : Operand) (ho : o.op = .load 24 x) {g : Nat} (hx : a.eval x = .pointer (some ⟨g, 0, none⟩)) {T : TypeId} {m : Nat → Int} (hg : ∀ w, C w → OAt T w g m)
 (h : K (a.put o.dst (.agg (ol m).toArray))) : o.quiet Try.prog a C K :=
 quiet_load_part _ x ho g 0 hx _ (ol m) hg Try.underlying24 rfl (by rw [ol_len]; exact iOM) (part_all _) h
theorem stOM (hgd : o.guard = none) (x y : Operand) (ho : o.op = .store 24 x y) {g : Nat} (hx : a.eval x = .pointer (some ⟨g, 0, none⟩)) {T : TypeId} {m : Nat → Int} (hy : a.eval y = .agg (ol m).toArray) {m0 : Nat → Int} (hg : OAt T w g m0)
 (h : ∀ w', OAt T w' g m → Off (· = g) w w' → wpList Try.prog ops Q rest (a.put o.dst undef) w') : wpList Try.prog ops Q (o :: rest) a w := by
 have hR : OAt T (w.setRow g (ol m).toArray) g m := row_set _ hg
 refine wpList_store_part hgd _ x y ho g 0 hx (ol m) hy hg (by rw [ol_len]; exact iOM) (by rw [ol_len, List.size_toArray, ol_len]; omega) (ol_one _) ?_
 rw [spliced_all _ _ (by rw [List.size_toArray, ol_len, ol_len])]
 exact h _ hR ⟨rfl, rfl, rfl, by simp, fun k _ hs => setRow_other w g k _ hs⟩
theorem resOM {fn : Func} {q : Tmp} (h : fn.results = #[.cell q 24]) (tmps : Array Value) (w : World) {g : Nat} {T : TypeId} {m : Nat → Int} (hp : tmps[q]? = some (.pointer (some ⟨g, 0, none⟩))) (hg : OAt T w g m) :
 (results fn tmps).run Try.prog w = .ok (.agg (ol m).toArray) w :=
 results_cell_one h tmps w g 0 _ (ol m) hp hg Try.underlying24 rfl (by rw [ol_len]; exact iOM) (part_all _)
theorem ldOT (hgd : o.guard = none) (x : Operand) (ho : o.op = .load 27 x) {g : Nat} (hx : a.eval x = .pointer (some ⟨g, 0, none⟩)) {f : Nat → Bool} (hg : TbAt w g f)
 (h : wpList Try.prog ops Q rest (a.put o.dst (.agg (tl f).toArray)) w) : wpList Try.prog ops Q (o :: rest) a w :=
 wpList_load_part hgd _ x ho g 0 hx _ (tl f) hg Try.underlying27 rfl (by rw [tl_len]; exact iOT) (part_all _) h
theorem qldOT {C : World → Prop} {K : Act → Prop} (x : Operand) (ho : o.op = .load 27 x) {g : Nat} (hx : a.eval x = .pointer (some ⟨g, 0, none⟩)) {f : Nat → Bool} (hg : ∀ w, C w → TbAt w g f)
 (h : K (a.put o.dst (.agg (tl f).toArray))) : o.quiet Try.prog a C K :=
 quiet_load_part _ x ho g 0 hx _ (tl f) hg Try.underlying27 rfl (by rw [tl_len]; exact iOT) (part_all _) h
theorem stOT (hgd : o.guard = none) (x y : Operand) (ho : o.op = .store 27 x y) {g : Nat} (hx : a.eval x = .pointer (some ⟨g, 0, none⟩)) {f : Nat → Bool} (hy : a.eval y = .agg (tl f).toArray) {f0 : Nat → Bool} (hg : TbAt w g f0)
 (h : ∀ w', TbAt w' g f → Off (· = g) w w' → wpList Try.prog ops Q rest (a.put o.dst undef) w') : wpList Try.prog ops Q (o :: rest) a w := by
 have hR : TbAt (w.setRow g (tl f).toArray) g f := row_set _ hg
 refine wpList_store_part hgd _ x y ho g 0 hx (tl f) hy hg (by rw [tl_len]; exact iOT) (by rw [tl_len, List.size_toArray, tl_len]; omega) (tl_one _) ?_
 rw [spliced_all _ _ (by rw [List.size_toArray, tl_len, tl_len])]
 exact h _ hR ⟨rfl, rfl, rfl, by simp, fun k _ hs => setRow_other w g k _ hs⟩
theorem resOT {fn : Func} {q : Tmp} (h : fn.results = #[.cell q 27]) (tmps : Array Value) (w : World) {g : Nat} {f : Nat → Bool} (hp : tmps[q]? = some (.pointer (some ⟨g, 0, none⟩))) (hg : TbAt w g f) :
 (results fn tmps).run Try.prog w = .ok (.agg (tl f).toArray) w :=
 results_cell_one h tmps w g 0 _ (tl f) hp hg Try.underlying27 rfl (by rw [tl_len]; exact iOT) (part_all _)
end
theorem OAt.off {T : TypeId} {w w' : World} {b g : Nat} {m : Nat → Int} (h : OAt T w b m) (ho : Off (· = g) w w') (hg : b ≠ g) : OAt T w' b m := ho.at h hg
theorem TbAt.off {w w' : World} {b g : Nat} {f : Nat → Bool} (h : TbAt w b f) (ho : Off (· = g) w w') (hg : b ≠ g) : TbAt w' b f := ho.at h hg
theorem OAt.grown {T : TypeId} {w : World} {b : Nat} {m : Nat → Int} (h : OAt T w b m) : ∀ w', (∃ q : Regrown, w' = grow (redrawn w q.d) q.os) → OAt T w' b m := grown_block h
theorem TbAt.grown {w : World} {b : Nat} {f : Nat → Bool} (h : TbAt w b f) : ∀ w', (∃ q : Regrown, w' = grow (redrawn w q.d) q.os) → TbAt w' b f := grown_block h
end Go.Proofs.Ytgfoeiikocpmdaa.B
namespace Go.Proofs.Ytgfoeiikocpmdaa.B
set_option linter.unusedVariables false
set_option linter.unusedSimpArgs false
open Go.ChangeShapes Go.WideShapes Go.RowKit
def hv (n : Int) (k : Nat) : Int := n / 2 ^ k
theorem hv_nonneg {n : Int} (h : 0 ≤ n) (k : Nat) : 0 ≤ hv n k := div_pow_nonneg n k h
theorem hv_le {n : Int} (h : 0 ≤ n) (k : Nat) : hv n k ≤ n := Int.ediv_le_self _ h
theorem hv_succ (n : Int) (k : Nat) : hv n (k + 1) = hv n k / 2 := by
 unfold hv; rw [Int.pow_succ, Int.ediv_ediv_of_nonneg (Int.le_of_lt (Int.pow_pos (by decide)))]
theorem Bit (n i : Int) (w : World) (h0 : 0 ≤ n) (h1 : n < 18446744073709551616) (i0 : 0 ≤ i) (i1 : i < 64) :
 Calls Try.prog 29 #[.int .u64 n, .int .i64 i] w fun e w' => e = .returned (.bool (bit n i.toNat)) ∧ w = w' := by
 obtain ⟨m, rfl⟩ := Int.eq_ofNat_of_zero_le i0
 rw [Int.toNat_natCast]
 go_enter Try.func29, Try.ntmps29
 go_wp2
 go_loop [0, 5] (fun v i => ∃ k : Nat, k ≤ m ∧ i = .int .i64 k ∧ v = .int .u64 (hv n k)) (fun _ i => m - (intOf i).toNat)
 case atStart => exact ⟨0, by omega, rfl, by simp [hv]⟩
 case round =>
  obtain ⟨k, hk, rfl, rfl⟩ := hrel
  have p1 := hv_nonneg h0 k
  have p2 := hv_le h0 k
  by_cases hlt : k < m
  · go_wp2
    go_round
    case rel => exact ⟨k + 1, by omega, by go_num, by rw [hv_succ]⟩
    case measure => simp [intOf]; omega
  · go_wp2
    go_ret
    exact ⟨ret_bool (by rw [show k = m by omega]; rfl), rfl⟩
theorem rFirst (n f : Int) (w : World) (h0 : 0 ≤ n) (h1 : n < 18446744073709551616) (f0 : -9223372036854775808 ≤ f) (f1 : f < 9223372036854775808) :
 Calls Try.prog 25 #[.int .u64 n, .int .i64 f] w fun e w' => e = .returned (.int .i64 (first n f)) ∧ w = w' := by
 by_cases a : f < 0
 all_goals
  go_enter Try.func25, Try.ntmps25
  go_wp2_with fail
  go_loop [5] (fun i => ∃ k : Nat, i = .int .i64 k ∧ f ≤ k ∧ ((k : Int) ≤ f ∨ k ≤ 64) ∧ noneTo n f k) (fun i => 64 - (intOf i).toNat)
  case atStart =>
   first
   | exact ⟨0, by go_num, by omega, by omega, noneTo_start _ _ _ (by omega)⟩
   | exact ⟨f.toNat, by rw [Int.toNat_of_nonneg (by omega)], by omega, by omega, noneTo_start _ _ _ (by omega)⟩
  case round =>
   obtain ⟨k, rfl, hf, hk, hn⟩ := hrel
   by_cases hlt : (k : Int) < 64
   · cases hbit : bit n k
     · have hn' := noneTo_next n f k hn hbit
       go_wp2_with (go_at_call 29; refine (Bit n (k : Int) _ h0 h1 (by omega) (by omega)).mono ?_; rintro e w' ⟨rfl, rfl⟩; rw [Int.toNat_natCast, hbit])
       go_round
       case rel => exact ⟨k + 1, by go_num, by omega, by omega, hn'⟩
       case measure => simp [intOf]; omega
     · have he := Lib.hid (first_some n f k hn hf (by omega) hbit)
       go_wp2_with (go_at_call 29; refine (Bit n (k : Int) _ h0 h1 (by omega) (by omega)).mono ?_; rintro e w' ⟨rfl, rfl⟩; rw [Int.toNat_natCast, hbit])
       go_ret
       exact ⟨ret_int he.out.symm, rfl⟩
   · have he := Lib.hid (first_none n f k hn (by omega))
     go_wp2_with fail
     go_ret
     exact ⟨ret_int he.out.symm, rfl⟩
end Go.Proofs.Ytgfoeiikocpmdaa.B
namespace Go.Proofs.Ytgfoeiikocpmdaa.B
set_option linter.unusedVariables false
set_option linter.unusedSimpArgs false
set_option maxRecDepth 100000
open Go.ChangeShapes Go.WideShapes Go.RowKit Go.Sort
theorem dIn (l s : Int) (w : World) : Calls Try.prog 9 #[.int .i64 l, .int .i64 s] w fun e w' => e = .returned (.bool (inS l s)) ∧ w = w' := by
 cases h : inS l s
 · have hn := inS_false h
   by_cases h0 : 0 ≤ l
   · have e0 : decide (0 ≤ l) = true := decide_eq_true h0
     by_cases h1 : l < 8
     · have e1 : decide (l < 8) = true := decide_eq_true h1
       by_cases h2 : 0 ≤ s
       · have e2 : decide (0 ≤ s) = true := decide_eq_true h2
         have e3 : decide (s < 64) = false := decide_eq_false (by omega)
         clear hn h
         go_enter Try.func9, Try.ntmps9
         go_wp2_with fail
         go_ret
         exact ⟨rfl, rfl⟩
       · have e2 : decide (0 ≤ s) = false := decide_eq_false h2
         clear hn h h2
         go_enter Try.func9, Try.ntmps9
         go_wp2_with fail
         go_ret
         exact ⟨rfl, rfl⟩
     · have e1 : decide (l < 8) = false := decide_eq_false h1
       clear hn h h1
       go_enter Try.func9, Try.ntmps9
       go_wp2_with fail
       go_ret
       exact ⟨rfl, rfl⟩
   · have e0 : decide (0 ≤ l) = false := decide_eq_false h0
     clear hn h h0
     go_enter Try.func9, Try.ntmps9
     go_wp2_with fail
     go_ret
     exact ⟨rfl, rfl⟩
 · obtain ⟨h0, h1, h2, h3⟩ := inS_true h
   have e0 : decide (0 ≤ l) = true := decide_eq_true h0
   have e1 : decide (l < 8) = true := decide_eq_true h1
   have e2 : decide (0 ≤ s) = true := decide_eq_true h2
   have e3 : decide (s < 64) = true := decide_eq_true h3
   clear h
   go_enter Try.func9, Try.ntmps9
   go_wp2_with fail
   go_ret
   exact ⟨rfl, rfl⟩
def oup (f : Nat → Bool) (k i : Nat) : Bool := decide (i < k) && f i
theorem oup_zero (f : Nat → Bool) : oup f 0 = fun _ => false := by funext i; unfold oup; simp
theorem oup_next (f : Nat → Bool) (k : Nat) : (fun i => if i = k then f k else oup f k i) = oup f (k + 1) := by
 funext i
 unfold oup
 by_cases e : i = k
 · rw [if_pos e, e, decide_eq_true (Nat.lt_succ_self k), Bool.true_and]
 · rw [if_neg e]
   by_cases h : i < k
   · rw [decide_eq_true h, decide_eq_true (by omega)]
   · rw [decide_eq_false h, decide_eq_false (by omega)]
theorem oup_full (f : Nat → Bool) (i : Nat) (hi : i < 512) : oup f 512 i = f i := by unfold oup; rw [decide_eq_true hi, Bool.true_and]
structure OfAt (w0 w : World) (m : Nat → Int) (j : Nat) : Prop where
 P : OAt tO8 w w0.heap.size m
 R : TbAt w (w0.heap.size + 1) (fun _ => false)
 T : TbAt w (w0.heap.size + 1 + 1) (oup (tb m) j)
 lo : Below w0.heap.size w0 w
theorem OfAt.put {w0 w : World} {m : Nat → Int} {j : Nat} (A : OfAt w0 w m j) {v : Bool} (hv : tb m j = v) : OfAt w0 (w.setCell ⟨w0.heap.size + 1 + 1, j, none⟩ (.bool v)) m (j + 1) :=
 ⟨A.P.else _ _ _ (by omega), A.R.else _ _ _ (by omega), by have := A.T.set j v; rw [← hv, oup_next] at this; rw [← hv]; exact this, A.lo.setCell (p := ⟨w0.heap.size + 1 + 1, j, none⟩) (by show w0.heap.size ≤ w0.heap.size + 1 + 1; omega) _⟩
set_option maxHeartbeats 3200000 in
theorem dOf (m : Nat → Int) (hm : okM m) (w : World) : Calls Try.prog 6 #[.agg (ol m).toArray] w fun e w' => e = .returned (.agg (tl (tb m)).toArray) ∧ Below w.heap.size w w' := by
 have hz := zOT
 have HM := Lib.hid hm
 go_enter Try.func6, Try.ntmps6
 go_upto_region 2 with (fail)
 rw [show Obj.cells (ol m).toArray 23 (0, 0) = oO tO8 m from rfl, show Obj.cells (tl fun _ => false).toArray 27 (0, 0) = oT15 (fun _ => false) from rfl]
 have HA := Lib.hid (show OfAt w (((w.alloc (oO tO8 m)).alloc (oT15 fun _ => false)).alloc (oT15 fun _ => false)) m 0 from ⟨b3_0 w _ _ _, b3_1 w _ _ _, by rw [oup_zero]; exact b3_2 w _ _ _, trA (trA (trA (tr0 w) _) _) _⟩)
 generalize ((w.alloc (oO tO8 m)).alloc (oT15 fun _ => false)).alloc (oT15 fun _ => false) = W at *
 clear hz hm
 go_wp2_with fail
 go_loopw [4] (fun i wr => ∃ (k : Nat), k ≤ 8 ∧ i = .int .i64 k ∧ Hid (OfAt w wr m (k * 64))) (fun i wr => 8 - (intOf i).toNat)
 case atStart => exact ⟨0, by omega, rfl, HA⟩
 case round =>
  clear HA
  obtain ⟨k, hk, rfl, HA⟩ := hrel
  by_cases hlt : k < 8
  · have c := HA.out.P.c k hlt
    have hl := HA.out.P.lt
    obtain ⟨n, hn⟩ : ∃ n, m k = n := ⟨_, rfl⟩
    rw [hn] at c
    have HN := Lib.hid hn
    have HNB := Lib.hid (show 0 ≤ n ∧ n < 18446744073709551616 from hn ▸ HM.out k)
    clear hn
    go_upto_region 6 with (fail)
    clear c hl
    go_wp2_with fail
    go_loopw [5, 6] (fun x i wr => ∃ (s : Nat) (N : Int), s ≤ 64 ∧ i = .int .i64 s ∧ x = .int .u64 N ∧ Hid (N = n / 2 ^ s) ∧ Hid (OfAt w wr m (k * 64 + s))) (fun x i wr => 64 - (intOf i).toNat)
    case atStart => exact ⟨0, n, by omega, rfl, rfl, Lib.hid (by simp), HA⟩
    case round =>
     clear HA
     obtain ⟨s, N, hs, rfl, rfl, HNE, HA⟩ := hrel
     by_cases hst : s < 64
     · have n0 : 0 ≤ N := by rw [HNE.out]; exact div_pow_nonneg n s HNB.out.1
       have n1 : N < 18446744073709551616 := by rw [HNE.out]; exact div_pow_lt n s HNB.out.1 HNB.out.2
       obtain ⟨v, hv⟩ : ∃ v, bit n s = v := ⟨_, rfl⟩
       have hrem : (N % 2 == 1) = v := by rw [HNE.out, half_bit, hv]
       obtain ⟨N2, hN2⟩ : ∃ N2, N.tdiv 2 = N2 := ⟨_, rfl⟩
       have HN2 := Lib.hid (show N2 = n / 2 ^ (s + 1) by rw [← hN2, Int.tdiv_eq_ediv_of_nonneg n0, HNE.out, half_next])
       have N0 : 0 ≤ N2 := by rw [HN2.out]; exact div_pow_nonneg n _ HNB.out.1
       have N1 : N2 < 18446744073709551616 := by rw [HN2.out]; exact div_pow_lt n _ HNB.out.1 HNB.out.2
       have HV := Lib.hid (show tb m (k * 64 + s) = v by rw [tb_at _ _ _ hst, HN.out, hv])
       clear hv
       have c := HA.out.T.c (k * 64 + s) (by omega)
       have f := HA.out.T.free (k * 64 + s)
       have hl := HA.out.T.lt
       go_wp2_with fail
       have HA := Lib.hid (HA.out.put HV.out)
       go_roundw
       case rel => exact ⟨s + 1, N2, by omega, by go_num, rfl, HN2, HA⟩
       case measure => simp [intOf]; omega
     · obtain rfl : s = 64 := by omega
       go_wp2_with fail
       go_roundw
       case rel => exact ⟨k + 1, by omega, by go_num, (by rw [show (k + 1) * 64 = k * 64 + 64 by omega]; exact HA)⟩
       case measure => simp [intOf]; omega
  · obtain rfl : k = 8 := by omega
    have HT := Lib.hid (HA.out.T.congr (oup_full (tb m)))
    have HX := Lib.hid HA.out.lo
    have HR := Lib.hid HA.out.R
    clear HA
    go_wp2_with (first | (refine ldOT rfl (.tmp 3) rfl rfl HT.out ?_) | (refine stOT rfl (.tmp 2) (.tmp 27) rfl rfl rfl HR.out ?_; intro w1 h1 ho; have HQ := Lib.hid h1; have HY := Lib.hid (Off.toBelow HX.out ho (fun j hj e => by omega) (Nat.le_refl _)); clear h1 ho))
    exact bodyPost_ret (resOT rfl _ _ rfl HQ.out) rfl ⟨rfl, HY.out⟩
structure WdAt (w0 w : World) (W : Nat → Int) (k : Nat) (v : Int) : Prop where
 P : TbAt w w0.heap.size (tb W)
 R : OAt tO8 w (w0.heap.size + 1) (fun _ => 0)
 M : OAt tO8 w (w0.heap.size + 1 + 1) (fun i => if i < k then W i else if i = k then v else 0)
 lo : Below w0.heap.size w0 w
theorem WdAt.put {w0 w : World} {W : Nat → Int} {k : Nat} {v : Int} (A : WdAt w0 w W k v) (v' : Int) : WdAt w0 (w.setCell ⟨w0.heap.size + 1 + 1, k, none⟩ (.int .u64 v')) W k v' :=
 ⟨A.P.else _ _ _ (by omega), A.R.else _ _ _ (by omega), (A.M.set k v').congr fun i _ => by
  unfold upd
  dsimp only
  by_cases h : i = k
  · rw [if_pos h, if_neg (by omega), if_pos h]
  · rw [if_neg h, if_neg h]
    by_cases h2 : i < k
    · rw [if_pos h2, if_pos h2]
    · rw [if_neg h2, if_neg h2, if_neg h], A.lo.setCell (p := ⟨w0.heap.size + 1 + 1, k, none⟩) (by show w0.heap.size ≤ w0.heap.size + 1 + 1; omega) _⟩
theorem WdAt.next {w0 w : World} {W : Nat → Int} {k : Nat} {v : Int} (A : WdAt w0 w W k v) (hv : v = W k) : WdAt w0 w W (k + 1) 0 :=
 ⟨A.P, A.R, A.M.congr fun i _ => by
  subst hv
  by_cases h2 : i < k
  · rw [if_pos h2, if_pos (by omega)]
  · rw [if_neg h2]
    by_cases h : i = k
    · rw [if_pos h, if_pos (by omega), h]
    · rw [if_neg h, if_neg (by omega)]
      split <;> rfl, A.lo⟩
theorem WdAt.ck {w0 w : World} {W : Nat → Int} {k : Nat} {v : Int} (A : WdAt w0 w W k v) (hk : k < 8) : w.cell? ⟨w0.heap.size + 1 + 1, k, none⟩ = some (.int .u64 v) := by
 have := A.M.c k hk
 rw [if_neg (Nat.lt_irrefl k), if_pos rfl] at this
 exact this
theorem zeros8 : (#[.int .u64 0, .int .u64 0, .int .u64 0, .int .u64 0, .int .u64 0, .int .u64 0, .int .u64 0, .int .u64 0] : Array Value) = (ol fun _ => 0).toArray := rfl
set_option maxHeartbeats 3200000 in
theorem dWords (W : Nat → Int) (hW : okM W) (w : World) : Calls Try.prog 11 #[.agg (tl (tb W)).toArray] w fun e w' => e = .returned (.agg (ol W).toArray) ∧ Below w.heap.size w w' := by
 have HW := Lib.hid hW
 go_enter Try.func11, Try.ntmps11
 go_upto_region 2 with (fail)
 rw [zeros8, show Obj.cells (ol fun _ => 0).toArray 23 (0, 0) = oO tO8 (fun _ => 0) from rfl, show Obj.cells (tl (tb W)).toArray 27 (0, 0) = oT15 (tb W) from rfl]
 have HA := Lib.hid (show WdAt w (((w.alloc (oT15 (tb W))).alloc (oO tO8 fun _ => 0)).alloc (oO tO8 fun _ => 0)) W 0 0 from ⟨b3_0 w _ _ _, b3_1 w _ _ _, OAt.congr (m := fun _ => 0) (b3_2 w _ _ _) fun i _ => by split <;> first | rfl | (split <;> rfl) | omega, trA (trA (trA (tr0 w) _) _) _⟩)
 generalize ((w.alloc (oT15 (tb W))).alloc (oO tO8 fun _ => 0)).alloc (oO tO8 fun _ => 0) = W1 at *
 clear hW
 go_wp2_with fail
 go_loopw [4] (fun i wr => ∃ (k : Nat), k ≤ 8 ∧ i = .int .i64 k ∧ Hid (WdAt w wr W k 0)) (fun i wr => 8 - (intOf i).toNat)
 case atStart => exact ⟨0, by omega, rfl, HA⟩
 case round =>
  clear HA
  obtain ⟨k, hk, rfl, HA⟩ := hrel
  by_cases hlt : k < 8
  · obtain ⟨n, hn⟩ : ∃ n, W k = n := ⟨_, rfl⟩
    have HN := Lib.hid hn
    have HNB := Lib.hid (show 0 ≤ n ∧ n < 18446744073709551616 from hn ▸ HW.out k)
    clear hn
    go_wp2_with fail
    go_loopw [5] (fun i wr => ∃ (j : Nat), j ≤ 64 ∧ i = .int .i64 ((j : Int) - 1) ∧ Hid (WdAt w wr W k (n / 2 ^ j))) (fun i wr => ((intOf i) + 1).toNat)
    case atStart => exact ⟨64, by omega, rfl, Lib.hid (by rw [half_top HNB.out.1 HNB.out.2]; exact HA.out)⟩
    case round =>
     clear HA
     obtain ⟨j, hj, hi, HA⟩ := hrel
     cases j with
     | zero =>
       obtain rfl : _ = Value.int .i64 (-1) := hi
       have HA := Lib.hid (HA.out.next (show n / 2 ^ 0 = W k by rw [HN.out]; simp))
       go_wp2_with fail
       go_roundw
       case rel => exact ⟨k + 1, by omega, by go_num, HA⟩
       case measure => simp [intOf]; omega
     | succ s =>
       rw [show (((s + 1 : Nat) : Int) - 1) = (s : Int) by omega] at hi
       subst hi
       obtain ⟨V, hV⟩ : ∃ V, n / 2 ^ (s + 1) = V := ⟨_, rfl⟩
       have hup := half_up n s
       have h0 := div_pow_nonneg n s HNB.out.1
       have h1 := div_pow_lt n s HNB.out.1 HNB.out.2
       have hv0 := div_pow_nonneg n (s + 1) HNB.out.1
       rw [hV] at HA hup hv0
       generalize hU : n / 2 ^ s = U at *
       have HU := Lib.hid hU
       clear hU hV
       have c := HA.out.ck hlt
       have f := HA.out.M.free k
       have hl := HA.out.M.lt
       have v1 : 2 * V < 18446744073709551616 := by split at hup <;> omega
       have CT := Lib.hid (fun w' (A : WdAt w w' W k (2 * V)) => A.P.c (k * 64 + s) (by omega))
       rw [tb_at _ _ _ (by omega), HN.out] at CT
       have HB := Lib.hid (HA.out.put (2 * V))
       cases hb : bit n s
       · rw [hb] at hup CT
         have e : U = 2 * V := by simpa using hup
         go_upto_region 9 with (fail)
         generalize wr.setCell ⟨w.heap.size + 1 + 1, k, none⟩ (.int .u64 (2 * V)) = W2 at *
         have d := CT.out W2 HB.out
         have hl2 := HB.out.P.lt
         clear c f hl hup
         go_wp2_with fail
         go_roundw
         case rel => exact ⟨s, by omega, by go_num, (by rw [HU.out, e]; exact HB)⟩
         case measure => simp [intOf]
       · rw [hb] at hup CT
         have e : U = 2 * V + 1 := by simpa using hup
         go_upto_region 9 with (fail)
         generalize wr.setCell ⟨w.heap.size + 1 + 1, k, none⟩ (.int .u64 (2 * V)) = W2 at *
         have d := CT.out W2 HB.out
         have hl2 := HB.out.P.lt
         clear c f hl hup
         have c := HB.out.ck hlt
         have f := HB.out.M.free k
         have hl := HB.out.M.lt
         have HC := Lib.hid (HB.out.put (2 * V + 1))
         go_wp2_with fail
         go_roundw
         case rel => exact ⟨s, by omega, by go_num, (by rw [HU.out, e]; exact HC)⟩
         case measure => simp [intOf]
  · obtain rfl : k = 8 := by omega
    have HT := Lib.hid (HA.out.M.congr (m' := W) fun i hi => by rw [if_pos hi])
    have HX := Lib.hid HA.out.lo
    have HR := Lib.hid HA.out.R
    clear HA
    go_wp2_with (first | (refine ldO8 rfl (.tmp 3) rfl rfl HT.out ?_) | (refine stO8 rfl (.tmp 2) (.tmp 31) rfl rfl rfl HR.out ?_; intro w1 h1 ho; have HQ := Lib.hid h1; have HY := Lib.hid (Off.toBelow HX.out ho (fun j hj e => by omega) (Nat.le_refl _)); clear h1 ho))
    exact bodyPost_ret (resO8 rfl _ _ rfl HQ.out) rfl ⟨rfl, HY.out⟩
theorem ixO8_0 (m : Nat → Int) (w : World) : (Instr.index 23 (.agg (ol m).toArray) (.int .i64 ((0 : Nat) : Int))).run Try.prog w = .ok (.int .u64 (m 0)) w := by kernel_rfl
theorem ixO8_1 (m : Nat → Int) (w : World) : (Instr.index 23 (.agg (ol m).toArray) (.int .i64 ((1 : Nat) : Int))).run Try.prog w = .ok (.int .u64 (m 1)) w := by kernel_rfl
theorem ixO8_2 (m : Nat → Int) (w : World) : (Instr.index 23 (.agg (ol m).toArray) (.int .i64 ((2 : Nat) : Int))).run Try.prog w = .ok (.int .u64 (m 2)) w := by kernel_rfl
theorem ixO8_3 (m : Nat → Int) (w : World) : (Instr.index 23 (.agg (ol m).toArray) (.int .i64 ((3 : Nat) : Int))).run Try.prog w = .ok (.int .u64 (m 3)) w := by kernel_rfl
theorem ixO8_4 (m : Nat → Int) (w : World) : (Instr.index 23 (.agg (ol m).toArray) (.int .i64 ((4 : Nat) : Int))).run Try.prog w = .ok (.int .u64 (m 4)) w := by kernel_rfl
theorem ixO8_5 (m : Nat → Int) (w : World) : (Instr.index 23 (.agg (ol m).toArray) (.int .i64 ((5 : Nat) : Int))).run Try.prog w = .ok (.int .u64 (m 5)) w := by kernel_rfl
theorem ixO8_6 (m : Nat → Int) (w : World) : (Instr.index 23 (.agg (ol m).toArray) (.int .i64 ((6 : Nat) : Int))).run Try.prog w = .ok (.int .u64 (m 6)) w := by kernel_rfl
theorem ixO8_7 (m : Nat → Int) (w : World) : (Instr.index 23 (.agg (ol m).toArray) (.int .i64 ((7 : Nat) : Int))).run Try.prog w = .ok (.int .u64 (m 7)) w := by kernel_rfl
theorem ixO8 (m : Nat → Int) (k : Nat) (hk : k < 8) (w : World) : (Instr.index 23 (.agg (ol m).toArray) (.int .i64 k)).run Try.prog w = .ok (.int .u64 (m k)) w := by
 have h : k = 0 ∨ k = 1 ∨ k = 2 ∨ k = 3 ∨ k = 4 ∨ k = 5 ∨ k = 6 ∨ k = 7 := by omega
 rcases h with rfl | rfl | rfl | rfl | rfl | rfl | rfl | rfl
 · exact ixO8_0 m w
 · exact ixO8_1 m w
 · exact ixO8_2 m w
 · exact ixO8_3 m w
 · exact ixO8_4 m w
 · exact ixO8_5 m w
 · exact ixO8_6 m w
 · exact ixO8_7 m w
theorem dNext (m : Nat → Int) (hm : okM m) (l f : Int) (w : World) (f0 : -9223372036854775808 ≤ f) (f1 : f < 9223372036854775808) :
 Calls Try.prog 15 #[.agg (tl (tb m)).toArray, .int .i64 l, .int .i64 f] w fun e w' => e = .returned (.int .i64 (mnext m l f)) ∧ Below w.heap.size w w' := by
 have HA := Lib.hid (show TbAt (w.alloc (oT15 (tb m))) w.heap.size (tb m) from blk_new w _)
 have HB := Lib.hid (trA (tr0 w) (oT15 (tb m)))
 have HI := Lib.hid (fun w' => dIn l 0 w')
 unfold mnext
 by_cases h : 0 ≤ l ∧ l < 8
 · rw [if_pos h]
   obtain ⟨k, rfl⟩ := Int.eq_ofNat_of_zero_le h.1
   have hk : k < 8 := by omega
   have hx := ixO8 m k hk
   have hmk := hm k
   rw [show inS (k : Int) 0 = true by unfold inS; simp; omega] at HI
   have HW := Lib.hid (fun w' => dWords m hm w')
   have HF := Lib.hid (fun w' => rFirst (m k) f w' hmk.1 hmk.2 f0 f1)
   rw [Int.toNat_natCast]
   generalize first (m k) f = r at *
   clear h hm hk hmk f0 f1
   go_enter Try.func15, Try.ntmps15
   go_upto_region 1 with (fail)
   rw [show Obj.cells (tl (tb m)).toArray 27 (0, 0) = oT15 (tb m) from rfl]
   generalize w.alloc (oT15 (tb m)) = W at *
   go_wp2_with (first
    | (go_at_call 9; refine (HI.out _).mono ?_; rintro e w1 ⟨rfl, rfl⟩)
    | (refine ldOT rfl (.tmp 3) rfl rfl HA.out ?_)
    | (go_at_call 11; refine (HW.out _).mono ?_; rintro e w2 ⟨rfl, hb⟩; have HB := Lib.hid (tr HB.out hb); clear hb)
    | (go_at_call 25; refine (HF.out _).mono ?_; rintro e w3 ⟨rfl, rfl⟩))
   go_ret
   exact ⟨rfl, HB.out⟩
 · rw [if_neg h]
   rw [show inS l 0 = false by unfold inS; simp; omega] at HI
   clear h hm f0 f1
   go_enter Try.func15, Try.ntmps15
   go_upto_region 1 with (fail)
   rw [show Obj.cells (tl (tb m)).toArray 27 (0, 0) = oT15 (tb m) from rfl]
   generalize w.alloc (oT15 (tb m)) = W at *
   go_wp2_with (go_at_call 9; refine (HI.out _).mono ?_; rintro e w1 ⟨rfl, rfl⟩)
   go_ret
   exact ⟨rfl, HB.out⟩
theorem dPut (m : Nat → Int) (l s : Int) (v : Bool) (w : World) :
 Calls Try.prog 12 #[.agg (tl (tb m)).toArray, .int .i64 l, .int .i64 s, .bool v] w fun e w' => e = .returned (.agg (tl (tb (mput m l s v))).toArray) ∧ Below w.heap.size w w' := by
 have hz := zOT
 have HA := Lib.hid (show TbAt ((w.alloc (oT15 (tb m))).alloc (oT15 fun _ => false)) w.heap.size (tb m) from b2_0 w _ _)
 have HR := Lib.hid (show TbAt ((w.alloc (oT15 (tb m))).alloc (oT15 fun _ => false)) (w.heap.size + 1) (fun _ => false) from b2_1 w _ _)
 have HB := Lib.hid (trA (trA (tr0 w) (oT15 (tb m))) (oT15 fun _ => false))
 have HI := Lib.hid (fun w' => dIn l s w')
 unfold mput
 cases h : inS l s
 · rw [h] at HI
   rw [if_neg (by decide)]
   clear h
   go_enter Try.func12, Try.ntmps12
   go_upto_region 1 with (fail)
   rw [show Obj.cells (tl (tb m)).toArray 27 (0, 0) = oT15 (tb m) from rfl, show Obj.cells (tl fun _ => false).toArray 27 (0, 0) = oT15 (fun _ => false) from rfl]
   generalize (w.alloc (oT15 (tb m))).alloc (oT15 fun _ => false) = W at *
   go_wp2_with (first
    | (go_at_call 9; refine (HI.out _).mono ?_; rintro e w1 ⟨rfl, rfl⟩)
    | (refine ldOT rfl (.tmp 4) rfl rfl HA.out ?_)
    | (refine stOT rfl (.tmp 8) (.tmp 17) rfl rfl rfl HR.out ?_; intro w1 h1 ho; have HQ := Lib.hid h1; have HY := Lib.hid (Off.toBelow HB.out ho (fun j hj e => by omega) (Nat.le_refl _)); clear h1 ho))
   exact bodyPost_ret (resOT rfl _ _ rfl HQ.out) rfl ⟨rfl, HY.out⟩
 · obtain ⟨h0, h1, h2, h3⟩ := inS_true h
   rw [h] at HI
   rw [if_pos rfl]
   clear h
   obtain ⟨k, rfl⟩ := Int.eq_ofNat_of_zero_le h0
   obtain ⟨t, rfl⟩ := Int.eq_ofNat_of_zero_le h2
   simp only [Int.toNat_natCast]
   go_enter Try.func12, Try.ntmps12
   go_upto_region 1 with (fail)
   rw [show Obj.cells (tl (tb m)).toArray 27 (0, 0) = oT15 (tb m) from rfl, show Obj.cells (tl fun _ => false).toArray 27 (0, 0) = oT15 (fun _ => false) from rfl]
   generalize (w.alloc (oT15 (tb m))).alloc (oT15 fun _ => false) = W at *
   have c := HA.out.c (k * 64 + t) (by omega)
   have f := HA.out.free (k * 64 + t)
   have hl := HA.out.lt
   have HS := Lib.hid (HA.out.set (k * 64 + t) v |>.congr (g := tb (upd m k (wput (m k) t v))) fun i _ => (tb_upd m k t v (by omega) i).symm)
   have HRS := Lib.hid (HR.out.else w.heap.size (k * 64 + t) (.bool v) (by omega))
   have HBS := Lib.hid (HB.out.setCell (p := ⟨w.heap.size, k * 64 + t, none⟩) (Nat.le_refl _) (.bool v))
   go_upto_region 3 with (go_at_call 9; refine (HI.out _).mono ?_; rintro e w1 ⟨rfl, rfl⟩)
   clear c f hl HA HR HB
   generalize W.setCell ⟨w.heap.size, k * 64 + t, none⟩ (.bool v) = W2 at *
   go_wp2_with (first
    | (refine ldOT rfl (.tmp 4) rfl rfl HS.out ?_)
    | (refine stOT rfl (.tmp 8) (.tmp 17) rfl rfl rfl HRS.out ?_; intro w1 h1 ho; have HQ := Lib.hid h1; have HY := Lib.hid (Off.toBelow HBS.out ho (fun j hj e => by omega) (Nat.le_refl _)); clear h1 ho))
   exact bodyPost_ret (resOT rfl _ _ rfl HQ.out) rfl ⟨rfl, HY.out⟩
end Go.Proofs.Ytgfoeiikocpmdaa.B
