/- Several texts in one: The document's own answers of layer 10: a clock's eight cells, by value. What the document's own answers of layer 1 return: .. -/
import Derived.Test.YtcgmnjajodegmaaGreatZTaa
import Derived.Test.YtcgmnjajodegmaaGreatZTab
import Derived.Test.YtcgmnjajodegmaaGreatZTah
import Derived.Test.YtcgmnjajodegmaaGreatZTai
import Derived.Deep.QuietTactic
import Derived.BigQuiet
import Derived.Deep.Cut
import Derived.IntWalk
set_option linter.unusedVariables false
set_option linter.unusedSimpArgs false
namespace Go.Proofs.YtcgmnjajodegmaaGreat.B
open Go.ChangeShapes Go.WideShapes Go.RowKit Go.Sort
theorem iK : (Tryz.prog.info? 44).map (·.size) = some 8 := by kernel_rfl
def k8 (d r s : Int) (sec : Int) (al ah : Int) (en st : Bool) : List Value := [.int .u32 d, .int .u32 r, .int .u32 s, .int .u64 sec, .int .u32 al, .int .u32 ah, .bool en, .bool st]
def kl (t : Rk) : List Value := k8 t.div t.rest t.set t.sec t.al t.ah t.en t.st
theorem k8_one (d r s : Int) (sec : Int) (al ah : Int) (en st : Bool) : ∀ x ∈ k8 d r s sec al ah en st, x.oneCell' = true := by
 intro x h
 simp only [k8, List.mem_cons, List.not_mem_nil, or_false] at h
 rcases h with rfl | rfl | rfl | rfl | rfl | rfl | rfl | rfl <;> rfl
abbrev tK : TypeId := 44
def KAt (w : World) (b : Nat) (t : Rk) : Prop := w.heap[b]? = some (.cells (kl t).toArray tK (0, 0))
section
variable {w w' : World} {b : Nat} {t : Rk}
theorem KAt.lt (h : KAt w b t) : b < w.heap.size := lt_of_block h
theorem KAt.below (h : KAt w b t) (hb : Below w.heap.size w w') : KAt w' b t := blk_below hb h h.lt
theorem KAt.off {S : Nat -> Prop} (h : KAt w b t) (ho : Off S w w') (hs : ¬ S b) : KAt w' b t := ho.at h hs
theorem KAt.free (h : KAt w b t) (j : Nat) : w.frozen? ⟨b, j, none⟩ = false := blk_free h j
theorem KAt.c0 (h : KAt w b t) : w.cell? ⟨b, 0, none⟩ = some (.int .u32 t.div) := by rw [blk_cell h 0]; rfl
theorem KAt.c1 (h : KAt w b t) : w.cell? ⟨b, 1, none⟩ = some (.int .u32 t.rest) := by rw [blk_cell h 1]; rfl
theorem KAt.c2 (h : KAt w b t) : w.cell? ⟨b, 2, none⟩ = some (.int .u32 t.set) := by rw [blk_cell h 2]; rfl
theorem KAt.c3 (h : KAt w b t) : w.cell? ⟨b, 3, none⟩ = some (.int .u64 t.sec) := by rw [blk_cell h 3]; rfl
theorem KAt.c4 (h : KAt w b t) : w.cell? ⟨b, 4, none⟩ = some (.int .u32 t.al) := by rw [blk_cell h 4]; rfl
theorem KAt.c5 (h : KAt w b t) : w.cell? ⟨b, 5, none⟩ = some (.int .u32 t.ah) := by rw [blk_cell h 5]; rfl
theorem KAt.c6 (h : KAt w b t) : w.cell? ⟨b, 6, none⟩ = some (.bool t.en) := by rw [blk_cell h 6]; rfl
theorem KAt.c7 (h : KAt w b t) : w.cell? ⟨b, 7, none⟩ = some (.bool t.st) := by rw [blk_cell h 7]; rfl
theorem KAt.put (h : KAt w b t) (j : Nat) (x : Value) {s : Rk} (he : (kl t).set j x = kl s) : KAt (w.setCell ⟨b, j, none⟩ x) b s := by
 unfold KAt; rw [blk_set h, <- he]; simp
theorem KAt.s0 (h : KAt w b t) (x : Int) : KAt (w.setCell ⟨b, 0, none⟩ (.int .u32 x)) b { t with div := x } := h.put _ _ rfl
theorem KAt.s1 (h : KAt w b t) (x : Int) : KAt (w.setCell ⟨b, 1, none⟩ (.int .u32 x)) b { t with rest := x } := h.put _ _ rfl
theorem KAt.s2 (h : KAt w b t) (x : Int) : KAt (w.setCell ⟨b, 2, none⟩ (.int .u32 x)) b { t with set := x } := h.put _ _ rfl
theorem KAt.s3 (h : KAt w b t) (x : Int) : KAt (w.setCell ⟨b, 3, none⟩ (.int .u64 x)) b { t with sec := x } := h.put _ _ rfl
theorem KAt.s4 (h : KAt w b t) (x : Int) : KAt (w.setCell ⟨b, 4, none⟩ (.int .u32 x)) b { t with al := x } := h.put _ _ rfl
theorem KAt.s5 (h : KAt w b t) (x : Int) : KAt (w.setCell ⟨b, 5, none⟩ (.int .u32 x)) b { t with ah := x } := h.put _ _ rfl
theorem KAt.s6 (h : KAt w b t) (x : Bool) : KAt (w.setCell ⟨b, 6, none⟩ (.bool x)) b { t with en := x } := h.put _ _ rfl
theorem KAt.s7 (h : KAt w b t) (x : Bool) : KAt (w.setCell ⟨b, 7, none⟩ (.bool x)) b { t with st := x } := h.put _ _ rfl
theorem KAt.other (h : KAt w b t) (k j : Nat) (x : Value) (hne : b ≠ k) : KAt (w.setCell ⟨k, j, none⟩ x) b t := blk_else h k j x hne
theorem KAt.row {old : Array Value} (h : w.heap[b]? = some (.cells old tK (0, 0))) (t : Rk) : KAt (w.setRow b (kl t).toArray) b t := row_set _ h
theorem KAt.elseRow (h : KAt w b t) (g : Nat) (cs : Array Value) (hne : b ≠ g) : KAt (w.setRow g cs) b t := row_else g cs h hne
theorem KAt.grown (h : KAt w b t) : ∀ w', (∃ p : Regrown, w' = grow (redrawn w p.d) p.os) -> KAt w' b t := grown_block h
end
section
variable {ops : Array Oper} {rest : List Oper} {o : Oper} {a : Act} {w : World} {Q : Exit -> Act -> World -> Prop}
theorem loadK (hgd : o.guard = none) (x : Operand) (ho : o.op = .load 44 x) {b : Nat} (hx : a.eval x = .pointer (some ⟨b, 0, none⟩)) {t : Rk} (hg : KAt w b t)
 (h : wpList Tryz.prog ops Q rest (a.put o.dst (.agg (kl t).toArray)) w) : wpList Tryz.prog ops Q (o :: rest) a w :=
 wpList_load_part hgd _ x ho b 0 hx _ (kl t) hg Tryz.underlying44 rfl iK (part_all _) h
theorem loadKg (x : Operand) (ho : o.op = .load 44 x) (hw : Region.wanted o (yielded ops a.tmps) = true) {b : Nat} (hx : a.eval x = .pointer (some ⟨b, 0, none⟩)) {t : Rk} (hg : KAt w b t)
 (h : wpList Tryz.prog ops Q rest (a.put o.dst (.agg (kl t).toArray)) w) : wpList Tryz.prog ops Q (o :: rest) a w :=
 wpList_load_part_g _ x ho hw b 0 hx _ (kl t) hg Tryz.underlying44 rfl iK (part_all _) h
theorem storeK (hgd : o.guard = none) (x y : Operand) (ho : o.op = .store 44 x y) {b : Nat} (hx : a.eval x = .pointer (some ⟨b, 0, none⟩)) {t : Rk} (hy : a.eval y = .agg (kl t).toArray) {t' : Rk} (hg : KAt w b t')
 (h : wpList Tryz.prog ops Q rest (a.put o.dst undef) (w.setRow b (kl t).toArray)) : wpList Tryz.prog ops Q (o :: rest) a w := by
 refine wpList_store_part hgd _ x y ho b 0 hx (kl t) hy hg iK (by simp [kl, k8]) (k8_one _ _ _ _ _ _ _ _) ?_
 rw [spliced_all _ _ (by simp [kl, k8])]
 exact h
theorem qloadK {C : World -> Prop} {K : Act -> Prop} (x : Operand) (ho : o.op = .load 44 x) {b : Nat} (hx : a.eval x = .pointer (some ⟨b, 0, none⟩)) {t : Rk} (hg : ∀ w, C w -> KAt w b t)
 (h : K (a.put o.dst (.agg (kl t).toArray))) : o.quiet Tryz.prog a C K :=
 quiet_load_part _ x ho b 0 hx _ (kl t) (fun w hw => hg w hw) Tryz.underlying44 rfl iK (part_all _) h
end
theorem resK {fn : Func} {p : Tmp} (h : fn.results = #[.cell p 44]) (tmps : Array Value) (w : World) {b : Nat} {t : Rk} (hp : tmps[p]? = some (.pointer (some ⟨b, 0, none⟩))) (hg : KAt w b t) :
 (results fn tmps).run Tryz.prog w = .ok (.agg (kl t).toArray) w :=
 results_cell_one h tmps w b 0 _ (kl t) hp hg Tryz.underlying44 rfl iK (part_all _)
theorem resK2 {fn : Func} {p q : Tmp} (h : fn.results = #[.cell p 44, .tmp q]) (tmps : Array Value) (w : World) {b : Nat} {t : Rk} (y : Value) (hp : tmps[p]? = some (.pointer (some ⟨b, 0, none⟩))) (hq : tmps[q]? = some y) (hg : KAt w b t) :
 (results fn tmps).run Tryz.prog w = .ok (.tuple #[.agg (kl t).toArray, y]) w :=
 results_cell_slot h tmps w b 0 _ (kl t) y hp hq hg Tryz.underlying44 rfl iK (part_all _)
def rkz : Rk := ⟨0, 0, 0, 0, 0, 0, false, false⟩
def zK : Obj := .cells (kl rkz).toArray tK (0, 0)
theorem zK_eq : Obj.cells #[.int .u32 0, .int .u32 0, .int .u32 0, .int .u64 0, .int .u32 0, .int .u32 0, .bool false, .bool false] 44 (0, 0) = zK := rfl
def oK (t : Rk) : Obj := .cells (kl t).toArray tK (0, 0)
theorem oK_eq (t : Rk) : Obj.cells (kl t).toArray 44 (0, 0) = oK t := rfl
end Go.Proofs.YtcgmnjajodegmaaGreat.B
namespace Go.Proofs.YtcgmnjajodegmaaGreat.B
open Go.ChangeShapes Go.WideShapes Go.RowKit
theorem rLo (a : Int) (w : World) (h0 : 0 <= a) (h1 : a < 18446744073709551616) :
 Calls Tryz.prog 154 #[.int .u64 a] w fun e w' => e = .returned (.int .u32 (lo a)) /\ w = w' := by
 go_enter Tryz.func154, Tryz.ntmps154
 go_wp2
 go_ret
 exact ⟨rfl, rfl⟩
theorem rHi (a : Int) (w : World) (h0 : 0 <= a) (h1 : a < 18446744073709551616) :
 Calls Tryz.prog 155 #[.int .u64 a] w fun e w' => e = .returned (.int .u32 (hi a)) /\ w = w' := by
 go_enter Tryz.func155, Tryz.ntmps155
 go_wp2
 go_ret
 exact ⟨rfl, rfl⟩
theorem rJoin (h l : Int) (w : World) (h0 : 0 <= h) (h1 : h < 4294967296) (l0 : 0 <= l) (l1 : l < 4294967296) :
 Calls Tryz.prog 101 #[.int .u32 h, .int .u32 l] w fun e w' => e = .returned (.int .u64 (join h l)) /\ w = w' := by
 go_enter Tryz.func101, Tryz.ntmps101
 go_wp2
 go_ret
 exact ⟨rfl, rfl⟩
theorem rAdd (a b : Int) (w : World) (h0 : 0 <= a) (h1 : a < 18446744073709551616) (l0 : 0 <= b) (l1 : b < 18446744073709551616) :
 Calls Tryz.prog 149 #[.int .u64 a, .int .u64 b] w fun e w' => e = .returned (.int .u64 (addS a b)) /\ w = w' := by
 go_enter Tryz.func149, Tryz.ntmps149
 go_wp2
 all_goals (go_ret; exact ⟨ret_int (by unfold addS; first | rw [if_pos (by assumption)] | rw [if_neg (by omega)]), rfl⟩)
end Go.Proofs.YtcgmnjajodegmaaGreat.B
namespace Go.Proofs.YtcgmnjajodegmaaGreat.B
open Go.ChangeShapes Go.WideShapes Go.RowKit Go.Sort
theorem kAlarm (t : Rk) (w : World) (h : t.ok) : Calls Tryz.prog 116 #[.agg (kl t).toArray] w fun e w' => e = .returned (.int .u64 t.alarm) /\ Below w.heap.size w w' := by
 have hB := trA (tr0 w) (oK t)
 have X : KAt (w.alloc (oK t)) w.heap.size t := blk_new w (oK t)
 have x4 := X.c4
 have x5 := X.c5
 go_enter Tryz.func116, Tryz.ntmps116
 go_upto_region 1 with (fail)
 rw [oK_eq]
 generalize w.alloc (oK t) = W at *
 go_wp2_with (go_at_call 101; refine (rJoin _ _ _ h.h0 h.h1 h.l0 h.l1).mono ?_; rintro e w' ⟨rfl, rfl⟩)
 go_ret
 exact ⟨rfl, hB⟩
theorem kMet (t : Rk) (w : World) (h : t.ok) : Calls Tryz.prog 118 #[.agg (kl t).toArray] w fun e w' => e = .returned (.bool t.met) /\ Below w.heap.size w w' := by
 have hB := trA (tr0 w) (oK t)
 have X : KAt (w.alloc (oK t)) w.heap.size t := blk_new w (oK t)
 have x3 := X.c3
 have x6 := X.c6
 have HA := Hd (fun w' => kAlarm t w' h)
 have hl := X.lt
 obtain ⟨m, hm⟩ : ∃ m, t.met = m := ⟨_, rfl⟩
 rw [hm]
 unfold Rk.met at hm
 obtain ⟨A, hA⟩ : ∃ A, t.alarm = A := ⟨_, rfl⟩
 rw [hA] at hm HA
 clear hA h
 cases hen : t.en
 . rw [hen] at x6 hm
   have hM := Hd hm
   clear hen hm
   go_enter Tryz.func118, Tryz.ntmps118
   go_upto_region 1 with (fail)
   rw [oK_eq]
   generalize w.alloc (oK t) = W at *
   have hg := gcell
   refine wp_region_quiet_below (by kernel_rfl) (by kernel_rfl) ?_
   repeat (go_big_quiet_step (fail))
   refine wpQuiet_nil ?_
   intro _ hw'
   obtain ⟨⟨dq, osq⟩, hw''⟩ := hw'
   subst hw''
   go_wp2_with fail
   go_ret
   exact ⟨ret_bool hM.out, trG hB _ _⟩
 . rw [hen] at x6 hm
   have hM := Hd hm
   clear hen hm
   go_enter Tryz.func118, Tryz.ntmps118
   go_upto_region 1 with (fail)
   rw [oK_eq]
   generalize w.alloc (oK t) = W at *
   have hg := gcell
   refine wp_region_quiet_below (by kernel_rfl) (by kernel_rfl) ?_
   repeat (first
    | go_big_quiet_skip
    | (go_big_quiet_want; first
        | (refine qloadK (.tmp 1) rfl rfl X.grown ?_; go_simp; go_big_quiet_on)
        | (go_big_quiet_op; first
            | go_big_quiet_on
            | go_big_quiet_call (first | (go_at_call 116; exact Calls.regrown_of (HA.out _))))))
   refine wpQuiet_nil ?_
   intro _ hw'
   obtain ⟨⟨dq, osq⟩, hw''⟩ := hw'
   subst hw''
   go_wp2_with fail
   go_ret
   exact ⟨ret_bool (by rw [<- hM.out]; simp), trG hB _ _⟩
theorem behind_no {a b : Rk} (h : b.met = false) : Rk.behind a b = b := by unfold Rk.behind; rw [h]; rfl
theorem behind_was {a b : Rk} (h : a.met = true) : Rk.behind a b = b := by unfold Rk.behind; rw [h]; simp
theorem behind_yes {a b : Rk} (h : a.met = false) (k : b.met = true) : Rk.behind a b = { b with st := true } := by unfold Rk.behind; rw [h, k]; rfl
set_option maxHeartbeats 800000 in
theorem kBehind (a b : Rk) (w : World) (ha : a.ok) (hb : b.ok) :
 Calls Tryz.prog 151 #[.agg (kl a).toArray, .agg (kl b).toArray] w fun e w' => e = .returned (.agg (kl (Rk.behind a b)).toArray) /\ Below w.heap.size w w' := by
 have hB := trA (trA (trA (tr0 w) (oK a)) (oK b)) zK
 have X : KAt (((w.alloc (oK a)).alloc (oK b)).alloc zK) w.heap.size a := b3_0 w _ _ _
 have Y : KAt (((w.alloc (oK a)).alloc (oK b)).alloc zK) (w.heap.size + 1) b := b3_1 w _ _ _
 have Z : KAt (((w.alloc (oK a)).alloc (oK b)).alloc zK) (w.heap.size + 2) rkz := b3_2 w _ _ _
 have HA := Hd (fun w' => kMet a w' ha)
 have HM := Hd (fun w' => kMet b w' hb)
 clear ha hb
 obtain ⟨p, hp⟩ : ∃ p, a.met = p := ⟨_, rfl⟩
 obtain ⟨q, hq⟩ : ∃ q, b.met = q := ⟨_, rfl⟩
 rw [hp] at HA
 rw [hq] at HM
 cases q
 . rw [behind_no hq]
   clear hp hq HA
   go_enter Tryz.func151, Tryz.ntmps151
   go_upto_region 1 with (fail)
   rw [oK_eq, oK_eq, zK_eq]
   generalize ((w.alloc (oK a)).alloc (oK b)).alloc zK = W at *
   go_wp2_with (refine loadK rfl (.tmp 3) rfl rfl Y ?_)
   refine (HM.out _).mono ?_
   rintro e W1 ⟨rfl, hb⟩
   have X1 := X.below hb
   have Y1 := Y.below hb
   have Z1 := Z.below hb
   have hB1 := tr hB hb
   clear X Y Z hB hb HM
   have R := KAt.row Z1 b
   have hB2 := below_setRow hB1 (kl b).toArray (g := w.heap.size + 2) (by omega)
   go_wp2_with (first | (refine loadK rfl (.tmp 3) rfl rfl Y1 ?_) | (refine storeK rfl (.tmp 4) (.tmp 13) rfl rfl (t := b) rfl Z1 ?_))
   refine bodyPost_ret (resK rfl _ _ rfl R) rfl ⟨rfl, hB2⟩
 . have he : Rk.behind a b = (if p = true then b else { b with st := true }) := by
    cases p
    . exact behind_yes hp hq
    . exact behind_was hp
   rw [he]
   clear he hp hq
   go_enter Tryz.func151, Tryz.ntmps151
   go_upto_region 1 with (fail)
   rw [oK_eq, oK_eq, zK_eq]
   generalize ((w.alloc (oK a)).alloc (oK b)).alloc zK = W at *
   go_wp2_with (refine loadK rfl (.tmp 3) rfl rfl Y ?_)
   refine (HM.out _).mono ?_
   rintro e W1 ⟨rfl, hb⟩
   have X1 := X.below hb
   have Y1 := Y.below hb
   have Z1 := Z.below hb
   have hB1 := tr hB hb
   clear X Y Z hB hb HM
   go_wp2_with (first | (refine loadKg (.tmp 2) rfl rfl rfl X1 ?_) | (refine loadK rfl (.tmp 2) rfl rfl X1 ?_))
   refine (HA.out _).mono ?_
   rintro e W2 ⟨rfl, hb⟩
   have Y2 := Y1.below hb
   have Z2 := Z1.below hb
   have hB2 := tr hB1 hb
   clear X1 Y1 Z1 hB1 hb HA
   cases p
   . have f7 := Y2.free 7
     have Y3 : KAt _ _ { b with st := true } := Y2.s7 true
     have Z3 := Z2.other (w.heap.size + 1) 7 (.bool true) (by omega)
     have hB3 := hB2.setCell (p := ⟨w.heap.size + 1, 7, none⟩) (by simp) (.bool true)
     have x7 := Y2.c7
     go_upto_region 3 with (fail)
     clear Y2 Z2 hB2 f7 x7
     generalize (W2.setCell ⟨w.heap.size + 1, 7, none⟩ (.bool true)) = W3 at *
     have R := KAt.row Z3 { b with st := true }
     have hB4 := below_setRow hB3 (kl { b with st := true }).toArray (g := w.heap.size + 2) (by omega)
     go_wp2_with (first | (refine loadK rfl (.tmp 3) rfl rfl Y3 ?_) | (refine storeK rfl (.tmp 4) (.tmp 13) rfl rfl (t := { b with st := true }) rfl Z3 ?_))
     refine bodyPost_ret (resK rfl _ _ rfl R) rfl ⟨rfl, hB4⟩
   . have R := KAt.row Z2 b
     have hB3 := below_setRow hB2 (kl b).toArray (g := w.heap.size + 2) (by omega)
     go_wp2_with (first | (refine loadK rfl (.tmp 3) rfl rfl Y2 ?_) | (refine storeK rfl (.tmp 4) (.tmp 13) rfl rfl (t := b) rfl Z2 ?_))
     refine bodyPost_ret (resK rfl _ _ rfl R) rfl ⟨rfl, hB3⟩
theorem kReset (t : Rk) (w : World) :
 Calls Tryz.prog 153 #[.agg (kl t).toArray] w fun e w' => e = .returned (.agg (kl t.zero).toArray) /\ Below w.heap.size w w' := by
 have hB := trA (trA (tr0 w) (oK t)) zK
 have X : KAt ((w.alloc (oK t)).alloc zK) w.heap.size t := b2_0 w _ _
 have Z : KAt ((w.alloc (oK t)).alloc zK) (w.heap.size + 1) rkz := b2_1 w _ _
 have x0 := X.c0
 have x1 := X.c1
 have x3 := X.c3
 go_enter Tryz.func153, Tryz.ntmps153
 go_upto_region 1 with (fail)
 rw [oK_eq, zK_eq]
 generalize (w.alloc (oK t)).alloc zK = W at *
 have R := KAt.row Z t.zero
 have hB2 := below_setRow hB (kl t.zero).toArray (g := w.heap.size + 1) (by omega)
 go_wp2_with (refine storeK rfl (.tmp 2) (.tmp 9) rfl rfl (t := t.zero) rfl Z ?_)
 refine bodyPost_ret (resK rfl _ _ rfl R) rfl ⟨rfl, hB2⟩
theorem adv_way {t : Rk} (h : t.ok) {n : Int} (n0 : 0 <= n) : t.adv n = if t.div <= t.rest + n % t.div then { t with sec := addS (addS t.sec (n / t.div)) 1, rest := t.rest + n % t.div - t.div } else { t with sec := addS t.sec (n / t.div), rest := t.rest + n % t.div } := by
 obtain ⟨e1, e2⟩ := adv_parts t.rest n t.div h.d0 h.r0 h.r1
 have q := Int.ediv_nonneg n0 (show 0 <= t.div by have := h.d0; omega)
 have s0 := h.s0
 have s1 := h.s1
 unfold Rk.adv
 rw [e1, e2]
 split
 . simp only [Rk.mk.injEq, and_true, true_and]
   rw [addS_min, addS_min]; unfold nev; omega
 . simp only [Rk.mk.injEq, and_true, true_and]
   rw [addS_min]; unfold nev; omega
set_option maxRecDepth 100000 in
set_option maxHeartbeats 1600000 in
theorem kTick (t : Rk) (n : Int) (w : World) (h : t.ok) (n0 : 0 <= n) (n1 : n < 18446744073709551616) :
 Calls Tryz.prog 86 #[.agg (kl t).toArray, .int .u64 n] w fun e w' => e = .returned (.agg (kl (t.tick n)).toArray) /\ Below w.heap.size w w' := by
 have hB := trA (trA (tr0 w) (oK t)) zK
 have X : KAt ((w.alloc (oK t)).alloc zK) w.heap.size t := b2_0 w _ _
 have G : KAt ((w.alloc (oK t)).alloc zK) (w.heap.size + 1) rkz := b2_1 w _ _
 have hs : ((w.alloc (oK t)).alloc zK).heap.size = w.heap.size + 2 := b2_s w _ _
 have hA := Rk.adv_ok h n0
 have HK := Hd (fun w' => kBehind t (t.adv n) w' h hA)
 have hw := adv_way h n0
 obtain ⟨T, hT⟩ : ∃ T, t.tick n = T := ⟨_, rfl⟩
 rw [hT]
 unfold Rk.tick at hT
 rw [hT] at HK
 obtain ⟨d0, d1, r0, r1, w0, w1, s0, s1, _, _, _, _⟩ := h
 have q0 := Int.ediv_nonneg n0 (show 0 <= t.div by omega)
 have q1 : n / t.div < 18446744073709551616 := Int.lt_of_le_of_lt (Int.ediv_le_self _ n0) n1
 have m0 := Int.emod_nonneg n (show t.div ≠ 0 by omega)
 have m1 := Int.emod_lt_of_pos n (show 0 < t.div by omega)
 have hq : n.tdiv t.div = n / t.div := Int.tdiv_eq_ediv_of_nonneg n0
 have hm : n.tmod t.div = n % t.div := Int.tmod_eq_emod_of_nonneg n0
 obtain ⟨q, hq2⟩ : ∃ q, n / t.div = q := ⟨_, rfl⟩
 obtain ⟨m, hm2⟩ : ∃ m, n % t.div = m := ⟨_, rfl⟩
 rw [hq2] at hq q0 q1 hw
 rw [hm2] at hm m0 m1 hw
 have b0 : 0 <= addS t.sec q /\ addS t.sec q < 18446744073709551616 := by unfold addS; split <;> omega
 have HA := Hd (fun w' => rAdd t.sec q w' s0 s1 q0 q1)
 have HA2 := Hd (fun w' => rAdd (addS t.sec q) 1 w' b0.1 b0.2 (by omega) (by omega))
 have hne : (t.div == 0) = false := by simp; omega
 clear b0 hA hT hq2 hm2
 obtain ⟨u, hu⟩ : ∃ u, addS t.sec q = u := ⟨_, rfl⟩
 rw [hu] at hw HA HA2
 obtain ⟨u2, hu2⟩ : ∃ u2, addS u 1 = u2 := ⟨_, rfl⟩
 rw [hu2] at hw HA2
 clear hu hu2
 have HW := Hd hw
 have HQ := Hd hq
 have HR := Hd hm
 clear hw hq hm
 go_enter Tryz.func86, Tryz.ntmps86
 go_upto_region 1 with (fail)
 rw [oK_eq, zK_eq]
 generalize (w.alloc (oK t)).alloc zK = W at *
 have B2 := trA hB zK
 have X2 := X.below (trA (tr0 W) zK)
 have G2 := G.below (trA (tr0 W) zK)
 have Y2 : KAt (W.alloc zK) W.heap.size rkz := blk_new W zK
 rw [hs] at Y2
 go_upto_region 2 with (first | (refine loadK rfl (.tmp 2) rfl rfl X ?_) | (refine storeK rfl (.tmp 5) (.tmp 8) rfl rfl (t := t) rfl (by rw [zK_eq]; first | exact Y2 | exact (hs ▸ Y2)) ?_))
 rw [zK_eq]
 have Y3 := KAt.row Y2 t
 have X3 := X2.elseRow (w.heap.size + 2) (kl t).toArray (by omega)
 have G3 := G2.elseRow (w.heap.size + 2) (kl t).toArray (by omega)
 have B3 := below_setRow B2 (kl t).toArray (g := w.heap.size + 2) (by omega)
 clear X G hB hs Y2 X2 G2 B2
 generalize (W.alloc zK).setRow (w.heap.size + 2) (kl t).toArray = W2 at *
 have x0 := X3.c0
 have y3 := Y3.c3
 have f3 := Y3.free 3
 have hl := Y3.lt
 have hg := gcell
 have hf := gfrozen
 go_upto_region 3 with (fail)
 refine wp_region_tail_below 7 (by kernel_rfl) (by kernel_rfl) ?_
 simp only [List.take_succ_cons, List.take_zero, List.drop_succ_cons, List.drop_zero]
 have HQ2 := HQ.out
 repeat (go_big_quiet_step (first | (go_at_call 149; exact Calls.regrown_of ((HA.out _).mono fun _ _ g => ⟨g.1, g.2 ▸ tr0 _⟩))))
 refine wpQuiet_nil ?_
 intro _ hw'
 obtain ⟨⟨dq, osq⟩, hw''⟩ := hw'
 subst hw''
 clear HQ2 HA
 have hb2 := below_regrown W2 dq osq
 have X4 := X3.below hb2
 have G4 := G3.below hb2
 have Y4 : KAt _ _ { t with sec := u } := (Y3.below hb2).s3 u
 have B4 := (tr B3 hb2).setCell (p := ⟨w.heap.size + 2, 3, none⟩) (by simp) (.int .u64 u)
 have X5 := X4.other (w.heap.size + 2) 3 (.int .u64 u) (by omega)
 have G5 := G4.other (w.heap.size + 2) 3 (.int .u64 u) (by omega)
 have hl2 : w.heap.size + 2 < (grow (redrawn W2 dq) osq).heap.size := (Y3.below hb2).lt
 clear Y3 X3 G3 B3 X4 G4 hb2
 go_upto_region 4 with (fail)
 clear x0 y3 f3 hl hl2 hg hf
 generalize (grow (redrawn W2 dq) osq).setCell ⟨w.heap.size + 2, 3, none⟩ (.int .u64 u) = W3 at *
 have y1 := Y4.c1
 have y3 := Y4.c3
 have hl := Y4.lt
 have hg := gcell
 have hwr : IntKind.u64.wrap (t.rest + m) = t.rest + m := IntWalk.u64_in _ (by omega)
 have HR2 := HR.out
 refine wp_region_quiet_below (by kernel_rfl) (by kernel_rfl) ?_
 repeat (go_big_quiet_step (fail))
 refine wpQuiet_nil ?_
 intro _ hw'
 obtain ⟨⟨dq2, osq2⟩, hw''⟩ := hw'
 subst hw''
 clear HR2 hwr y1 y3 hg hl
 have hb2 := below_regrown W3 dq2 osq2
 have X6 := X5.below hb2
 have G6 := G5.below hb2
 have Y6 := Y4.below hb2
 have B6 := tr B4 hb2
 clear X5 G5 Y4 B4 hb2
 generalize grow (redrawn W3 dq2) osq2 = W4 at *
 by_cases hge : t.div <= t.rest + m
 . have hw := HW.out
   rw [if_pos hge] at hw
   rw [hw] at HK
   clear hw HW
   have y3 := Y6.c3
   have f3 := Y6.free 3
   have f1 := Y6.free 1
   have y1 := Y6.c1
   have hlt2 : ¬ t.rest + m - t.div < 0 := by omega
   have Y7 : KAt _ _ { t with sec := u2, rest := t.rest + m - t.div } := (Y6.s3 u2).s1 (t.rest + m - t.div)
   have X7 := (X6.other (w.heap.size + 2) 3 (.int .u64 u2) (by omega)).other (w.heap.size + 2) 1 (.int .u32 (t.rest + m - t.div)) (by omega)
   have G7 := (G6.other (w.heap.size + 2) 3 (.int .u64 u2) (by omega)).other (w.heap.size + 2) 1 (.int .u32 (t.rest + m - t.div)) (by omega)
   have B7 := (B6.setCell (p := ⟨w.heap.size + 2, 3, none⟩) (by simp) (.int .u64 u2)).setCell (p := ⟨w.heap.size + 2, 1, none⟩) (by simp) (.int .u32 (t.rest + m - t.div))
   clear X6 G6 Y6 B6
   go_upto_region 9 with (go_at_call 149; refine (HA2.out _).mono ?_; rintro e w' ⟨rfl, rfl⟩)
   clear y1 y3 f3 f1 HA2
   generalize (W4.setCell ⟨w.heap.size + 2, 3, none⟩ (.int .u64 u2)).setCell ⟨w.heap.size + 2, 1, none⟩ (.int .u32 (t.rest + m - t.div)) = W5 at *
   go_wp2_with (first | (refine loadK rfl (.tmp 2) rfl rfl X7 ?_) | (refine loadK rfl (.tmp 5) rfl rfl Y7 ?_))
   refine (HK.out _).mono ?_
   rintro e W6 ⟨rfl, hb⟩
   have G8 := G7.below hb
   have B8 := tr B7 hb
   have R := KAt.row G8 T
   have B9 := below_setRow B8 (kl T).toArray (g := w.heap.size + 1) (by omega)
   clear X7 Y7 G7 B7 hb HK
   go_wp2_with (refine storeK rfl (.tmp 4) (.tmp 41) rfl rfl (t := T) rfl G8 ?_)
   refine bodyPost_ret (resK rfl _ _ rfl R) rfl ⟨rfl, B9⟩
 . have hw := HW.out
   rw [if_neg hge] at hw
   rw [hw] at HK
   clear hw HW HA2
   have f1 := Y6.free 1
   have y1 := Y6.c1
   have Y7 : KAt _ _ { t with sec := u, rest := t.rest + m } := Y6.s1 (t.rest + m)
   have X7 := X6.other (w.heap.size + 2) 1 (.int .u32 (t.rest + m)) (by omega)
   have G7 := G6.other (w.heap.size + 2) 1 (.int .u32 (t.rest + m)) (by omega)
   have B7 := B6.setCell (p := ⟨w.heap.size + 2, 1, none⟩) (by simp) (.int .u32 (t.rest + m))
   clear X6 G6 Y6 B6
   go_upto_region 9 with (fail)
   clear f1 y1
   generalize W4.setCell ⟨w.heap.size + 2, 1, none⟩ (.int .u32 (t.rest + m)) = W5 at *
   go_wp2_with (first | (refine loadK rfl (.tmp 2) rfl rfl X7 ?_) | (refine loadK rfl (.tmp 5) rfl rfl Y7 ?_))
   refine (HK.out _).mono ?_
   rintro e W6 ⟨rfl, hb⟩
   have G8 := G7.below hb
   have B8 := tr B7 hb
   have R := KAt.row G8 T
   have B9 := below_setRow B8 (kl T).toArray (g := w.heap.size + 1) (by omega)
   clear X7 Y7 G7 B7 hb HK
   go_wp2_with (refine storeK rfl (.tmp 4) (.tmp 41) rfl rfl (t := T) rfl G8 ?_)
   refine bodyPost_ret (resK rfl _ _ rfl R) rfl ⟨rfl, B9⟩
theorem left_test (x d f : Int) (d0 : 1 <= d) : (nev - f) / d < x ↔ nev < x * d + f := by
 rw [Int.ediv_lt_iff_lt_mul (by omega)]; omega
set_option maxRecDepth 100000 in
set_option maxHeartbeats 1600000 in
theorem kLeft (t : Rk) (w : World) (h : t.ok) :
 Calls Tryz.prog 120 #[.agg (kl t).toArray] w fun e w' => e = .returned (.int .u64 t.left) /\ Below w.heap.size w w' := by
 have hB := trA (tr0 w) (oK t)
 have X : KAt (w.alloc (oK t)) w.heap.size t := blk_new w _
 have HM := Hd (fun w' => kMet t w' h)
 have HA := Hd (fun w' => kAlarm t w' h)
 obtain ⟨a0, a1⟩ := Rk.alarm_bounds h
 have x6 := X.c6
 by_cases hc : t.en = true /\ t.met = false
 . obtain ⟨hen, hm⟩ := hc
   have hl := left_on hen hm
   have ha : t.sec < t.alarm := by unfold Rk.met at hm; rw [hen] at hm; simpa using hm
   rw [hm] at HM
   rw [hen] at x6
   obtain ⟨L, hL⟩ : ∃ L, t.left = L := ⟨_, rfl⟩
   rw [hL] at hl ⊢
   clear hL
   have HE := Hd hl
   obtain ⟨d0, d1, r0, r1, _, _, s0, s1, _, _, _, _⟩ := h
   clear hl hm hen
   obtain ⟨A, hA⟩ : ∃ A, t.alarm = A := ⟨_, rfl⟩
   rw [hA] at HE HA a0 a1 ha
   clear hA
   go_enter Tryz.func120, Tryz.ntmps120
   go_upto_region 1 with (fail)
   rw [oK_eq]
   generalize w.alloc (oK t) = W at *
   go_wp2_with (first | (refine loadKg (.tmp 1) rfl rfl rfl X ?_) | (refine loadK rfl (.tmp 1) rfl rfl X ?_))
   refine (HM.out _).mono ?_
   rintro e W1 ⟨rfl, hb⟩
   have X1 := X.below hb
   have hB1 := tr hB hb
   clear X hB hb HM x6
   go_upto_region 3 with (fail)
   have x3 := X1.c3
   have hl := X1.lt
   have hg := gcell
   have hws : IntKind.u64.wrap (A - t.sec) = A - t.sec := IntWalk.u64_in _ (by omega)
   refine wp_region_quiet_below (by kernel_rfl) (by kernel_rfl) ?_
   repeat (first
    | go_big_quiet_skip
    | (go_big_quiet_want; first
        | (refine qloadK (.tmp 1) rfl rfl X1.grown ?_; go_simp; go_big_quiet_on)
        | (go_big_quiet_op; first
            | go_big_quiet_on
            | go_big_quiet_call (first | (go_at_call 116; exact Calls.regrown_of (HA.out _))))))
   refine wpQuiet_nil ?_
   intro _ hw'
   obtain ⟨⟨dq2, osq2⟩, hw''⟩ := hw'
   subst hw''
   clear x3 hg hl hws
   have hb2 := below_regrown W1 dq2 osq2
   have X2 := X1.below hb2
   have hB2 := tr hB1 hb2
   clear X1 hB1 hb2
   generalize grow (redrawn W1 dq2) osq2 = W2 at *
   have x0 := X2.c0
   have x1 := X2.c1
   go_upto_region 6 with (fail)
   have hx := left_test (A - t.sec - 1) t.div (t.div - t.rest) d0
   by_cases hov : nev < (A - t.sec - 1) * t.div + (t.div - t.rest)
   . have h1 := hx.2 hov
     unfold nev at h1
     have HE2 := Hd (HE.out.trans (if_pos hov))
     clear hx hov HE
     go_wp2_with fail
     go_ret
     exact ⟨ret_int HE2.out.symm, hB2⟩
   . have h1 : ¬ (18446744073709551615 - (t.div - t.rest)) / t.div < A - t.sec - 1 := fun e => hov (hx.1 e)
     have p0 : 0 <= (A - t.sec - 1) * t.div := Int.mul_nonneg (by omega) (by omega)
     have p1 : (A - t.sec - 1) * t.div + (t.div - t.rest) < 18446744073709551616 := by unfold nev at hov; omega
     have p2 : (A - t.sec - 1) * t.div < 18446744073709551616 := by omega
     have HE2 := Hd (HE.out.trans (if_neg hov))
     clear hx hov HE
     go_wp2_with fail
     go_ret
     exact ⟨ret_int HE2.out.symm, hB2⟩
 . have hl : t.left = nev := by unfold Rk.left; rw [if_neg hc]
   rw [hl]
   obtain ⟨en, hen⟩ : ∃ en, t.en = en := ⟨_, rfl⟩
   obtain ⟨m, hm⟩ : ∃ m, t.met = m := ⟨_, rfl⟩
   rw [hen, hm] at hc
   rw [hen] at x6
   rw [hm] at HM
   clear hl hen hm HA
   cases en
   . clear hc HM
     go_enter Tryz.func120, Tryz.ntmps120
     go_upto_region 1 with (fail)
     rw [oK_eq]
     generalize w.alloc (oK t) = W at *
     go_wp2_with fail
     go_ret
     exact ⟨rfl, hB⟩
   . cases m
     . exact absurd ⟨rfl, rfl⟩ hc
     . clear hc
       go_enter Tryz.func120, Tryz.ntmps120
       go_upto_region 1 with (fail)
       rw [oK_eq]
       generalize w.alloc (oK t) = W at *
       go_wp2_with (first | (refine loadKg (.tmp 1) rfl rfl rfl X ?_) | (refine loadK rfl (.tmp 1) rfl rfl X ?_))
       refine (HM.out _).mono ?_
       rintro e W1 ⟨rfl, hb⟩
       have hB1 := tr hB hb
       clear X hB hb HM x6
       go_wp2_with fail
       go_ret
       exact ⟨rfl, hB1⟩
end Go.Proofs.YtcgmnjajodegmaaGreat.B
