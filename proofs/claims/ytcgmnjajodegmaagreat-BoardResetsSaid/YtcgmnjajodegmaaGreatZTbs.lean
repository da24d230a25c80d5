/- Several texts in one: Layer 11's Do: a call of both, a board and the document's. (Written by tools/gen_l11d.py.) Layer 11's Do: a call of both, a .. -/
import Derived.Test.YtcgmnjajodegmaaGreatZTab
import Derived.Test.YtcgmnjajodegmaaGreatZTbp
import Derived.Test.YtcgmnjajodegmaaGreatZTbr
import Derived.Laws.StructEq
set_option linter.unusedVariables false
set_option linter.unusedSimpArgs false
set_option maxRecDepth 100000
namespace Go.Proofs.YtcgmnjajodegmaaGreat.B
open Go.ChangeShapes Go.WideShapes Go.RowKit Go.Sort
set_option maxHeartbeats 1600000 in
theorem yDo2 (B : Bp) (x : Bx) (bk ev : Value) (K N a v : Int) (s : Nat) (w : World) (H : BdAt w B x) (hn : B.new s) (hs : s <= w.heap.size) (M : MV w B.c x bk ev) (hl : x.es.length < 4294967290) (n0 : 0 <= N) (n1 : N < 18446744073709551616) (a0 : 0 <= a) (a1 : a < 4294967296) (v0 : 0 <= v) (v1 : v < 4294967296) (hK : K = 2) :
 Calls Tryz.prog 13 #[.pointer (some ⟨B.b, 0, none⟩), .agg (ml B.n x bk ev).toArray, .agg #[.int .i64 K, .int .u64 N, .int .u32 a, .int .u32 v]] w (DoPost11 s B x w) := by
 have hb := trA (trA (trA (tr0 w) (oM11 B.n x bk ev)) (actO K N a v)) zM11
 have HF := Hd (d11_new w s B.n x bk ev K N a v hs)
 have HH := Hd (H.below hb)
 have HM := Hd (M.below hb)
 have HNW := Hd hn
 have HOK := Hd H.ok
 have HST := Hd H.still
 have HL := Hd (show x.es.length < 4294967296 by omega)
 have HL2 := Hd hl
 clear H M hn hs hb hl
 subst hK
 go_enter Tryz.func13, Tryz.ntmps13
 go_upto_region 1 with (fail)
 rw [oM11_eq, zM11_eq, show Obj.cells #[.int .i64 2, .int .u64 N, .int .u32 a, .int .u32 v] 52 (0, 0) = actO 2 N a v from rfl]
 generalize ((w.alloc (oM11 B.n x bk ev)).alloc (actO 2 N a v)).alloc zM11 = W at *
 have x0 := HF.out.x0
 have x2 := HF.out.x2
 have x3 := HF.out.x3
 obtain ⟨E, hE⟩ : ∃ E, Bx.ste B.n B.c a = E := ⟨_, rfl⟩
 have CS := Hd (fun w' (h : BdAt w' B x) => by have := bdStore B x a v w' h a0 a1 v0 v1 HL.out; rw [hE] at this; exact this)
 have RS := Hd (fun w' (h : MV w' B.c x bk ev) => by have := yStore B.n B.c x bk ev a v w' h HOK.out HST.out a0 a1 v0 v1 HL.out; rw [hE] at this; exact this)
 have zE := beq_self_eq_true E
 have HSL := Hd (show Nx B.n B.c x (x.sto B.n B.c a v) from .inr (.inr ⟨a, v, rfl⟩))
 clear hE
 generalize hy : x.sto B.n B.c a v = y at *
 clear hy
 go_upto_region 11 with (first | (refine nLoadB rfl (.tmp 4) rfl rfl HF.out.h ?_) | (go_at_call 43; refine (RS.out _ HM.out).mono ?_; rintro e W1 ⟨bk', ev', rfl, M1, hb⟩; have HF := Hd (HF.out.below hb); have HM1 := Hd M1; have HH := Hd (HH.out.below hb); clear hb x2 x0 x3 M1) | (rw [zM11_eq]; refine nStoreB rfl (.tmp 13) (.tmp 64) rfl rfl y bk' ev' _ rfl (blk_new W1 zM11) rfl HM1.out.one ?_; intro W2 hN2 ho2; have hb := Off.toBelow (trA (tr0 W1) zM11) ho2 (fun k hk e => by omega) (Nat.le_refl _); have HF := Hd (HF.out.below hb); have HM1 := Hd (HM1.out.below hb); have HH := Hd (HH.out.below hb); have HN2 := Hd hN2; clear hb hN2 ho2))
 generalize W1.heap.size = q at *
 have HF := Hd (HF.out.below (trD (tr0 W2)))
 have HM1 := Hd (HM1.out.below (trD (tr0 W2)))
 have HH := Hd (HH.out.below (trD (tr0 W2)))
 have HN2 := Hd (HN2.out.below (trD (tr0 W2)))
 refine wp_region_held_drew (S := fun w' => NAt w' q B.n y bk' ev' /\ w'.heap[w.heap.size + 1]? = some (actO 2 N a v)) (by kernel_rfl) ⟨HN2.out, HF.out.a⟩ (fun _ => ?_)
 generalize W2.drew = W3 at *
 refine tkH (i := 0) (v := .pointer (some ⟨B.b, 0, none⟩)) rfl (by kernel_rfl) (fun _ _ _ h => h) (fun w' hSw => by clear hSw; go_simp) ⟨HN2.out, HF.out.a⟩ ?_
 simp only [lgA, lgZ, lgS, Act.put, lsA, lsZ, lsS]
 refine tkH (i := 1) (v := .agg (ml B.n y bk' ev').toArray) rfl (by kernel_rfl) (fun _ _ _ h => h) (fun w' hSw => rnLoadB (.tmp 13) rfl rfl hSw.1) ⟨HN2.out, HF.out.a⟩ ?_
 simp only [lgA, lgZ, lgS, Act.put, lsA, lsZ, lsS]
 refine tkH (i := 2) (v := .pointer (some ⟨B.b, 0, none⟩)) rfl (by kernel_rfl) (fun _ _ _ h => h) (fun w' hSw => by clear hSw; go_simp) ⟨HN2.out, HF.out.a⟩ ?_
 simp only [lgA, lgZ, lgS, Act.put, lsA, lsZ, lsS]
 refine tkH (i := 3) (v := .pointer (some ⟨w.heap.size + 1, 2, none⟩)) rfl (by kernel_rfl) (fun _ _ _ h => h) (fun w' hSw => by clear hSw; go_simp) ⟨HN2.out, HF.out.a⟩ ?_
 simp only [lgA, lgZ, lgS, Act.put, lsA, lsZ, lsS]
 refine tkH (i := 4) (v := .int .u32 a) rfl (by kernel_rfl) (fun _ _ _ h => h) (fun w' hSw => by have c := blk_cell hSw.2 2; simp at c; clear hSw; go_simp) ⟨HN2.out, HF.out.a⟩ ?_
 simp only [lgA, lgZ, lgS, Act.put, lsA, lsZ, lsS]
 refine tkH (i := 5) (v := .pointer (some ⟨w.heap.size + 1, 3, none⟩)) rfl (by kernel_rfl) (fun _ _ _ h => h) (fun w' hSw => by clear hSw; go_simp) ⟨HN2.out, HF.out.a⟩ ?_
 simp only [lgA, lgZ, lgS, Act.put, lsA, lsZ, lsS]
 refine tkH (i := 6) (v := .int .u32 v) rfl (by kernel_rfl) (fun _ _ _ h => h) (fun w' hSw => by have c := blk_cell hSw.2 3; simp at c; clear hSw; go_simp) ⟨HN2.out, HF.out.a⟩ ?_
 simp only [lgA, lgZ, lgS, Act.put, lsA, lsZ, lsS]
 refine tkH (i := 8) (v := .int .i64 E) rfl (by kernel_rfl) (fun _ _ _ h => h) (fun w' hSw => by clear hSw; go_simp) ⟨HN2.out, HF.out.a⟩ ?_
 simp only [lgA, lgZ, lgS, Act.put, lsA, lsZ, lsS]
 refine rdH (i := 7) (by kernel_rfl) rfl fun K hK => ?_
 go_simp
 go_wp2_with (go_at_call 28; refine (CS.out _ HH.out).mono ?_; rintro e W4 ⟨rfl, hL⟩; obtain ⟨C, LC⟩ := hL.lft HH.out HNW.out HF.out.ss; have HF := Hd (HF.out.step LC.kp LC.lo); have HM1 := Hd (HM1.out.kp LC.kp); have HN2 := Hd (HN2.out.kp LC.kp); have HLC := Hd LC; clear LC hL)
 refine hK.out _ _ ⟨HN2.out, HF.out.a⟩ (fun _ => ?_)
 clear hK K
 refine tkH (i := 9) (v := .bool true) rfl (by kernel_rfl) (fun _ _ _ h => h) (fun w' hSw => by clear hSw; go_simp) ⟨HN2.out, HF.out.a⟩ ?_
 simp only [lgA, lgZ, lgS, Act.put, lsA, lsZ, lsS]
 refine tkH (i := 10) (v := .pointer (some ⟨B.b, 0, none⟩)) rfl (by kernel_rfl) (fun _ _ _ h => h) (fun w' hSw => by clear hSw; go_simp) ⟨HN2.out, HF.out.a⟩ ?_
 simp only [lgA, lgZ, lgS, Act.put, lsA, lsZ, lsS]
 refine rdH (i := 11) (by kernel_rfl) rfl fun K hK => ?_
 refine step_store_B rfl (.tmp 7) (.tmp 67) rfl rfl B.n y bk' ev' rfl HF.out.z HM1.out.one ?_
 intro W9 hN9 ho9
 have HX := Hd (d11_end HF.out HLC.out.h HLC.out.nw ⟨HLC.out.n, HLC.out.c, HLC.out.d⟩ HM1.out HSL.out ho9)
 rw [HLC.out.e] at HX
 have hS9 := (show NAt W9 q B.n y bk' ev' /\ W9.heap[w.heap.size + 1]? = some (actO 2 N a v) from ⟨keep_or HN2.out ho9 hN9, ho9.at HF.out.a (by omega)⟩)
 refine hK.out _ _ hS9 (fun _ => ?_)
 clear hK K ho9
 simp only [Act.put]
 refine tkH (i := 12) (v := .bool true) rfl (by kernel_rfl) (fun _ _ _ h => h) (fun w' hSw => by clear hSw; go_simp) hS9 ?_
 simp only [lgA, lgZ, lgS, Act.put, lsA, lsZ, lsS]
 clear hS9
 refine wpAnyH_done (by kernel_rfl) ?_ _
 go_wp2_with fail
 exact bodyPost_ret (resN3 rfl _ _ _ _ rfl rfl rfl hN9) rfl HX.out
set_option maxHeartbeats 1600000 in
theorem yDo3 (B : Bp) (x : Bx) (bk ev : Value) (K N a v : Int) (s : Nat) (w : World) (H : BdAt w B x) (hn : B.new s) (hs : s <= w.heap.size) (M : MV w B.c x bk ev) (hl : x.es.length < 4294967290) (n0 : 0 <= N) (n1 : N < 18446744073709551616) (a0 : 0 <= a) (a1 : a < 4294967296) (v0 : 0 <= v) (v1 : v < 4294967296) (hK : K = 3) :
 Calls Tryz.prog 13 #[.pointer (some ⟨B.b, 0, none⟩), .agg (ml B.n x bk ev).toArray, .agg #[.int .i64 K, .int .u64 N, .int .u32 a, .int .u32 v]] w (DoPost11 s B x w) := by
 have hb := trA (trA (trA (tr0 w) (oM11 B.n x bk ev)) (actO K N a v)) zM11
 have HF := Hd (d11_new w s B.n x bk ev K N a v hs)
 have HH := Hd (H.below hb)
 have HM := Hd (M.below hb)
 have HNW := Hd hn
 have HOK := Hd H.ok
 have HST := Hd H.still
 have HL := Hd (show x.es.length < 4294967296 by omega)
 have HL2 := Hd hl
 clear H M hn hs hb hl
 subst hK
 go_enter Tryz.func13, Tryz.ntmps13
 go_upto_region 1 with (fail)
 rw [oM11_eq, zM11_eq, show Obj.cells #[.int .i64 3, .int .u64 N, .int .u32 a, .int .u32 v] 52 (0, 0) = actO 3 N a v from rfl]
 generalize ((w.alloc (oM11 B.n x bk ev)).alloc (actO 3 N a v)).alloc zM11 = W at *
 have x0 := HF.out.x0
 go_upto_region 14 with (go_at_call 16; refine (bdCopy B x _ HH.out HL.out).mono ?_; rintro e W1 ⟨C, rfl, h1, h2, h3, h7, h8, h9⟩; have H2 := Hd (two_copy HH.out h2 h1 h3); have HCN := Hd (show C.new s from fun k hk => Nat.le_trans HF.out.ss (h3 k hk)); have HF := Hd (HF.out.below h2); have HM := Hd (HM.out.below h2); have HCE := Hd (show C.n = B.n /\ C.c = B.c /\ C.div = B.div from ⟨h7, h8, h9⟩); clear h1 h2 h3 h7 h8 h9 x0 HH)
 have AL := Hd (fun w' (h : BdAt w' C x) (m : MV w' B.c x bk ev) => by have := yAlike C x bk ev w' h (by rw [HCE.out.2.1]; exact m) HL.out; rw [HCE.out.1] at this; exact this)
 go_upto_region 16 with (first | (refine nLoadBg (.tmp 4) rfl (by kernel_rfl) rfl HF.out.h ?_) | (go_at_call 14; refine (AL.out _ H2.out.two HM.out).mono ?_; rintro e W2 ⟨rfl, hb⟩; have HF := Hd (HF.out.below hb); have HM := Hd (HM.out.below hb); have H2 := Hd (H2.out.below hb); clear hb AL))
 go_upto_region 17 with (go_at_call 17; refine (bdTick B x 50 _ H2.out.one (by omega) (by omega) HL.out).mono ?_; rintro e W3 ⟨rfl, hL⟩; obtain ⟨C1, LC, H3⟩ := H2.out.lft hL HNW.out HF.out.ss; have HF := Hd (HF.out.step LC.kp LC.lo); have HM := Hd (HM.out.kp LC.kp); have HLC := Hd LC; have H2 := Hd H3; clear LC hL H3)
 have CS := Hd (fun w' (h : BdAt w' C1 (x.tick 50)) => by have := bdStore C1 (x.tick 50) 268632072 45063 w' h (by omega) (by omega) (by omega) (by omega) (by have := tick_len x 50; have := HL2.out; omega); rw [HLC.out.e] at this; exact this)
 go_upto_region 18 with (go_at_call 28; refine (CS.out _ H2.out.one).mono ?_; rintro e W4 ⟨rfl, hL⟩; obtain ⟨C2, LC, H3⟩ := H2.out.lft hL HLC.out.nw HF.out.ss; have HF := Hd (HF.out.step LC.kp LC.lo); have HM := Hd (HM.out.kp LC.kp); have H2 := Hd H3; clear LC hL H3 CS)
 have HF := Hd (HF.out.below (trD (tr0 W4)))
 have HM := Hd (HM.out.below (trD (tr0 W4)))
 have HC := Hd (H2.out.two.below (trD (tr0 W4)))
 refine wp_region_held_drew (S := fun w' => NAt w' w.heap.size B.n x bk ev) (by kernel_rfl) HF.out.h (fun _ => ?_)
 generalize W4.drew = W5 at *
 refine tkH (i := 0) (v := .pointer (some ⟨C.b, 0, none⟩)) rfl (by kernel_rfl) (fun _ _ _ h => h) (fun w' hSw => by clear hSw; go_simp) HF.out.h ?_
 simp only [lgA, lgZ, lgS, Act.put, lsA, lsZ, lsS]
 refine tkH (i := 1) (v := .agg (ml B.n x bk ev).toArray) rfl (by kernel_rfl) (fun _ _ _ h => h) (fun w' hSw => rnLoadB (.tmp 4) rfl rfl hSw) HF.out.h ?_
 simp only [lgA, lgZ, lgS, Act.put, lsA, lsZ, lsS]
 refine tkH (i := 2) (v := .pointer (some ⟨C.b, 0, none⟩)) rfl (by kernel_rfl) (fun _ _ _ h => h) (fun w' hSw => by clear hSw; go_simp) HF.out.h ?_
 simp only [lgA, lgZ, lgS, Act.put, lsA, lsZ, lsS]
 refine rdH (i := 3) (by kernel_rfl) rfl fun K hK => ?_
 refine step_store_B rfl (.tmp 7) (.tmp 95) rfl rfl B.n x bk ev rfl HF.out.z HM.out.one ?_
 intro W9 hN9 ho9
 have HX := Hd (d11_end HF.out HC.out HCN.out HCE.out HM.out (.inl rfl) ho9)
 have hS9 := (show NAt W9 w.heap.size B.n x bk ev from ho9.at HF.out.h (by omega))
 refine hK.out _ _ hS9 (fun _ => ?_)
 clear hK K ho9
 simp only [Act.put]
 refine tkH (i := 4) (v := .bool true) rfl (by kernel_rfl) (fun _ _ _ h => h) (fun w' hSw => by clear hSw; go_simp) hS9 ?_
 simp only [lgA, lgZ, lgS, Act.put, lsA, lsZ, lsS]
 clear hS9
 refine wpAnyH_done (by kernel_rfl) ?_ _
 go_wp2_with fail
 exact bodyPost_ret (resN3 rfl _ _ _ _ rfl rfl rfl hN9) rfl HX.out
set_option maxHeartbeats 1600000 in
theorem yDo4 (B : Bp) (x : Bx) (bk ev : Value) (K N a v : Int) (s : Nat) (w : World) (H : BdAt w B x) (hn : B.new s) (hs : s <= w.heap.size) (M : MV w B.c x bk ev) (hl : x.es.length < 4294967290) (n0 : 0 <= N) (n1 : N < 18446744073709551616) (a0 : 0 <= a) (a1 : a < 4294967296) (v0 : 0 <= v) (v1 : v < 4294967296) (k0 : (K == 0) = false) (k1 : (K == 1) = false) (k2 : (K == 2) = false) (k3 : (K == 3) = false) :
 Calls Tryz.prog 13 #[.pointer (some ⟨B.b, 0, none⟩), .agg (ml B.n x bk ev).toArray, .agg #[.int .i64 K, .int .u64 N, .int .u32 a, .int .u32 v]] w (DoPost11 s B x w) := by
 have hb := trA (trA (trA (tr0 w) (oM11 B.n x bk ev)) (actO K N a v)) zM11
 have HF := Hd (d11_new w s B.n x bk ev K N a v hs)
 have HH := Hd (H.below hb)
 have HM := Hd (M.below hb)
 have HNW := Hd hn
 have HOK := Hd H.ok
 have HST := Hd H.still
 have HL := Hd (show x.es.length < 4294967296 by omega)
 have HL2 := Hd hl
 clear H M hn hs hb hl
 go_enter Tryz.func13, Tryz.ntmps13
 go_upto_region 1 with (fail)
 rw [oM11_eq, zM11_eq, show Obj.cells #[.int .i64 K, .int .u64 N, .int .u32 a, .int .u32 v] 52 (0, 0) = actO K N a v from rfl]
 generalize ((w.alloc (oM11 B.n x bk ev)).alloc (actO K N a v)).alloc zM11 = W at *
 have x0 := HF.out.x0
 go_upto_region 19 with (fail)
 have HF := Hd (HF.out.below (trD (tr0 W)))
 have HM := Hd (HM.out.below (trD (tr0 W)))
 have HH := Hd (HH.out.below (trD (tr0 W)))
 refine wp_region_held_drew (S := fun w' => NAt w' w.heap.size B.n x bk ev) (by kernel_rfl) HF.out.h (fun _ => ?_)
 generalize W.drew = W5 at *
 refine tkH (i := 0) (v := .pointer (some ⟨B.b, 0, none⟩)) rfl (by kernel_rfl) (fun _ _ _ h => h) (fun w' hSw => by clear hSw; go_simp) HF.out.h ?_
 simp only [lgA, lgZ, lgS, Act.put, lsA, lsZ, lsS]
 refine tkH (i := 1) (v := .agg (ml B.n x bk ev).toArray) rfl (by kernel_rfl) (fun _ _ _ h => h) (fun w' hSw => rnLoadB (.tmp 4) rfl rfl hSw) HF.out.h ?_
 simp only [lgA, lgZ, lgS, Act.put, lsA, lsZ, lsS]
 refine tkH (i := 2) (v := .pointer (some ⟨B.b, 0, none⟩)) rfl (by kernel_rfl) (fun _ _ _ h => h) (fun w' hSw => by clear hSw; go_simp) HF.out.h ?_
 simp only [lgA, lgZ, lgS, Act.put, lsA, lsZ, lsS]
 refine rdH (i := 3) (by kernel_rfl) rfl fun K hK => ?_
 refine step_store_B rfl (.tmp 7) (.tmp 97) rfl rfl B.n x bk ev rfl HF.out.z HM.out.one ?_
 intro W9 hN9 ho9
 have HX := Hd (d11_end HF.out HH.out HNW.out ⟨rfl, rfl, rfl⟩ HM.out (.inl rfl) ho9)
 have hS9 := (show NAt W9 w.heap.size B.n x bk ev from ho9.at HF.out.h (by omega))
 refine hK.out _ _ hS9 (fun _ => ?_)
 clear hK K ho9
 simp only [Act.put]
 refine tkH (i := 4) (v := .bool true) rfl (by kernel_rfl) (fun _ _ _ h => h) (fun w' hSw => by clear hSw; go_simp) hS9 ?_
 simp only [lgA, lgZ, lgS, Act.put, lsA, lsZ, lsS]
 clear hS9
 refine wpAnyH_done (by kernel_rfl) ?_ _
 go_wp2_with fail
 exact bodyPost_ret (resN3 rfl _ _ _ _ rfl rfl rfl hN9) rfl HX.out
theorem yDo (B : Bp) (x : Bx) (bk ev : Value) (K N a v : Int) (s : Nat) (w : World) (H : BdAt w B x) (hn : B.new s) (hs : s <= w.heap.size) (M : MV w B.c x bk ev) (hl : x.es.length < 4294967290) (n0 : 0 <= N) (n1 : N < 18446744073709551616) (a0 : 0 <= a) (a1 : a < 4294967296) (v0 : 0 <= v) (v1 : v < 4294967296) :
 Calls Tryz.prog 13 #[.pointer (some ⟨B.b, 0, none⟩), .agg (ml B.n x bk ev).toArray, .agg #[.int .i64 K, .int .u64 N, .int .u32 a, .int .u32 v]] w (DoPost11 s B x w) := by
 by_cases h0 : K = 0
 . exact yDo0 B x bk ev K N a v s w H hn hs M hl n0 n1 a0 a1 v0 v1 h0
 by_cases h1 : K = 1
 . exact yDo1 B x bk ev K N a v s w H hn hs M hl n0 n1 a0 a1 v0 v1 h1
 by_cases h2 : K = 2
 . exact yDo2 B x bk ev K N a v s w H hn hs M hl n0 n1 a0 a1 v0 v1 h2
 by_cases h3 : K = 3
 . exact yDo3 B x bk ev K N a v s w H hn hs M hl n0 n1 a0 a1 v0 v1 h3
 exact yDo4 B x bk ev K N a v s w H hn hs M hl n0 n1 a0 a1 v0 v1 (by simpa using h0) (by simpa using h1) (by simpa using h2) (by simpa using h3)
def kx0 : Bx := bx0 10
def kx1 : Bx := kx0.sto 1 1 268566536 5
def kx2 : Bx := kx1.sto 1 1 268566528 1
def kx3 : Bx := kx2.tick 8
theorem kx_1 : Bx.ste 1 1 268566536 = 0 := by decide +kernel
theorem kx_2 : Bx.ste 1 1 268566528 = 0 := by decide +kernel
theorem kx_e0 : kx0.es.length < 4294967296 := by decide +kernel
theorem kx_e1 : kx1.es.length < 4294967296 := by decide +kernel
theorem kx_e2 : kx2.es.length < 4294967296 := by decide +kernel
theorem kx_e3 : kx3.es = [(5, 2)] := by decide +kernel
theorem kx_t : kx3.ti = 8 := by decide +kernel
theorem kx_v : kx3.ldv 1 1 268566536 = 0 := by decide +kernel
theorem kx_l : Bx.lde 1 1 268566536 = 0 := by decide +kernel
set_option maxHeartbeats 3200000 in
theorem bdKnown (w : World) : Calls Tryz.prog 10 #[] w fun e w' => e = .returned (.bool true) /\ Below w.heap.size w w' := by
 have HNW := Hd (hNew 1 1 10 w (by decide) (by decide) (by decide) (by decide) (by decide) (by decide))
 go_enter Tryz.func10, Tryz.ntmps10
 go_wp2_with fail
 refine (HNW.out).mono ?_
 rintro e w1 ⟨b, rfl, H1, b1⟩
 have HH := Hd (show Has w.heap.size w1 b 1 1 10 kx0 from H1)
 have HB := Hd b1
 clear H1 b1 HNW
 go_wp2_with fail
 refine (hStore HH.out HB.out.size 268566536 5 (by decide) (by decide) (by decide) (by decide) kx_e0).mono ?_
 rw [kx_1]
 rintro e w2 ⟨rfl, H1, b1⟩
 have HH := Hd (show Has w.heap.size w2 b 1 1 10 kx1 from H1)
 have HB := Hd (HB.out.trans b1)
 clear H1 b1
 go_wp2_with fail
 refine (hStore HH.out HB.out.size 268566528 1 (by decide) (by decide) (by decide) (by decide) kx_e1).mono ?_
 rw [kx_2]
 rintro e w3 ⟨rfl, H1, b1⟩
 have HH := Hd (show Has w.heap.size w3 b 1 1 10 kx2 from H1)
 have HB := Hd (HB.out.trans b1)
 clear H1 b1
 go_wp2_with fail
 refine (hTick HH.out HB.out.size 8 (by decide) (by decide) kx_e2).mono ?_
 rintro e w4 ⟨rfl, H1, b1⟩
 have HH := Hd (show Has w.heap.size w4 b 1 1 10 kx3 from H1)
 have HB := Hd (HB.out.trans b1)
 clear H1 b1
 go_wp2_with fail
 refine (hResets HH.out (by rw [kx_e3]; decide)).mono ?_
 rintro e w5 ⟨v', rfl, he, b1, _⟩
 have HH := Hd (HH.out.below b1)
 have HB := Hd (tr HB.out b1)
 rw [kx_e3] at he
 obtain ⟨g, cap, rfl⟩ := row_some (m := 0) he
 have hE := Hd he
 clear he b1
 go_wp2_with fail
 refine (hLoad HH.out 268566536 (by decide) (by decide)).mono ?_
 rw [kx_v, kx_l]
 rintro e w6 ⟨rfl, b1⟩
 have HH := Hd (HH.out.below b1)
 have HB := Hd (tr HB.out b1)
 have hE := Hd (hE.out.below b1)
 clear b1
 go_wp2_with fail
 refine (hTime HH.out).mono ?_
 rw [kx_t]
 rintro e w7 ⟨rfl, b1⟩
 have HB := Hd (tr HB.out b1)
 have hE := (hE.out.below b1)
 have c0 : w7.cell? ⟨g, 0, none⟩ = some (.int .u64 5) := by have := row_cell (f := evC) evC_len (w := w7) (L := [(5, 2)]) hE rfl (k := 0) rfl 0 (by decide); simpa [evC] using this
 have c1 : w7.cell? ⟨g, 1, none⟩ = some (.int .i64 2) := by have := row_cell (f := evC) evC_len (w := w7) (L := [(5, 2)]) hE rfl (k := 0) rfl 1 (by decide); simpa [evC] using this
 clear b1 hE
 go_wp2_with fail
 go_ret
 exact ⟨rfl, HB.out⟩
end Go.Proofs.YtcgmnjajodegmaaGreat.B
namespace Go.Proofs.YtcgmnjajodegmaaGreat.B
open Go.RowKit Go.Sort
def treeB (md : Region.Mode) (ops : Array Oper) (n : Nat) : Bool :=
 (List.range ops.size).all fun t => decide (t <= n) || (List.range t).any fun j => decide (n <= j) && Region.waitsFor md ops t j
def pureB (ops : Array Oper) (k : Nat) : Bool :=
 match ops[k]? with
 | some o => o.guard.isNone && (match o.op with | .move _ | .assign _ | .extract _ _ => true | _ => false)
 | none => false
def mixB (md : Region.Mode) (ops : Array Oper) : Nat -> Nat -> Array Bool -> Bool
 | 0, _, done => (Region.ready md ops done).isEmpty
 | g + 1, k, done => (decide (Region.ready md ops done = [k]) || ((Region.ready md ops done).contains k && Region.free md ops done k && pureB ops k)) && mixB md ops g (k + 1) (done.setIfInBounds k true)
def lexMix (md : Region.Mode) (ops : Array Oper) (g : Nat) : Nat -> Nat -> Array Bool -> Bool
 | 0, k, done => (Region.ready md ops done).all (fun j => decide (k <= j)) && mixB md ops g k done
 | f + 1, k, done => (Region.ready md ops done).contains k && Region.free md ops done k && lexMix md ops g f (k + 1) (done.setIfInBounds k true)
def lexMixB (md : Region.Mode) (ops : Array Oper) (n : Nat) : Bool :=
 Region.noSelect ops && decide (n < ops.size) && Region.sinkB md ops n && treeB md ops n && lexMix md ops (ops.size - n) n 0 (Array.replicate ops.size false)
section
variable {P : Program} {ops : Array Oper} {md : Region.Mode} {C : World -> Prop}
theorem tree_waits {n : Nat} {listed : Array Bool} (hs : Region.sinkB md ops n = true) (hc : treeB md ops n = true) (hn : n < ops.size) (inv : HeadInv md ops n listed) :
 ∀ (d i : Nat), n - i = d -> i < n -> listed.getD i true = false -> ∀ t, n <= t -> t ∉ Region.ready md ops listed := by
 intro d
 induction d using Nat.strongRecOn with
 | _ d ih =>
   intro i hd hi hun t ht hr
   obtain ⟨_, ot, hot, hall⟩ := mem_ready.1 hr
   have htlt : t < ops.size := (Array.getElem?_eq_some_iff.1 hot).1
   by_cases htn : t = n
   . subst htn
     have h1 := List.all_eq_true.1 hs i (List.mem_range.2 hi)
     obtain ⟨j, hj, hj2⟩ := List.any_eq_true.1 h1
     simp only [Bool.and_eq_true, decide_eq_true_eq] at hj2
     obtain ⟨oj, hoj, e, he, hb, hon⟩ := Region.waitsFor_spec hj2.2
     have hjle : j <= t := by have := List.mem_range.1 hj; omega
     by_cases hjt : j = t
     . subst hjt
       have : oj = ot := Option.some.inj (hoj.symm.trans hot)
       subst this
       have h2 := hall e he hb
       rw [hon, getD_both hun] at h2
       cases h2
     . cases hl : listed.getD j false with
       | true =>
         have h2 := inv.closed j oj hoj hl e he hb
         rw [hon, getD_both hun] at h2
         cases h2
       | false =>
         have hjs : j < listed.size := by rw [inv.size]; omega
         exact ih (t - j) (by omega) j rfl (by omega) (getD_in hjs hl) t (Nat.le_refl _) hr
   . have h1 := List.all_eq_true.1 hc t (List.mem_range.2 htlt)
     simp only [Bool.or_eq_true, decide_eq_true_eq] at h1
     rcases h1 with h1 | h1
     . omega
     . obtain ⟨j, hj, hj2⟩ := List.any_eq_true.1 h1
       simp only [Bool.and_eq_true, decide_eq_true_eq] at hj2
       have hjt := List.mem_range.1 hj
       obtain ⟨o', ho', e, he, hb, hon⟩ := Region.waitsFor_spec hj2.2
       have : o' = ot := Option.some.inj (ho'.symm.trans hot)
       subst this
       have h2 := hall e he hb
       rw [hon, getD_both (inv.tail j hj2.1 (by omega))] at h2
       cases h2
theorem runT_pure' {α : Type} (x : α) (w : World) : ((pure x : Sem α).runT P w #[]).2 = #[] := rfl
theorem pure_yields {Q : Exit -> Act -> World -> Prop} {k : Nat} {o : Oper} {rest : List Oper} {a : Act} {w : World} (ho : ops[k]? = some o) (hp : pureB ops k = true) (h : wpList P ops Q (o :: rest) a w) (hQ : ∀ c a d v w, Q (.panic c) (Act.put a d v) w -> Q (.panic c) a w) :
 ∃ v, Yields P ops o v a /\ wpList P ops Q rest (a.put o.dst v) w := by
 unfold pureB at hp
 simp only [ho, Bool.and_eq_true] at hp
 obtain ⟨hg, hp⟩ := hp
 have hw : Region.wanted o (yielded ops a.tmps) = true := by
  have : o.guard = none := by simpa using hg
  simp [Region.wanted, this]
 unfold wpList at h
 rw [if_pos hw] at h
 split at hp
 . rename_i x hx
   have hr : ∀ w, (execOp a.eval o).run P w = .ok (.value (a.eval x)) w := BigFrame.run_move x hx
   rcases h with h | ⟨h, _⟩
   . unfold Oper.wp at h
     rw [hr w] at h
     exact ⟨_, .inl ⟨hw, hr⟩, h⟩
   . have := h.1
     unfold execOp at this
     rw [hx] at this
     simp only [runT_pure'] at this
     simp at this
 . rename_i x hx
   have hr : ∀ w, (execOp a.eval o).run P w = .ok (.value (a.eval x)) w := BigFrame.run_assign x hx
   rcases h with h | ⟨h, _⟩
   . unfold Oper.wp at h
     rw [hr w] at h
     exact ⟨_, .inl ⟨hw, hr⟩, h⟩
   . have := h.1
     unfold execOp at this
     rw [hx] at this
     simp only [runT_pure'] at this
     simp at this
 . rename_i x i hx
   have hE : execOp a.eval o = (do let y <- Instr.extract (a.eval x) i; pure (Next.value y)) := by
    unfold execOp
    rw [hx]
   unfold Oper.wp Oper.asks at h
   rw [hE] at h
   have key : ∀ u : Value, a.eval x = u -> ∃ v, Yields P ops o v a /\ wpList P ops Q rest (a.put o.dst v) w := by
    intro u hu
    rw [hu] at h
    by_cases ht : ∃ vs y, u = .tuple vs /\ vs[i]? = some y
    . obtain ⟨vs, y, rfl, hy⟩ := ht
      have hr : ∀ w, (execOp a.eval o).run P w = .ok (.value y) w := fun w => by
       rw [hE, hu]
       simp [Instr.extract, hy]
      refine ⟨y, .inl ⟨hw, hr⟩, ?_⟩
      rcases h with h | ⟨h, _⟩
      . simpa [Instr.extract, hy, Oper.upon] using h
      . have := h.1
        simp [Instr.extract, hy, runT_pure'] at this
        exact absurd (show noRoomEvent ∈ #[] from this) (by simp)
    . exfalso
      rcases h with h | ⟨h, _⟩
      . cases u
        case tuple vs =>
         cases hv : vs[i]? with
         | none => simp [Instr.extract, hv, stuck, Oper.upon] at h
         | some y => exact ht ⟨vs, y, rfl, hv⟩
        all_goals simp [Instr.extract, stuck, Oper.upon] at h
      . have := h.1
        cases u
        case tuple vs =>
         cases hv : vs[i]? with
         | none => simp [Instr.extract, hv, stuck] at this; exact absurd (show noRoomEvent ∈ #[] from this) (by simp)
         | some y => exact ht ⟨vs, y, rfl, hv⟩
        all_goals (simp [Instr.extract, stuck] at this; exact absurd (show noRoomEvent ∈ #[] from this) (by simp))
   exact key _ rfl
 . cases hp
theorem wpAny_of_mix {Q' : Exit -> Act -> World -> Prop} (hsel : Region.noSelect ops = true) (hQ : ∀ c a d v w, Q' (.panic c) (Act.put a d v) w -> Q' (.panic c) a w) :
 ∀ (l : List Oper) (k : Nat) (listed : Array Bool) (a : Act) (w : World), (∀ j, l[j]? = ops[k + j]?) -> mixB md ops l.length k listed = true -> wpList P ops Q' l a w -> wpAny P md ops Q' l.length listed a w
 | [], _, _, _, _, _, hB, h => ⟨by simpa [mixB] using hB, h⟩
 | o :: l, k, listed, a, w, hl, hB, h => by
   have h0 : ops[k]? = some o := by simpa using (hl 0).symm
   simp only [List.length_cons, mixB, Bool.and_eq_true, Bool.or_eq_true, decide_eq_true_eq] at hB
   have hl' : ∀ j, l[j]? = ops[k + 1 + j]? := fun j => by have := hl (j + 1); simpa [Nat.add_assoc, Nat.add_comm 1 j] using this
   rcases hB.1 with h1 | ⟨⟨h1, h2⟩, h3⟩
   . refine ⟨fun h2 => (by rw [h1] at h2; cases h2), fun i hi => ?_⟩
     rw [h1] at hi
     have hik : i = k := by simpa using hi
     subst hik
     have hw : wpOp P ops Q' i (wpList P ops Q' l) a w := by unfold wpOp; simp only [h0]; exact h
     exact wpOp_mono (fun a' w' h' => wpAny_of_mix hsel hQ l (i + 1) _ a' w' hl' hB.2 h') hw
   . obtain ⟨v, hy, h4⟩ := pure_yields h0 h3 h hQ
     exact wpAny_take h0 hsel h2 h1 (fun c a w => hQ c a _ _ w) hy (wpAny_of_mix hsel hQ l (k + 1) _ _ w hl' hB.2 h4)
theorem headM_first {n i : Nat} {oi : Oper} {v : Value} {L : Array Bool -> Act -> Prop} (hi : ops[i]? = some oi) (hsel : ∀ (j : Nat) (o : Oper) cs b, ops[j]? = some o -> o.op ≠ .select cs b)
 (hs : Region.sinkB md ops n = true) (hc : treeB md ops n = true) (hn : n < ops.size) (hin : i < n) (hdone : ∀ done a, L done a -> ∀ j ∈ Region.ready md ops done, n <= j) (f : Nat) :
 ∀ (done : Array Bool) (a : Act), HeadInv md ops n done ->
  (∀ j oj, ops[j]? = some oj -> j ≠ i -> done.getD j true = false -> (∀ e ∈ oj.after, Region.binds md e = true -> e.on ≠ i) -> oi.apart ops oj = true) ->
  i ∈ Region.ready md ops done -> YieldsIn P ops C oi v a -> headQ P md ops C n L f (done.setIfInBounds i true) (a.put oi.dst v) -> headQ P md ops C n L (f + 1) done a := by
 have below : ∀ done : Array Bool, HeadInv md ops n done -> i ∈ Region.ready md ops done -> ∀ j ∈ Region.ready md ops done, j < n := fun done inv hr j hj => by
  rcases Nat.lt_or_ge j n with h | h
  . exact h
  . exact absurd hj (tree_waits hs hc hn inv _ i rfl hin (mem_ready.1 hr).1 j h)
 induction f with
 | zero =>
   intro done a inv _ hr hy H
   refine ⟨fun h => (by rw [h] at hr; cases hr), fun j hj => ⟨below done inv hr j hj, ?_⟩⟩
   by_cases e : j = i
   . subst e; exact hy.qOp hi H
   . have := hdone _ _ H j (ready_mono hj e)
     have := below done inv hr j hj
     omega
 | succ f ih =>
   intro done a inv hfree hr hy H
   have hun := (mem_ready.1 hr).1
   refine ⟨fun h => (by rw [h] at hr; cases hr), fun j hj => ⟨below done inv hr j hj, ?_⟩⟩
   by_cases e : j = i
   . subst e; exact hy.qOp hi H
   . obtain ⟨hjun, oj, hoj, hall⟩ := mem_ready.1 hj
     have hnot : ∀ e ∈ oj.after, Region.binds md e = true -> e.on ≠ i := fun e he hb heq => by
      have h1 := hall e he hb
      rw [heq, getD_both hun] at h1
      cases h1
     have hstep := qOp_put hoj (hfree j oj hoj e hjun hnot) (fun cs b => hsel i oi cs b hi) (fun cs b => hsel j oj cs b hoj) hy (H.2 j (ready_mono hj e)).2
     refine qOp_mono (fun a' h3 => ih (done.setIfInBounds j true) a' (inv.set hj (below done inv hr j hj)) ?_ (ready_mono hr (Ne.symm e)) h3.1 ?_) hstep
     . intro k ok hk hki hku hno
       refine hfree k ok hk hki ?_ hno
       by_cases hjk : j = k
       . subst hjk; exact hjun
       . rwa [getD_set_ne true hjk] at hku
     . rw [Array.setIfInBounds_comm _ _ e]; exact h3.2
theorem headM_lex {n g : Nat} {T : Act -> Prop} (hsel : Region.noSelect ops = true) (hs : Region.sinkB md ops n = true) (hc : treeB md ops n = true) (hn : n < ops.size) (l : List Oper) :
 ∀ (k : Nat) (done : Array Bool) (a : Act), (∀ j, j < l.length -> l[j]? = ops[k + j]?) -> k + l.length = n -> HeadInv md ops n done ->
  lexMix md ops g l.length k done = true -> wpQuiet P ops C T l a -> headQ P md ops C n (fun done' a' => ((Region.ready md ops done').all (fun j => decide (n <= j)) = true /\ mixB md ops g n done' = true) /\ T a') l.length done a := by
 induction l with
 | nil =>
   intro k done a _ hk _ hB h
   obtain rfl : k = n := by simpa using hk
   exact ⟨by simpa [lexMix] using hB, h⟩
 | cons o l ih =>
   intro k done a hl hk inv hB h
   have h0 : ops[k]? = some o := by simpa using (hl 0 (by simp)).symm
   simp only [List.length_cons, lexMix, Bool.and_eq_true] at hB
   obtain ⟨⟨hr, hf⟩, hB'⟩ := hB
   have hkl : k + (l.length + 1) = n := by simpa using hk
   have hr' : k ∈ Region.ready md ops done := by simpa using hr
   have hq : qOp P ops C k (wpQuiet P ops C T l) a := by unfold qOp; simp only [h0]; exact h
   obtain ⟨v, hy, hK⟩ := yieldsIn_of_qOp h0 hq
   refine headM_first h0 (Region.noSelect_spec hsel) hs hc hn (by omega) (fun done' a' hL j hj => by simpa using List.all_eq_true.1 hL.1.1 j hj) l.length done a inv (Region.free_spec h0 hf) hr' hy ?_
   exact ih (k + 1) _ _ (fun j hj => by have := hl (j + 1) (by simpa using hj); simpa [Nat.add_assoc, Nat.add_comm 1 j] using this) (by omega) (inv.set hr' (by omega)) hB' hK
theorem wp_region_mix {id : Nat} {Q : Exit -> Act -> World -> Prop} {a : Act} {w : World} {l : List Oper} (n : Nat) (hm : P.follows .mixedOrders = true) (hB : lexMixB .any l.toArray n = true)
 (hQ : ∀ c a d v w, Q (.panic c) (Act.put a d v) w -> Q (.panic c) a w)
 (hC : C { w with drawn := w.drawn + 1 }) (h : wpQuiet P l.toArray C (fun a' => ∀ w', C w' -> wpList P l.toArray Q (l.drop n) a' w') (l.take n) a) : (Code.region id l.toArray true).wp P Q a w := by
 simp only [lexMixB, Bool.and_eq_true, decide_eq_true_eq] at hB
 obtain ⟨⟨⟨⟨hsel, hn⟩, hs⟩, hc⟩, hlex⟩ := hB
 have hn' : n < l.length := by simpa using hn
 have htl : (l.take n).length = n := by simp; omega
 have hdl : (l.drop n).length = l.toArray.size - n := by simp
 have inv0 : HeadInv .any l.toArray n (Array.replicate l.toArray.size false) :=
  ⟨by simp, fun j oj _ hl => (by rw [getD_replicate_false] at hl; cases hl), fun t _ ht => getD_in (by simpa using ht) (getD_replicate_false _ _)⟩
 have H := headM_lex (C := C) (md := .any) (g := l.toArray.size - n) hsel hs hc hn (l.take n) 0 _ a (fun j hj => by rw [htl] at hj; simp [hj]) (by simpa using htl) inv0 (by rw [htl]; exact hlex) h
 have key := headQ_sound (Q' := Q) (g := l.toArray.size - n) (fun done a' w' hw' hL => by
  have := wpAny_of_mix (md := .any) (Q' := Q) hsel hQ (l.drop n) n done a' w' (fun j => by simp [List.getElem?_drop]) (by rw [hdl]; exact hL.1.2) (hL.2 w' hw')
  rwa [hdl] at this) _ _ _ _ hC H
 rw [htl, show n + (l.toArray.size - n) = l.toArray.size by omega] at key
 exact wp_region_any hm key
end
theorem wp_region_mix_below {P : Program} {id : Nat} {Q : Exit -> Act -> World -> Prop} {a : Act} {w : World} {l : List Oper} (n : Nat) (hm : P.follows .mixedOrders = true) (hB : lexMixB .any l.toArray n = true)
 (hQ : ∀ c a d v w, Q (.panic c) (Act.put a d v) w -> Q (.panic c) a w)
 (h : wpQuiet P l.toArray (fun w' => ∃ p : Regrown, w' = grow (redrawn w p.d) p.os) (fun a' => ∀ w', (∃ p : Regrown, w' = grow (redrawn w p.d) p.os) -> wpList P l.toArray Q (l.drop n) a' w') (l.take n) a) : (Code.region id l.toArray true).wp P Q a w :=
 wp_region_mix (C := fun w' => ∃ p : Regrown, w' = grow (redrawn w p.d) p.os) n hm hB hQ ⟨⟨w.drawn + 1, #[]⟩, by rw [grow_empty]; rfl⟩ h
end Go.Proofs.YtcgmnjajodegmaaGreat.B
