/- Several texts in one: The law BoardPlays: whatever a board meets. Arguments of layer 11's laws that fit: a configuration, acts. BoardPlays. Layer .. -/
import Derived.Test.YtcgmnjajodegmaaGreatZTO
import Derived.Test.YtcgmnjajodegmaaGreatZTbs
import Derived.Deep.Cut
set_option linter.unusedVariables false
set_option linter.unusedSimpArgs false
set_option maxRecDepth 100000
namespace Go.Proofs.YtcgmnjajodegmaaGreat.B
open Go.ChangeShapes Go.WideShapes Go.RowKit Go.Sort
abbrev tCf : TypeId := 24
def cfO (n c d : Int) : Obj := .cells #[.int .i64 n, .int .i64 c, .int .u32 d] tCf (0, 0)
theorem bdNewNo (h k d : Int) (w : World) (d0 : 0 <= d) (hn : ¬ (1 <= h /\ h <= 8 /\ 1 <= k /\ k <= 8 /\ 0 < d)) :
 Calls Tryz.prog 8 #[.agg #[.int .i64 h, .int .i64 k, .int .u32 d]] w fun e w' => e = .returned (.tuple #[.pointer none, .int .i64 5]) /\ Below w.heap.size w w' := by
 by_cases h1 : h < 1 \/ 8 < h
 . exact bdNewHarts h k d w h1
 obtain ⟨m, rfl⟩ := Int.eq_ofNat_of_zero_le (show 0 <= h by omega)
 by_cases h2 : k < 1 \/ 8 < k
 . exact bdNewCounts k d w m (by omega) (by omega) h2
 obtain ⟨q, rfl⟩ := Int.eq_ofNat_of_zero_le (show 0 <= k by omega)
 obtain rfl : d = 0 := by omega
 exact bdNewDiv w m q (by omega) (by omega) (by omega) (by omega)
structure P11 (w0 w : World) (p n c : Nat) (d : Int) (C : Bp) (y : Bx) (bk ev : Value) : Prop where
 h : BdAt w C y
 nw : C.new w0.heap.size
 en : C.n = n
 ec : C.c = c
 ed : C.div = d
 N : NAt w p n y bk ev
 M : MV w c y bk ev
 lo : Below w0.heap.size w0 w
 hp : w0.heap.size <= p
section
variable {w0 w w' : World} {p n c : Nat} {d : Int} {C : Bp} {y : Bx} {bk ev : Value}
theorem P11.below (P : P11 w0 w p n c d C y bk ev) (hb : Below w.heap.size w w') : P11 w0 w' p n c d C y bk ev := ⟨P.h.below hb, P.nw, P.en, P.ec, P.ed, P.N.below hb, P.M.below hb, tr P.lo hb, P.hp⟩
theorem qnLoadB {o : Oper} {a : Act} {C : World -> Prop} {K : Act -> Prop} {b : Nat} {x : Bx} (y : Operand) (ho : o.op = .load 47 y) (hx : a.eval y = .pointer (some ⟨b, 0, none⟩)) (hg : ∀ w, C w -> NAt w b n x bk ev) (h : K (a.put o.dst (.agg (ml n x bk ev).toArray))) : o.quiet Tryz.prog a C K :=
 quiet_load_part _ y ho b 0 hx _ (ml n x bk ev) (fun w hw => hg w hw) Tryz.underlying47 rfl (by rw [ml_len]; exact iM11) (part_all _) h
end
end Go.Proofs.YtcgmnjajodegmaaGreat.B
namespace Go.Proofs.YtcgmnjajodegmaaGreat.B
open Go.ChangeShapes Go.WideShapes Go.RowKit Go.Sort Go.MapKept
theorem fits_wact {w : World} {cs : List Value} (h : Fits w (.pair (.int .i64) (.pair (.int .u64) (.pair (.int .u32) (.pair (.int .u32) .unit)))) cs) :
 ∃ K n o v : Int, cs = [.int .i64 K, .int .u64 n, .int .u32 o, .int .u32 v] /\ (-9223372036854775808 <= K /\ K < 9223372036854775808) /\ (0 <= n /\ n < 18446744073709551616) /\ (0 <= o /\ o < 4294967296) /\ (0 <= v /\ v < 4294967296) := by
 obtain ⟨_, _, rfl, ⟨K, rfl, hK⟩, _, _, rfl, ⟨n, rfl, hn⟩, _, _, rfl, ⟨o, rfl, ho⟩, _, _, rfl, ⟨v, rfl, hv⟩, rfl⟩ := h
 have kt1 := bounds_i64 hK
 have n1 := bounds_u64 hn
 have o1 := bounds_u32 ho
 have v1 := bounds_u32 hv
 exact ⟨K, n, o, v, rfl, by omega, by omega, by omega, by omega⟩
theorem acts_fit {w : World} {x : Value} (h : FitsV w (.slice (.pair (.int .i64) (.pair (.int .u64) (.pair (.int .u32) (.pair (.int .u32) .unit))))) x) :
 ∃ (y : Option Addr) (len cap : Nat), x = .slice y len cap /\ (len = 0 \/ ∃ b off, y = some ⟨b, off, none⟩ /\ len <= cap /\ cap <= maxLen /\ b < w.heap.size /\ ∀ i, i < cap -> ∃ K n o v : Int, w.cell? ⟨b, off + i * 4, none⟩ = some (.int .i64 K) /\ w.cell? ⟨b, off + i * 4 + 1, none⟩ = some (.int .u64 n) /\ w.cell? ⟨b, off + i * 4 + 2, none⟩ = some (.int .u32 o) /\ w.cell? ⟨b, off + i * 4 + 3, none⟩ = some (.int .u32 v) /\
  (-9223372036854775808 <= K /\ K < 9223372036854775808) /\ (0 <= n /\ n < 18446744073709551616) /\ (0 <= o /\ o < 4294967296) /\ (0 <= v /\ v < 4294967296)) := by
 obtain ⟨y, len, cap, rfl, hy⟩ := fits_slice h (by simp [Sh.size])
 refine ⟨y, len, cap, rfl, ?_⟩
 rcases hy with hy | ⟨b, off, rfl, hl, hm, hb, hz⟩
 . exact .inl hy
 refine .inr ⟨b, off, rfl, hl, hm, hb, fun i hi => ?_⟩
 obtain ⟨cs, hcl, hcell, hf⟩ := hz i hi
 obtain ⟨K, n, o, v, rfl, hK⟩ := fits_wact hf
 have e0 := hcell 0 (by simp [Sh.size])
 have e1 := hcell 1 (by simp [Sh.size])
 have e2 := hcell 2 (by simp [Sh.size])
 have e3 := hcell 3 (by simp [Sh.size])
 simp only [Sh.size] at e0 e1 e2 e3
 exact ⟨K, n, o, v, e0, e1, e2, e3, hK⟩
theorem fits_cfg {w : World} {v : Value} (h : FitsV w (.pair (.int .i64) (.pair (.int .i64) (.pair (.int .u32) .unit))) v) :
 ∃ n c d : Int, v = .agg #[.int .i64 n, .int .i64 c, .int .u32 d] /\ 0 <= d /\ d < 4294967296 := by
 obtain ⟨l, rfl, _, _, rfl, ⟨n, rfl, hn⟩, _, _, rfl, ⟨c, rfl, hc⟩, _, _, rfl, ⟨d, rfl, hd⟩, rfl⟩ := h
 have d1 := bounds_u32 hd
 exact ⟨n, c, d, rfl, by omega, by omega⟩
end Go.Proofs.YtcgmnjajodegmaaGreat.B
namespace Go.Proofs.YtcgmnjajodegmaaGreat.B
open Go.ChangeShapes Go.WideShapes Go.RowKit Go.Sort
def xz : Bx := ⟨0, fun _ => 0, fun _ => 0, fun _ => tz, wz, ⟨0, 0, 0, false⟩, ⟨0, 0, 0, 0, 0, 0, false, false⟩, 0, []⟩
theorem buildZ (w : World) : (Instr.build 47 #[]).run Tryz.prog w = .ok (.agg (ml 0 xz (.slice none 0 0) (.slice none 0 0)).toArray) w := by kernel_rfl
theorem resNT {fn : Func} {p q : Tmp} (h : fn.results = #[.tmp q, .cell p 47]) (tmps : Array Value) (w : World) {b n : Nat} {x : Bx} {bk ev : Value} (y : Value) (hq : tmps[q]? = some y) (hp : tmps[p]? = some (.pointer (some ⟨b, 0, none⟩))) (hg : NAt w b n x bk ev) :
 (results fn tmps).run Tryz.prog w = .ok (.tuple #[y, .agg (ml n x bk ev).toArray]) w := by
 simp [results, h, hp, hq, asAddr, loadVar_part w b 0 _ _ _ _ _ (ml n x bk ev) hg Tryz.underlying47 rfl (by rw [ml_len]; exact iM11) (part_all _)]
section
variable {w0 w w' : World} {p n c : Nat} {d : Int} {C : Bp} {y : Bx} {bk ev : Value}
theorem yDoM (K N a v : Int) (P : P11 w0 w p n c d C y bk ev) (hl : y.es.length < 4294967290) (n0 : 0 <= N) (n1 : N < 18446744073709551616) (a0 : 0 <= a) (a1 : a < 4294967296) (v0 : 0 <= v) (v1 : v < 4294967296) :
 Calls Tryz.prog 13 #[.pointer (some ⟨C.b, 0, none⟩), .agg (ml n y bk ev).toArray, .agg #[.int .i64 K, .int .u64 N, .int .u32 a, .int .u32 v]] w fun e w' =>
  ∃ C' y' bk' ev', e = .returned (.tuple #[.pointer (some ⟨C'.b, 0, none⟩), .agg (ml n y' bk' ev').toArray, .bool true]) /\ Nx n c y y' /\ NAt w' p n y bk ev /\ (bk'.oneCell' = true /\ ev'.oneCell' = true) /\ Kp w w' /\
   ∀ w'', NAt w'' p n y' bk' ev' -> Off (· = p) w' w'' -> P11 w0 w'' p n c d C' y' bk' ev' := by
 have h := yDo C y bk ev K N a v w0.heap.size w P.h P.nw P.lo.size (P.ec ▸ P.M) hl n0 n1 a0 a1 v0 v1
 rw [P.en] at h
 refine h.mono ?_
 rintro e w' ⟨C', y', bk', ev', rfl, h1, h2, ⟨h3, h4, h5⟩, h6, h7, h8, h9⟩
 have hN := P.N.kp h9
 have hc : C'.c = c := h4.trans P.ec
 have hM : MV w' c y' bk' ev' := P.ec ▸ h6
 rw [P.en, P.ec] at h7
 refine ⟨C', y', bk', ev', by rw [P.en], h7, hN, hM.one, h9, fun w'' hN' ho => ⟨h1.offk ho hN (by decide), h2, h3.trans P.en, hc, h5.trans P.ed, hN', mv_offM hM ho hN, Off.toBelow (P.lo.trans h8) ho (fun k hk e => by have := P.hp; omega) (Nat.le_refl _), P.hp⟩⟩
def ZAt (w : World) (r : Nat) : Prop := ∃ cs : Array Value, w.heap[r]? = some (.cells cs tM11 (0, 0)) /\ cs.size = 110
theorem ZAt.kp {r : Nat} (h : ZAt w r) (K : Kp w w') : ZAt w' r := by obtain ⟨cs, h1, h2⟩ := h; exact ⟨cs, K _ _ _ _ h1 (by decide), h2⟩
theorem ZAt.below {r : Nat} (h : ZAt w r) (hb : Below w.heap.size w w') : ZAt w' r := h.kp (Kp.ofBelow hb)
theorem ZAt.off {r : Nat} (h : ZAt w r) (ho : Off (· = p) w w') (hne : r ≠ p) : ZAt w' r := by obtain ⟨cs, h1, h2⟩ := h; exact ⟨cs, ho.at h1 hne, h2⟩
end
def MdPost11 (n c : Nat) (d : Int) (w : World) (e : Ending) (w' : World) : Prop := ∃ C x bk ev, e = .returned (.tuple #[.pointer (some ⟨C.b, 0, none⟩), .agg (ml n x bk ev).toArray]) /\ BdAt w' C x /\ C.new w.heap.size /\ (C.n = n /\ C.c = c /\ C.div = d) /\ x.asc /\ x.es.length <= 40 /\ (bk.oneCell' = true /\ ev.oneCell' = true) /\ Below w.heap.size w w'
theorem made_end {w0 w w' : World} {p r n c : Nat} {d : Int} {C : Bp} {x : Bx} {bk ev : Value} (P : P11 w0 w p n c d C x bk ev) (ha : x.asc) (hl : x.es.length <= 40) (hz : ZAt w r) (hr : w0.heap.size <= r) (ho : Off (· = r) w w') :
 MdPost11 n c d w0 (.returned (.tuple #[.pointer (some ⟨C.b, 0, none⟩), .agg (ml n x bk ev).toArray])) w' := by
 obtain ⟨cs, h1, h2⟩ := hz
 exact ⟨C, x, bk, ev, rfl, P.h.offk ho h1 (by decide), P.nw, ⟨P.en, P.ec, P.ed⟩, ha, hl, P.M.one, Off.toBelow P.lo ho (fun k hk e => by omega) (Nat.le_refl _)⟩
set_option maxHeartbeats 6400000 in
theorem made1 (w : World) (n c : Nat) (d : Int) (n0 : 1 <= n) (n8 : n <= 8) (c0 : 1 <= c) (c8 : c <= 8) (d0 : 1 <= d) (d1 : d < 4294967296) (y : Option Addr) (len cap : Nat) (hy : len = 0 \/ ∃ b off, y = some ⟨b, off, none⟩ /\ len <= cap /\ cap <= maxLen /\ b < w.heap.size /\ ∀ i, i < cap -> ∃ K n o v : Int, w.cell? ⟨b, off + i * 4, none⟩ = some (.int .i64 K) /\ w.cell? ⟨b, off + i * 4 + 1, none⟩ = some (.int .u64 n) /\ w.cell? ⟨b, off + i * 4 + 2, none⟩ = some (.int .u32 o) /\ w.cell? ⟨b, off + i * 4 + 3, none⟩ = some (.int .u32 v) /\
 (-9223372036854775808 <= K /\ K < 9223372036854775808) /\ (0 <= n /\ n < 18446744073709551616) /\ (0 <= o /\ o < 4294967296) /\ (0 <= v /\ v < 4294967296)) :
 Calls Tryz.prog 15 #[.agg #[.int .i64 n, .int .i64 c, .int .u32 d], .slice y len cap] w (MdPost11 n c d w) := by
 have HY := Hd hy
 have HNEW := Hd (fun w' => bdNew n c d w' n0 n8 c0 c8 d0 d1)
 have HYN := Hd (fun w' => yNew n c d w' n8 c8)
 have HC := Hd (show ((w.alloc (cfO n c d)).alloc zM11).heap[w.heap.size]? = some (cfO n c d) from b2_0 w _ _)
 have HZ := Hd (show ZAt ((w.alloc (cfO n c d)).alloc zM11) (w.heap.size + 1) from ⟨_, b2_1 w _ _, rfl⟩)
 have HB := Hd (trA (trA (tr0 w) (cfO n c d)) zM11)
 clear hy n0 n8 c0 c8 d0 d1
 go_enter Tryz.func15, Tryz.ntmps15
 go_upto_region 1 with (fail)
 rw [show Obj.cells #[.int .i64 n, .int .i64 c, .int .u32 d] 24 (0, 0) = cfO n c d from rfl, zM11_eq]
 generalize (w.alloc (cfO n c d)).alloc zM11 = W at *
 have e0 := blk_cell HC.out 0
 have e1 := blk_cell HC.out 1
 have e2 := blk_cell HC.out 2
 simp at e0 e1 e2
 go_upto_region 2 with (go_at_call 8; refine (HNEW.out _).mono ?_; rintro e w1 ⟨B, rfl, h1, hb, h3, h7, h8, h9⟩; have HH := Hd h1; have HNW := Hd (show B.new w.heap.size from fun k hk => Nat.le_trans HB.out.size (h3 k hk)); have HE := Hd (And.intro h7 (And.intro h8 h9)); have HC := Hd (blk_below hb HC.out (lt_of_block HC.out)); have HZ := Hd (HZ.out.below hb); have HB := Hd (tr HB.out hb); clear e0 e1 e2 h1 hb h3 h7 h8 h9 HNEW)
 have e0 := blk_cell HC.out 0
 have e1 := blk_cell HC.out 1
 have e2 := blk_cell HC.out 2
 simp at e0 e1 e2
 go_upto_region 5 with (first | (go_at_call 12; refine (HYN.out _).mono ?_; rintro e w4 ⟨bk, ev, rfl, M, hb⟩; have HM := Hd M; have HH := Hd (HH.out.below hb); have HZ := Hd (HZ.out.below hb); have HB := Hd (tr HB.out hb); clear M hb e0 e1 e2) | (rw [zM11_eq]; refine nStoreB rfl (.tmp 8) (.tmp 28) rfl rfl (bx0 d) bk ev _ rfl (blk_new w4 zM11) rfl HM.out.one ?_; intro w5 hN5 ho5; have hb := Off.toBelow (trA (tr0 w4) zM11) ho5 (fun k hk e => by omega) (Nat.le_refl _); have HP := Hd (show P11 w w5 w4.heap.size n c d B (bx0 d) bk ev from ⟨HH.out.below hb, HNW.out, HE.out.1, HE.out.2.1, HE.out.2.2, hN5, HM.out.below hb, tr HB.out hb, HB.out.size⟩); have HNE := Hd (show w.heap.size + 1 ≠ w4.heap.size from by obtain ⟨cz, hz1, _⟩ := HZ.out; have := lt_of_block hz1; omega); have HZ := Hd (HZ.out.below hb); clear hb hN5 ho5))
 generalize w4.heap.size = p at *
 clear HH HM HB HC HNW HE
 have hx0 : (bx0 d).es.length <= 0 := Nat.le_refl _
 have ha0 : (bx0 d).asc := asc_nil rfl
 generalize bx0 d = x0 at *
 go_wp2_with fail
 go_loopw [6, 9] (fun l i wr => ∃ (k : Nat) (C : Bp) (x : Bx) (bk ev : Value), k <= len /\ k <= 40 /\ i = .int .i64 k /\ l = .pointer (some ⟨C.b, 0, none⟩) /\ x.es.length <= k /\ x.asc /\ P11 w wr p n c d C x bk ev /\ ZAt wr (w.heap.size + 1)) (fun l i wr => len - (intOf i).toNat)
 case atStart => exact ⟨0, B, x0, bk, ev, by omega, by omega, rfl, rfl, hx0, ha0, HP.out, HZ.out⟩
 case round =>
  clear HP hx0 HZ ha0
  obtain ⟨k, C, x, bk, ev, hk, hkl, rfl, rfl, hxl, ha, P, Z⟩ := hrel
  have HP := Hd P
  have HZ := Hd Z
  have HA := Hd ha
  clear P Z ha
  by_cases hlt : k < len /\ k < 40
  . obtain ⟨hlt, hlm⟩ := hlt
    rcases HY.out with hy | ⟨z, off, rfl, hlc, hcm, hbl, hz⟩
    . omega
    unfold maxLen at hcm
    obtain ⟨K, N, a, v, c0, c1, c2, c3, ⟨k0, kt1⟩, ⟨n0, n1⟩, ⟨a0, a1⟩, ⟨v0, v1⟩⟩ := hz k (by omega)
    rw [<- HP.out.lo.cell (p := ⟨z, _, none⟩) (by simpa using hbl)] at c0 c1 c2 c3
    clear hz
    have hbw : z < wr.heap.size := by have := HP.out.lo.size; omega
    have hg := gcell
    go_wp2_with fail
    refine wp_region_mix_below 6 (by kernel_rfl) (by kernel_rfl) (by intro _ _ d _ _ h; cases d <;> exact h) ?_
    simp only [List.take_succ_cons, List.take_zero, List.drop_succ_cons, List.drop_zero]
    repeat (first
     | go_big_quiet_skip
     | (go_big_quiet_want; first
         | (refine qnLoadB (.tmp 8) rfl rfl HP.out.N.grown ?_; go_simp; go_big_quiet_on)
         | (go_big_quiet_op; first | go_big_quiet_on)))
    refine wpQuiet_nil ?_
    intro _ hw'
    obtain ⟨⟨dq, osq⟩, hw''⟩ := hw'
    subst hw''
    have HP := Hd (HP.out.below (below_regrown wr dq osq))
    have HZ := Hd (HZ.out.below (below_regrown wr dq osq))
    clear c0 c1 c2 c3 hg hbw
    dsimp only at HP HZ ⊢
    generalize grow (redrawn wr dq) osq = W1 at *
    go_upto_region 9 with (first | (go_at_call 13; refine (yDoM K N a v HP.out (by omega) n0 n1 a0 a1 v0 v1).mono ?_; rintro e W2 ⟨C', x', bk', ev', rfl, hnx, hN2, hone, hkp, hend⟩; have HNX := Hd hnx; have HN2 := Hd hN2; have HEND := Hd hend; have HONE := Hd hone; have HZ := Hd (HZ.out.kp hkp); clear hnx hN2 hone hkp hend) | (refine nStoreB rfl (.tmp 8) (.tmp 48) rfl rfl x' bk' ev' _ rfl HN2.out (by rw [List.size_toArray, ml_len]) HONE.out ?_; intro W3 hN3 ho3; have HP3 := Hd (HEND.out W3 hN3 ho3); have HZ := Hd (HZ.out.off ho3 HNE.out); clear hN3 ho3 HEND))
    have hxl2 : x'.es.length <= k + 1 := by have := HNX.out.len; omega
    have HA2 := Hd (HNX.out.asc (by have := HP.out.h.ok; rw [HP.out.en, HP.out.ec] at this; exact this) HP.out.h.still HA.out)
    go_wp2_with fail
    go_roundw
    case rel => exact ⟨k + 1, C', x', bk', ev', by omega, by omega, by go_num, rfl, hxl2, HA2.out, HP3.out, HZ.out⟩
    case measure => simp [intOf]; omega
  . have hx40 : x.es.length <= 40 := by omega
    by_cases hlt2 : k < len
    all_goals
     go_upto_region 11 with (fail)
     have HP := Hd (HP.out.below (trD (tr0 wr)))
     have HZ := Hd (HZ.out.below (trD (tr0 wr)))
     refine wp_region_held_drew (S := fun w' => NAt w' p n x bk ev) (by kernel_rfl) HP.out.N (fun _ => ?_)
     generalize wr.drew = W5 at *
     refine tkH (i := 0) (v := .pointer (some ⟨C.b, 0, none⟩)) rfl (by kernel_rfl) (fun _ _ _ h => h) (fun w' hSw => by clear hSw; go_simp) HP.out.N ?_
     simp only [lgA, lgZ, lgS, Act.put, lsA, lsZ, lsS]
     refine tkH (i := 1) (v := .agg (ml n x bk ev).toArray) rfl (by kernel_rfl) (fun _ _ _ h => h) (fun w' hSw => rnLoadB (.tmp 8) rfl rfl hSw) HP.out.N ?_
     simp only [lgA, lgZ, lgS, Act.put, lsA, lsZ, lsS]
     refine tkH (i := 2) (v := .pointer (some ⟨C.b, 0, none⟩)) rfl (by kernel_rfl) (fun _ _ _ h => h) (fun w' hSw => by clear hSw; go_simp) HP.out.N ?_
     simp only [lgA, lgZ, lgS, Act.put, lsA, lsZ, lsS]
     refine rdH (i := 3) (by kernel_rfl) rfl fun K hK => ?_
     refine step_store_B rfl (.tmp 5) (.tmp 54) rfl rfl n x bk ev rfl HZ.out HP.out.M.one ?_
     intro W9 hN9 ho9
     have HX := Hd (made_end HP.out HA.out hx40 HZ.out (Nat.le_succ _) ho9)
     have hS9 : NAt W9 p n x bk ev := ho9.at HP.out.N (fun e => HNE.out e.symm)
     refine hK.out _ _ hS9 (fun _ => ?_)
     clear hK K ho9 hS9
     simp only [Act.put]
     refine wpAnyH_done (by kernel_rfl) ?_ _
     go_wp2_with fail
     exact bodyPost_ret (resNT rfl _ _ _ rfl rfl hN9) rfl HX.out
set_option maxHeartbeats 3200000 in
theorem made0 (w : World) (n c d : Int) (d0 : 0 <= d) (hn : ¬ (1 <= n /\ n <= 8 /\ 1 <= c /\ c <= 8 /\ 0 < d)) (y : Option Addr) (len cap : Nat) :
 Calls Tryz.prog 15 #[.agg #[.int .i64 n, .int .i64 c, .int .u32 d], .slice y len cap] w fun e w' => e = .returned (.tuple #[.pointer none, .agg (ml 0 xz (.slice none 0 0) (.slice none 0 0)).toArray]) /\ Below w.heap.size w w' := by
 have HNEW := Hd (fun w' => bdNewNo n c d w' d0 hn)
 have HC := Hd (show ((w.alloc (cfO n c d)).alloc zM11).heap[w.heap.size]? = some (cfO n c d) from b2_0 w _ _)
 have HZ := Hd (show ZAt ((w.alloc (cfO n c d)).alloc zM11) (w.heap.size + 1) from ⟨_, b2_1 w _ _, rfl⟩)
 have HB := Hd (trA (trA (tr0 w) (cfO n c d)) zM11)
 have hbz := buildZ
 clear hn d0
 go_enter Tryz.func15, Tryz.ntmps15
 go_upto_region 1 with (fail)
 rw [show Obj.cells #[.int .i64 n, .int .i64 c, .int .u32 d] 24 (0, 0) = cfO n c d from rfl, zM11_eq]
 generalize (w.alloc (cfO n c d)).alloc zM11 = W at *
 have e0 := blk_cell HC.out 0
 have e1 := blk_cell HC.out 1
 have e2 := blk_cell HC.out 2
 simp at e0 e1 e2
 go_upto_region 2 with (go_at_call 8; refine (HNEW.out _).mono ?_; rintro e w1 ⟨rfl, hb⟩; have HZ := Hd (HZ.out.below hb); have HB := Hd (tr HB.out hb); clear e0 e1 e2 hb HNEW)
 go_wp2_with (obtain ⟨cz, hz1, hz2⟩ := HZ.out; refine nStoreB rfl (.tmp 5) (.tmp 21) rfl rfl xz (.slice none 0 0) (.slice none 0 0) 0 rfl hz1 hz2 ⟨rfl, rfl⟩ ?_; intro W9 hN9 ho9; have HX := Hd (Off.toBelow HB.out ho9 (fun k hk e => by omega) (Nat.le_refl _)); clear ho9 hz1 hz2)
 exact bodyPost_ret (resNT rfl _ _ _ rfl rfl hN9) rfl ⟨rfl, HX.out⟩
def Acts (w : World) (y : Option Addr) (len cap : Nat) : Prop := len = 0 \/ ∃ b off, y = some ⟨b, off, none⟩ /\ len <= cap /\ cap <= maxLen /\ b < w.heap.size /\ ∀ i, i < cap -> ∃ K n o v : Int, w.cell? ⟨b, off + i * 4, none⟩ = some (.int .i64 K) /\ w.cell? ⟨b, off + i * 4 + 1, none⟩ = some (.int .u64 n) /\ w.cell? ⟨b, off + i * 4 + 2, none⟩ = some (.int .u32 o) /\ w.cell? ⟨b, off + i * 4 + 3, none⟩ = some (.int .u32 v) /\ (-9223372036854775808 <= K /\ K < 9223372036854775808) /\ (0 <= n /\ n < 18446744073709551616) /\ (0 <= o /\ o < 4294967296) /\ (0 <= v /\ v < 4294967296)
theorem Acts.below {w w' : World} {y : Option Addr} {len cap : Nat} (h : Acts w y len cap) (hb : Below w.heap.size w w') : Acts w' y len cap := by
 rcases h with h | ⟨b, off, h1, h2, h3, h4, h5⟩
 . exact .inl h
 . refine .inr ⟨b, off, h1, h2, h3, Nat.lt_of_lt_of_le h4 hb.size, fun i hi => ?_⟩
   obtain ⟨K, N, a, v, c0, c1, c2, c3, h6⟩ := h5 i hi
   rw [<- hb.cell (p := ⟨b, _, none⟩) (by simpa using h4)] at c0 c1 c2 c3
   exact ⟨K, N, a, v, c0, c1, c2, c3, h6⟩
structure Tri (w : World) (B C E : Bp) (x y z : Bx) : Prop where
 a : BdAt w B x
 b : BdAt w C y
 e : BdAt w E z
 ab : ∀ k, C.all k -> ¬ B.own k
 ba : ∀ k, B.all k -> ¬ C.own k
 ae : ∀ k, E.all k -> ¬ B.own k
 be : ∀ k, E.all k -> ¬ C.own k
section
variable {w w' w'' : World} {B C E : Bp} {x y z u : Bx}
theorem Tri.below (T : Tri w B C E x y z) (hb : Below w.heap.size w w') : Tri w' B C E x y z := ⟨T.a.below hb, T.b.below hb, T.e.below hb, T.ab, T.ba, T.ae, T.be⟩
theorem Tri.swap (T : Tri w B C E x y z) : Tri w C B E y x z := ⟨T.b, T.a, T.e, T.ba, T.ab, T.be, T.ae⟩
theorem own_ev {ev' : Value} (h : ∀ k, ev'.ownBlock = some k -> B.ev.ownBlock = some k \/ w.heap.size <= k) {k : Nat} (hk : ({ B with ev := ev' } : Bp).own k) : B.own k \/ w.heap.size <= k := by
 rcases hk with h1 | h1 | h1
 . exact .inl (.inl h1)
 . exact .inl (.inr (.inl h1))
 . exact (h k h1).imp (fun e => .inr (.inr e)) id
theorem all_ev {ev' : Value} (h : ∀ k, ev'.ownBlock = some k -> B.ev.ownBlock = some k \/ w.heap.size <= k) {k : Nat} (hk : ({ B with ev := ev' } : Bp).all k) : B.all k \/ w.heap.size <= k := by
 rcases hk with h1 | h1 | h1
 . exact (own_ev h h1).imp .inl id
 . exact .inl (.inr (.inl h1))
 . exact .inl (.inr (.inr h1))
theorem Tri.left {s : Nat} (T : Tri w B C E x y z) (L : Left B u w w') (h : B.new s) (hs : s <= w.heap.size) : ∃ B', Tri w' B' C E u y z /\ B'.new s /\ Below s w w' /\ (B'.b = B.b /\ B'.n = B.n /\ B'.c = B.c) := by
 obtain ⟨ev', h1, ho, he⟩ := L
 refine ⟨{ B with ev := ev' }, ⟨h1, T.b.off ho T.ab, T.e.off ho T.ae, fun k hk hk2 => ?_, fun k hk hk2 => ?_, fun k hk hk2 => ?_, T.be⟩, left_new h hs he, ho.below (fun k hk ho => by have := h k (.inl ho); omega) hs, rfl, rfl, rfl⟩
 . exact (own_ev he hk2).elim (T.ab k hk) fun e => by have := T.b.lt hk; omega
 . exact (all_ev he hk).elim (fun e => T.ba k e hk2) fun e => by have := T.b.lt (.inl hk2); omega
 . exact (own_ev he hk2).elim (T.ae k hk) fun e => by have := T.e.lt hk; omega
theorem tri_copies (H : BdAt w E z) (hb : Below w.heap.size w w') (h1 : BdAt w' B z) (hn1 : B.new w.heap.size) (hb2 : Below w'.heap.size w' w'') (h2 : BdAt w'' C z) (hn2 : C.new w'.heap.size) : Tri w'' B C E z z z :=
 have hz := hb.size
 ⟨h1.below hb2, h2, (H.below hb).below hb2,
  fun k hk ho => by have := hn2 k hk; have := h1.lt (.inl ho); omega,
  fun k hk ho => by have := hn2 k (.inl ho); have := h1.lt hk; omega,
  fun k hk ho => by have := hn1 k (.inl ho); have := H.lt hk; omega,
  fun k hk ho => by have := hn2 k (.inl ho); have := H.lt hk; omega⟩
end
end Go.Proofs.YtcgmnjajodegmaaGreat.B
