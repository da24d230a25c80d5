/- Several texts in one: A configuration that fits. A configuration's block; New of a wrong one. Arguments of layer 12's laws that fit: gaps, acts. -/
import Derived.Test.YtpojmmgokgamgaaGreatZVaw
import Derived.Test.YtpojmmgokgamgaaGreatZVaz
import Derived.Test.YtpojmmgokgamgaaGreatZVO
set_option linter.unusedVariables false
set_option linter.unusedSimpArgs false
set_option maxRecDepth 100000
namespace Go.Proofs.YtpojmmgokgamgaaGreat.B
open Go.ChangeShapes Go.WideShapes Go.RowKit Go.Sort Go.MapKept
theorem fits_cfg {w : World} {v : Value} (h : FitsV w (.pair (.int .i64) (.pair (.int .i64) (.pair (.int .u32) .unit))) v) :
 ∃ n c d : Int, v = .agg #[.int .i64 n, .int .i64 c, .int .u32 d] /\ 0 <= d /\ d < 4294967296 := by
 obtain ⟨l, rfl, _, _, rfl, ⟨n, rfl, hn⟩, _, _, rfl, ⟨c, rfl, hc⟩, _, _, rfl, ⟨d, rfl, hd⟩, rfl⟩ := h
 have d1 := bounds_u32 hd
 exact ⟨n, c, d, rfl, by omega, by omega⟩
end Go.Proofs.YtpojmmgokgamgaaGreat.B
namespace Go.Proofs.YtpojmmgokgamgaaGreat.B
open Go.ChangeShapes Go.WideShapes Go.RowKit Go.Sort
abbrev tCf : TypeId := 24
def cfO (n c d : Int) : Obj := .cells #[.int .i64 n, .int .i64 c, .int .u32 d] tCf (0, 0)
theorem bdNewNo (h k d : Int) (w : World) (d0 : 0 <= d) (hn : ¬ (1 <= h /\ h <= 8 /\ 1 <= k /\ k <= 8 /\ 0 < d)) :
 Calls Tryz.prog 6 #[.agg #[.int .i64 h, .int .i64 k, .int .u32 d]] w fun e w' => e = .returned (.tuple #[.pointer none, .int .i64 5]) /\ Below w.heap.size w w' := by
 by_cases h1 : h < 1 \/ 8 < h
 . exact bdNewHarts h k d w h1
 obtain ⟨m, rfl⟩ := Int.eq_ofNat_of_zero_le (show 0 <= h by omega)
 by_cases h2 : k < 1 \/ 8 < k
 . exact bdNewCounts k d w m (by omega) (by omega) h2
 obtain ⟨q, rfl⟩ := Int.eq_ofNat_of_zero_le (show 0 <= k by omega)
 obtain rfl : d = 0 := by omega
 exact bdNewDiv w m q (by omega) (by omega) (by omega) (by omega)
def RawG (w : World) (y : Option Addr) (len cap : Nat) : Prop := len <= cap /\ cap <= maxLen /\ (len = 0 \/ ∃ b off, ∃ zs : Nat -> Int, y = some ⟨b, off, none⟩ /\ b < w.heap.size /\ ∀ i, i < cap -> w.cell? ⟨b, off + i, none⟩ = some (.int .u32 (zs i)) /\ 0 <= zs i /\ zs i < 4294967296)
theorem fits_gaps {w : World} {cs : List Value} (h : Fits w (.slice (.int .u32)) cs) : ∃ y len cap, cs = [.slice y len cap] /\ RawG w y len cap := by
 rcases h with rfl | ⟨x, len, cap, rfl, h1, h2, h3⟩
 . exact ⟨none, 0, 0, rfl, Nat.le_refl _, Nat.zero_le _, .inl rfl⟩
 refine ⟨some x, len, cap, rfl, h1, h2, ?_⟩
 by_cases hl : len = 0
 . exact .inl hl
 . right
   have g : ∀ i, i < cap -> ∃ n : Int, w.cell? (x.add i) = some (.int .u32 n) /\ (Lit.int .u32 n).wf = true := fun i hi => by
    obtain ⟨cs, hl, hcell, n, hn, hw⟩ := h3 i hi
    have := hcell 0 (by simp [Sh.size])
    rw [hn] at this
    exact ⟨n, by simpa [Sh.size] using this, hw⟩
   obtain ⟨n0, hc0, _⟩ := g 0 (by omega)
   obtain ⟨hx, hb⟩ := addr_of_cell hc0
   refine ⟨x.block, x.off, fun i => if h : i < cap then (g i h).choose else 0, by rw [<- hx], hb, fun i hi => ?_⟩
   simp only [hi, dite_true]
   have hs := (g i hi).choose_spec
   generalize (g i hi).choose = z at *
   have hu := bounds_u32 hs.2
   refine ⟨?_, by omega, by omega⟩
   rw [<- hs.1]
   rw [hx, add_form]
theorem fitsV_gaps {w : World} {v : Value} (h : FitsV w (.slice (.int .u32)) v) : ∃ y len cap, v = .slice y len cap /\ RawG w y len cap := by
 obtain ⟨y, len, cap, he, h1⟩ := fits_gaps (w := w) (cs := [v]) h
 exact ⟨y, len, cap, by simpa using he, h1⟩
theorem RawG.keep {w w' : World} {y : Option Addr} {len cap : Nat} (h : RawG w y len cap) (hb : Below w.heap.size w w') : RawG w' y len cap := by
 obtain ⟨h1, h2, h3⟩ := h
 refine ⟨h1, h2, h3.imp id ?_⟩
 rintro ⟨b, off, zs, rfl, hl, hc⟩
 exact ⟨b, off, zs, rfl, Nat.lt_of_lt_of_le hl hb.size, fun i hi => by rw [hb.cell (p := ⟨b, _, none⟩) hl]; exact hc i hi⟩
theorem RawG.gaps {w0 w : World} {y : Option Addr} {len cap : Nat} (h : RawG w0 y len cap) (hb : Below w0.heap.size w0 w) (n : Nat) (hn : n <= len) : ∃ gs : List Int, gs.length = n /\ (∀ g ∈ gs, 0 <= g /\ g < 4294967296) /\ GAt w0.heap.size w (.slice y n cap) gs := by
 obtain ⟨h1, h2, h3⟩ := h
 by_cases h0 : n = 0
 . subst h0
   exact ⟨[], rfl, (fun g hg => by cases hg), y, cap, rfl, Nat.zero_le _, h2, .inl rfl⟩
 . obtain ⟨b, off, zs, rfl, hl, hc⟩ := h3.resolve_left (by omega)
   refine ⟨(List.range n).map zs, by simp, fun g hg => ?_, _, cap, by simp, by simp; omega, h2, .inr ⟨b, off, rfl, Nat.lt_of_lt_of_le hl hb.size, .inl hl, fun i g hi => ?_⟩⟩
   . obtain ⟨i, hi, rfl⟩ := List.mem_map.1 hg
     exact (hc i (by have := List.mem_range.1 hi; omega)).2
   . rw [hb.cell (p := ⟨b, off + i, none⟩) hl]
     have hin : i < n := by have := (List.getElem?_eq_some_iff.1 hi).1; simpa using this
     rw [(hc i (by omega)).1]
     rw [List.getElem?_map, List.getElem?_range hin] at hi
     simp at hi
     rw [hi]
def ActAt (w : World) (b o : Nat) : Prop := ∃ (K a v : Int) (y : Option Addr) (len cap : Nat) (N : Int), w.cell? ⟨b, o, none⟩ = some (.int .i64 K) /\ w.cell? ⟨b, o + 1, none⟩ = some (.int .u32 a) /\ w.cell? ⟨b, o + 2, none⟩ = some (.int .u32 v) /\ w.cell? ⟨b, o + 3, none⟩ = some (.slice y len cap) /\ w.cell? ⟨b, o + 4, none⟩ = some (.int .u64 N) /\ RawG w y len cap /\
 (-9223372036854775808 <= K /\ K < 9223372036854775808) /\ (0 <= a /\ a < 4294967296) /\ (0 <= v /\ v < 4294967296) /\ (0 <= N /\ N < 18446744073709551616)
def Acts12 (w : World) (y : Option Addr) (len cap : Nat) : Prop := len = 0 \/ ∃ b off, y = some ⟨b, off, none⟩ /\ len <= cap /\ cap <= maxLen /\ b < w.heap.size /\ ∀ i, i < cap -> ActAt w b (off + i * 5)
abbrev shA12 : Sh := .pair (.int .i64) (.pair (.int .u32) (.pair (.int .u32) (.pair (.slice (.int .u32)) (.pair (.int .u64) .unit))))
theorem fits_act12 {w : World} {cs : List Value} (h : Fits w shA12 cs) :
 ∃ (K a v : Int) (y : Option Addr) (len cap : Nat) (N : Int), cs = [.int .i64 K, .int .u32 a, .int .u32 v, .slice y len cap, .int .u64 N] /\ RawG w y len cap /\ (-9223372036854775808 <= K /\ K < 9223372036854775808) /\ (0 <= a /\ a < 4294967296) /\ (0 <= v /\ v < 4294967296) /\ (0 <= N /\ N < 18446744073709551616) := by
 obtain ⟨_, _, rfl, ⟨K, rfl, hK⟩, _, _, rfl, ⟨a, rfl, ha⟩, _, _, rfl, ⟨v, rfl, hv⟩, c4, _, rfl, hg, _, _, rfl, ⟨N, rfl, hN⟩, rfl⟩ := h
 obtain ⟨y, len, cap, rfl, hr⟩ := fits_gaps hg
 have kt1 := bounds_i64 hK
 have a1 := bounds_u32 ha
 have v1 := bounds_u32 hv
 have n1 := bounds_u64 hN
 exact ⟨K, a, v, y, len, cap, N, rfl, hr, by omega, by omega, by omega, by omega⟩
theorem acts_fit12 {w : World} {x : Value} (h : FitsV w (.slice shA12) x) : ∃ (y : Option Addr) (len cap : Nat), x = .slice y len cap /\ Acts12 w y len cap := by
 obtain ⟨y, len, cap, rfl, hy⟩ := fits_slice h (by simp [Sh.size])
 refine ⟨y, len, cap, rfl, ?_⟩
 rcases hy with hy | ⟨b, off, rfl, hl, hm, hb, hz⟩
 . exact .inl hy
 refine .inr ⟨b, off, rfl, hl, hm, hb, fun i hi => ?_⟩
 obtain ⟨cs, hcl, hcell, hf⟩ := hz i hi
 obtain ⟨K, a, v, gy, gl, gc, N, rfl, hK⟩ := fits_act12 hf
 have e0 := hcell 0 (by simp [Sh.size])
 have e1 := hcell 1 (by simp [Sh.size])
 have e2 := hcell 2 (by simp [Sh.size])
 have e3 := hcell 3 (by simp [Sh.size])
 have e4 := hcell 4 (by simp [Sh.size])
 simp only [Sh.size] at e0 e1 e2 e3 e4
 exact ⟨K, a, v, gy, gl, gc, N, e0, e1, e2, e3, e4, hK⟩
theorem cutG (y : Option Addr) (len cap n : Nat) (hn : n <= len) (hc : len <= cap) (w : World) : (Instr.slice 25 (.slice y len cap) none (some (.int .i64 n)) none).run Tryz.prog w = .ok (.slice y n cap) w := by
 have hel : Tryz.prog.elem 25 = tU := by kernel_rfl
 have hs : ∀ w, (sizeOf tU).run Tryz.prog w = .ok 1 w := fun w => by kernel_rfl
 rw [run_slice_h (P := Tryz.prog) w 25 y len cap (by rw [hel]; exact Tryz.underlying25) .i64 n (by omega) (by omega), hel, hs]
 cases y with
 | none => simp [sliced]
 | some x =>
   have : x.add 0 = x := by unfold Addr.add; rw [if_pos rfl]
   simp [sliced, this]
abbrev tA12 : TypeId := 56
def actP (K a v : Int) (gA : Value) (N : Int) : Obj := .cells #[.int .i64 K, .int .u32 a, .int .u32 v, gA, .int .u64 N] tA12 (0, 0)
end Go.Proofs.YtpojmmgokgamgaaGreat.B
