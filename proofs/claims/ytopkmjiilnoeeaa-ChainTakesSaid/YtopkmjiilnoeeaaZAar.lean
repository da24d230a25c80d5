/- Several texts in one: The laws of layer 17, of any arguments that fit, over package chain's contracts. Layer 17's own chains keep their contracts; the laws. -/
import Derived.Test.YtopkmjiilnoeeaaZAai
import Derived.Test.YtopkmjiilnoeeaaZAaj
import Derived.Test.YtopkmjiilnoeeaaZAal
import Derived.Test.YtopkmjiilnoeeaaZAam
import Derived.Test.YtopkmjiilnoeeaaZAap
import Derived.Test.YtopkmjiilnoeeaaZAaq
namespace Go.Proofs.Ytopkmjiilnoeeaa.B
set_option linter.unusedVariables false
set_option linter.unusedSimpArgs false
set_option maxRecDepth 100000
open Go.ChangeShapes Go.WideShapes Go.RowKit Go.Sort
theorem jPlaysNone {R : ChainR Kp} {RS : ChainR Ks} (C : ChainC R) (CK : ChainS RS) (a : Int) (y : Option Addr) (len cap0 : Nat) (w : World) (ha : i64r a) (h : ¬ (1 ≤ a ∧ a ≤ 4096)) :
 Calls Try.prog 3 #[.int .i64 a, .slice y len cap0] w fun e w' => e = .returned (.bool true) ∧ Below w.heap.size w w' := by
 have HN := Lib.hid (C.K.newNo a w ha h)
 have HKn := Lib.hid (fun w' => jKnown CK w')
 clear C CK ha
 by_cases h1 : a < 1
 · have e1 : decide ((40 : Int) < a) = false := decide_eq_false (by omega)
   have e2 : decide (a < 1) = true := decide_eq_true h1
   clear h
   go_enter Try.func3, Try.ntmps3
   go_wp2_with fail
   refine HN.out.mono ?_
   rintro e w1 ⟨rfl, hb⟩
   go_wp2_with fail
   refine (HKn.out _).mono ?_
   rintro e w2 ⟨rfl, hb2⟩
   go_wp2_with fail
   go_ret
   exact ⟨rfl, tr hb hb2⟩
 · have e1 : decide ((40 : Int) < a) = true := decide_eq_true (by omega)
   have e3 : decide (a ≤ 4096) = false := decide_eq_false (by omega)
   have e2 : decide (a < 1) = false := decide_eq_false h1
   have e4 : decide ((4096 : Int) < a) = true := decide_eq_true (by omega)
   clear h h1
   go_enter Try.func3, Try.ntmps3
   go_wp2_with fail
   refine HN.out.mono ?_
   rintro e w1 ⟨rfl, hb⟩
   go_wp2_with fail
   refine (HKn.out _).mono ?_
   rintro e w2 ⟨rfl, hb2⟩
   go_wp2_with fail
   go_ret
   exact ⟨rfl, tr hb hb2⟩
theorem jPlays {R : ChainR Kp} {RS : ChainR Ks} (C : ChainC R) (CK : ChainS RS) (a : Int) (y : Option Addr) (len cap0 : Nat) (zs : Nat → Aj) (w : World) (ha : i64r a) (hc0 : len ≤ cap0) (hy : RowAj w y len cap0 zs) :
 Calls Try.prog 3 #[.int .i64 a, .slice y len cap0] w fun e w' => e = .returned (.bool true) ∧ Below w.heap.size w w' := by
 by_cases h : 1 ≤ a ∧ a ≤ 4096
 · by_cases h40 : a ≤ 40
   · exact jPlaysOf C CK a a.toNat (.inl ⟨by omega, by omega⟩) (by omega) y len cap0 zs w hc0 hy
   · exact jPlaysOf C CK a 40 (.inr ⟨by omega, h.2, rfl⟩) (by decide) y len cap0 zs w hc0 hy
 · exact jPlaysNone C CK a y len cap0 w ha h
abbrev shKp : Sh := .pair (.int .i64) (.pair (.int .i64) .unit)
abbrev shAj : Sh := .pair (.int .i64) (.pair (.int .i64) (.pair shKp .unit))
theorem fits_kp {w : World} {cs : List Value} (h : Fits w shKp cs) : ∃ k : Kp, okk k ∧ cs = kl k := by
 obtain ⟨_, _, rfl, ⟨a, rfl, ha⟩, _, _, rfl, ⟨b, rfl, hb⟩, rfl⟩ := h
 have a1 := bounds_i64 ha
 have b1 := bounds_i64 hb
 exact ⟨(a, b), ⟨⟨by omega, by omega⟩, ⟨by omega, by omega⟩⟩, rfl⟩
theorem fitsV_kp {w : World} {v : Value} (h : FitsV w shKp v) : ∃ k : Kp, okk k ∧ v = kv k := by
 obtain ⟨l, rfl, hl⟩ := h
 obtain ⟨k, hk, rfl⟩ := fits_kp hl
 exact ⟨k, hk, rfl⟩
theorem fits_aj {w : World} {cs : List Value} (h : Fits w shAj cs) : ∃ a : Aj, a.ok ∧ cs = ajl a := by
 obtain ⟨_, _, rfl, ⟨K, rfl, hK⟩, _, _, rfl, ⟨I, rfl, hI⟩, _, _, rfl, hk, rfl⟩ := h
 obtain ⟨k, hok, rfl⟩ := fits_kp hk
 have k1 := bounds_i64 hK
 have i1 := bounds_i64 hI
 have hk2 : i64r K := ⟨by omega, by omega⟩
 have hi2 : i64r I := ⟨by omega, by omega⟩
 exact ⟨⟨K, I, k⟩, ⟨hk2, hi2, hok⟩, rfl⟩
theorem fits_rowAj {w : World} {v : Value} (h : FitsV w (.slice shAj) v) : ∃ (y : Option Addr) (len cap : Nat) (zs : Nat → Aj), v = .slice y len cap ∧ len ≤ cap ∧ RowAj w y len cap zs := by
 obtain ⟨y, len, cap, rfl, hy⟩ := fits_slice h (by simp [Sh.size])
 rcases hy with hy | ⟨b, off, rfl, hl, hm, hb, hz⟩
 · exact ⟨y, len, cap, fun _ => ajz, rfl, by omega, .inl hy⟩
 have g : ∀ i, i < cap → ∃ a : Aj, a.ok ∧ ∀ j v, (ajl a)[j]? = some v → w.cell? ⟨b, off + i * 4 + j, none⟩ = some v := fun i hi => by
  obtain ⟨cs, hcl, hcell, hf⟩ := hz i hi
  obtain ⟨a, hok, rfl⟩ := fits_aj hf
  refine ⟨a, hok, fun j v hv => ?_⟩
  have hj : j < 4 := by have := (List.getElem?_eq_some_iff.1 hv).1; rw [ajl_len] at this; exact this
  have := hcell j (by simp [Sh.size]; omega)
  rw [show (Sh.size shAj) = 4 from rfl] at this
  rw [Nat.add_assoc, this]
  exact hv
 refine ⟨_, len, cap, fun i => if h : i < cap then (g i h).choose else ajz, rfl, hl, .inr ⟨b, off, rfl, hl, hm, hb, fun i hi => ?_⟩⟩
 have hic : i < cap := by omega
 simp only [hic, dite_true]
 exact (g i hic).choose_spec
section
variable {R : ChainR Kp} {RS : ChainR Ks} (C : ChainC R) (CK : ChainS RS) (N : ChainN)
include C CK in
theorem wChainPlaysH (v0 v1 : Value) (w : World) (h0 : FitsV w (.int .i64) v0) (h1 : FitsV w (.slice shAj) v1) : Calls Try.prog 3 #[v0, v1] w fun e w' => e = .returned (.bool true) ∧ Below w.heap.size w w' := by
 obtain ⟨a, rfl, a0, a1⟩ := fits_i64 h0
 obtain ⟨y, len, cap, zs, rfl, hc, hr⟩ := fits_rowAj h1
 exact jPlays C CK a y len cap zs w ⟨a0, a1⟩ hc hr
include C CK in
theorem wChainGoesH (v0 v1 : Value) (w : World) (h0 : FitsV w (.int .i64) v0) (h1 : FitsV w (.slice shAj) v1) : Calls Try.prog 4 #[v0, v1] w fun e w' => e = .returned (.bool true) ∧ Below w.heap.size w w' := by
 obtain ⟨a, rfl, a0, a1⟩ := fits_i64 h0
 obtain ⟨y, len, cap, zs, rfl, hc, hr⟩ := fits_rowAj h1
 exact jGoes C CK a y len cap zs w ⟨a0, a1⟩ hc hr
include CK N in
theorem wChainNilH (v0 v1 : Value) (w : World) (h0 : FitsV w (.int .i64) v0) (h1 : FitsV w (.int .i64) v1) : Calls Try.prog 5 #[v0, v1] w fun e w' => e = .returned (.bool true) ∧ Below w.heap.size w w' := by
 obtain ⟨a, rfl, a0, a1⟩ := fits_i64 h0
 obtain ⟨b, rfl, b0, b1⟩ := fits_i64 h1
 exact jNil CK N a b w ⟨a0, a1⟩ ⟨b0, b1⟩
include C CK in
theorem wChainTakesH (v0 v1 v2 v3 : Value) (w : World) (h0 : FitsV w (.int .i64) v0) (h1 : FitsV w (.slice shAj) v1) (h2 : FitsV w shKp v2) (h3 : FitsV w shKp v3) : Calls Try.prog 6 #[v0, v1, v2, v3] w fun e w' => e = .returned (.bool true) ∧ Below w.heap.size w w' := by
 obtain ⟨a, rfl, a0, a1⟩ := fits_i64 h0
 obtain ⟨y, len, cap, zs, rfl, hc, hr⟩ := fits_rowAj h1
 obtain ⟨k, hk, rfl⟩ := fitsV_kp h2
 obtain ⟨j, hj, rfl⟩ := fitsV_kp h3
 exact jTakes C CK a y len cap zs k j w ⟨a0, a1⟩ hk hj hc hr
end
end Go.Proofs.Ytopkmjiilnoeeaa.B
namespace Go.Proofs.Ytopkmjiilnoeeaa.B
set_option linter.unusedVariables false
set_option linter.unusedSimpArgs false
set_option maxRecDepth 100000
open Go.ChangeShapes Go.WideShapes Go.RowKit Go.Sort Go.MapKept
theorem jCopy (w : World) (p : Nat) (S : Nat → Prop) (n : Nat) (L : List (Kp × Int)) (V : CIn okk chRK w p S n L) : Calls Try.prog 17 #[.pointer (some ⟨p, 0, none⟩)] w
 fun e w' => ∃ (p2 : Nat) (S2 S' : Nat → Prop), e = .returned (.pointer (some ⟨p2, 0, none⟩)) ∧ chRK.At w' p2 S2 n L ∧ (∀ k, S2 k → w.heap.size ≤ k ∧ ¬ S' k) ∧ chRK.At w' p S' n L ∧ (∀ k, S' k → S k ∨ w.heap.size ≤ k) ∧ Off S w w' := by
 obtain ⟨⟨m, g, M, r, H, B⟩, n0, n1, ok, ks⟩ := V
 refine (jCopy0 B ok n1 ks).mono ?_
 rintro e w' ⟨p2, rfl, Lq, S2, h1, h2, h3, h4, hb⟩
 exact ⟨p2, S2, S, rfl, chRK_same h1 h4 (ch_len h3 ok h4), fun k hk => ⟨h2 k hk, fun e => by have := h2 k hk; have := B.lt k e; omega⟩, (B.below hb).at rfl, fun k hk => .inl hk, Off.ofBelow hb⟩
theorem chainKp : ChainKp chRK where
 new := jNewK
 newNo := jNewNoK
 push w p S n L k i V hk hi := jPushK w p S n L k i V hk hi
 remove w p S n L i V hi := jRemoveK w p S n L i V hi
 all w p S n L k V hk := jAllK w p S n L k V hk
theorem chainC : ChainC chRK where
 K := chainKp
 key w p S n L i V _ := by
  obtain ⟨⟨m, g, M, r, H, B⟩, n0, n1, ok, ks⟩ := V
  exact (jKeyK B ok i).mono fun e w' h => ⟨h.1, chRK_asked (B.at rfl) h.2⟩
 first w p S n L k V hk := by
  obtain ⟨⟨m, g, M, r, H, B⟩, n0, n1, ok, ks⟩ := V
  exact (jFirstK B k hk).mono fun e w' h => ⟨h.1, chRK_asked (B.at rfl) h.2⟩
 next w p S n L i V _ := by
  obtain ⟨⟨m, g, M, r, H, B⟩, n0, n1, ok, ks⟩ := V
  exact (jNextK B ok i).mono fun e w' h => ⟨h.1, chRK_asked (B.at rfl) (by rw [← h.2]; exact tr0 _)⟩
 take w p S n L k V hk := jTake w p S n L k V hk
 len w p S n L k V hk := by
  obtain ⟨⟨m, g, M, r, H, B⟩, n0, n1, ok, ks⟩ := V
  exact (jLenK B k hk).mono fun e w' h => ⟨h.1, chRK_asked (B.at rfl) h.2⟩
 total w p S n L V := by
  obtain ⟨⟨m, g, M, r, H, B⟩, n0, n1, ok, ks⟩ := V
  exact (jTotalK B).mono fun e w' h => ⟨h.1, chRK_asked (B.at rfl) h.2⟩
 copy w p S n L V := jCopy w p S n L V
theorem chainS : ChainS chRS where
 new := jNewS
 newNo := jNewNoS
 push w p S n L k i V hk hi := jPushS w p S n L k i V hk hi
 remove w p S n L i V hi := jRemoveS w p S n L i V hi
 all w p S n L k V hk := jAllS w p S n L k V hk
theorem wChainPlays (v0 v1 : Value) (w : World) (h0 : FitsV w (.int .i64) v0) (h1 : FitsV w (.slice shAj) v1) :
 Calls Try.prog 3 #[v0, v1] w fun e w' => e = .returned (.bool true) ∧ Below w.heap.size w w' := wChainPlaysH chainC chainS v0 v1 w h0 h1
theorem wChainGoes (v0 v1 : Value) (w : World) (h0 : FitsV w (.int .i64) v0) (h1 : FitsV w (.slice shAj) v1) :
 Calls Try.prog 4 #[v0, v1] w fun e w' => e = .returned (.bool true) ∧ Below w.heap.size w w' := wChainGoesH chainC chainS v0 v1 w h0 h1
theorem wChainNil (v0 v1 : Value) (w : World) (h0 : FitsV w (.int .i64) v0) (h1 : FitsV w (.int .i64) v1) :
 Calls Try.prog 5 #[v0, v1] w fun e w' => e = .returned (.bool true) ∧ Below w.heap.size w w' := wChainNilH chainS chainN v0 v1 w h0 h1
theorem wChainTakes (v0 v1 v2 v3 : Value) (w : World) (h0 : FitsV w (.int .i64) v0) (h1 : FitsV w (.slice shAj) v1) (h2 : FitsV w shKp v2) (h3 : FitsV w shKp v3) :
 Calls Try.prog 6 #[v0, v1, v2, v3] w fun e w' => e = .returned (.bool true) ∧ Below w.heap.size w w' := wChainTakesH chainC chainS v0 v1 v2 v3 w h0 h1 h2 h3
end Go.Proofs.Ytopkmjiilnoeeaa.B
