/- Several texts in one: What a bank's methods return: Load, Store, Left. Layer 8 (wdog) in plain numbers: ticks at once, what is left, registers read and written, keys. No Go. Layer 9 in plain numbers: a controller: its cause, its last cause, its count, whether it is asked for a reset. No Go. -/
import Derived.Test.YtcgmnjajodegmaaGreatZNae
import Derived.Test.YtcgmnjajodegmaaGreatZNai
namespace Go.Proofs.YtcgmnjajodegmaaGreat.B
set_option linter.unusedVariables false
set_option linter.unusedSimpArgs false
open Go.ChangeShapes Go.WideShapes Go.RowKit Go.Sort
def kLErr (n : Nat) (o : Int) : Int := if kErr n o = 0 then nErr (o % 32) else kErr n o
def kVal (n : Nat) (t : Nat → Tm) (o : Int) : Int := if kErr n o = 0 then (t (o / 32).toNat).val (o % 32) else 0
def kSErr (n : Nat) (o : Int) : Int := if kErr n o = 0 then nSErr (o % 32) else kErr n o
def kSto (n : Nat) (t : Nat → Tm) (o x : Int) : Nat → Tm := if kSErr n o = 0 then upd1 t (o / 32).toNat ((t (o / 32).toNat).sto (o % 32) x) else t
section
variable {p g n : Nat} {q : Nat → Nat} {t : Nat → Tm} {w : World}
theorem bLoad (h : BkAt w p g n q t) (o : Int) (o0 : 0 ≤ o) (o1 : o < 4294967296) :
    Calls Tryz.prog 250 #[.pointer (some ⟨p, 0, none⟩), .int .u32 o] w fun e w' => e = .returned (.tuple #[.int .u32 (kVal n t o), .int .i64 (kLErr n o)]) ∧ w = w' := by
  unfold kVal kLErr
  by_cases hE : kErr n o = 0
  · rw [if_pos hE, if_pos hE]
    obtain ⟨_, _, hk⟩ := kErr_zero o0 hE
    have C := nLoad (t (o / 32).toNat) (o % 32) (q (o / 32).toNat) w (h.rm.ok _ hk) (h.rm.tms _ hk) (by omega) (by omega)
    have F := bFind h o o0 o1 hE
    generalize (t (o / 32).toNat).val (o % 32) = V at *
    generalize nErr (o % 32) = E at *
    generalize q (o / 32).toNat = r at *
    generalize o % 32 = s at *
    clear h hE hk
    go_enter Tryz.func250, Tryz.ntmps250
    go_wp2_with fail
    refine F.mono ?_
    rintro e w1 ⟨rfl, rfl⟩
    go_wp2_with fail
    refine C.mono ?_
    rintro e w1 ⟨rfl, rfl⟩
    go_wp2_with fail
    go_ret2
    exact ⟨rfl, rfl⟩
  · rw [if_neg hE, if_neg hE]
    have F := bFindNo h o _ o0 o1 rfl hE
    have hn : (kErr n o == 0) = false := by simpa using hE
    have hn2 : (kErr n o != 0) = true := by simpa using hE
    generalize kErr n o = E at *
    clear h hE
    go_enter Tryz.func250, Tryz.ntmps250
    go_wp2_with fail
    refine F.mono ?_
    rintro e w1 ⟨rfl, rfl⟩
    go_wp2_with fail
    go_ret2
    exact ⟨rfl, rfl⟩
theorem bLoadNil (o : Int) (w : World) :
    Calls Tryz.prog 250 #[.pointer none, .int .u32 o] w fun e w' => e = .returned (.tuple #[.int .u32 0, .int .i64 10]) ∧ w = w' := by
  go_enter Tryz.func250, Tryz.ntmps250
  go_wp2_with fail
  refine (bFindNil o w).mono ?_
  rintro e w1 ⟨rfl, rfl⟩
  go_wp2_with fail
  go_ret2
  exact ⟨rfl, rfl⟩
theorem bStore (h : BkAt w p g n q t) (o x : Int) (o0 : 0 ≤ o) (o1 : o < 4294967296) (x0 : 0 ≤ x) (x1 : x < 4294967296) :
    Calls Tryz.prog 252 #[.pointer (some ⟨p, 0, none⟩), .int .u32 o, .int .u32 x] w fun e w' => e = .returned (.int .i64 (kSErr n o)) ∧ BkAt w' p g n q (kSto n t o x) ∧ Off (own n q) w w' := by
  unfold kSto kSErr
  by_cases hE : kErr n o = 0
  · rw [if_pos hE]
    obtain ⟨_, _, hk⟩ := kErr_zero o0 hE
    have hok := h.rm.ok _ hk
    have C := nStore (t (o / 32).toNat) (o % 32) x (q (o / 32).toNat) w hok (h.rm.tms _ hk) (by omega) (by omega) x0 x1
    have F := bFind h o o0 o1 hE
    have hso : (if nSErr (o % 32) = 0 then (t (o / 32).toNat).sto (o % 32) x else t (o / 32).toNat).ok := by
      split
      · exact Tm.sto_ok hok _ _ x0 x1
      · exact hok
    have hcg : ∀ i, i < n → upd1 t (o / 32).toNat (if nSErr (o % 32) = 0 then (t (o / 32).toNat).sto (o % 32) x else t (o / 32).toNat) i = (if nSErr (o % 32) = 0 then upd1 t (o / 32).toNat ((t (o / 32).toNat).sto (o % 32) x) else t) i := by
      intro i _
      by_cases hs : nSErr (o % 32) = 0
      · rw [if_pos hs, if_pos hs]
      · rw [if_neg hs, if_neg hs]
        by_cases e : i = (o / 32).toNat
        · subst e; exact upd1_at _ _ _
        · exact upd1_ne _ _ e
    have H := Lib.hid h
    have HC := Lib.hid hcg
    have HS := Lib.hid hso
    clear hcg hso hok h hE
    have HT := fun (w' : World) (S : Tm) (ho : Off (· = q (o / 32).toNat) w w') (a : TAt w' (q (o / 32).toNat) tC S) (os : S.ok) => (H.out.turn hk a os ho)
    have HO := fun (w' : World) (ho : Off (· = q (o / 32).toNat) w w') => ho.own hk
    have HT := Lib.hid HT
    have HO := Lib.hid HO
    generalize hS : (if nSErr (o % 32) = 0 then (t (o / 32).toNat).sto (o % 32) x else t (o / 32).toNat) = S at *
    generalize hT : (if nSErr (o % 32) = 0 then upd1 t (o / 32).toNat ((t (o / 32).toNat).sto (o % 32) x) else t) = T at *
    clear hS hT H
    generalize nSErr (o % 32) = E at *
    generalize (o / 32).toNat = r at *
    generalize o % 32 = s at *
    go_enter Tryz.func252, Tryz.ntmps252
    go_wp2_with fail
    refine F.mono ?_
    rintro e w1 ⟨rfl, rfl⟩
    go_wp2_with fail
    refine C.mono ?_
    rintro e w1 ⟨rfl, a, ho⟩
    go_wp2_with fail
    go_ret
    exact ⟨rfl, (HT.out _ _ ho a HS.out).congr HC.out, HO.out _ ho⟩
  · rw [if_neg hE, if_neg hE]
    have F := bFindNo h o _ o0 o1 rfl hE
    have hn : (kErr n o == 0) = false := by simpa using hE
    have hn2 : (kErr n o != 0) = true := by simpa using hE
    generalize kErr n o = E at *
    clear hE
    have H := Lib.hid h
    clear h
    go_enter Tryz.func252, Tryz.ntmps252
    go_wp2_with fail
    refine F.mono ?_
    rintro e w1 ⟨rfl, rfl⟩
    go_wp2_with fail
    go_ret
    exact ⟨rfl, H.out, Off.refl _ _⟩
theorem bStoreNil (o x : Int) (w : World) :
    Calls Tryz.prog 252 #[.pointer none, .int .u32 o, .int .u32 x] w fun e w' => e = .returned (.int .i64 10) ∧ w = w' := by
  go_enter Tryz.func252, Tryz.ntmps252
  go_wp2_with fail
  refine (bFindNil o w).mono ?_
  rintro e w1 ⟨rfl, rfl⟩
  go_wp2_with fail
  go_ret
  exact ⟨rfl, rfl⟩
end
end Go.Proofs.YtcgmnjajodegmaaGreat.B
namespace Go.Proofs.YtcgmnjajodegmaaGreat.B
set_option linter.unusedVariables false
set_option linter.unusedSimpArgs false
/-- A watchdog: enable, lock, armed, closed, total, since, fault. -/
structure Wd where
  en : Bool
  lk : Bool
  ar : Bool
  cl : Int
  tot : Int
  si : Int
  fa : Int
structure Wd.ok (t : Wd) : Prop where
  c0 : 0 ≤ t.cl
  c1 : t.cl < 4294967296
  t0 : 0 ≤ t.tot
  t1 : t.tot < 4294967296
  s0 : 0 ≤ t.si
  s1 : t.si ≤ t.tot
  run : t.en = true → t.fa = 0 → t.si < t.tot
  win : t.en = true → t.cl < t.tot
  fa : t.fa = 0 ∨ t.fa = 2 ∨ t.fa = 4 ∨ t.fa = 8
  idle : t.en = false → t.fa = 0 ∧ t.si = 0 ∧ t.ar = false
def wz : Wd := ⟨false, false, false, 0, 0, 0, 0⟩
theorem wz_ok : wz.ok := ⟨by decide, by decide, by decide, by decide, by decide, by decide, by decide, by decide, .inl rfl, fun _ => ⟨rfl, rfl, rfl⟩⟩
/-- How many ticks there are to Timeout. -/
def Wd.left (t : Wd) : Int := if t.en = true ∧ t.fa = 0 then t.tot - t.si else 18446744073709551615
/-- So many ticks. -/
def Wd.tick (t : Wd) (n : Int) : Wd := if t.en = true ∧ t.fa = 0 then (if t.tot ≤ t.si + n then { t with si := t.tot, fa := 2 } else { t with si := t.si + n }) else t
/-- How many there were. -/
def Wd.ran (t : Wd) (n : Int) : Int := if t.fa ≠ 0 then 0 else if t.en = true then (if t.tot ≤ t.si + n then t.tot - t.si else n) else n
theorem Wd.tick_ok {t : Wd} (h : t.ok) {n : Int} (n0 : 0 ≤ n) : (t.tick n).ok := by
  obtain ⟨c0, c1, t0, t1, s0, s1, run, win, fa, idle⟩ := h
  unfold Wd.tick
  split
  · rename_i he
    split
    · exact ⟨c0, c1, t0, t1, t0, Int.le_refl _, fun _ h => absurd h (show ¬ (2 : Int) = 0 by decide), win, .inr (.inl rfl), fun h => absurd (he.1.symm.trans h) (by decide)⟩
    · exact ⟨c0, c1, t0, t1, by show 0 ≤ t.si + n; omega, by show t.si + n ≤ t.tot; omega, fun _ _ => by show t.si + n < t.tot; omega, win, fa, fun h => absurd (he.1.symm.trans h) (by decide)⟩
  · exact ⟨c0, c1, t0, t1, s0, s1, run, win, fa, idle⟩
theorem Wd.left_bounds {t : Wd} (h : t.ok) : 0 < t.left ∧ t.left ≤ 18446744073709551615 := by
  unfold Wd.left
  split
  · rename_i he
    have := h.run he.1 he.2
    have := h.s0; have := h.t1
    omega
  · omega
/-- Two calls are as one. -/
theorem Wd.tick_tick {t : Wd} {a b : Int} (a0 : 0 ≤ a) (b0 : 0 ≤ b) : (t.tick a).tick b = t.tick (a + b) := by
  obtain ⟨en, lk, ar, cl, tot, si, fa⟩ := t
  unfold Wd.tick
  simp only
  by_cases he : en = true ∧ fa = 0
  · rw [if_pos he, if_pos he]
    by_cases h1 : tot ≤ si + a
    · rw [if_pos h1, if_pos (show tot ≤ si + (a + b) by omega)]
      simp
    · rw [if_neg h1]
      simp only
      rw [if_pos he]
      by_cases h2 : tot ≤ si + (a + b)
      · rw [if_pos h2, if_pos (show tot ≤ si + a + b by omega)]
      · rw [if_neg h2, if_neg (show ¬ tot ≤ si + a + b by omega), Int.add_assoc]
  · rw [if_neg he, if_neg he, if_neg he]
theorem Wd.ran_ran {t : Wd} {a b : Int} (h : t.ok) (a0 : 0 ≤ a) (b0 : 0 ≤ b) : t.ran a + (t.tick a).ran b = t.ran (a + b) := by
  obtain ⟨en, lk, ar, cl, tot, si, fa⟩ := t
  have hi := h.idle
  simp only at hi
  unfold Wd.ran Wd.tick
  simp only
  cases en
  · obtain ⟨rfl, _, _⟩ := hi rfl
    simp
  · by_cases hf : fa = 0
    · subst hf
      simp only [ne_eq, not_true_eq_false, if_false, and_self, if_true]
      by_cases h1 : tot ≤ si + a
      · rw [if_pos h1, if_pos h1, if_pos (show tot ≤ si + (a + b) by omega)]
        simp
      · rw [if_neg h1, if_neg h1]
        simp only [ne_eq, not_true_eq_false, if_false, if_true]
        by_cases h2 : tot ≤ si + (a + b)
        · rw [if_pos h2, if_pos (show tot ≤ si + a + b by omega)]; omega
        · rw [if_neg h2, if_neg (show ¬ tot ≤ si + a + b by omega)]
    · simp [hf]
/-- The registers' errors. -/
def wErr (o : Int) : Int := if o % 4 ≠ 0 then 11 else if o ≤ 16 then 0 else 10
def wSErr (o : Int) : Int := if o = 16 then 12 else wErr o
def Wd.val (t : Wd) (o : Int) : Int := if o = 0 then tk t.en + 2 * tk t.lk else if o = 4 then t.cl else if o = 8 then t.tot else if o = 16 then t.si else 0
/-- What is asked of an offset is one of these. -/
theorem wErr_cases {o : Int} (o0 : 0 ≤ o) : o = 0 ∨ o = 4 ∨ o = 8 ∨ o = 12 ∨ o = 16 ∨ (o % 4 ≠ 0) ∨ (o % 4 = 0 ∧ 16 < o) := by omega
/-- The control word is written. -/
def Wd.ctlTo (t : Wd) (v : Int) : Wd := if t.en = false ∧ v % 2 = 1 ∧ t.cl < t.tot then { t with en := true, si := 0, ar := false } else if t.en = true ∧ v % 2 = 0 then { t with en := false, si := 0, ar := false } else t
def Wd.ctlPut (t : Wd) (v : Int) : Wd := if t.lk = true then t else { t.ctlTo v with lk := (v / 2 % 2 == 1) }
/-- The key is written. -/
def Wd.key (t : Wd) (v : Int) : Wd :=
  if t.en = false then t else if v = 23130 then { t with ar := true } else if v = 42405 ∧ t.ar = true then (if t.si < t.cl then { t with fa := 4 } else { t with si := 0, ar := false }) else if t.si < t.cl then { t with fa := 8 } else { t with ar := false }
def Wd.sto (t : Wd) (o v : Int) : Wd :=
  if t.fa ≠ 0 then t else if o = 0 then t.ctlPut v else if o = 4 then (if t.lk = true ∨ t.en = true then t else { t with cl := v }) else if o = 8 then (if t.lk = true ∨ t.en = true then t else { t with tot := v }) else if o = 12 then t.key v else t
theorem Wd.sto_ok {t : Wd} (h : t.ok) {o v : Int} (v0 : 0 ≤ v) (v1 : v < 4294967296) : (t.sto o v).ok := by
  unfold Wd.sto
  split
  · exact h
  rename_i hf
  have hf0 : t.fa = 0 := by simpa using hf
  obtain ⟨c0, c1, t0, t1, s0, s1, run, win, fa, idle⟩ := h
  have same : t.ok := ⟨c0, c1, t0, t1, s0, s1, run, win, fa, idle⟩
  split
  · unfold Wd.ctlPut
    split
    · exact same
    · have hc : (t.ctlTo v).ok := by
        unfold Wd.ctlTo
        split
        · rename_i hx
          exact ⟨c0, c1, t0, t1, Int.le_refl _, t0, fun _ _ => by show 0 < t.tot; omega, fun _ => hx.2.2, .inl hf0, fun h => absurd h (by simp)⟩
        · split
          · exact ⟨c0, c1, t0, t1, Int.le_refl _, t0, fun h => absurd h (by simp), fun h => absurd h (by simp), .inl hf0, fun _ => ⟨hf0, rfl, rfl⟩⟩
          · exact same
      obtain ⟨c0, c1, t0, t1, s0, s1, run, win, fa, idle⟩ := hc
      exact ⟨c0, c1, t0, t1, s0, s1, run, win, fa, idle⟩
  split
  · split
    · exact same
    · rename_i hx
      have he : t.en = false := by cases h : t.en <;> simp_all
      obtain ⟨_, hsi, har⟩ := idle he
      exact ⟨v0, v1, t0, t1, s0, s1, run, fun h => absurd (h.symm.trans he) (by decide), fa, idle⟩
  split
  · split
    · exact same
    · rename_i hx
      have he : t.en = false := by cases h : t.en <;> simp_all
      obtain ⟨_, hsi, har⟩ := idle he
      exact ⟨c0, c1, v0, v1, s0, by show t.si ≤ v; omega, fun h => absurd (h.symm.trans he) (by decide), fun h => absurd (h.symm.trans he) (by decide), fa, idle⟩
  split
  · unfold Wd.key
    split
    · exact same
    rename_i hen
    have he : t.en = true := by cases h : t.en <;> simp_all
    have nid : t.en = false → False := fun h => absurd (he.symm.trans h) (by decide)
    have hw := win he
    split
    · exact ⟨c0, c1, t0, t1, s0, s1, run, win, fa, fun h => (nid h).elim⟩
    split
    · split
      · exact ⟨c0, c1, t0, t1, s0, s1, fun _ h => absurd h (show ¬ (4 : Int) = 0 by decide), win, .inr (.inr (.inl rfl)), fun h => (nid h).elim⟩
      · exact ⟨c0, c1, t0, t1, Int.le_refl _, t0, fun _ _ => by show 0 < t.tot; omega, win, fa, fun h => (nid h).elim⟩
    split
    · exact ⟨c0, c1, t0, t1, s0, s1, fun _ h => absurd h (show ¬ (8 : Int) = 0 by decide), win, .inr (.inr (.inr rfl)), fun h => (nid h).elim⟩
    · exact ⟨c0, c1, t0, t1, s0, s1, run, win, fa, fun h => (nid h).elim⟩
  · exact same
end Go.Proofs.YtcgmnjajodegmaaGreat.B
namespace Go.Proofs.YtcgmnjajodegmaaGreat.B
set_option linter.unusedVariables false
set_option linter.unusedSimpArgs false
/-- A controller. -/
structure Rs where
  ca : Int
  ct : Int
  la : Int
  qs : Bool
/-- Causes that are latched. -/
def isC (c : Int) : Prop := c = 2 ∨ c = 4 ∨ c = 8 ∨ c = 16
instance (c : Int) : Decidable (isC c) := by unfold isC; infer_instance
structure Rs.ok (t : Rs) : Prop where
  a0 : 0 ≤ t.ca
  a1 : t.ca < 4294967296
  c0 : 0 ≤ t.ct
  c1 : t.ct < 4294967296
  l0 : 1 ≤ t.la
  l1 : t.la < 17
def rs0 : Rs := ⟨0, 0, 0, false⟩
def rsN : Rs := ⟨1, 0, 1, false⟩
theorem rsN_ok : rsN.ok := ⟨by decide, by decide, by decide, by decide, by decide, by decide⟩
def up1 (n : Int) : Int := if n < 4294967295 then n + 1 else n
theorem up1_bounds (n : Int) (n0 : 0 ≤ n) (n1 : n < 4294967296) : 0 ≤ up1 n ∧ up1 n < 4294967296 := by unfold up1; split <;> omega
def Rs.put (t : Rs) (c : Int) : Rs := ⟨bits BinOp.or IntKind.u32 t.ca c, up1 t.ct, c, false⟩
def Rs.ltc (t : Rs) (c : Int) : Rs := if isC c then t.put c else t
theorem isC_bounds {c : Int} (h : isC c) : 1 ≤ c ∧ c < 17 := by unfold isC at h; omega
theorem Rs.put_ok {t : Rs} (h : t.ok) {c : Int} (hc : isC c) : (t.put c).ok := by
  obtain ⟨c0, c1⟩ := isC_bounds hc
  obtain ⟨o0, o1⟩ := or_bounds t.ca c h.a0 h.a1 (by omega) (by omega)
  obtain ⟨u0, u1⟩ := up1_bounds t.ct h.c0 h.c1
  exact ⟨o0, o1, u0, u1, c0, c1⟩
theorem Rs.ltc_ok {t : Rs} (h : t.ok) (c : Int) : (t.ltc c).ok := by
  unfold Rs.ltc
  split
  · exact Rs.put_ok h (by assumption)
  · exact h
/-- Errors of an offset. -/
def sErr9 (o : Int) : Int := if o % 4 ≠ 0 then 11 else if 16 ≤ o then 10 else 0
def wErr9 (o : Int) : Int := if sErr9 o ≠ 0 then sErr9 o else if o = 4 ∨ o = 12 then 12 else 0
theorem sErr9_zero {o : Int} (o0 : 0 ≤ o) (h : sErr9 o = 0) : o = 0 ∨ o = 4 ∨ o = 8 ∨ o = 12 := by
  unfold sErr9 at h
  split at h
  · omega
  · split at h <;> omega
def Rs.val (t : Rs) (o : Int) : Int := if o = 0 then t.ca else if o = 4 then t.ct else if o = 12 then t.la else 0
def Rs.clr (t : Rs) (v : Int) : Rs := { t with ca := bits BinOp.andNot IntKind.u32 t.ca v }
def Rs.ask (t : Rs) (v : Int) : Rs := { t with qs := t.qs || (v == 45063) }
def Rs.sto (t : Rs) (o v : Int) : Rs := if o = 0 then t.clr v else if o = 8 then t.ask v else t
theorem Rs.clr_ok {t : Rs} (h : t.ok) {v : Int} (v0 : 0 ≤ v) (v1 : v < 4294967296) : (t.clr v).ok := by
  obtain ⟨b0, b1⟩ := andNot_bounds t.ca v h.a0 h.a1 v0 v1
  exact ⟨b0, b1, h.c0, h.c1, h.l0, h.l1⟩
theorem Rs.ask_ok {t : Rs} (h : t.ok) (v : Int) : (t.ask v).ok := ⟨h.a0, h.a1, h.c0, h.c1, h.l0, h.l1⟩
theorem Rs.sto_ok {t : Rs} (h : t.ok) {o v : Int} (v0 : 0 ≤ v) (v1 : v < 4294967296) : (t.sto o v).ok := by
  unfold Rs.sto
  split
  · exact Rs.clr_ok h v0 v1
  · split
    · exact Rs.ask_ok h v
    · exact h
/-- A single bit's word. -/
theorem bit_pow (k i : Nat) : bit ((2 ^ k : Nat) : Int) i = decide (i = k) := by
  rw [bit_testBit _ _ (Int.natCast_nonneg _), Int.toNat_natCast, Nat.testBit_two_pow]
  by_cases h : i = k
  · simp [h]
  · rw [decide_eq_false (fun e : k = i => h e.symm), decide_eq_false h]
theorem bit_or_pow (a : Int) (k i : Nat) (a0 : 0 ≤ a) (a1 : a < 4294967296) (hk : k < 32) : bit (bits BinOp.or IntKind.u32 a ((2 ^ k : Nat) : Int)) i = if i = k then true else bit a i := by
  have hp : 2 ^ k ≤ 2 ^ 31 := Nat.pow_le_pow_right (by decide) (by omega)
  rw [bit_or a _ i a0 a1 (Int.natCast_nonneg _) (by generalize 2 ^ k = x at *; omega), bit_pow]
  by_cases h : i = k
  · simp [h]
  · simp [h]
end Go.Proofs.YtcgmnjajodegmaaGreat.B
