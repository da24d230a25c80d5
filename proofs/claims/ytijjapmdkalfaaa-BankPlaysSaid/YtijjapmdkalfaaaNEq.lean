/- Words of timers compared. -/
import Derived.Test.YtijjapmdkalfaaaEqs
import Derived.Test.YtijjapmdkalfaaaNCell
namespace Go.Proofs.Ytijjapmdkalfaaa.B
set_option linter.unusedVariables false
set_option linter.unusedSimpArgs false
open Go.ChangeShapes Go.WideShapes Go.RowKit
theorem eqW (a b c d e a' b' c' d' e' : Int) (w : World) :
    (Op.equalIn 10000 77 (.agg (w5 a b c d e).toArray) (.agg (w5 a' b' c' d' e').toArray)).run Try.prog w = .ok (eqs [a, b, c, d] [a', b', c', d'] && (e == e')) w := by
  have hi : (Try.prog.info? 32).isSome = true := by kernel_rfl
  obtain ⟨i, hi⟩ := Option.isSome_iff_exists.1 hi
  have hc : Try.prog.cellsOf 32 = 1 := by kernel_rfl
  have h := run_equalIn_array w 9998 (i := i) #[.int .u32 a, .int .u32 b, .int .u32 c, .int .u32 d] #[.int .u32 a', .int .u32 b', .int .u32 c', .int .u32 d'] Try.underlying75 hi
  rw [hc] at h
  have g := eqItems_ints 9997 32 .u32 Try.underlying32 [a, b, c, d] [a', b', c', d'] w (List.range 4) (by intro i hi; simpa using hi)
  have r := all_range [a, b, c, d] [a', b', c', d'] rfl
  have key := (h.trans g).trans (congrArg (fun b => Result.ok b w) r)
  rw [run_equalIn_struct w 9999 77 _ _ (by kernel_rfl) (by kernel_rfl)]
  simp only [Program.fieldsOf, Try.underlying77]
  simp only [Op.eqFields]
  have pa : ∀ a b c d e : Int, (part 75 (w5 a b c d e).toArray 0).run Try.prog w = .ok (.agg #[.int .u32 a, .int .u32 b, .int .u32 c, .int .u32 d]) w := fun a b c d e => by
    have hs : (sizeOf 75).run Try.prog w = .ok 4 w := by kernel_rfl
    have ha : (isAgg 75).run Try.prog w = .ok true w := by kernel_rfl
    simp [part, ha, hs, Sem.run_bind, w5]
  have pb : ∀ a b c d e : Int, (part 31 (w5 a b c d e).toArray 4).run Try.prog w = .ok (.int .u64 e) w := fun a b c d e => by
    have ha : (isAgg 31).run Try.prog w = .ok false w := by kernel_rfl
    simp [part, ha, Sem.run_bind, w5]
  rw [if_pos (by decide), if_pos (by decide)]
  simp only [Sem.run_bind, pa, pb, Result.andThen_ok, key, run_equalIn_int w 9998 31 .u64 .u64 e e' Try.underlying31]
  cases eqs [a, b, c, d] [a', b', c', d']
  · simp
  · have hq := run_equalIn_int w 9998 31 .u64 .u64 e e' Try.underlying31
    rw [show 9998 + 1 = 9999 from rfl] at hq
    cases hx : e == e'
    · rw [hx] at hq; simp [pb, hq]
    · rw [hx] at hq; simp [pb, hq]
/-- .. of timers. -/
def eqT (s t : Tm) : Bool := eqs [s.ld, s.v, ctl s.en s.re s.iq s.sc, tk s.st] [t.ld, t.v, ctl t.en t.re t.iq t.sc, tk t.st] && (s.ph == t.ph)
theorem eqWl (s t : Tm) (w : World) : (Op.equalIn 10000 77 (.agg (wl s).toArray) (.agg (wl t).toArray)).run Try.prog w = .ok (eqT s t) w := eqW _ _ _ _ _ _ _ _ _ _ w
theorem qeqT {C : World → Prop} {o : Oper} {a : Act} {K : Act → Prop} (x y : Operand) (u : TypeId) (ho : o.op = .binOp .eql 77 x y u) {s t : Tm} (hx : a.eval x = .agg (wl s).toArray) (hy : a.eval y = .agg (wl t).toArray)
    (h : K (a.put o.dst (.bool (eqT s t)))) : o.quiet Try.prog a C K :=
  ⟨_, fun w hw => by
    have hg : (eqGuard .eql 77 x y (.agg (wl s).toArray) (.agg (wl t).toArray)).run Try.prog w = .ok () w := by
      have e : Try.prog.eqGuardType Try.prog.depth 77 = false := by kernel_rfl
      simp [eqGuard, Sem.run_bind, run_program, e]
    have hb : (binOp .eql 77 (.agg (wl s).toArray) (.agg (wl t).toArray)).run Try.prog w = .ok (.bool (eqT s t)) w := by
      have e := eqWl s t w
      simp only [binOp, Op.equal, Sem.run_bind, Op.maxDepth]
      rw [e]
      rfl
    unfold Oper.quietAt execOp
    simp only [ho, hx, hy, Sem.run_bind, hg, hb, Result.andThen_ok]
    exact ⟨rfl, rfl⟩, h⟩
/-- A timer that an expiry leaves as it is, as its words tell. -/
theorem eqT_exp {t : Tm} (he : t.en = true) (h : eqT t.exp t = true) : t.exp = t := by
  unfold eqT eqs at h
  simp only [Bool.and_eq_true, beq_iff_eq, List.cons.injEq, and_true] at h
  obtain ⟨⟨h1, h2, h3, h4⟩, h5⟩ := h
  have hen : t.exp.en = t.en := (ctl_inj h3).1
  have hst := tk_inj h4
  unfold Tm.exp at h2 hen hst h5 ⊢
  by_cases c : (t.re && t.ld != 0) = true
  · rw [if_pos c] at h2 hst h5 ⊢
    show Tm.mk t.ld t.ld t.en t.re t.iq t.sc 0 true = t
    obtain ⟨ld, v, en, re, iq, sc, ph, st⟩ := t
    simp only at h2 hst h5
    subst h2 hst h5
    rfl
  · rw [if_neg c] at hen
    rw [he] at hen
    cases hen
end Go.Proofs.Ytijjapmdkalfaaa.B
