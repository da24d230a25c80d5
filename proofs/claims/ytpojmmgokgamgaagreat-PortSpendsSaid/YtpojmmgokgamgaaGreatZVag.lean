/- Several texts in one: Layer 8 (wdog) in plain numbers: ticks at once, what is left, registers read and written, keys. No Go. Layer 9 in plain .. -/
import Derived.Test.YtpojmmgokgamgaaGreatZVaa
import Derived.Test.YtpojmmgokgamgaaGreatZVab
import Derived.Test.YtpojmmgokgamgaaGreatZVac
import Derived.Test.YtpojmmgokgamgaaGreatZVae
import Derived.Deep.Cut
set_option linter.unusedVariables false
set_option linter.unusedSimpArgs false
namespace Go.Proofs.YtpojmmgokgamgaaGreat.B
structure Wd where
 en : Bool
 lk : Bool
 ar : Bool
 cl : Int
 tot : Int
 si : Int
 fa : Int
structure Wd.ok (t : Wd) : Prop where
 c0 : 0 <= t.cl
 c1 : t.cl < 4294967296
 t0 : 0 <= t.tot
 t1 : t.tot < 4294967296
 s0 : 0 <= t.si
 s1 : t.si <= t.tot
 run : t.en = true -> t.fa = 0 -> t.si < t.tot
 win : t.en = true -> t.cl < t.tot
 fa : t.fa = 0 \/ t.fa = 2 \/ t.fa = 4 \/ t.fa = 8
 idle : t.en = false -> t.fa = 0 /\ t.si = 0 /\ t.ar = false
def wz : Wd := ⟨false, false, false, 0, 0, 0, 0⟩
theorem wz_ok : wz.ok := ⟨by decide, by decide, by decide, by decide, by decide, by decide, by decide, by decide, .inl rfl, fun _ => ⟨rfl, rfl, rfl⟩⟩
def Wd.left (t : Wd) : Int := if t.en = true /\ t.fa = 0 then t.tot - t.si else 18446744073709551615
def Wd.tick (t : Wd) (n : Int) : Wd := if t.en = true /\ t.fa = 0 then (if t.tot <= t.si + n then { t with si := t.tot, fa := 2 } else { t with si := t.si + n }) else t
def Wd.ran (t : Wd) (n : Int) : Int := if t.fa ≠ 0 then 0 else if t.en = true then (if t.tot <= t.si + n then t.tot - t.si else n) else n
theorem Wd.tick_ok {t : Wd} (h : t.ok) {n : Int} (n0 : 0 <= n) : (t.tick n).ok := by
 obtain ⟨c0, c1, t0, t1, s0, s1, run, win, fa, idle⟩ := h
 unfold Wd.tick
 split
 . rename_i he
   split
   . exact ⟨c0, c1, t0, t1, t0, Int.le_refl _, fun _ h => absurd h (show ¬ (2 : Int) = 0 by decide), win, .inr (.inl rfl), fun h => absurd (he.1.symm.trans h) (by decide)⟩
   . exact ⟨c0, c1, t0, t1, by show 0 <= t.si + n; omega, by show t.si + n <= t.tot; omega, fun _ _ => by show t.si + n < t.tot; omega, win, fa, fun h => absurd (he.1.symm.trans h) (by decide)⟩
 . exact ⟨c0, c1, t0, t1, s0, s1, run, win, fa, idle⟩
def wErr (o : Int) : Int := if o % 4 ≠ 0 then 11 else if o <= 16 then 0 else 10
def wSErr (o : Int) : Int := if o = 16 then 12 else wErr o
def Wd.val (t : Wd) (o : Int) : Int := if o = 0 then tk t.en + 2 * tk t.lk else if o = 4 then t.cl else if o = 8 then t.tot else if o = 16 then t.si else 0
def Wd.ctlTo (t : Wd) (v : Int) : Wd := if t.en = false /\ v % 2 = 1 /\ t.cl < t.tot then { t with en := true, si := 0, ar := false } else if t.en = true /\ v % 2 = 0 then { t with en := false, si := 0, ar := false } else t
def Wd.ctlPut (t : Wd) (v : Int) : Wd := if t.lk = true then t else { t.ctlTo v with lk := (v / 2 % 2 == 1) }
def Wd.key (t : Wd) (v : Int) : Wd :=
 if t.en = false then t else if v = 23130 then { t with ar := true } else if v = 42405 /\ t.ar = true then (if t.si < t.cl then { t with fa := 4 } else { t with si := 0, ar := false }) else if t.si < t.cl then { t with fa := 8 } else { t with ar := false }
def Wd.sto (t : Wd) (o v : Int) : Wd :=
 if t.fa ≠ 0 then t else if o = 0 then t.ctlPut v else if o = 4 then (if t.lk = true \/ t.en = true then t else { t with cl := v }) else if o = 8 then (if t.lk = true \/ t.en = true then t else { t with tot := v }) else if o = 12 then t.key v else t
theorem Wd.sto_ok {t : Wd} (h : t.ok) {o v : Int} (v0 : 0 <= v) (v1 : v < 4294967296) : (t.sto o v).ok := by
 unfold Wd.sto
 split
 . exact h
 rename_i hf
 have hf0 : t.fa = 0 := by simpa using hf
 obtain ⟨c0, c1, t0, t1, s0, s1, run, win, fa, idle⟩ := h
 have same : t.ok := ⟨c0, c1, t0, t1, s0, s1, run, win, fa, idle⟩
 split
 . unfold Wd.ctlPut
   split
   . exact same
   . have hc : (t.ctlTo v).ok := by
      unfold Wd.ctlTo
      split
      . rename_i hx
        exact ⟨c0, c1, t0, t1, Int.le_refl _, t0, fun _ _ => by show 0 < t.tot; omega, fun _ => hx.2.2, .inl hf0, fun h => absurd h (by simp)⟩
      . split
        . exact ⟨c0, c1, t0, t1, Int.le_refl _, t0, fun h => absurd h (by simp), fun h => absurd h (by simp), .inl hf0, fun _ => ⟨hf0, rfl, rfl⟩⟩
        . exact same
     obtain ⟨c0, c1, t0, t1, s0, s1, run, win, fa, idle⟩ := hc
     exact ⟨c0, c1, t0, t1, s0, s1, run, win, fa, idle⟩
 split
 . split
   . exact same
   . rename_i hx
     have he : t.en = false := by cases h : t.en <;> simp_all
     obtain ⟨_, hsi, har⟩ := idle he
     exact ⟨v0, v1, t0, t1, s0, s1, run, fun h => absurd (h.symm.trans he) (by decide), fa, idle⟩
 split
 . split
   . exact same
   . rename_i hx
     have he : t.en = false := by cases h : t.en <;> simp_all
     obtain ⟨_, hsi, har⟩ := idle he
     exact ⟨c0, c1, v0, v1, s0, by show t.si <= v; omega, fun h => absurd (h.symm.trans he) (by decide), fun h => absurd (h.symm.trans he) (by decide), fa, idle⟩
 split
 . unfold Wd.key
   split
   . exact same
   rename_i hen
   have he : t.en = true := by cases h : t.en <;> simp_all
   have nid : t.en = false -> False := fun h => absurd (he.symm.trans h) (by decide)
   have hw := win he
   split
   . exact ⟨c0, c1, t0, t1, s0, s1, run, win, fa, fun h => (nid h).elim⟩
   split
   . split
     . exact ⟨c0, c1, t0, t1, s0, s1, fun _ h => absurd h (show ¬ (4 : Int) = 0 by decide), win, .inr (.inr (.inl rfl)), fun h => (nid h).elim⟩
     . exact ⟨c0, c1, t0, t1, Int.le_refl _, t0, fun _ _ => by show 0 < t.tot; omega, win, fa, fun h => (nid h).elim⟩
   split
   . exact ⟨c0, c1, t0, t1, s0, s1, fun _ h => absurd h (show ¬ (8 : Int) = 0 by decide), win, .inr (.inr (.inr rfl)), fun h => (nid h).elim⟩
   . exact ⟨c0, c1, t0, t1, s0, s1, run, win, fa, fun h => (nid h).elim⟩
 . exact same
structure Rs where
 ca : Int
 ct : Int
 la : Int
 qs : Bool
def isC (c : Int) : Prop := c = 2 \/ c = 4 \/ c = 8 \/ c = 16
instance (c : Int) : Decidable (isC c) := by unfold isC; infer_instance
structure Rs.ok (t : Rs) : Prop where
 a0 : 0 <= t.ca
 a1 : t.ca < 4294967296
 c0 : 0 <= t.ct
 c1 : t.ct < 4294967296
 l0 : 1 <= t.la
 l1 : t.la < 17
def rs0 : Rs := ⟨0, 0, 0, false⟩
def rsN : Rs := ⟨1, 0, 1, false⟩
theorem rsN_ok : rsN.ok := ⟨by decide, by decide, by decide, by decide, by decide, by decide⟩
def up1 (n : Int) : Int := if n < 4294967295 then n + 1 else n
theorem up1_bounds (n : Int) (n0 : 0 <= n) (n1 : n < 4294967296) : 0 <= up1 n /\ up1 n < 4294967296 := by unfold up1; split <;> omega
def Rs.put (t : Rs) (c : Int) : Rs := ⟨bits BinOp.or IntKind.u32 t.ca c, up1 t.ct, c, false⟩
def Rs.ltc (t : Rs) (c : Int) : Rs := if isC c then t.put c else t
theorem isC_bounds {c : Int} (h : isC c) : 1 <= c /\ c < 17 := by unfold isC at h; omega
theorem Rs.put_ok {t : Rs} (h : t.ok) {c : Int} (hc : isC c) : (t.put c).ok := by
 obtain ⟨c0, c1⟩ := isC_bounds hc
 obtain ⟨o0, o1⟩ := or_bounds t.ca c h.a0 h.a1 (by omega) (by omega)
 obtain ⟨u0, u1⟩ := up1_bounds t.ct h.c0 h.c1
 exact ⟨o0, o1, u0, u1, c0, c1⟩
theorem Rs.ltc_ok {t : Rs} (h : t.ok) (c : Int) : (t.ltc c).ok := by
 unfold Rs.ltc
 split
 . exact Rs.put_ok h (by assumption)
 . exact h
def sErr9 (o : Int) : Int := if o % 4 ≠ 0 then 11 else if 16 <= o then 10 else 0
def wErr9 (o : Int) : Int := if sErr9 o ≠ 0 then sErr9 o else if o = 4 \/ o = 12 then 12 else 0
theorem sErr9_zero {o : Int} (o0 : 0 <= o) (h : sErr9 o = 0) : o = 0 \/ o = 4 \/ o = 8 \/ o = 12 := by
 unfold sErr9 at h
 split at h
 . omega
 . split at h <;> omega
def Rs.val (t : Rs) (o : Int) : Int := if o = 0 then t.ca else if o = 4 then t.ct else if o = 12 then t.la else 0
def Rs.clr (t : Rs) (v : Int) : Rs := { t with ca := bits BinOp.andNot IntKind.u32 t.ca v }
def Rs.ask (t : Rs) (v : Int) : Rs := { t with qs := t.qs || (v == 45063) }
def Rs.sto (t : Rs) (o v : Int) : Rs := if o = 0 then t.clr v else if o = 8 then t.ask v else t
theorem Rs.clr_ok {t : Rs} (h : t.ok) {v : Int} (v0 : 0 <= v) (v1 : v < 4294967296) : (t.clr v).ok := by
 obtain ⟨b0, b1⟩ := andNot_bounds t.ca v h.a0 h.a1 v0 v1
 exact ⟨b0, b1, h.c0, h.c1, h.l0, h.l1⟩
theorem Rs.ask_ok {t : Rs} (h : t.ok) (v : Int) : (t.ask v).ok := ⟨h.a0, h.a1, h.c0, h.c1, h.l0, h.l1⟩
theorem Rs.sto_ok {t : Rs} (h : t.ok) {o v : Int} (v0 : 0 <= v) (v1 : v < 4294967296) : (t.sto o v).ok := by
 unfold Rs.sto
 split
 . exact Rs.clr_ok h v0 v1
 . split
   . exact Rs.ask_ok h v
   . exact h
end Go.Proofs.YtpojmmgokgamgaaGreat.B
namespace Go.Proofs.YtpojmmgokgamgaaGreat.B
open Go.ChangeShapes Go.WideShapes Go.RowKit Go.Sort
theorem iS : (Tryz.prog.info? 183).map (·.size) = some 5 := by kernel_rfl
def s5 (ca ct ke la : Int) (qs : Bool) : List Value := [.int .u32 ca, .int .u32 ct, .int .u32 ke, .int .u32 la, .bool qs]
def al (t : Rs) : List Value := s5 t.ca t.ct 0 t.la t.qs
theorem al_one (t : Rs) : ∀ x ∈ al t, x.oneCell' = true := by
 intro x h
 simp only [al, s5, List.mem_cons, List.not_mem_nil, or_false] at h
 rcases h with rfl | rfl | rfl | rfl | rfl <;> rfl
abbrev tS : TypeId := 185
abbrev tSw : TypeId := 183
def SAt (w : World) (b : Nat) (T : TypeId) (t : Rs) : Prop := w.heap[b]? = some (.cells (al t).toArray T (0, 0))
section
variable {w w' : World} {b : Nat} {T : TypeId} {t : Rs}
theorem SAt.lt (h : SAt w b T t) : b < w.heap.size := lt_of_block h
theorem SAt.below (h : SAt w b T t) (hb : Below w.heap.size w w') : SAt w' b T t := blk_below hb h h.lt
theorem SAt.off {S : Nat -> Prop} (h : SAt w b T t) (ho : Off S w w') (hs : ¬ S b) : SAt w' b T t := ho.at h hs
theorem SAt.free (h : SAt w b T t) (j : Nat) : w.frozen? ⟨b, j, none⟩ = false := blk_free h j
theorem SAt.c0 (h : SAt w b T t) : w.cell? ⟨b, 0, none⟩ = some (.int .u32 t.ca) := by rw [blk_cell h 0]; rfl
theorem SAt.c1 (h : SAt w b T t) : w.cell? ⟨b, 1, none⟩ = some (.int .u32 t.ct) := by rw [blk_cell h 1]; rfl
theorem SAt.c2 (h : SAt w b T t) : w.cell? ⟨b, 2, none⟩ = some (.int .u32 0) := by rw [blk_cell h 2]; rfl
theorem SAt.c3 (h : SAt w b T t) : w.cell? ⟨b, 3, none⟩ = some (.int .u32 t.la) := by rw [blk_cell h 3]; rfl
theorem SAt.c4 (h : SAt w b T t) : w.cell? ⟨b, 4, none⟩ = some (.bool t.qs) := by rw [blk_cell h 4]; rfl
theorem SAt.set (h : SAt w b T t) (j : Nat) (x : Value) {s : Rs} (he : (al t).set j x = al s) : SAt (w.setCell ⟨b, j, none⟩ x) b T s := by
 unfold SAt; rw [blk_set h, <- he]; simp
theorem SAt.s0 (h : SAt w b T t) (x : Int) : SAt (w.setCell ⟨b, 0, none⟩ (.int .u32 x)) b T { t with ca := x } := h.set _ _ rfl
theorem SAt.s1 (h : SAt w b T t) (x : Int) : SAt (w.setCell ⟨b, 1, none⟩ (.int .u32 x)) b T { t with ct := x } := h.set _ _ rfl
theorem SAt.s3 (h : SAt w b T t) (x : Int) : SAt (w.setCell ⟨b, 3, none⟩ (.int .u32 x)) b T { t with la := x } := h.set _ _ rfl
theorem SAt.s4 (h : SAt w b T t) (x : Bool) : SAt (w.setCell ⟨b, 4, none⟩ (.bool x)) b T { t with qs := x } := h.set _ _ rfl
theorem SAt.other (h : SAt w b T t) (k j : Nat) (x : Value) (hne : b ≠ k) : SAt (w.setCell ⟨k, j, none⟩ x) b T t := blk_else h k j x hne
theorem SAt.row {old : Array Value} (h : w.heap[b]? = some (.cells old T (0, 0))) (t : Rs) : SAt (w.setRow b (al t).toArray) b T t := row_set _ h
theorem SAt.elseRow (h : SAt w b T t) (g : Nat) (cs : Array Value) (hne : b ≠ g) : SAt (w.setRow g cs) b T t := row_else g cs h hne
theorem SAt.alloc (h : SAt w b T t) (o : Obj) : SAt (w.alloc o) b T t := (blk_old w o h.lt).trans h
theorem SAt.grown (h : SAt w b T t) : ∀ w', (∃ p : Regrown, w' = grow (redrawn w p.d) p.os) -> SAt w' b T t := grown_block h
end
section
variable {ops : Array Oper} {rest : List Oper} {o : Oper} {a : Act} {w : World} {Q : Exit -> Act -> World -> Prop}
theorem loadS (hgd : o.guard = none) (x : Operand) (ho : o.op = .load 183 x) {b : Nat} {T : TypeId} (hx : a.eval x = .pointer (some ⟨b, 0, none⟩)) {t : Rs} (hg : SAt w b T t)
 (h : wpList Tryz.prog ops Q rest (a.put o.dst (.agg (al t).toArray)) w) : wpList Tryz.prog ops Q (o :: rest) a w :=
 wpList_load_part hgd _ x ho b 0 hx _ (al t) hg Tryz.underlying183 rfl iS (part_all _) h
theorem storeS (hgd : o.guard = none) (x y : Operand) (ho : o.op = .store 183 x y) {b : Nat} {T : TypeId} (hx : a.eval x = .pointer (some ⟨b, 0, none⟩)) {t : Rs} (hy : a.eval y = .agg (al t).toArray) {t' : Rs} (hg : SAt w b T t')
 (h : wpList Tryz.prog ops Q rest (a.put o.dst undef) (w.setRow b (al t).toArray)) : wpList Tryz.prog ops Q (o :: rest) a w := by
 refine wpList_store_part hgd _ x y ho b 0 hx (al t) hy hg iS (by simp [al, s5]) (al_one t) ?_
 rw [spliced_all _ _ (by simp [al, s5])]
 exact h
end
theorem resS {fn : Func} {p : Tmp} (h : fn.results = #[.cell p 183]) (tmps : Array Value) (w : World) {b : Nat} {T : TypeId} {t : Rs} (hp : tmps[p]? = some (.pointer (some ⟨b, 0, none⟩))) (hg : SAt w b T t) :
 (results fn tmps).run Tryz.prog w = .ok (.agg (al t).toArray) w :=
 results_cell_one h tmps w b 0 _ (al t) hp hg Tryz.underlying183 rfl iS (part_all _)
def oS9 (T : TypeId) (t : Rs) : Obj := .cells (al t).toArray T (0, 0)
theorem oS9_eq (T : TypeId) (t : Rs) : Obj.cells (al t).toArray T (0, 0) = oS9 T t := rfl
theorem zS_eq (T : TypeId) : Obj.cells #[.int .u32 0, .int .u32 0, .int .u32 0, .int .u32 0, .bool false] T (0, 0) = oS9 T rs0 := rfl
theorem at_new (w : World) (T : TypeId) (t : Rs) : SAt (w.alloc (oS9 T t)) w.heap.size T t := blk_new w _
def isz (t : Rs) : Bool := eqs [t.ca, t.ct, 0, t.la] [0, 0, 0, 0] && (t.qs == false)
theorem isz_ok {t : Rs} (h : t.ok) : isz t = false := by
 have hl := h.l0
 unfold isz eqs
 rw [Bool.and_eq_false_iff]
 left
 rw [beq_eq_false_iff_ne]
 intro e
 simp only [List.cons.injEq, and_true] at e
 omega
theorem eqS (a b c d a' b' c' d' : Int) (e e' : Bool) (w : World) :
 (Op.equalIn 10000 183 (.agg (s5 a b c d e).toArray) (.agg (s5 a' b' c' d' e').toArray)).run Tryz.prog w = .ok (eqs [a, b, c, d] [a', b', c', d'] && (e == e')) w := by
 have hi : (Tryz.prog.info? 22).isSome = true := by kernel_rfl
 obtain ⟨i, hi⟩ := Option.isSome_iff_exists.1 hi
 have hc : Tryz.prog.cellsOf 22 = 1 := by kernel_rfl
 have h := run_equalIn_array w 9998 (i := i) #[.int .u32 a, .int .u32 b, .int .u32 c, .int .u32 d] #[.int .u32 a', .int .u32 b', .int .u32 c', .int .u32 d'] Tryz.underlying181 hi
 rw [hc] at h
 have g := eqItems_ints 9997 22 .u32 Tryz.underlying22 [a, b, c, d] [a', b', c', d'] w (List.range 4) (by intro i hi; simpa using hi)
 have r := all_range [a, b, c, d] [a', b', c', d'] rfl
 have key := (h.trans g).trans (congrArg (fun b => Result.ok b w) r)
 rw [run_equalIn_struct w 9999 183 _ _ (by kernel_rfl) (by kernel_rfl)]
 simp only [Program.fieldsOf, Tryz.underlying183]
 simp only [Op.eqFields]
 have pa : ∀ (a b c d : Int) (e : Bool), (part 181 (s5 a b c d e).toArray 0).run Tryz.prog w = .ok (.agg #[.int .u32 a, .int .u32 b, .int .u32 c, .int .u32 d]) w := fun a b c d e => by
  have hs : (sizeOf 181).run Tryz.prog w = .ok 4 w := by kernel_rfl
  have ha : (isAgg 181).run Tryz.prog w = .ok true w := by kernel_rfl
  simp [part, ha, hs, Sem.run_bind, s5]
 have pb : ∀ (a b c d : Int) (e : Bool), (part 4 (s5 a b c d e).toArray 4).run Tryz.prog w = .ok (.bool e) w := fun a b c d e => by
  have ha : (isAgg 4).run Tryz.prog w = .ok false w := by kernel_rfl
  simp [part, ha, Sem.run_bind, s5]
 rw [if_pos (by decide), if_pos (by decide)]
 simp only [Sem.run_bind, pa, pb, Result.andThen_ok, key]
 have hq := run_equalIn_bool w 9998 4 e e' Tryz.underlying4
 rw [show 9998 + 1 = 9999 from rfl] at hq
 cases eqs [a, b, c, d] [a', b', c', d']
 . simp
 . cases hx : e == e'
   . rw [hx] at hq; simp [pb, hq]
   . rw [hx] at hq; simp [pb, hq]
theorem eqSl (s t : Rs) (w : World) : (Op.equalIn 10000 183 (.agg (al s).toArray) (.agg (al t).toArray)).run Tryz.prog w = .ok (eqs [s.ca, s.ct, 0, s.la] [t.ca, t.ct, 0, t.la] && (s.qs == t.qs)) w := eqS _ _ _ _ _ _ _ _ _ _ w
theorem eqNone {ops : Array Oper} {rest : List Oper} {o : Oper} {a : Act} {w : World} {Q : Exit -> Act -> World -> Prop} (hgd : o.guard = none) (x y : Operand) (u : TypeId) (ho : o.op = .binOp .eql 183 x y u) {t : Rs} (hx : a.eval x = .agg (al t).toArray) (hy : a.eval y = .agg (al rs0).toArray)
 (h : wpList Tryz.prog ops Q rest (a.put o.dst (.bool (isz t))) w) : wpList Tryz.prog ops Q (o :: rest) a w :=
 wpList_plain hgd fun _ hK => by
  have hg : (eqGuard .eql 183 x y (.agg (al t).toArray) (.agg (al rs0).toArray)).run Tryz.prog w = .ok () w := by
   have e : Tryz.prog.eqGuardType Tryz.prog.depth 183 = false := by kernel_rfl
   simp [eqGuard, Sem.run_bind, run_program, e]
  have hb : (binOp .eql 183 (.agg (al t).toArray) (.agg (al rs0).toArray)).run Tryz.prog w = .ok (.bool (isz t)) w := by
   have e := eqSl t rs0 w
   simp only [binOp, Op.equal, Sem.run_bind, Op.maxDepth]
   rw [e]
   rfl
  unfold Oper.wp execOp
  simp only [ho, hx, hy, Sem.run_bind, hg, hb, Result.andThen_ok]
  exact hK _ _ h
theorem rsNone (t : Rs) (w : World) : Calls Tryz.prog 212 #[.agg (al t).toArray] w fun e w' => e = .returned (.bool (isz t)) /\ Below w.heap.size w w' := by
 have X := at_new w tSw t
 have hb := trA (tr0 w) (oS9 tSw t)
 go_enter Tryz.func212, Tryz.ntmps212
 go_upto_region 1 with (fail)
 rw [oS9_eq]
 generalize w.alloc (oS9 tSw t) = W at *
 go_wp2_with (first | (refine loadS rfl (.tmp 1) rfl rfl X ?_) | (refine eqNone rfl (.tmp 3) (.tmp 4) _ rfl rfl rfl ?_))
 go_ret
 exact ⟨rfl, hb⟩
theorem rsNow (t : Rs) (p : Nat) (w : World) (a : SAt w p tS t) : Calls Tryz.prog 177 #[.pointer (some ⟨p, 0, none⟩)] w fun e w' => e = .returned (.agg (al t).toArray) /\ Below w.heap.size w w' := by
 have X := at_new w tSw rs0
 have A := a.alloc (oS9 tSw rs0)
 have hb := trA (tr0 w) (oS9 tSw rs0)
 go_enter Tryz.func177, Tryz.ntmps177
 go_upto_region 1 with (fail)
 rw [zS_eq]
 clear a
 generalize w.alloc (oS9 tSw rs0) = W at *
 have Z := SAt.row X t
 have hB := below_setRow hb (al t).toArray (g := w.heap.size) (Nat.le_refl _)
 go_wp2_with (first | (refine loadS rfl (.tmp 8) rfl rfl A ?_) | (refine storeS rfl (.tmp 2) (.tmp 9) rfl rfl (t := t) rfl X ?_))
 exact bodyPost_ret (resS rfl _ _ rfl Z) rfl ⟨rfl, hB⟩
theorem rsNew (w : World) : Calls Tryz.prog 50 #[] w fun e w' => e = .returned (.pointer (some ⟨w.heap.size, 0, none⟩)) /\ SAt w' w.heap.size tS rsN /\ Below w.heap.size w w' := by
 have X := at_new w tS rs0
 have hb := trA (tr0 w) (oS9 tS rs0)
 go_enter Tryz.func50, Tryz.ntmps50
 go_upto_region 2 with (fail)
 rw [zS_eq]
 generalize w.alloc (oS9 tS rs0) = W at *
 have f0 := X.free 0
 have f3 := X.free 3
 have x0 := X.c0
 have x3 := X.c3
 have Y1 := (X.s0 1).s3 1
 have Y2 := (X.s3 1).s0 1
 have B1 := (hb.setCell (p := ⟨w.heap.size, 0, none⟩) (Nat.le_refl _) (.int .u32 1)).setCell (p := ⟨w.heap.size, 3, none⟩) (Nat.le_refl _) (.int .u32 1)
 have B2 := (hb.setCell (p := ⟨w.heap.size, 3, none⟩) (Nat.le_refl _) (.int .u32 1)).setCell (p := ⟨w.heap.size, 0, none⟩) (Nat.le_refl _) (.int .u32 1)
 clear X hb
 go_region
 all_goals
  go_wp2_with fail
  go_ret
  first | exact ⟨rfl, Y1, B1⟩ | exact ⟨rfl, Y2, B2⟩ | exact ⟨rfl, Y1.below (trD (tr0 _)), trD B1⟩ | exact ⟨rfl, Y2.below (trD (tr0 _)), trD B2⟩
theorem fldQ (ca ct ke la : Int) (qs : Bool) (w : World) : (Instr.field 183 (.agg #[.int .u32 ca, .int .u32 ct, .int .u32 ke, .int .u32 la, .bool qs]) 1).run Tryz.prog w = .ok (.bool qs) w := by
 have ha : (isAgg 4).run Tryz.prog w = .ok false w := by kernel_rfl
 simp [Instr.field, Sem.run_bind, run_underlying Tryz.underlying183, part, ha, asAgg]
theorem rsAsked (t : Rs) (p : Nat) (w : World) (a : SAt w p tS t) : Calls Tryz.prog 112 #[.pointer (some ⟨p, 0, none⟩)] w fun e w' => e = .returned (.bool t.qs) /\ Below w.heap.size w w' := by
 go_enter Tryz.func112, Tryz.ntmps112
 go_wp2_with fail
 refine (rsNow t p _ a).mono ?_
 rintro e w1 ⟨rfl, hb⟩
 have hf := fldQ t.ca t.ct 0 t.la t.qs
 unfold al s5
 go_wp2_with fail
 go_ret
 exact ⟨rfl, hb⟩
theorem rsLatched (t : Rs) (c : Int) (w : World) (h : t.ok) (hc : 0 <= c) (hc1 : c < 4294967296) :
 Calls Tryz.prog 213 #[.agg (al t).toArray, .int .u32 c] w fun e w' => e = .returned (.agg (al (t.put c)).toArray) /\ Below w.heap.size w w' := by
 have hB := trA (trA (tr0 w) (oS9 tSw t)) (oS9 tSw rs0)
 have X : SAt ((w.alloc (oS9 tSw t)).alloc (oS9 tSw rs0)) w.heap.size tSw t := b2_0 w _ _
 have Y : SAt ((w.alloc (oS9 tSw t)).alloc (oS9 tSw rs0)) (w.heap.size + 1) tSw rs0 := b2_1 w _ _
 have n0 := h.c0
 have n1 := h.c1
 have HP : (⟨bits BinOp.or IntKind.u32 t.ca c, up1 t.ct, c, false⟩ : Rs) = t.put c := rfl
 by_cases hm : t.ct < 4294967295
 . have hu : up1 t.ct = t.ct + 1 := by unfold up1; rw [if_pos hm]
   rw [hu] at HP
   clear hu
   go_enter Tryz.func213, Tryz.ntmps213
   go_upto_region 1 with (fail)
   rw [zS_eq, oS9_eq]
   generalize ((w.alloc (oS9 tSw t)).alloc (oS9 tSw rs0)) = W at *
   have x0 := X.c0
   have x1 := X.c1
   have x3 := X.c3
   have x4 := X.c4
   have f0 := X.free 0
   have f1 := X.free 1
   have f3 := X.free 3
   have f4 := X.free 4
   go_upto_region 6 with (fail)
   have X2 := (((X.s0 (bits BinOp.or IntKind.u32 t.ca c)).s3 c).s1 (t.ct + 1)).s4 false
   have Y2 := (((Y.other w.heap.size 0 (.int .u32 (bits BinOp.or IntKind.u32 t.ca c)) (by omega)).other w.heap.size 3 (.int .u32 c) (by omega)).other w.heap.size 1 (.int .u32 (t.ct + 1)) (by omega)).other w.heap.size 4 (.bool false) (by omega)
   have hB2 := (((hB.setCell (p := ⟨w.heap.size, 0, none⟩) (by simp) (.int .u32 (bits BinOp.or IntKind.u32 t.ca c))).setCell (p := ⟨w.heap.size, 3, none⟩) (by simp) (.int .u32 c)).setCell (p := ⟨w.heap.size, 1, none⟩) (by simp) (.int .u32 (t.ct + 1))).setCell (p := ⟨w.heap.size, 4, none⟩) (by simp) (.bool false)
   clear X Y hB x0 x1 x3 x4 f0 f1 f3 f4
   generalize ((((W.setCell ⟨w.heap.size, 0, none⟩ (.int .u32 (bits BinOp.or IntKind.u32 t.ca c))).setCell ⟨w.heap.size, 3, none⟩ (.int .u32 c)).setCell ⟨w.heap.size, 1, none⟩ (.int .u32 (t.ct + 1))).setCell ⟨w.heap.size, 4, none⟩ (.bool false)) = W2 at *
   have X3 : SAt W2 w.heap.size tSw (t.put c) := by rw [<- HP]; exact X2
   clear X2 HP
   have Y3 := SAt.row Y2 (t.put c)
   have hB3 := below_setRow hB2 (al (t.put c)).toArray (g := w.heap.size + 1) (by omega)
   go_wp2_with (first | (refine loadS rfl (.tmp 2) rfl rfl X3 ?_) | (refine storeS rfl (.tmp 4) (.tmp 26) rfl rfl rfl Y2 ?_))
   exact bodyPost_ret (resS rfl _ _ rfl Y3) rfl ⟨rfl, hB3⟩
 . have hu : up1 t.ct = t.ct := by unfold up1; rw [if_neg hm]
   rw [hu] at HP
   clear hu
   go_enter Tryz.func213, Tryz.ntmps213
   go_upto_region 1 with (fail)
   rw [zS_eq, oS9_eq]
   generalize ((w.alloc (oS9 tSw t)).alloc (oS9 tSw rs0)) = W at *
   have x0 := X.c0
   have x1 := X.c1
   have x3 := X.c3
   have x4 := X.c4
   have f0 := X.free 0
   have f1 := X.free 1
   have f3 := X.free 3
   have f4 := X.free 4
   go_upto_region 6 with (fail)
   have X2 := ((X.s0 (bits BinOp.or IntKind.u32 t.ca c)).s3 c).s4 false
   have Y2 := ((Y.other w.heap.size 0 (.int .u32 (bits BinOp.or IntKind.u32 t.ca c)) (by omega)).other w.heap.size 3 (.int .u32 c) (by omega)).other w.heap.size 4 (.bool false) (by omega)
   have hB2 := ((hB.setCell (p := ⟨w.heap.size, 0, none⟩) (by simp) (.int .u32 (bits BinOp.or IntKind.u32 t.ca c))).setCell (p := ⟨w.heap.size, 3, none⟩) (by simp) (.int .u32 c)).setCell (p := ⟨w.heap.size, 4, none⟩) (by simp) (.bool false)
   clear X Y hB x0 x1 x3 x4 f0 f1 f3 f4
   generalize (((W.setCell ⟨w.heap.size, 0, none⟩ (.int .u32 (bits BinOp.or IntKind.u32 t.ca c))).setCell ⟨w.heap.size, 3, none⟩ (.int .u32 c)).setCell ⟨w.heap.size, 4, none⟩ (.bool false)) = W2 at *
   have X3 : SAt W2 w.heap.size tSw (t.put c) := by rw [<- HP]; exact X2
   clear X2 HP
   have Y3 := SAt.row Y2 (t.put c)
   have hB3 := below_setRow hB2 (al (t.put c)).toArray (g := w.heap.size + 1) (by omega)
   go_wp2_with (first | (refine loadS rfl (.tmp 2) rfl rfl X3 ?_) | (refine storeS rfl (.tmp 4) (.tmp 26) rfl rfl rfl Y2 ?_))
   exact bodyPost_ret (resS rfl _ _ rfl Y3) rfl ⟨rfl, hB3⟩
theorem off_rowS (w : World) (p : Nat) (cs : Array Value) : Off (· = p) w (w.setRow p cs) := ⟨rfl, rfl, rfl, by simp, fun k _ hs => setRow_other w p k cs hs⟩
theorem rsLatchYes (t : Rs) (c : Int) (p : Nat) (w : World) (h : t.ok) (hc : isC c) (a : SAt w p tS t) :
 Calls Tryz.prog 178 #[.pointer (some ⟨p, 0, none⟩), .int .i64 c] w fun e w' => e = .returned (.bool true) /\ SAt w' p tS (t.put c) /\ Off (· = p) w w' := by
 obtain ⟨b0, b1⟩ := isC_bounds hc
 have HN := Hd (fun w => by have := rsNone t w; rw [isz_ok h] at this; exact this)
 obtain ⟨s, hs⟩ : ∃ s, t.put c = s := ⟨_, rfl⟩
 have HL := Hd (fun w => by have := rsLatched t c w h (by omega) (by omega); rw [hs] at this; exact this)
 rw [hs]
 clear hs
 go_enter Tryz.func178, Tryz.ntmps178
 go_wp2_with fail
 refine (rsNow t p _ a).mono ?_
 rintro e w1 ⟨rfl, h1⟩
 go_wp2_with fail
 refine (HN.out _).mono ?_
 rintro e w2 ⟨rfl, h2⟩
 have A := (a.below (tr h1 h2))
 have hB := tr h1 h2
 clear h1 h2 HN a
 unfold isC at hc
 rcases hc with rfl | rfl | rfl | rfl
 all_goals
  go_wp2_with (refine loadS rfl (.tmp 17) rfl rfl A ?_)
  refine (HL.out _).mono ?_
  rintro e w3 ⟨rfl, h3⟩
  have A3 := A.below h3
  have Z := SAt.row A3 s
  have hO := (Off.ofBelow (S := (· = p)) hB).trans ((Off.ofBelow h3).trans (off_rowS w3 p (al s).toArray))
  go_wp2_with (refine storeS rfl (.tmp 23) (.tmp 21) rfl rfl rfl A3 ?_)
  go_ret
  exact ⟨rfl, Z, hO⟩
theorem rsLatchNo (t : Rs) (c : Int) (p : Nat) (w : World) (h : t.ok) (hc : ¬ isC c) (a : SAt w p tS t) :
 Calls Tryz.prog 178 #[.pointer (some ⟨p, 0, none⟩), .int .i64 c] w fun e w' => e = .returned (.bool false) /\ Below w.heap.size w w' := by
 have HN := Hd (fun w => by have := rsNone t w; rw [isz_ok h] at this; exact this)
 have n2 : (c == 2) = false := by unfold isC at hc; simp; omega
 have n4 : (c == 4) = false := by unfold isC at hc; simp; omega
 have n8 : (c == 8) = false := by unfold isC at hc; simp; omega
 have n16 : (c == 16) = false := by unfold isC at hc; simp; omega
 clear hc
 go_enter Tryz.func178, Tryz.ntmps178
 go_wp2_with fail
 refine (rsNow t p _ a).mono ?_
 rintro e w1 ⟨rfl, h1⟩
 go_wp2_with fail
 refine (HN.out _).mono ?_
 rintro e w2 ⟨rfl, h2⟩
 go_wp2_with fail
 go_ret
 exact ⟨rfl, tr h1 h2⟩
theorem rsLatch (t : Rs) (c : Int) (p : Nat) (w : World) (h : t.ok) (a : SAt w p tS t) :
 Calls Tryz.prog 178 #[.pointer (some ⟨p, 0, none⟩), .int .i64 c] w fun e w' => e = .returned (.bool (decide (isC c))) /\ SAt w' p tS (t.ltc c) /\ Off (· = p) w w' := by
 by_cases hc : isC c
 . have e1 : t.ltc c = t.put c := by unfold Rs.ltc; rw [if_pos hc]
   rw [e1, decide_eq_true hc]
   exact rsLatchYes t c p w h hc a
 . have e1 : t.ltc c = t := by unfold Rs.ltc; rw [if_neg hc]
   rw [e1, decide_eq_false hc]
   refine (rsLatchNo t c p w h hc a).mono ?_
   rintro e w1 ⟨rfl, h1⟩
   exact ⟨rfl, a.below h1, Off.ofBelow h1⟩
theorem rsCheck (t : Rs) (o : Int) (p : Nat) (w : World) (h : t.ok) (a : SAt w p tS t) (o0 : 0 <= o) (o1 : o < 4294967296) :
 Calls Tryz.prog 281 #[.pointer (some ⟨p, 0, none⟩), .int .u32 o] w fun e w' => e = .returned (.int .i64 (sErr9 o)) /\ Below w.heap.size w w' := by
 have HN := Hd (fun w => by have := rsNone t w; rw [isz_ok h] at this; exact this)
 cases h4 : (o % 4 != 0)
 . by_cases h16 : 16 <= o
   . have HE := Hd (show sErr9 o = 10 by unfold sErr9; rw [if_neg (by simpa using h4), if_pos h16])
     go_enter Tryz.func281, Tryz.ntmps281
     go_wp2_with fail
     refine (rsNow t p _ a).mono ?_
     rintro e w1 ⟨rfl, h1⟩
     go_wp2_with fail
     refine (HN.out _).mono ?_
     rintro e w2 ⟨rfl, h2⟩
     go_wp2_with fail
     go_ret
     exact ⟨ret_int HE.out.symm, tr h1 h2⟩
   . have HE := Hd (show sErr9 o = 0 by unfold sErr9; rw [if_neg (by simpa using h4), if_neg h16])
     go_enter Tryz.func281, Tryz.ntmps281
     go_wp2_with fail
     refine (rsNow t p _ a).mono ?_
     rintro e w1 ⟨rfl, h1⟩
     go_wp2_with fail
     refine (HN.out _).mono ?_
     rintro e w2 ⟨rfl, h2⟩
     go_wp2_with fail
     go_ret
     exact ⟨ret_int HE.out.symm, tr h1 h2⟩
 . have HE := Hd (show sErr9 o = 11 by unfold sErr9; rw [if_pos (by simpa using h4)])
   go_enter Tryz.func281, Tryz.ntmps281
   go_wp2_with fail
   refine (rsNow t p _ a).mono ?_
   rintro e w1 ⟨rfl, h1⟩
   go_wp2_with fail
   refine (HN.out _).mono ?_
   rintro e w2 ⟨rfl, h2⟩
   go_wp2_with fail
   go_ret
   exact ⟨ret_int HE.out.symm, tr h1 h2⟩
def sVal9 (t : Rs) (o : Int) : Int := if sErr9 o = 0 then t.val o else 0
set_option maxHeartbeats 800000 in
theorem rsLoad (t : Rs) (o : Int) (p : Nat) (w : World) (h : t.ok) (a : SAt w p tS t) (o0 : 0 <= o) (o1 : o < 4294967296) :
 Calls Tryz.prog 279 #[.pointer (some ⟨p, 0, none⟩), .int .u32 o] w fun e w' => e = .returned (.tuple #[.int .u32 (sVal9 t o), .int .i64 (sErr9 o)]) /\ Below w.heap.size w w' := by
 have HC := Hd (fun w a => rsCheck t o p w h a o0 o1)
 obtain ⟨V, hV⟩ : ∃ V, sVal9 t o = V := ⟨_, rfl⟩
 by_cases he : sErr9 o = 0
 . rw [he] at HC ⊢
   have hv : V = t.val o := by rw [<- hV]; unfold sVal9; rw [if_pos he]
   rw [hV]
   clear hV
   rcases sErr9_zero o0 he with rfl | rfl | rfl | rfl
   . replace hv : V = t.ca := hv
     subst hv
     clear he
     go_enter Tryz.func279, Tryz.ntmps279
     go_wp2_with fail
     refine (HC.out _ a).mono ?_
     rintro e w1 ⟨rfl, h1⟩
     have A := a.below h1
     have x0 := A.c0
     go_wp2_with fail
     go_ret2
     exact ⟨rfl, h1⟩
   . replace hv : V = t.ct := hv
     subst hv
     clear he
     go_enter Tryz.func279, Tryz.ntmps279
     go_wp2_with fail
     refine (HC.out _ a).mono ?_
     rintro e w1 ⟨rfl, h1⟩
     have A := a.below h1
     have x0 := A.c1
     go_wp2_with fail
     go_ret2
     exact ⟨rfl, h1⟩
   . replace hv : V = 0 := hv
     subst hv
     clear he
     go_enter Tryz.func279, Tryz.ntmps279
     go_wp2_with fail
     refine (HC.out _ a).mono ?_
     rintro e w1 ⟨rfl, h1⟩
     have A := a.below h1
     have x0 := A.c2
     go_wp2_with fail
     go_ret2
     exact ⟨rfl, h1⟩
   . replace hv : V = t.la := hv
     subst hv
     clear he
     go_enter Tryz.func279, Tryz.ntmps279
     go_wp2_with fail
     refine (HC.out _ a).mono ?_
     rintro e w1 ⟨rfl, h1⟩
     have A := a.below h1
     have x0 := A.c3
     go_wp2_with fail
     go_ret2
     exact ⟨rfl, h1⟩
 . have hv : V = 0 := by rw [<- hV]; unfold sVal9; rw [if_neg he]
   subst hv
   rw [hV]
   obtain ⟨E, hE⟩ : ∃ E, sErr9 o = E := ⟨_, rfl⟩
   rw [hE] at HC he ⊢
   have q1 : (E != 0) = true := by simpa using he
   clear hV hE he
   go_enter Tryz.func279, Tryz.ntmps279
   go_wp2_with fail
   refine (HC.out _ a).mono ?_
   rintro e w1 ⟨rfl, h1⟩
   go_wp2_with fail
   go_ret2
   exact ⟨rfl, h1⟩
end Go.Proofs.YtpojmmgokgamgaaGreat.B
