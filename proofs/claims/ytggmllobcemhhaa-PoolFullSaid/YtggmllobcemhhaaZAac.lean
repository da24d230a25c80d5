/- Several texts in one: Layer 16: entries by value (three words), in a variable's block and in a place of the document's row. Layer 16, the document's: Put, Set, Drop (written by gen_vref2.py). -/
import Derived.Test.YtggmllobcemhhaaZAab
import Derived.Deep.RegionHeld
namespace Go.Proofs.Ytggmllobcemhhaa.B
set_option linter.unusedVariables false
set_option linter.unusedSimpArgs false
set_option maxRecDepth 100000
open Go.ChangeShapes Go.WideShapes Go.RowKit Go.Sort
abbrev tEn : TypeId := 33
abbrev tEr : TypeId := 39
def e3 (d p o : Int) : List Value := [.int .u64 d, .int .u64 p, .int .u64 o]
theorem e3_len (d p o : Int) : (e3 d p o).length = 3 := rfl
theorem e3_one (d p o : Int) : ∀ x ∈ e3 d p o, x.oneCell' = true := fun x hx => by
 unfold e3 at hx
 simp only [List.mem_cons, List.not_mem_nil, or_false] at hx
 rcases hx with rfl | rfl | rfl <;> rfl
def oEn (T : TypeId) (d p o : Int) : Obj := .cells (e3 d p o).toArray T (0, 0)
def EnAt (T : TypeId) (w : World) (b : Nat) (d p o : Int) : Prop := w.heap[b]? = some (oEn T d p o)
theorem iEn : (Try.prog.info? 33).map (·.size) = some 3 := by kernel_rfl
theorem iEr : (Try.prog.info? 39).map (·.size) = some 3 := by kernel_rfl
section
variable {w w' : World} {b : Nat} {T : TypeId} {d p o : Int}
theorem EnAt.c0 (h : EnAt T w b d p o) : w.cell? ⟨b, 0, none⟩ = some (.int .u64 d) := by rw [blk_cell h]; rfl
theorem EnAt.c1 (h : EnAt T w b d p o) : w.cell? ⟨b, 1, none⟩ = some (.int .u64 p) := by rw [blk_cell h]; rfl
theorem EnAt.c2 (h : EnAt T w b d p o) : w.cell? ⟨b, 2, none⟩ = some (.int .u64 o) := by rw [blk_cell h]; rfl
theorem EnAt.lt (h : EnAt T w b d p o) : b < w.heap.size := lt_of_block h
theorem EnAt.below (h : EnAt T w b d p o) (hb : Below w.heap.size w w') : EnAt T w' b d p o := blk_below hb h (lt_of_block h)
theorem EnAt.off {S : Nat → Prop} (h : EnAt T w b d p o) (ho : Off S w w') (hs : ¬ S b) : EnAt T w' b d p o := ho.at h hs
theorem EnAt.else (h : EnAt T w b d p o) (g j : Nat) (v : Value) (hg : b ≠ g) : EnAt T (w.setCell ⟨g, j, none⟩ v) b d p o := blk_else h g j v hg
end
section
variable {ops : Array Oper} {rest : List Oper} {o : Oper} {a : Act} {w : World} {Q : Exit → Act → World → Prop} {d p z : Int} {T : TypeId} {g : Nat}
theorem ldEr (hgd : o.guard = none) (x : Operand) (ho : o.op = .load 39 x) (hx : a.eval x = .pointer (some ⟨g, 0, none⟩)) (hg : EnAt T w g d p z)
 (h : wpList Try.prog ops Q rest (a.put o.dst (.agg (e3 d p z).toArray)) w) : wpList Try.prog ops Q (o :: rest) a w :=
 wpList_load_part hgd _ x ho g 0 hx _ (e3 d p z) hg Try.underlying39 rfl iEr (part_all _) h
theorem rldEr {f : Operand → Value} (x : Operand) (ho : o.op = .load 39 x) (hx : f x = .pointer (some ⟨g, 0, none⟩)) (hg : EnAt T w g d p z) : (execOp f o).run Try.prog w = .ok (.value (.agg (e3 d p z).toArray)) w :=
 run_load_part _ x ho g 0 hx _ (e3 d p z) hg Try.underlying39 rfl iEr (part_all _)
theorem stEn (hgd : o.guard = none) (x y : Operand) (ho : o.op = .store 33 x y) (hx : a.eval x = .pointer (some ⟨g, 0, none⟩)) (hy : a.eval y = .agg (e3 d p z).toArray) {d0 p0 z0 : Int} (hg : EnAt T w g d0 p0 z0)
 (h : ∀ w', EnAt T w' g d p z → Off (· = g) w w' → wpList Try.prog ops Q rest (a.put o.dst undef) w') : wpList Try.prog ops Q (o :: rest) a w := by
 have hR : EnAt T (w.setRow g (e3 d p z).toArray) g d p z := row_set _ hg
 refine wpList_store_part hgd _ x y ho g 0 hx (e3 d p z) hy hg iEn (show 0 + 3 ≤ 3 from Nat.le_refl 3) (e3_one _ _ _) ?_
 rw [spliced_all (e3 d0 p0 z0).toArray (e3 d p z) rfl]
 exact h _ hR ⟨rfl, rfl, rfl, by simp, fun k _ hs => setRow_other w g k _ hs⟩
end
theorem partE (d p o : Int) (w : World) : (part 30 (e3 d p o).toArray 0).run Try.prog w = .ok (.int .u64 d) w ∧ (part 30 (e3 d p o).toArray 1).run Try.prog w = .ok (.int .u64 p) w ∧ (part 30 (e3 d p o).toArray 2).run Try.prog w = .ok (.int .u64 o) w := by
 have ha : (isAgg 30).run Try.prog w = .ok false w := by kernel_rfl
 refine ⟨?_, ?_, ?_⟩ <;> simp [part, ha, Sem.run_bind, e3]
theorem eqEn (d p o : Int) (w : World) : (Op.equalIn 10000 33 (.agg (e3 d p o).toArray) (.agg (e3 d p o).toArray)).run Try.prog w = .ok true w := by
 obtain ⟨p0, p1, p2⟩ := partE d p o w
 have q : ∀ x : Int, (Op.equalIn 9999 30 (.int .u64 x) (.int .u64 x)).run Try.prog w = .ok true w := fun x => by
  have := run_equalIn_int w 9998 30 .u64 .u64 x x Try.underlying30
  rw [beq_self_eq_true] at this
  exact this
 rw [run_equalIn_struct w 9999 33 _ _ (by kernel_rfl) (by kernel_rfl)]
 simp only [Program.fieldsOf, Try.underlying33]
 simp [Op.eqFields, Sem.run_bind, p0, p1, p2, q, Result.andThen_ok]
theorem eqEr (d p o : Int) (w : World) : (Op.equalIn 10000 39 (.agg (e3 d p o).toArray) (.agg (e3 d p o).toArray)).run Try.prog w = .ok true w := by
 obtain ⟨p0, p1, p2⟩ := partE d p o w
 have q : ∀ x : Int, (Op.equalIn 9999 30 (.int .u64 x) (.int .u64 x)).run Try.prog w = .ok true w := fun x => by
  have := run_equalIn_int w 9998 30 .u64 .u64 x x Try.underlying30
  rw [beq_self_eq_true] at this
  exact this
 rw [run_equalIn_struct w 9999 39 _ _ (by kernel_rfl) (by kernel_rfl)]
 simp only [Program.fieldsOf, Try.underlying39]
 simp [Op.eqFields, Sem.run_bind, p0, p1, p2, q, Result.andThen_ok]
section
variable {o : Oper} {f : Operand → Value} {w : World} {d p z : Int}
theorem rneEn (x y : Operand) (u : TypeId) (ho : o.op = .binOp .neq 33 x y u) (hx : f x = .agg (e3 d p z).toArray) (hy : f y = .agg (e3 d p z).toArray) : (execOp f o).run Try.prog w = .ok (.value (.bool false)) w := by
 have hg : (eqGuard .neq 33 x y (.agg (e3 d p z).toArray) (.agg (e3 d p z).toArray)).run Try.prog w = .ok () w := by
  have e : Try.prog.eqGuardType Try.prog.depth 33 = false := by kernel_rfl
  simp [eqGuard, Sem.run_bind, run_program, e]
 have hb : (binOp .neq 33 (.agg (e3 d p z).toArray) (.agg (e3 d p z).toArray)).run Try.prog w = .ok (.bool false) w := by
  simp only [binOp, Op.equal, Sem.run_bind, Op.maxDepth]
  rw [eqEn]
  rfl
 unfold execOp
 simp only [ho, hx, hy, Sem.run_bind, hg, hb, Result.andThen_ok]
 rfl
theorem rneEr (x y : Operand) (u : TypeId) (ho : o.op = .binOp .neq 39 x y u) (hx : f x = .agg (e3 d p z).toArray) (hy : f y = .agg (e3 d p z).toArray) : (execOp f o).run Try.prog w = .ok (.value (.bool false)) w := by
 have hg : (eqGuard .neq 39 x y (.agg (e3 d p z).toArray) (.agg (e3 d p z).toArray)).run Try.prog w = .ok () w := by
  have e : Try.prog.eqGuardType Try.prog.depth 39 = false := by kernel_rfl
  simp [eqGuard, Sem.run_bind, run_program, e]
 have hb : (binOp .neq 39 (.agg (e3 d p z).toArray) (.agg (e3 d p z).toArray)).run Try.prog w = .ok (.bool false) w := by
  simp only [binOp, Op.equal, Sem.run_bind, Op.maxDepth]
  rw [eqEr]
  rfl
 unfold execOp
 simp only [ho, hx, hy, Sem.run_bind, hg, hb, Result.andThen_ok]
 rfl
theorem rldEn {T : TypeId} {g : Nat} (x : Operand) (ho : o.op = .load 33 x) (hx : f x = .pointer (some ⟨g, 0, none⟩)) (hg : EnAt T w g d p z) : (execOp f o).run Try.prog w = .ok (.value (.agg (e3 d p z).toArray)) w :=
 run_load_part _ x ho g 0 hx _ (e3 d p z) hg Try.underlying33 rfl iEn (part_all _)
end
theorem rbuildEn {o : Oper} {f : Operand → Value} {w : World} (ho : o.op = .build 33 #[]) : (execOp f o).run Try.prog w = .ok (.value (.agg (e3 0 0 0).toArray)) w := by
 have hrun : (Instr.build 33 #[]).run Try.prog w = .ok (.agg (e3 0 0 0).toArray) w := by kernel_rfl
 unfold execOp
 simp only [ho, List.map_toArray, List.map_nil, Sem.run_bind, hrun, Result.andThen_ok]
 rfl
section
variable {ops : Array Oper} {rest : List Oper} {o : Oper} {a : Act} {w : World} {Q : Exit → Act → World → Prop} {d p z : Int}
end
theorem spliced_get (cur : Array Value) (o : Nat) (vs : List Value) (h : o + vs.length ≤ cur.size) (m : Nat) : (spliced cur o vs)[m]? = if o ≤ m ∧ m < o + vs.length then vs[m - o]? else cur[m]? := by
 unfold spliced
 have hl : (cur.toList.take o).length = o := by simp; omega
 rw [List.getElem?_toArray, List.append_assoc]
 by_cases h1 : m < o
 · rw [if_neg (by omega), List.getElem?_append_left (by omega), List.getElem?_take, if_pos h1]
   simp
 · rw [List.getElem?_append_right (by omega), hl]
   by_cases h2 : m < o + vs.length
   · rw [if_pos ⟨by omega, h2⟩, List.getElem?_append_left (by omega)]
   · rw [if_neg (by omega), List.getElem?_append_right (by omega), List.getElem?_drop, show o + vs.length + (m - o - vs.length) = m by omega]
     simp
theorem RwPo.en {w : World} {g n cap : Nat} {t : Nat → Po} (h : RwPo w g n cap t) {i : Nat} (hi : i < n) : ∃ cur t0 fr, w.heap[g]? = some (.cells cur t0 fr) ∧ PartAt cur (i * 5 + 2) (e3 (t i).d (t i).p (t i).o) := by
 obtain ⟨cur, h1, h2, h3⟩ := h.row
 refine ⟨cur, _, _, h1, fun j u hu => ?_⟩
 have hj : j < 3 := by have := (List.getElem?_eq_some_iff.1 hu).1; exact this
 have h4 := h3 i hi (j + 2) u (by
  have : j = 0 ∨ j = 1 ∨ j = 2 := by omega
  rcases this with rfl | rfl | rfl <;> exact hu)
 rw [show i * 5 + 2 + j = i * 5 + (j + 2) by omega]
 exact h4
theorem RwPo.setEn {w : World} {g n cap : Nat} {t : Nat → Po} (h : RwPo w g n cap t) {k : Nat} (hk : k < n) (d p o : Int) : ∃ cur, w.heap[g]? = some (.cells cur tPo (0, 0)) ∧ k * 5 + 2 + 3 ≤ cur.size ∧ RwPo (w.setRow g (spliced cur (k * 5 + 2) (e3 d p o))) g n cap (pupd t k ⟨(t k).g, (t k).tk, d, p, o⟩) := by
 obtain ⟨cur, h1, h2, h3⟩ := h.row
 have hnc := h.nc
 refine ⟨cur, h1, by omega, ⟨⟨_, row_set _ h1, by simp [spliced, e3_len]; omega, fun i hi j u hu => ?_⟩, h.nc, h.cm⟩⟩
 have hj : j < 5 := by have := (List.getElem?_eq_some_iff.1 hu).1; rw [pol_len] at this; exact this
 rw [spliced_get _ _ _ (by rw [e3_len]; omega), e3_len]
 by_cases e : i = k
 · subst e
   rw [pupd_at] at hu
   by_cases hj2 : 2 ≤ j
   · rw [if_pos (by omega)]
     have : j = 2 ∨ j = 3 ∨ j = 4 := by omega
     rw [show i * 5 + j - (i * 5 + 2) = j - 2 by omega]
     rcases this with rfl | rfl | rfl <;> exact hu
   · rw [if_neg (by omega)]
     have : j = 0 ∨ j = 1 := by omega
     rcases this with rfl | rfl <;> exact h3 i hi _ u hu
 · rw [pupd_ne _ _ e] at hu
   rw [if_neg (by omega)]
   exact h3 i hi j u hu
theorem RwPo.setTk {w : World} {g n cap : Nat} {t : Nat → Po} (h : RwPo w g n cap t) {k : Nat} (hk : k < n) (b : Bool) : RwPo (w.setCell ⟨g, k * 5 + 1, none⟩ (.bool b)) g n cap (pupd t k ⟨(t k).g, b, (t k).d, (t k).p, (t k).o⟩) := by
 obtain ⟨cur, h1, h2, h3⟩ := h.row
 have hnc := h.nc
 refine ⟨⟨cur.setIfInBounds (k * 5 + 1) (.bool b), by rw [blk_set h1], by simpa using h2, fun i hi j u hu => ?_⟩, h.nc, h.cm⟩
 have hj : j < 5 := by have := (List.getElem?_eq_some_iff.1 hu).1; rw [pol_len] at this; exact this
 rw [Array.getElem?_setIfInBounds]
 by_cases e : i = k
 · subst e
   rw [pupd_at] at hu
   by_cases hj1 : j = 1
   · subst hj1
     rw [if_pos rfl, if_pos (by omega)]
     exact hu
   · rw [if_neg (by omega)]
     have : j = 0 ∨ j = 2 ∨ j = 3 ∨ j = 4 := by omega
     rcases this with rfl | rfl | rfl | rfl <;> exact h3 i hi _ u hu
 · rw [pupd_ne _ _ e] at hu
   rw [if_neg (by omega)]
   exact h3 i hi j u hu
structure CpPo (w0 w : World) (g n cap : Nat) (t : Nat → Po) : Prop where
 R : RwPo w g n cap t
 lt : g < w0.heap.size
 lo : Below w0.heap.size w0 w
structure NwPo (w0 w : World) (g' n cap' : Nat) (t : Nat → Po) : Prop where
 R : RwPo w g' n cap' t
 nw : w0.heap.size ≤ g'
 lo : Below w0.heap.size w0 w
theorem emptyPo (W : World) (B : Nat) (h : B ≤ W.heap.size) : (W.alloc (.cells #[] tPo (0, 0))).ownsRow B tPo 5 (.slice (some ⟨W.heap.size, 0, none⟩) 0 0) 0 [] :=
 World.ownsRow_made (base := B) (e := 49) (size := 5) W #[] 0 h (by decide) rfl
set_option maxHeartbeats 3200000 in
theorem pfPut {w : World} {g n cap : Nat} {t : Nat → Po} (h : RwPo w g n cap t) {b : Nat} (ok : ∀ i, i < n → (t i).ok b) (hb : b < 1099511627776) (n0 : 1 ≤ n) (n1 : n ≤ 4096) (i : Nat) (hi : i < n) (hf : (t i).tk = false) (hp : ∀ j, j < i → (t j).tk = true) (d p o : Int) (hd3 : u64r d) (hp3 : u64r p) (ho3 : u64r o) :
 Calls Try.prog 12 #[.slice (some ⟨g, 0, none⟩) n cap, .agg (e3 d p o).toArray] w fun e w' => ∃ g' cap', e = .returned (.tuple #[.slice (some ⟨g', 0, none⟩) n cap', .int .u64 (hd (t i) i), .bool true]) ∧ NwPo w w' g' n cap' (pupd t i ((t i).put d p o)) := by
 have hcm := h.cm
 have hnc := h.nc
 unfold maxLen at hcm
 have HF := Lib.hid hf
 have HP := Lib.hid hp
 have OK := Lib.hid ok
 have HA := Lib.hid (show CpPo w (w.alloc (oEn tEr d p o)) g n cap t from ⟨h.below (trA (tr0 w) _), h.lt, trA (tr0 w) _⟩)
 have HE := Lib.hid (show EnAt tEr (w.alloc (oEn tEr d p o)) w.heap.size d p o from blk_new w _)
 clear h ok hf hp
 go_enter Try.func12, Try.ntmps12
 go_upto_region 1 with (fail)
 rw [show Obj.cells (e3 d p o).toArray 39 (0, 0) = oEn tEr d p o from rfl]
 generalize w.alloc (oEn tEr d p o) = W at *
 go_wp2_with fail
 go_loopw [7] (fun x wr => ∃ (k : Nat), k ≤ i ∧ x = .int .i64 k ∧ wr = W) (fun x wr => i - (intOf x).toNat)
 case atStart => exact ⟨0, by omega, rfl, rfl⟩
 case round =>
  obtain ⟨k, hk, rfl, rfl⟩ := hrel
  have hkn : k < n := by omega
  have c1 := HA.out.R.c hkn 1 _ rfl
  have hl := HA.out.R.lt
  by_cases hki : k < i
  · rw [HP.out k hki] at c1
    go_wp2_with fail
    go_roundw
    case rel => exact ⟨k + 1, by omega, by go_num, trivial⟩
    case measure => simp [intOf]; omega
  · obtain rfl : k = i := by omega
    rw [HF.out] at c1
    have OO := Lib.hid (emptyPo wr w.heap.size HA.out.lo.size)
    have hbb := trA (tr0 wr) (.cells #[] tPo (0, 0))
    have H4 := Lib.hid (HA.out.R.below hbb)
    have E4 := Lib.hid (HE.out.below hbb)
    have B4 := Lib.hid (tr HA.out.lo hbb)
    have HL := Lib.hid (And.intro HA.out.lt (show w.heap.size ≤ wr.heap.size from HA.out.lo.size))
    have HLE := Lib.hid HE.out.lt
    clear hbb
    go_upto_region 6 with (refine appendAllPo rfl (.tmp 21) (.tmp 22) rfl (v := .slice (some ⟨wr.heap.size, 0, none⟩) 0 0) rfl OO.out rfl H4.out n1 B4.out.size ?_; intro v' W5 O5 ho5; have HO := Lib.hid O5; have HH := Lib.hid ho5; clear O5 ho5)
    have ho6 : Off (· = wr.heap.size) (wr.alloc (.cells #[] tPo (0, 0))) W5 := HH.out.mono fun k _ e => (Option.some.inj e).symm
    have E5 := Lib.hid (E4.out.off ho6 (fun e => by have := HLE.out; omega))
    have B5 := Lib.hid (Off.toBelow B4.out ho6 (fun b hb e => by have := HL.out.2; omega) (Nat.le_refl _))
    obtain ⟨g', cap', rfl, hg', R5⟩ := HO.out.rw (by omega)
    have HR := Lib.hid R5
    have hcm' := R5.cm
    have hnc' := R5.nc
    unfold maxLen at hcm'
    clear OO H4 E4 B4 ho6 HO HH R5 HA HE c1 hl HP
    have HBX := Lib.hid (HR.out.ne E5.out (by decide))
    refine wp_region_held_drew (S := fun w' => EnAt tEr w' w.heap.size d p o) (by kernel_rfl) (E5.out.below (trD (tr0 W5))) (fun _ => ?_)
    have HE := Lib.hid (E5.out.below (trD (tr0 W5)))
    have HR := Lib.hid (HR.out.below (trD (tr0 W5)))
    have HB := Lib.hid (trD B5.out)
    generalize W5.drew = U0 at *
    clear E5 B5
    have hl := HR.out.lt
    have c1 := HR.out.c hi 1 _ rfl
    have f1 := HR.out.free (k * 5 + 1)
    refine wpAnyH_take (i := 0) (v := .slice (some ⟨g', 0, none⟩) n cap') rfl (by kernel_rfl) (by kernel_rfl) (by kernel_rfl) (fun _ _ _ h => h) (Or.inl ⟨by kernel_rfl, fun w' hSw => by clear hSw; go_simp⟩) HE.out ?_
    simp only [List.getElem_toArray, List.getElem_cons_zero, List.getElem_cons_succ, Act.put, List.setIfInBounds_toArray, List.set_cons_zero, List.set_cons_succ]
    refine wpAnyH_take (i := 1) (v := .int .i64 k) rfl (by kernel_rfl) (by kernel_rfl) (by kernel_rfl) (fun _ _ _ h => h) (Or.inl ⟨by kernel_rfl, fun w' hSw => by clear hSw; go_simp⟩) HE.out ?_
    simp only [List.getElem_toArray, List.getElem_cons_zero, List.getElem_cons_succ, Act.put, List.setIfInBounds_toArray, List.set_cons_zero, List.set_cons_succ]
    refine wpAnyH_take (i := 2) (v := .slice (some ⟨g', 0, none⟩) n cap') rfl (by kernel_rfl) (by kernel_rfl) (by kernel_rfl) (fun _ _ _ h => h) (Or.inl ⟨by kernel_rfl, fun w' hSw => by clear hSw; go_simp⟩) HE.out ?_
    simp only [List.getElem_toArray, List.getElem_cons_zero, List.getElem_cons_succ, Act.put, List.setIfInBounds_toArray, List.set_cons_zero, List.set_cons_succ]
    refine wpAnyH_take (i := 3) (v := .int .i64 k) rfl (by kernel_rfl) (by kernel_rfl) (by kernel_rfl) (fun _ _ _ h => h) (Or.inl ⟨by kernel_rfl, fun w' hSw => by clear hSw; go_simp⟩) HE.out ?_
    simp only [List.getElem_toArray, List.getElem_cons_zero, List.getElem_cons_succ, Act.put, List.setIfInBounds_toArray, List.set_cons_zero, List.set_cons_succ]
    refine wpAnyH_take (i := 4) (v := .agg (e3 d p o).toArray) rfl (by kernel_rfl) (by kernel_rfl) (by kernel_rfl) (fun _ _ _ h => h) (Or.inl ⟨by kernel_rfl, fun w' hSw => rldEr (.tmp 3) rfl rfl hSw⟩) HE.out ?_
    simp only [List.getElem_toArray, List.getElem_cons_zero, List.getElem_cons_succ, Act.put, List.setIfInBounds_toArray, List.set_cons_zero, List.set_cons_succ]
    refine wpAnyH_take (i := 5) (v := .pointer (some ⟨g', k * 5, none⟩)) rfl (by kernel_rfl) (by kernel_rfl) (by kernel_rfl) (fun _ _ _ h => h) (Or.inl ⟨by kernel_rfl, fun w' hSw => by clear hSw; go_simp⟩) HE.out ?_
    simp only [List.getElem_toArray, List.getElem_cons_zero, List.getElem_cons_succ, Act.put, List.setIfInBounds_toArray, List.set_cons_zero, List.set_cons_succ]
    refine wpAnyH_take (i := 6) (v := .pointer (some ⟨g', k * 5 + 1, none⟩)) rfl (by kernel_rfl) (by kernel_rfl) (by kernel_rfl) (fun _ _ _ h => h) (Or.inl ⟨by kernel_rfl, fun w' hSw => by clear hSw; go_simp⟩) HE.out ?_
    simp only [List.getElem_toArray, List.getElem_cons_zero, List.getElem_cons_succ, Act.put, List.setIfInBounds_toArray, List.set_cons_zero, List.set_cons_succ]
    refine wpAnyH_ready (rs := [7]) (by kernel_rfl) (by simp) ?_
    refine AllReadyH.cons rfl (fun K hK => ?_) AllReadyH.nil
    go_simp
    have HR := Lib.hid (HR.out.setTk hi true)
    have HE := Lib.hid (HE.out.else g' (k * 5 + 1) (.bool true) (fun e => HBX.out e.symm))
    have HB := Lib.hid (HB.out.setCell (p := ⟨g', k * 5 + 1, none⟩) (by show w.heap.size ≤ g'; exact hg') (.bool true))
    clear c1 f1 hl
    generalize U0.setCell ⟨g', k * 5 + 1, none⟩ (.bool true) = U1 at *
    refine hK.out _ _ HE.out (fun _ => ?_)
    clear hK K
    try simp only [Act.put]
    refine wpAnyH_take (i := 8) (v := .pointer (some ⟨g', k * 5, none⟩)) rfl (by kernel_rfl) (by kernel_rfl) (by kernel_rfl) (fun _ _ _ h => h) (Or.inl ⟨by kernel_rfl, fun w' hSw => by clear hSw; go_simp⟩) HE.out ?_
    simp only [List.getElem_toArray, List.getElem_cons_zero, List.getElem_cons_succ, Act.put, List.setIfInBounds_toArray, List.set_cons_zero, List.set_cons_succ]
    refine wpAnyH_take (i := 9) (v := .pointer (some ⟨g', k * 5 + 2, none⟩)) rfl (by kernel_rfl) (by kernel_rfl) (by kernel_rfl) (fun _ _ _ h => h) (Or.inl ⟨by kernel_rfl, fun w' hSw => by clear hSw; go_simp⟩) HE.out ?_
    simp only [List.getElem_toArray, List.getElem_cons_zero, List.getElem_cons_succ, Act.put, List.setIfInBounds_toArray, List.set_cons_zero, List.set_cons_succ]
    refine wpAnyH_ready (rs := [10]) (by kernel_rfl) (by simp) ?_
    refine AllReadyH.cons rfl (fun K hK => ?_) AllReadyH.nil
    obtain ⟨cur, hc1, hc2, hc3⟩ := HR.out.setEn hi d p o
    refine step_store_part rfl _ (.tmp 32) (.tmp 28) rfl g' (k * 5 + 2) rfl (e3 d p o) rfl hc1 iEr hc2 (e3_one _ _ _) ?_
    have ho : Off (· = g') U1 (U1.setRow g' (spliced cur (k * 5 + 2) (e3 d p o))) := ⟨rfl, rfl, rfl, by simp, fun b _ hs => setRow_other U1 g' b _ hs⟩
    have HE := Lib.hid (HE.out.off ho (fun e => HBX.out e.symm))
    have HB := Lib.hid (Off.toBelow HB.out ho (fun j hj e => by omega) (Nat.le_refl _))
    have HR := Lib.hid hc3
    clear hc1 hc2 hc3 ho
    generalize U1.setRow g' (spliced cur (k * 5 + 2) (e3 d p o)) = U2 at *
    refine hK.out _ _ HE.out (fun _ => ?_)
    clear hK K HE
    try simp only [Act.put]
    refine wpAnyH_done (by kernel_rfl) ?_ _
    have HN := Lib.hid (show NwPo w U2 g' n cap' (pupd t k ((t k).put d p o)) from ⟨HR.out.congr fun j _ => by
     by_cases e : j = k
     · subst e
       simp only [pupd_at]
       rfl
     · rw [pupd_ne _ _ e, pupd_ne _ _ e, pupd_ne _ _ e], hg', HB.out⟩)
    have HC := Lib.hid (show Calls Try.prog 24 #[.slice (some ⟨g', 0, none⟩) n cap', .int .i64 k] U2 fun e w' => e = .returned (.int .u64 (hd (t k) k)) ∧ U2 = w' by
     have := pfHandle HN.out.R (b := b) (fun j hj => by
      unfold pupd
      by_cases e : j = k
      · rw [if_pos e]
        have := OK.out k hi
        exact ⟨this.g0, this.g1, hd3, hp3, ho3⟩
      · rw [if_neg e]; exact OK.out j hj) hb n1 k hi
     rw [pupd_at] at this
     exact this)
    clear HR HB
    go_wp2_with (go_at_call 24; refine HC.out.mono ?_; rintro e w1 ⟨rfl, rfl⟩)
    go_ret3
    exact ⟨g', cap', rfl, HN.out⟩
set_option maxHeartbeats 3200000 in
theorem pfPutNo {w : World} {g n cap : Nat} {t : Nat → Po} (h : RwPo w g n cap t) (n1 : n ≤ 4096) (hp : ∀ j, j < n → (t j).tk = true) (d p o : Int) :
 Calls Try.prog 12 #[.slice (some ⟨g, 0, none⟩) n cap, .agg (e3 d p o).toArray] w fun e w' => e = .returned (.tuple #[.slice (some ⟨g, 0, none⟩) n cap, .int .u64 0, .bool false]) ∧ Below w.heap.size w w' := by
 have hcm := h.cm
 have hnc := h.nc
 unfold maxLen at hcm
 have HP := Lib.hid hp
 have HA := Lib.hid (show CpPo w (w.alloc (oEn tEr d p o)) g n cap t from ⟨h.below (trA (tr0 w) _), h.lt, trA (tr0 w) _⟩)
 clear h hp
 go_enter Try.func12, Try.ntmps12
 go_upto_region 1 with (fail)
 rw [show Obj.cells (e3 d p o).toArray 39 (0, 0) = oEn tEr d p o from rfl]
 generalize w.alloc (oEn tEr d p o) = W at *
 go_wp2_with fail
 go_loopw [7] (fun x wr => ∃ (k : Nat), k ≤ n ∧ x = .int .i64 k ∧ wr = W) (fun x wr => n - (intOf x).toNat)
 case atStart => exact ⟨0, by omega, rfl, rfl⟩
 case round =>
  obtain ⟨k, hk, rfl, rfl⟩ := hrel
  by_cases hkn : k < n
  · have c1 := HA.out.R.c hkn 1 _ rfl
    have hl := HA.out.R.lt
    rw [HP.out k hkn] at c1
    go_wp2_with fail
    go_roundw
    case rel => exact ⟨k + 1, by omega, by go_num, trivial⟩
    case measure => simp [intOf]; omega
  · obtain rfl : k = n := by omega
    go_wp2_with fail
    go_ret3
    exact ⟨rfl, HA.out.lo⟩
theorem storeEnPo {ops : Array Oper} {rest : List Oper} {o : Oper} {a : Act} {w : World} {Q : Exit → Act → World → Prop} (hgd : o.guard = none) (x y : Operand) (ho : o.op = .store 39 x y) {g n cap k : Nat} {t : Nat → Po} {d p z : Int} (hx : a.eval x = .pointer (some ⟨g, k * 5 + 2, none⟩)) (hy : a.eval y = .agg (e3 d p z).toArray) (hR : RwPo w g n cap t) (hk : k < n)
 (h : ∀ w', RwPo w' g n cap (pupd t k ⟨(t k).g, (t k).tk, d, p, z⟩) → Off (· = g) w w' → wpList Try.prog ops Q rest (a.put o.dst undef) w') : wpList Try.prog ops Q (o :: rest) a w := by
 obtain ⟨cur, h1, h2, h3⟩ := hR.setEn hk d p z
 exact wpList_store_part hgd _ x y ho g (k * 5 + 2) hx (e3 d p z) hy h1 iEr h2 (e3_one _ _ _) (h _ h3 ⟨rfl, rfl, rfl, by simp, fun b _ hs => setRow_other w g b _ hs⟩)
theorem fnd_some {n : Nat} {t : Nat → Po} {h : Int} {i : Nat} (hf : fnd n t h = some i) : i < n ∧ (t i).tk = true ∧ (t i).g = h / 4096 ∧ ((i : Nat) : Int) = h % 4096 := by
 unfold fnd at hf
 split at hf
 · rename_i hc
   cases hf
   exact ⟨hc.1, hc.2.1, hc.2.2, by omega⟩
 · cases hf
set_option maxHeartbeats 3200000 in
theorem pfSet {w : World} {g n cap : Nat} {t : Nat → Po} (h : RwPo w g n cap t) (n1 : n ≤ 4096) (x : Int) (x0 : 0 ≤ x) (x1 : x < 18446744073709551616) (d p o : Int) :
 Calls Try.prog 16 #[.slice (some ⟨g, 0, none⟩) n cap, .int .u64 x, .agg (e3 d p o).toArray] w fun e w' => ∃ g' cap', e = .returned (.slice (some ⟨g', 0, none⟩) n cap') ∧ RwPo w' g' n cap' (setT n t x d p o) ∧ (g' = g ∨ w.heap.size ≤ g') ∧ Below w.heap.size w w' := by
 have hcm := h.cm
 have hnc := h.nc
 unfold maxLen at hcm
 have HA := Lib.hid (show CpPo w (w.alloc (oEn tEr d p o)) g n cap t from ⟨h.below (trA (tr0 w) _), h.lt, trA (tr0 w) _⟩)
 have HE := Lib.hid (show EnAt tEr (w.alloc (oEn tEr d p o)) w.heap.size d p o from blk_new w _)
 have HF := Lib.hid (pfFind (HA.out.R) n1 x x0 x1)
 unfold setT
 unfold fndI at HF
 cases hf : fnd n t x with
 | none =>
   rw [hf] at HF
   dsimp only at HF ⊢
   clear h hf
   go_enter Try.func16, Try.ntmps16
   go_upto_region 1 with (fail)
   rw [show Obj.cells (e3 d p o).toArray 39 (0, 0) = oEn tEr d p o from rfl]
   generalize w.alloc (oEn tEr d p o) = W at *
   go_wp2_with (go_at_call 11; refine HF.out.mono ?_; rintro e w1 ⟨rfl, rfl⟩)
   go_ret
   exact ⟨g, cap, rfl, HA.out.R, .inl rfl, HA.out.lo⟩
 | some k =>
   rw [hf] at HF
   dsimp only at HF ⊢
   obtain ⟨hk, htk, e3h, e4h⟩ := fnd_some hf
   clear e3h e4h
   have HT := Lib.hid htk
   clear h hf htk
   go_enter Try.func16, Try.ntmps16
   go_upto_region 1 with (fail)
   rw [show Obj.cells (e3 d p o).toArray 39 (0, 0) = oEn tEr d p o from rfl]
   generalize w.alloc (oEn tEr d p o) = wr at *
   have OO := Lib.hid (emptyPo wr w.heap.size HA.out.lo.size)
   have hbb := trA (tr0 wr) (.cells #[] tPo (0, 0))
   have H4 := Lib.hid (HA.out.R.below hbb)
   have E4 := Lib.hid (HE.out.below hbb)
   have B4 := Lib.hid (tr HA.out.lo hbb)
   have HL := Lib.hid (And.intro HA.out.lt (show w.heap.size ≤ wr.heap.size from HA.out.lo.size))
   have HLE := Lib.hid HE.out.lt
   clear hbb
   go_upto_region 5 with (first
    | (go_at_call 11; refine HF.out.mono ?_; rintro e w1 ⟨rfl, rfl⟩)
    | (refine appendAllPo rfl (.tmp 15) (.tmp 16) rfl (v := .slice (some ⟨wr.heap.size, 0, none⟩) 0 0) rfl OO.out rfl H4.out n1 B4.out.size ?_; intro v' W5 O5 ho5; have HO := Lib.hid O5; have HH := Lib.hid ho5; clear O5 ho5))
   have ho6 : Off (· = wr.heap.size) (wr.alloc (.cells #[] tPo (0, 0))) W5 := HH.out.mono fun k _ e => (Option.some.inj e).symm
   have E5 := Lib.hid (E4.out.off ho6 (fun e => by have := HLE.out; omega))
   have B5 := Lib.hid (Off.toBelow B4.out ho6 (fun b hb e => by have := HL.out.2; omega) (Nat.le_refl _))
   obtain ⟨g', cap', rfl, hg', R5⟩ := HO.out.rw (by omega)
   have HR := Lib.hid R5
   have hcm' := R5.cm
   have hnc' := R5.nc
   have hl := R5.lt
   unfold maxLen at hcm'
   clear OO H4 E4 B4 ho6 HO HH R5 HA HE HF
   go_wp2_with (first
    | (refine ldEr rfl (.tmp 5) rfl rfl E5.out ?_)
    | (refine storeEnPo rfl (.tmp 22) (.tmp 20) rfl rfl rfl HR.out hk ?_; intro w8 h8 ho8; have HN := Lib.hid (show RwPo w8 g' n cap' (pupd t k ((t k).put d p o)) from h8.congr fun j _ => by rw [HT.out]; rfl); have HB := Lib.hid (Off.toBelow B5.out ho8 (fun j hj e => by omega) (Nat.le_refl _)); clear h8 ho8))
   go_ret
   exact ⟨g', cap', rfl, HN.out, .inr hg', HB.out⟩
set_option maxHeartbeats 3200000 in
theorem pfDrop {w : World} {g n cap : Nat} {t : Nat → Po} (h : RwPo w g n cap t) {b : Nat} (ok : ∀ i, i < n → (t i).ok b) (hb : b < 1099511627776) (n1 : n ≤ 4096) (x : Int) (x0 : 0 ≤ x) (x1 : x < 18446744073709551616) :
 Calls Try.prog 14 #[.slice (some ⟨g, 0, none⟩) n cap, .int .u64 x] w fun e w' => ∃ g' cap', e = .returned (.slice (some ⟨g', 0, none⟩) n cap') ∧ RwPo w' g' n cap' (dropT n t x) ∧ (g' = g ∨ w.heap.size ≤ g') ∧ Below w.heap.size w w' := by
 have hcm := h.cm
 have hnc := h.nc
 unfold maxLen at hcm
 have HA := Lib.hid h
 have HF := Lib.hid (pfFind h n1 x x0 x1)
 unfold dropT
 unfold fndI at HF
 cases hf : fnd n t x with
 | none =>
   rw [hf] at HF
   dsimp only at HF ⊢
   clear h hf ok
   go_enter Try.func14, Try.ntmps14
   go_wp2_with (go_at_call 11; refine HF.out.mono ?_; rintro e w1 ⟨rfl, rfl⟩)
   go_ret
   exact ⟨g, cap, rfl, HA.out, .inl rfl, tr0 _⟩
 | some k =>
   rw [hf] at HF
   dsimp only at HF ⊢
   obtain ⟨hk, htk, e3h, e4h⟩ := fnd_some hf
   clear e3h e4h
   have q0 := (ok k hk).g0
   have q1 := (ok k hk).g1
   obtain ⟨G, hG⟩ : ∃ G, (t k).g = G := ⟨_, rfl⟩
   have HG := Lib.hid hG
   rw [hG] at q0 q1
   have q2 : G + 1 < 18446744073709551616 := by omega
   clear hf htk h ok hG
   have OO := Lib.hid (emptyPo w w.heap.size (Nat.le_refl _))
   have hbb := trA (tr0 w) (.cells #[] tPo (0, 0))
   have H4 := Lib.hid (HA.out.below hbb)
   have B4 := Lib.hid hbb
   clear hbb
   go_enter Try.func14, Try.ntmps14
   go_upto_region 5 with (first
    | (go_at_call 11; refine HF.out.mono ?_; rintro e w1 ⟨rfl, rfl⟩)
    | (refine appendAllPo rfl (.tmp 13) (.tmp 14) rfl (v := .slice (some ⟨w.heap.size, 0, none⟩) 0 0) rfl OO.out rfl H4.out n1 B4.out.size ?_; intro v' W5 O5 ho5; have HO := Lib.hid O5; have HH := Lib.hid ho5; clear O5 ho5))
   have ho6 : Off (· = w.heap.size) (w.alloc (.cells #[] tPo (0, 0))) W5 := HH.out.mono fun k _ e => (Option.some.inj e).symm
   have B5 := Lib.hid (Off.toBelow B4.out ho6 (fun b hb e => by omega) (Nat.le_refl _))
   obtain ⟨g', cap', rfl, hg', R5⟩ := HO.out.rw (by omega)
   have HR := Lib.hid R5
   have hcm' := R5.cm
   have hnc' := R5.nc
   have hl := R5.lt
   have c0 := R5.c hk 0 _ rfl
   rw [Nat.add_zero, HG.out] at c0
   unfold maxLen at hcm'
   clear OO H4 B4 ho6 HO HH R5 HF HA
   go_wp2_with (first
    | (refine stepBuildAt rfl (.tmp 23) rfl rfl ?_)
    | (refine storePo rfl (.tmp 25) (.tmp 24) rfl rfl (s := ⟨G + 1, false, 0, 0, 0⟩) rfl HR.out hk ?_; intro w8 h8 ho8; have HN := Lib.hid (show RwPo w8 g' n cap' (pupd t k (t k).gone) from h8.congr fun j _ => by rw [← HG.out]; rfl); have HB := Lib.hid (Off.toBelow B5.out ho8 (fun j hj e => by omega) (Nat.le_refl _)); clear h8 ho8))
   go_ret
   exact ⟨g', cap', rfl, HN.out, .inr hg', HB.out⟩
end Go.Proofs.Ytggmllobcemhhaa.B
