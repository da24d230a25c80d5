/- Several texts in one: 'm[k] = f(m[k])' in one statement: the entry is found, then laid; append as a step of a region that draws its order. Package .. -/
import Derived.Test.YtggmllobcemhhaaZAaa
import Derived.Test.YtggmllobcemhhaaZAam
import Derived.Deep.RegionLaw
import Derived.Maps.AppendAt
import Derived.Laws.CopyOwn
import Derived.Laws.MakeOwn
import Derived.Deep.RegionHeld
namespace Go.Proofs.Ytggmllobcemhhaa.B
set_option linter.unusedVariables false
set_option linter.unusedSimpArgs false
open Go.ChangeShapes Go.WideShapes Go.RowKit Go.Sort Go.MapKept
open Go.ChangeMaps (setBlock modify_eq_set set_perm)
section
variable {P : Program} {k : TypeId} {κ : Type} {ek : κ → Value} {ok : κ → Prop} {w : World} {b : Nat} {M : List (κ × Value)}
end
theorem step_append_own {P : Program} {ops : Array Oper} {o : Oper} {a : Act} {w : World} {K : Act → World → Prop} {Q : Exit → Act → World → Prop} {E : Prop}
 (hg : o.guard = none) (s x : Operand) (t : TypeId) (hop : o.op = Op.call { callee := Callee.builtin Builtin.append, args := #[s, x], argTypes := #[t, t] })
 (base : Nat) (e : TypeId) (i : TypeInfo) (z : Value) (size bytes : Nat) (ht : P.underlying t = some (.slice e)) (hi : P.info? e = some i) (hz : i.zero = some z)
 (hsize : i.size = size) (hby : i.bytes = bytes) (hzs : z.cells.size = size) (hsz : 0 < size)
 (v : Value) (n : Nat) (xs : List Value) (hs : a.eval s = v) (hown : w.ownsRow base e size v n xs)
 (ad : Addr) (m c : Nat) (news : List Value) (hx : a.eval x = .slice (some ad) m c) (hl : news.length = m * size) (hnews : ∀ j u, news[j]? = some u → w.cell? (ad.add j) = some u) (h1 : ∀ u ∈ news, u.oneCell' = true)
 (h63 : n + m ≤ maxLen) (hbytes : (n + m) * bytes ≤ 140737488355328) (hbase : base ≤ w.heap.size)
 (hK : ∀ v' w', w'.ownsRow base e size v' (n + m) (xs ++ news) → w.grownBy w' v.ownBlock → (v' = .slice none 0 0 ↔ v = .slice none 0 0 ∧ m = 0) → (v'.ownBlock = v.ownBlock ∨ v'.ownBlock = some w.heap.size) → K (a.put o.dst v') w') :
 if Region.wanted o (yielded ops a.tmps) = true then Oper.wp P o a w K Q else E := by
 have hw : Region.wanted o (yielded ops a.tmps) = true := by simp [Region.wanted, hg]
 rw [if_pos hw]
 obtain ⟨v', w', hr, h2, h3, h4, h5⟩ := run_append_own_at (P := P) w base t o.type e i z size bytes ht hi hz hsize hby hzs hsz v n xs hown ad m c news hl hnews h1 h63 hbytes hbase
 unfold Oper.wp execOp
 simp only [hop, resolve, invoke, builtin, Sem.run_bind, Sem.run_pure, Result.andThen_ok, List.map_toArray, List.map_cons, List.map_nil, hs, hx, hr]
 exact hK _ _ h2 h3 h4 h5
end Go.Proofs.Ytggmllobcemhhaa.B
namespace Go.Proofs.Ytggmllobcemhhaa.B
set_option linter.unusedVariables false
set_option linter.unusedSimpArgs false
set_option maxRecDepth 100000
open Go.ChangeShapes Go.WideShapes Go.RowKit Go.Sort Go.MapKept
theorem mMul64 (y : Int) (w : World) (y0 : 0 ≤ y) (y1 : y ≤ 4096) : Calls Try.prog 42 #[.int .u64 1, .int .u64 y] w fun e w' => e = .returned (.tuple #[.int .u64 0, .int .u64 y]) ∧ w = w' := by
 have ha : bits BinOp.and IntKind.u64 y 4294967295 = y := by
  rw [u64_and _ _ (by omega) (by omega) (by decide) (by decide), show (4294967295 : Int).toNat = 2 ^ 32 - 1 by decide, Nat.and_two_pow_sub_one_eq_mod]
  omega
 have hd : y / 4294967296 = 0 := by omega
 have ha1 : bits BinOp.and IntKind.u64 1 4294967295 = 1 := by decide
 have ha0 : bits BinOp.and IntKind.u64 0 4294967295 = 0 := by decide
 go_enter Try.func42, Try.ntmps42
 go_wp2_with fail
 go_ret2
 exact ⟨rfl, rfl⟩
theorem mMul (y : Int) (w : World) (y0 : 0 ≤ y) (y1 : y ≤ 4096) : Calls Try.prog 38 #[.int .u64 1, .int .u64 y] w fun e w' => e = .returned (.tuple #[.int .u64 0, .int .u64 y]) ∧ w = w' := by
 have hm := Lib.hid (mMul64 y w y0 y1)
 go_enter Try.func38, Try.ntmps38
 go_wp2_with fail
 refine hm.out.mono ?_
 rintro e w1 ⟨rfl, rfl⟩
 go_wp2_with fail
 go_ret2
 exact ⟨rfl, rfl⟩
def oneL (n k : Nat) : List Value := List.replicate k (.int .u64 1) ++ List.replicate (n - k) (.int .u64 0)
theorem oneL_len (n k : Nat) (h : k ≤ n) : (oneL n k).length = n := by unfold oneL; simp; omega
theorem oneL_splice (n k j : Nat) (h : k + j ≤ n) : splice (oneL n k) k (List.replicate j (.int .u64 1)) = oneL n (k + j) := by
 unfold splice oneL
 rw [List.length_replicate, List.take_left' (by simp), List.drop_append, List.length_replicate, List.drop_replicate, List.drop_replicate, show k - (k + j) = 0 by omega, List.replicate_zero, List.nil_append, show k + j - k = j by omega, ← List.append_assoc, List.replicate_append_replicate, show n - k - j = n - (k + j) by omega]
def oMade (n : Nat) : Obj := .cells (oneL n 0).toArray tUv (0, 0)
theorem mkRunU (n : Nat) (n1 : n ≤ 4096) (w : World) : (Instr.makeSlice 31 (.int .i64 n) (.int .i64 n)).run Try.prog w = .ok (.slice (some ⟨w.heap.size, 0, none⟩) n n) (w.alloc (oMade n)) := by
 obtain ⟨i0, hi, hz0, hz1, hz2⟩ := info_parts infoUv
 have hr := run_make (P := Try.prog) w 31 30 i0 _ Try.underlying31 hi hz0 .i64 .i64 n n (by omega) (Int.le_refl _) (by rw [hz2]; omega) (by omega)
 rw [hz1] at hr
 have e : madeCells (Value.int .u64 0).cells (n * 1) = (oneL n 0).toArray := by
  rw [Nat.mul_one]
  apply Array.ext
  · rw [size_madeCells]; simp [oneL]
  · intro i h1 h2
    simp [madeCells, oneL, Value.cells, Nat.mod_one]
 simp only [Int.toNat_natCast, e] at hr
 exact hr
theorem oneL_get (n k i : Nat) (hi : i < k) : (oneL n k)[i]? = some (.int .u64 1) := by
 unfold oneL
 rw [List.getElem?_append_left (by simpa using hi), List.getElem?_replicate, if_pos hi]
theorem copyOnes (n k : Nat) (n1 : n ≤ 4096) (hk1 : 1 ≤ k) (hk : k < n) (G : Nat) (W : World) (hW : W.heap[G]? = some (.cells (oneL n k).toArray tUv (0, 0))) (ty : TypeId) :
 (Builtin.copy_ #[31, 31] ty #[.slice (some ⟨G, k, none⟩) (n - k) (n - k), .slice (some ⟨G, 0, none⟩) k n]).run Try.prog W = .ok (goInt (Nat.min k (n - k))) (W.setRow G (oneL n (k + Nat.min k (n - k))).toArray) := by
 have m1 : Nat.min k (n - k) ≤ k := Nat.min_le_left _ _
 have m2 : Nat.min k (n - k) ≤ n - k := Nat.min_le_right _ _
 have hm : k + Nat.min k (n - k) ≤ n := by omega
 have hr := run_copy_row (P := Try.prog) W 31 31 ty tUv G k (n - k) (n - k) ⟨G, 0, none⟩ k n (oneL n k).toArray tUv (List.replicate (Nat.min k (n - k)) (.int .u64 1)) Try.underlying31 (by kernel_rfl) hW (by simp) (fun j v hj => by
  rw [List.getElem?_replicate] at hj
  split at hj
  · rename_i hlt
    obtain rfl := Option.some.inj hj
    rw [Addr.add_lit, Nat.zero_add, blk_cell hW, List.getElem?_toArray]
    exact oneL_get n k j (by omega)
  · cases hj) (by simp [oneL_len n k (by omega)]; exact hm) (fun v hv => by rw [List.eq_of_mem_replicate hv]; rfl)
 have e := oneL_splice n k (Nat.min k (n - k)) hm
 unfold splice at e
 rw [List.length_replicate] at hr
 rw [List.length_replicate] at e
 rw [hr, List.append_assoc, ← e]
theorem sRepeat (n : Nat) (b : Nat) (w : World) (n0 : 1 ≤ n) (n1 : n ≤ 4096) (hb : w.heap[b]? = some (oUv 1)) : Calls Try.prog 30 #[.slice (some ⟨b, 0, none⟩) 1 1, .int .i64 n] w
 fun e w' => ∃ g, e = .returned (.slice (some ⟨g, 0, none⟩) n n) ∧ w.heap.size ≤ g ∧ RwU w' g n n (fun _ => 1) ∧ Below w.heap.size w w' := by
 have hm := Lib.hid (mMul (n : Int) w (by omega) (by omega))
 have hk := mkRunU n n1
 have c0 : w.cell? ⟨b, 0, none⟩ = some (.int .u64 1) := by rw [blk_cell hb]; rfl
 go_enter Try.func30, Try.ntmps30
 go_wp2_with fail
 refine hm.out.mono ?_
 rintro e w1 ⟨rfl, rfl⟩
 go_upto_region 7 with (fail)
 have HW := Lib.hid (blk_new w (oMade n))
 have HBb := Lib.hid (trA (tr0 w) (oMade n))
 have c1 := Lib.hid ((trA (tr0 w) (oMade n)).cell (p := ⟨b, 0, none⟩) (lt_of_block hb) ▸ c0)
 clear hm hb c0
 have hpos : ∀ (j : Nat) (v : Value), [Value.int .u64 1][j]? = some v → (w.alloc (oMade n)).cell? ((⟨b, 0, none⟩ : Addr).add j) = some v := fun j v hj => by
  rcases j with _ | j
  · simp only [List.getElem?_cons_zero, Option.some.injEq] at hj; subst hj; exact c1.out
  · simp at hj
 have hmin : [Value.int .u64 1].length = Nat.min 1 n := (Nat.min_eq_left n0).symm
 have hfit : 0 + [Value.int .u64 1].length ≤ (oneL n 0).length := by rw [oneL_len n 0 (Nat.zero_le _)]; exact n0
 have hone : ∀ v ∈ [Value.int .u64 1], v.oneCell' = true := fun v hv => by simp at hv; subst hv; rfl
 iterate 7 (first | go_values | go_skip | go_guarded | go_step)
 refine wpList_copy_splice rfl (.tmp 31) (.tmp 32) 31 31 rfl tUv Try.underlying31 (by kernel_rfl) _ _ n n 1 1 rfl rfl w.heap.size 0 (oneL n 0) tUv HW.out [.int .u64 1] hmin (fun _ => ⟨rfl, _, rfl, hpos⟩) hfit hone w.heap.size w HBb.out (Nat.le_refl _) ?_
 intro w2 h2 hb2
 have H2 := Lib.hid h2.out
 rw [show ([Value.int .u64 1] : List Value) = List.replicate 1 (.int .u64 1) from rfl, oneL_splice n 0 1 (by omega)] at H2
 have HB2 := Lib.hid hb2
 clear h2 hb2 HW HBb c1 hpos hmin hfit hone
 have n9 : n ≤ 9223372036854775807 := by omega
 go_wp2_with fail
 go_loopw [8] (fun i wr => ∃ (k : Nat), 1 ≤ k ∧ k ≤ n ∧ i = .int .i64 k ∧ Hid (wr.heap[w.heap.size]? = some (.cells (oneL n k).toArray tUv (0, 0)) ∧ Below w.heap.size w wr)) (fun i wr => n - (intOf i).toNat)
 case atStart => exact ⟨1, by omega, by omega, by go_num, Lib.hid ⟨H2.out, HB2.out⟩⟩
 case round =>
  clear H2 HB2
  obtain ⟨k, hk1, hk, rfl, HX⟩ := hrel
  rename_i wr
  by_cases hlt : k < n
  · go_upto_region 9 with (fail)
    have hc := copyOnes n k n1 hk1 hlt w.heap.size
    obtain ⟨J, hJ, J0, J1⟩ : ∃ J, Nat.min k (n - k) = J ∧ 1 ≤ J ∧ k + J ≤ n := ⟨_, rfl, Nat.le_min.2 ⟨hk1, by omega⟩, by have : Nat.min k (n - k) ≤ n - k := Nat.min_le_right _ _; omega⟩
    rw [hJ] at hc
    clear hJ
    have hnk : ¬ n = k := by omega
    have hwr : IntKind.i64.wrap ((k : Int) + (J : Int)) = (k : Int) + (J : Int) := by rw [IntKind.wrap_i64]; omega
    refine wp_region_held_drew (S := fun _ => True) (by kernel_rfl) trivial (fun _ => ?_)
    refine wpAnyH_take (i := 0) (v := .int .i64 (k : Int)) rfl (by kernel_rfl) (by kernel_rfl) (by kernel_rfl) (fun _ _ _ h => h) (Or.inl ⟨by rfl, fun w' hSw => by clear hSw; go_simp⟩) trivial ?_
    simp only [List.getElem_toArray, List.getElem_cons_zero, List.getElem_cons_succ, Act.put, List.setIfInBounds_toArray, List.set_cons_zero, List.set_cons_succ]
    refine wpAnyH_take (i := 1) (v := .slice (some ⟨w.heap.size, 0, none⟩) n n) rfl (by kernel_rfl) (by kernel_rfl) (by kernel_rfl) (fun _ _ _ h => h) (Or.inl ⟨by rfl, fun w' hSw => by clear hSw; go_simp⟩) trivial ?_
    simp only [List.getElem_toArray, List.getElem_cons_zero, List.getElem_cons_succ, Act.put, List.setIfInBounds_toArray, List.set_cons_zero, List.set_cons_succ]
    refine wpAnyH_take (i := 2) (v := .int .i64 (k : Int)) rfl (by kernel_rfl) (by kernel_rfl) (by kernel_rfl) (fun _ _ _ h => h) (Or.inl ⟨by rfl, fun w' hSw => by clear hSw; go_simp⟩) trivial ?_
    simp only [List.getElem_toArray, List.getElem_cons_zero, List.getElem_cons_succ, Act.put, List.setIfInBounds_toArray, List.set_cons_zero, List.set_cons_succ]
    refine wpAnyH_take (i := 3) (v := .slice (some ⟨w.heap.size, k, none⟩) (n - k) (n - k)) rfl (by kernel_rfl) (by kernel_rfl) (by kernel_rfl) (fun _ _ _ h => h) (Or.inl ⟨by rfl, fun w' hSw => by clear hSw; go_simp⟩) trivial ?_
    simp only [List.getElem_toArray, List.getElem_cons_zero, List.getElem_cons_succ, Act.put, List.setIfInBounds_toArray, List.set_cons_zero, List.set_cons_succ]
    refine wpAnyH_take (i := 4) (v := .slice (some ⟨w.heap.size, 0, none⟩) n n) rfl (by kernel_rfl) (by kernel_rfl) (by kernel_rfl) (fun _ _ _ h => h) (Or.inl ⟨by rfl, fun w' hSw => by clear hSw; go_simp⟩) trivial ?_
    simp only [List.getElem_toArray, List.getElem_cons_zero, List.getElem_cons_succ, Act.put, List.setIfInBounds_toArray, List.set_cons_zero, List.set_cons_succ]
    refine wpAnyH_take (i := 5) (v := .int .i64 (k : Int)) rfl (by kernel_rfl) (by kernel_rfl) (by kernel_rfl) (fun _ _ _ h => h) (Or.inl ⟨by rfl, fun w' hSw => by clear hSw; go_simp⟩) trivial ?_
    simp only [List.getElem_toArray, List.getElem_cons_zero, List.getElem_cons_succ, Act.put, List.setIfInBounds_toArray, List.set_cons_zero, List.set_cons_succ]
    refine wpAnyH_take (i := 6) (v := .slice (some ⟨w.heap.size, 0, none⟩) k n) rfl (by kernel_rfl) (by kernel_rfl) (by kernel_rfl) (fun _ _ _ h => h) (Or.inl ⟨by rfl, fun w' hSw => by clear hSw; go_simp⟩) trivial ?_
    simp only [List.getElem_toArray, List.getElem_cons_zero, List.getElem_cons_succ, Act.put, List.setIfInBounds_toArray, List.set_cons_zero, List.set_cons_succ]
    refine wpAnyH_ready (rs := [7]) (by kernel_rfl) (by simp) ?_
    refine AllReadyH.cons rfl (fun K hK => ?_) AllReadyH.nil
    go_simp
    rw [hc wr.drew HX.out.1 _]
    have HR := Lib.hid (And.intro (row_set (oneL n (k + J)).toArray (show wr.drew.heap[w.heap.size]? = _ from HX.out.1)) (Go.below_setRow (show Below w.heap.size w wr.drew from trD HX.out.2) (Nat.le_refl _) (oneL n (k + J)).toArray))
    clear hc HX
    generalize World.setRow wr.drew w.heap.size (oneL n (k + J)).toArray = W2 at *
    go_simp
    refine hK.out _ _ trivial (fun _ => ?_)
    clear hK K
    refine wpAnyH_take (i := 8) (v := .int .i64 ((k : Int) + (J : Int))) rfl (by kernel_rfl) (by kernel_rfl) (by kernel_rfl) (fun _ _ _ h => h) (Or.inl ⟨by rfl, fun w' hSw => by clear hSw; go_simp⟩) trivial ?_
    simp only [List.getElem_toArray, List.getElem_cons_zero, List.getElem_cons_succ, Act.put, List.setIfInBounds_toArray, List.set_cons_zero, List.set_cons_succ]
    refine wpAnyH_take (i := 9) (v := .int .i64 ((k : Int) + (J : Int))) rfl (by kernel_rfl) (by kernel_rfl) (by kernel_rfl) (fun _ _ _ h => h) (Or.inl ⟨by rfl, fun w' hSw => by clear hSw; go_simp⟩) trivial ?_
    simp only [List.getElem_toArray, List.getElem_cons_zero, List.getElem_cons_succ, Act.put, List.setIfInBounds_toArray, List.set_cons_zero, List.set_cons_succ]
    refine wpAnyH_done (by kernel_rfl) ?_ _
    go_wp2_with fail
    go_roundw
    case rel => exact ⟨k + J, by omega, J1, by go_num, HR⟩
    case measure => simp [intOf]; omega
  · obtain rfl : k = n := by omega
    go_wp2_with fail
    go_ret
    refine ⟨w.heap.size, rfl, Nat.le_refl _, ⟨_, HX.out.1, Nat.le_refl _, by unfold maxLen; omega, by rw [List.size_toArray]; exact oneL_len _ _ (Nat.le_refl _), fun i hi => ?_⟩, HX.out.2⟩
    simp [oneL, List.getElem?_append, hi]
end Go.Proofs.Ytggmllobcemhhaa.B
namespace Go.Proofs.Ytggmllobcemhhaa.B
set_option linter.unusedVariables false
set_option linter.unusedSimpArgs false
section
variable {P : Program} {ops : Array Oper} {Q : Exit → Act → World → Prop} {md : Region.Mode} {S : World → Prop}
theorem tkH {i : Nat} {oi : Oper} {v : Value} {fuel : Nat} {listed : Array Bool} {a : Act} {w : World} (hi : ops[i]? = some oi)
 (hb : (Region.noSelect ops && Region.free md ops listed i && (Region.ready md ops listed).contains i && Region.wanted oi (yielded ops a.tmps)) = true)
 (hQ : ∀ c a w, Q (.panic c) (a.put oi.dst v) w → Q (.panic c) a w) (hy : ∀ w, S w → (execOp a.eval oi).run P w = .ok (.value v) w) (hS : S w)
 (h : wpAnyH P md ops Q S fuel (listed.setIfInBounds i true) (a.put oi.dst v) w) : wpAnyH P md ops Q S (fuel + 1) listed a w := by
 simp only [Bool.and_eq_true] at hb
 exact wpAnyH_take hi hb.1.1.1 hb.1.1.2 hb.1.2 hQ (.inl ⟨hb.2, hy⟩) hS h
theorem tkG {i : Nat} {oi : Oper} {v : Value} {fuel : Nat} {listed : Array Bool} {a : Act} {w : World} (hS : S w) (h : wpAnyH P md ops Q S fuel (listed.setIfInBounds i true) (a.put oi.dst v) w) (hi : ops[i]? = some oi := by exact rfl)
 (hb : (Region.noSelect ops && Region.free md ops listed i && (Region.ready md ops listed).contains i && Region.wanted oi (yielded ops a.tmps)) = true := by kernel_rfl)
 (hQ : ∀ c a w, Q (.panic c) (a.put oi.dst v) w → Q (.panic c) a w := by exact fun _ _ _ h => h) (hy : ∀ w, S w → (execOp a.eval oi).run P w = .ok (.value v) w := by intro w' hSw; clear hSw; go_simp) :
 wpAnyH P md ops Q S (fuel + 1) listed a w := tkH hi hb hQ hy hS h
theorem rdH {fuel : Nat} {listed : Array Bool} {a : Act} {w : World} {i : Nat} {o : Oper} (hr : Region.ready md ops listed = [i]) (ho : ops[i]? = some o)
 (h : ∀ K' : Act → World → Prop, Shut (∀ a w, S w → (S w → wpAnyH P md ops Q S fuel (listed.setIfInBounds i true) a w) → K' a w) → if Region.wanted o (yielded ops a.tmps) = true then Oper.wp P o a w K' Q else K' (a.put o.dst undef) w) :
 wpAnyH P md ops Q S (fuel + 1) listed a w := wpAnyH_ready hr (by simp) (AllReadyH.cons ho h AllReadyH.nil)
end
theorem lgA {α : Type} {xs : List α} {i : Nat} (h : i < xs.toArray.size) : xs.toArray[i]'h = xs[i]'(by simpa using h) := List.getElem_toArray h
theorem lgZ {α : Type} {a : α} {bs : List α} (h : 0 < (a :: bs).length) : (a :: bs)[0]'h = a := List.getElem_cons_zero _ _ h
theorem lgS {α : Type} {a : α} {bs : List α} {i : Nat} (h : i + 1 < (a :: bs).length) : (a :: bs)[i + 1]'h = bs[i]'(by simpa using h) := List.getElem_cons_succ _ _ _ h
theorem lsA {α : Type} {l : List α} {i : Nat} {x : α} : l.toArray.setIfInBounds i x = (l.set i x).toArray := List.setIfInBounds_toArray _ _ _
theorem lsZ {α : Type} {x y : α} {l : List α} : (x :: l).set 0 y = y :: l := List.set_cons_zero
theorem lsS {α : Type} {x y : α} {l : List α} {n : Nat} : (x :: l).set (n + 1) y = x :: l.set n y := List.set_cons_succ
end Go.Proofs.Ytggmllobcemhhaa.B
namespace Go.Proofs.Ytggmllobcemhhaa.B
set_option linter.unusedVariables false
set_option linter.unusedSimpArgs false
set_option maxRecDepth 100000
open Go.ChangeShapes Go.WideShapes Go.RowKit Go.Sort Go.MapKept
theorem pNewNo (a : Int) (w : World) (ha : i64v a) (h : ¬ (1 ≤ a ∧ a ≤ 4096)) : Calls Try.prog 8 #[.int .i64 a] w fun e w' => e = .returned (.tuple #[.pointer none, .int .i64 5]) ∧ Below w.heap.size w w' := by
 by_cases h1 : a < 1
 · go_enter Try.func8, Try.ntmps8
   go_wp2_with fail
   go_ret2
   exact ⟨rfl, tr0 _⟩
 · have h2 : 4096 < a := by omega
   go_enter Try.func8, Try.ntmps8
   go_wp2_with fail
   go_ret2
   exact ⟨rfl, tr0 _⟩
def mks (n : Nat) : Nat → List Int
 | 0 => []
 | k + 1 => mks n k ++ [mask ((n : Int) - 64 * k)]
theorem mks_len (n k : Nat) : (mks n k).length = k := by
 induction k with
 | zero => rfl
 | succ k ih => unfold mks; rw [List.length_append, ih]; rfl
theorem mks_get (n : Nat) : ∀ (k i : Nat), i < k → (mks n k)[i]? = some (mask ((n : Int) - 64 * i))
 | 0, i, h => by omega
 | k + 1, i, h => by
   unfold mks
   by_cases e : i = k
   · subst e; rw [List.getElem?_append_right (by rw [mks_len]; exact Nat.le_refl _), mks_len, Nat.sub_self]; rfl
   · rw [List.getElem?_append_left (by rw [mks_len]; omega)]; exact mks_get n k i (by omega)
theorem entM_none (n : Nat) : entM (fun _ => pz) n = [] := by
 induction n with
 | zero => rfl
 | succ k ih => unfold entM; rw [ih]; rfl
structure NwS (w0 w : World) (p m g n : Nat) (V : Value) (k : Nat) : Prop where
 cell : w.heap[p]? = some (.cells #[.map (some m), .slice (some ⟨g, 0, none⟩) n n, V] tPl (0, 0))
 map : mapP w sk ok64 m []
 gens : RwU w g n n (fun _ => 1)
 free : UvAt w (p + 1) V (mks n k)
 m0 : w0.heap.size ≤ m
 g0 : w0.heap.size ≤ g
 p0 : w0.heap.size ≤ p
 mp : m < p
 gp : g < p
 mg : m ≠ g
 lo : Below w0.heap.size w0 w
section
variable {w0 w w' w1 w3 : World} {p m g n k : Nat} {V v' : Value}
theorem NwS.below (H : NwS w0 w p m g n V k) (hb : Below w.heap.size w w') : NwS w0 w' p m g n V k :=
 ⟨blk_below hb H.cell (lt_of_block H.cell), H.map.below hb H.map.lt, H.gens.kept (hb.block g H.gens.lt), H.free.below hb, H.m0, H.g0, H.p0, H.mp, H.gp, H.mg, tr H.lo hb⟩
theorem NwS.step (H : NwS w0 w p m g n V k) (h3 : UvAt w3 (p + 1) v' (mks n (k + 1))) (ho : Off (fun b => V.ownBlock = some b) w w3) : NwS w0 (w3.setCell ⟨p, 2, none⟩ v') p m g n v' (k + 1) := by
 have far : ∀ b, b ≤ p → ¬ V.ownBlock = some b := fun b hb e => by have := (H.free.block e).1; omega
 have hs := off_set w3 p 2 v'
 refine ⟨?_, (H.map.off ho (far m (by have := H.mp; omega))).off hs (fun e => by have := H.mp; omega), ?_, h3.off hs (fun b e h => by have := (h3.block e).1; omega), H.m0, H.g0, H.p0, H.mp, H.gp, H.mg, ?_⟩
 · exact blk_set (ho.at H.cell (far p (Nat.le_refl _))) 2 v'
 · have h1 := H.gens.kept (ho.block g H.gens.lt (far g (by have := H.gp; omega)))
   exact h1.kept (hs.block g h1.lt (fun e => by have := H.gp; omega))
 · exact Off.toBelow (Off.toBelow H.lo ho (fun j hj => far j (by have := H.p0; omega)) (Nat.le_refl _)) hs (fun j hj e => by have := H.p0; omega) (Nat.le_refl _)
theorem NwS.done (H : NwS w0 w p m g n V (nwo n)) (n0 : 1 ≤ n) : ∃ f fc F, PlAt w p m g n f fc n (fun _ => pz) F ∧ w0.heap.size ≤ f := by
 obtain ⟨hl, ho⟩ := H.free
 have hnw : 1 ≤ nwo n := by unfold nwo; omega
 rw [mks_len] at hl ho
 rcases ho with ⟨h1, h2⟩ | ⟨f, cap, cur, h1, hB, hf, hkc, hcm, hcs, htk⟩
 · omega
 · refine ⟨f, cap, fun j => mask ((n : Int) - 64 * j), ⟨⟨?_, ?_, H.gens, ⟨cur, hf, hkc, hcm, by omega, fun i hi => ?_⟩, ?_, ?_, ?_, H.mg, ?_, ?_⟩, FreeW.new n⟩, ?_⟩
   · rw [← h1]; exact H.cell
   · rw [entM_none]; exact H.map
   · have h3 : (uvs (mks n (nwo n)))[i]? = some (.int .u64 (mask ((n : Int) - 64 * i))) := by unfold uvs; rw [List.getElem?_map, mks_get n _ i hi]; rfl
     rw [← htk, List.getElem?_take, if_pos (by omega)] at h3
     simpa using h3
   · have := H.mp; omega
   · have := H.gp; omega
   · omega
   · have := H.mp; omega
   · have := H.gp; omega
   · have := H.p0; omega
end
theorem nwo_le (n : Nat) (n1 : n ≤ 4096) : nwo n ≤ 64 := by unfold nwo; omega
theorem one1 (a : Int) : ∀ u ∈ [Value.int .u64 a], u.oneCell' = true := fun u hu => by
 simp only [List.mem_cons, List.not_mem_nil, or_false] at hu
 rw [hu]; rfl
set_option maxHeartbeats 1600000 in
theorem pNew (n : Nat) (w : World) (n0 : 1 ≤ n) (n1 : n ≤ 4096) : Calls Try.prog 8 #[.int .i64 n] w fun e w' => ∃ p m g f fc F, e = .returned (.tuple #[.pointer (some ⟨p, 0, none⟩), .int .i64 0]) ∧ PlAt w' p m g n f fc n (fun _ => pz) F ∧ (∀ k, own4 p m g f k → w.heap.size ≤ k) ∧ Below w.heap.size w w' := by
 obtain ⟨i0, hi, hz0, hz1, hz2⟩ := info_parts infoUv
 have HI := Lib.hid hi
 have HZ := Lib.hid hz0
 have HZ1 := Lib.hid hz1
 have HZ2 := Lib.hid hz2
 have hb2 := trA (trA (tr0 w) (.map #[] 0)) (oUv 1)
 have hm0 := mapP_made w sk ok64
 have HM := Lib.hid (hm0.below (trA (tr0 (w.alloc (.map #[] 0))) (oUv 1)) hm0.lt)
 have hb0 := blk_new (w.alloc (.map #[] 0)) (oUv 1)
 rw [show (w.alloc (.map #[] 0)).heap.size = w.heap.size + 1 by simp] at hb0
 have HR := Lib.hid (sRepeat n (w.heap.size + 1) ((w.alloc (.map #[] 0)).alloc (oUv 1)) n0 n1 hb0)
 have HB2 := Lib.hid hb2
 have s2 := hb2.size
 have hmm := @run_makeMap Try.prog
 clear hi hz0 hz1 hz2 hb2 hm0 hb0
 go_enter Try.func8, Try.ntmps8
 go_wp2_with fail
 refine HR.out.mono ?_
 rintro e w1 ⟨g, rfl, hg, hG, hb1⟩
 have HS := Lib.hid (show NwS w (w1.alloc (.cells #[.map (some w.heap.size), .slice (some ⟨g, 0, none⟩) n n, .slice none 0 0] tPl (0, 0))) w1.heap.size w.heap.size g n (.slice none 0 0) 0 from
  ⟨blk_new w1 _, (HM.out.below hb1 HM.out.lt).below (trA (tr0 w1) _) (HM.out.below hb1 HM.out.lt).lt, hG.kept (blk_old w1 _ hG.lt), uv_nil _ _, Nat.le_refl _, Nat.le_trans s2 hg, Nat.le_trans s2 hb1.size, (HM.out.below hb1 HM.out.lt).lt, hG.lt, by simp at hg; omega, trA (tr HB2.out hb1) _⟩)
 have hlt4 := nwo_le n n1
 clear HM HR HB2 s2 hmm hg hG hb1
 go_wp2_with fail
 rw [show Obj.cells #[Value.map (some w.heap.size), .slice (some ⟨g, 0, none⟩) n n, .slice none 0 0] 69 (0, 0) = .cells #[.map (some w.heap.size), .slice (some ⟨g, 0, none⟩) n n, .slice none 0 0] tPl (0, 0) from rfl]
 generalize w1.alloc (.cells #[.map (some w.heap.size), .slice (some ⟨g, 0, none⟩) n n, .slice none 0 0] tPl (0, 0)) = W1 at *
 obtain ⟨p, hp⟩ : ∃ p, w1.heap.size = p := ⟨_, rfl⟩
 rw [hp] at HS ⊢
 clear hp
 go_loopw [5] (fun i wr => ∃ (k : Nat), k ≤ nwo n ∧ Hid (i = .int .i64 ((n : Int) - 64 * k)) ∧ Hid (∃ V, NwS w wr p w.heap.size g n V k)) (fun i wr => (intOf i).toNat)
 case atStart => exact ⟨0, Nat.zero_le _, Lib.hid (by simp), Lib.hid ⟨_, HS.out⟩⟩
 case round =>
  clear HS
  obtain ⟨k, hk, HE, HX⟩ := hrel
  obtain rfl := HE.out
  rename_i wr
  obtain ⟨V, hN⟩ := HX.out
  by_cases hlt : k < nwo n
  · have hleft : 0 < (n : Int) - 64 * k := by unfold nwo at hlt; omega
    have HMk := Lib.hid (fun u => Mask ((n : Int) - 64 * k) u (by omega) (by omega))
    have HMS := Lib.hid (show mks n (k + 1) = mks n k ++ [mask ((n : Int) - 64 * k)] from rfl)
    have HL2 := Lib.hid (show Hid (Value.int .i64 ((n : Int) - 64 * k - 64) = .int .i64 ((n : Int) - 64 * ((k + 1 : Nat) : Int))) from by unfold Hid; congr 1; omega)
    generalize mask ((n : Int) - 64 * k) = X at *
    have hbx := trA (trD (tr0 wr)) (oUv X)
    have HN := Lib.hid (hN.below hbx)
    have HN2 := Lib.hid (hN.below (trA (tr0 wr) (.cells #[.int .u64 X] 30 (0, 0))))
    have HNV := Lib.hid (cell_one_new wr.drew (.int .u64 X) tUv)
    have hNN := hN.below (trD (tr0 wr))
    have c2 := blk_cell hNN.cell 2
    have hp := lt_of_block hNN.cell
    simp only [List.getElem?_toArray, List.getElem?_cons_zero, List.getElem?_cons_succ] at c2
    have HMX := Lib.hid (show (mks n k).length + 1 ≤ maxLen from by rw [mks_len]; unfold maxLen; omega)
    have HBY := Lib.hid (show ((mks n k).length + 1) * 8 ≤ 140737488355328 from by rw [mks_len]; omega)
    have HBZ := Lib.hid (show p + 1 ≤ (wr.drew.alloc (oUv X)).heap.size from Nat.succ_le_of_lt (lt_of_block HN.out.cell))
    clear hbx hNN hN HX HE
    go_upto_region 7 with (fail)
    refine wp_region_any (by kernel_rfl) ?_
    try (change wpAny _ _ _ _ _ _ _ (World.drew _))
    refine wpAny_take (i := 0) (v := .pointer (some ⟨p, 0, none⟩)) rfl (by kernel_rfl) (by kernel_rfl) (by kernel_rfl) (fun _ _ _ h => h) (Or.inl ⟨by kernel_rfl, fun w => by go_simp⟩) ?_
    refine wpAny_take (i := 1) (v := .pointer (some ⟨p, 0, none⟩)) rfl (by kernel_rfl) (by kernel_rfl) (by kernel_rfl) (fun _ _ _ h => h) (Or.inl ⟨by kernel_rfl, fun w => by go_simp⟩) ?_
    refine wpAny_take (i := 2) (v := .pointer (some ⟨p, 0, none⟩)) rfl (by kernel_rfl) (by kernel_rfl) (by kernel_rfl) (fun _ _ _ h => h) (Or.inl ⟨by kernel_rfl, fun w => by go_simp⟩) ?_
    refine wpAny_take (i := 3) (v := .pointer (some ⟨p, 2, none⟩)) rfl (by kernel_rfl) (by kernel_rfl) (by kernel_rfl) (fun _ _ _ h => h) (Or.inl ⟨by kernel_rfl, fun w => by go_simp⟩) ?_
    refine wpAny_take (i := 5) (v := .int .i64 ((n : Int) - 64 * k)) rfl (by kernel_rfl) (by kernel_rfl) (by kernel_rfl) (fun _ _ _ h => h) (Or.inl ⟨by kernel_rfl, fun w => by go_simp⟩) ?_
    refine wpAny_ready (rs := [4, 6]) (by kernel_rfl) (by simp) ?_
    refine AllReady.cons rfl (fun K hK => ?_) (AllReady.cons rfl (fun K hK => ?_) AllReady.nil)
    · go_simp
      refine hK _ _ ?_
      clear hK K
      refine wpAny_ready (rs := [6]) (by kernel_rfl) (by simp) ?_
      refine AllReady.cons rfl (fun K hK => ?_) AllReady.nil
      go_simp
      go_wp2_with (go_at_call 31; refine (HMk.out _).mono ?_; rintro e w' ⟨rfl, rfl⟩)
      refine wpAny_ready (rs := [7]) (by kernel_rfl) (by simp) ?_
      refine AllReady.cons rfl (fun K hK => ?_) AllReady.nil
      go_simp
      refine hK _ _ ?_
      clear hK K
      refine wpAny_ready (rs := [8]) (by kernel_rfl) (by simp) ?_
      refine AllReady.cons rfl (fun K hK => ?_) AllReady.nil
      refine step_append_own rfl (.tmp 27) (.tmp 30) 31 rfl (p + 1) 30 i0 (.int .u64 0) 1 8 Try.underlying31 HI.out HZ.out HZ1.out HZ2.out rfl (by decide) V _ _ rfl HN.out.free ⟨wr.heap.size, 0, none⟩ 1 1 [.int .u64 X] rfl rfl HNV.out (one1 X) HMX.out HBY.out HBZ.out ?_
      intro v' w3 hown hgr hnil hat
      have hU : UvAt w3 (p + 1) v' (mks n (k + 1)) := by
       rw [HMS.out]
       unfold UvAt uvs
       rw [List.map_append, List.length_append]
       exact hown
      obtain ⟨y', cap', rfl, _⟩ := hU.form
      have hof : Off (fun b => V.ownBlock = some b) _ w3 := Off.ofGrown hgr fun k e => e
      have HS := Lib.hid (HN.out.step hU hof)
      have hb3 := hof.at HN.out.cell (fun e => by have := (HN.out.free.block e).1; omega)
      have hf3 := blk_free hb3 2
      have hc3 := blk_cell hb3 2
      have hp3 := lt_of_block hb3
      simp only [List.getElem?_toArray, List.getElem?_cons_zero, List.getElem?_cons_succ] at hc3
      clear hown hgr hnil hat hU hof hb3
      refine hK _ _ ?_
      clear hK K
      refine wpAny_take (i := 9) (v := .pointer (some ⟨p, 0, none⟩)) rfl (by kernel_rfl) (by kernel_rfl) (by kernel_rfl) (fun _ _ _ h => h) (Or.inl ⟨by kernel_rfl, fun w => by go_simp⟩) ?_
      refine wpAny_take (i := 10) (v := .pointer (some ⟨p, 2, none⟩)) rfl (by kernel_rfl) (by kernel_rfl) (by kernel_rfl) (fun _ _ _ h => h) (Or.inl ⟨by kernel_rfl, fun w => by go_simp⟩) ?_
      refine wpAny_ready (rs := [11]) (by kernel_rfl) (by simp) ?_
      refine AllReady.cons rfl (fun K hK => ?_) AllReady.nil
      go_simp
      refine hK _ _ ?_
      clear hK K
      refine wpAny_done (by kernel_rfl) ?_ _
      clear hf3 hc3 hp3
      go_wp2_with fail
      go_roundw
      case rel => exact ⟨k + 1, by omega, HL2.out, Lib.hid ⟨_, HS.out⟩⟩
      case measure => simp [intOf]; omega
    · go_simp
      go_wp2_with (go_at_call 31; refine (HMk.out _).mono ?_; rintro e w' ⟨rfl, rfl⟩)
      refine wpAny_ready (rs := [4, 7]) (by kernel_rfl) (by simp) ?_
      refine AllReady.cons rfl (fun K hK => ?_) (AllReady.cons rfl (fun K hK => ?_) AllReady.nil)
      · go_simp
        refine hK _ _ ?_
        clear hK K
        refine wpAny_ready (rs := [7]) (by kernel_rfl) (by simp) ?_
        refine AllReady.cons rfl (fun K hK => ?_) AllReady.nil
        go_simp
        refine hK _ _ ?_
        clear hK K
        refine wpAny_ready (rs := [8]) (by kernel_rfl) (by simp) ?_
        refine AllReady.cons rfl (fun K hK => ?_) AllReady.nil
        refine step_append_own rfl (.tmp 27) (.tmp 30) 31 rfl (p + 1) 30 i0 (.int .u64 0) 1 8 Try.underlying31 HI.out HZ.out HZ1.out HZ2.out rfl (by decide) V _ _ rfl HN.out.free ⟨wr.heap.size, 0, none⟩ 1 1 [.int .u64 X] rfl rfl HNV.out (one1 X) HMX.out HBY.out HBZ.out ?_
        intro v' w3 hown hgr hnil hat
        have hU : UvAt w3 (p + 1) v' (mks n (k + 1)) := by
         rw [HMS.out]
         unfold UvAt uvs
         rw [List.map_append, List.length_append]
         exact hown
        obtain ⟨y', cap', rfl, _⟩ := hU.form
        have hof : Off (fun b => V.ownBlock = some b) _ w3 := Off.ofGrown hgr fun k e => e
        have HS := Lib.hid (HN.out.step hU hof)
        have hb3 := hof.at HN.out.cell (fun e => by have := (HN.out.free.block e).1; omega)
        have hf3 := blk_free hb3 2
        have hc3 := blk_cell hb3 2
        have hp3 := lt_of_block hb3
        simp only [List.getElem?_toArray, List.getElem?_cons_zero, List.getElem?_cons_succ] at hc3
        clear hown hgr hnil hat hU hof hb3
        refine hK _ _ ?_
        clear hK K
        refine wpAny_take (i := 9) (v := .pointer (some ⟨p, 0, none⟩)) rfl (by kernel_rfl) (by kernel_rfl) (by kernel_rfl) (fun _ _ _ h => h) (Or.inl ⟨by kernel_rfl, fun w => by go_simp⟩) ?_
        refine wpAny_take (i := 10) (v := .pointer (some ⟨p, 2, none⟩)) rfl (by kernel_rfl) (by kernel_rfl) (by kernel_rfl) (fun _ _ _ h => h) (Or.inl ⟨by kernel_rfl, fun w => by go_simp⟩) ?_
        refine wpAny_ready (rs := [11]) (by kernel_rfl) (by simp) ?_
        refine AllReady.cons rfl (fun K hK => ?_) AllReady.nil
        go_simp
        refine hK _ _ ?_
        clear hK K
        refine wpAny_done (by kernel_rfl) ?_ _
        clear hf3 hc3 hp3
        go_wp2_with fail
        go_roundw
        case rel => exact ⟨k + 1, by omega, HL2.out, Lib.hid ⟨_, HS.out⟩⟩
        case measure => simp [intOf]; omega
      · go_simp
        refine hK _ _ ?_
        clear hK K
        have c2 := blk_cell HN2.out.cell 2
        have hp := lt_of_block HN2.out.cell
        simp only [List.getElem?_toArray, List.getElem?_cons_zero, List.getElem?_cons_succ] at c2
        refine wpAny_ready (rs := [4]) (by kernel_rfl) (by simp) ?_
        refine AllReady.cons rfl (fun K hK => ?_) AllReady.nil
        go_simp
        refine hK _ _ ?_
        clear hK K
        refine wpAny_ready (rs := [8]) (by kernel_rfl) (by simp) ?_
        refine AllReady.cons rfl (fun K hK => ?_) AllReady.nil
        refine step_append_own rfl (.tmp 27) (.tmp 30) 31 rfl (p + 1) 30 i0 (.int .u64 0) 1 8 Try.underlying31 HI.out HZ.out HZ1.out HZ2.out rfl (by decide) V _ _ rfl HN.out.free ⟨wr.heap.size, 0, none⟩ 1 1 [.int .u64 X] rfl rfl HNV.out (one1 X) HMX.out HBY.out HBZ.out ?_
        intro v' w3 hown hgr hnil hat
        have hU : UvAt w3 (p + 1) v' (mks n (k + 1)) := by
         rw [HMS.out]
         unfold UvAt uvs
         rw [List.map_append, List.length_append]
         exact hown
        obtain ⟨y', cap', rfl, _⟩ := hU.form
        have hof : Off (fun b => V.ownBlock = some b) _ w3 := Off.ofGrown hgr fun k e => e
        have HS := Lib.hid (HN.out.step hU hof)
        have hb3 := hof.at HN.out.cell (fun e => by have := (HN.out.free.block e).1; omega)
        have hf3 := blk_free hb3 2
        have hc3 := blk_cell hb3 2
        have hp3 := lt_of_block hb3
        simp only [List.getElem?_toArray, List.getElem?_cons_zero, List.getElem?_cons_succ] at hc3
        clear hown hgr hnil hat hU hof hb3
        refine hK _ _ ?_
        clear hK K
        refine wpAny_take (i := 9) (v := .pointer (some ⟨p, 0, none⟩)) rfl (by kernel_rfl) (by kernel_rfl) (by kernel_rfl) (fun _ _ _ h => h) (Or.inl ⟨by kernel_rfl, fun w => by go_simp⟩) ?_
        refine wpAny_take (i := 10) (v := .pointer (some ⟨p, 2, none⟩)) rfl (by kernel_rfl) (by kernel_rfl) (by kernel_rfl) (fun _ _ _ h => h) (Or.inl ⟨by kernel_rfl, fun w => by go_simp⟩) ?_
        refine wpAny_ready (rs := [11]) (by kernel_rfl) (by simp) ?_
        refine AllReady.cons rfl (fun K hK => ?_) AllReady.nil
        go_simp
        refine hK _ _ ?_
        clear hK K
        refine wpAny_done (by kernel_rfl) ?_ _
        clear hf3 hc3 hp3
        go_wp2_with fail
        go_roundw
        case rel => exact ⟨k + 1, by omega, HL2.out, Lib.hid ⟨_, HS.out⟩⟩
        case measure => simp [intOf]; omega
  · obtain rfl : k = nwo n := by omega
    have hz : (n : Int) - 64 * (nwo n : Nat) ≤ 0 := by unfold nwo; omega
    obtain ⟨f, fc, F, hA, hf⟩ := hN.done n0
    have HA := Lib.hid hA
    have HO := Lib.hid (show ∀ k, own4 p w.heap.size g f k → w.heap.size ≤ k from by
     rintro k (rfl | rfl | rfl | rfl)
     · exact hN.p0
     · exact Nat.le_refl _
     · exact hN.g0
     · exact hf)
    have HB := Lib.hid hN.lo
    clear hA hf hN HX HE
    go_wp2_with fail
    go_ret2
    exact ⟨p, _, g, f, fc, F, rfl, HA.out, HO.out, HB.out⟩
end Go.Proofs.Ytggmllobcemhhaa.B
