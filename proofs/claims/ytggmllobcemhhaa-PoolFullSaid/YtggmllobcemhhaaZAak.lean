/- Several texts in one: The laws of layer 16, of any arguments that fit, over package pool's contracts. Structs of one number as keys of maps. Maps .. -/
import Derived.Test.YtggmllobcemhhaaZAaa
import Derived.Test.YtggmllobcemhhaaZAac
import Derived.Test.YtggmllobcemhhaaZAai
import Derived.Test.YtggmllobcemhhaaZAaj
import Derived.Maps.OwnSet
import Derived.Laws.BitsAllLaws
import Derived.RowKit
import Derived.Laws.BitsLemmas
import Derived.IntWalk
namespace Go.Proofs.Ytggmllobcemhhaa.B
set_option linter.unusedVariables false
set_option linter.unusedSimpArgs false
set_option maxRecDepth 100000
open Go.ChangeShapes Go.WideShapes Go.RowKit Go.Sort Go.MapKept
abbrev shAc : Sh := .pair (.int .i64) (.pair (.pair (.int .u64) (.pair (.int .u64) (.pair (.int .u64) .unit))) (.pair (.int .u64) (.pair (.int .i64) .unit)))
theorem fits_ac {w : World} {cs : List Value} (h : Fits w shAc cs) : ∃ a : Ac, a.ok ∧ cs = acl a := by
 obtain ⟨_, _, rfl, ⟨K, rfl, hK⟩, _, _, rfl, ⟨_, _, rfl, ⟨d, rfl, hd⟩, _, _, rfl, ⟨q, rfl, hq⟩, _, _, rfl, ⟨o, rfl, ho⟩, rfl⟩, _, _, rfl, ⟨x, rfl, hx⟩, _, _, rfl, ⟨z, rfl, hz⟩, rfl⟩ := h
 have k1 := bounds_i64 hK
 have d1 := bounds_u64 hd
 have q1 := bounds_u64 hq
 have o1 := bounds_u64 ho
 have x1 := bounds_u64 hx
 have z1 := bounds_i64 hz
 have hk : i64v K := ⟨by omega, by omega⟩
 have h1 : u64r d := ⟨by omega, by omega⟩
 have h2 : u64r q := ⟨by omega, by omega⟩
 have h3 : u64r o := ⟨by omega, by omega⟩
 have h4 : u64r x := ⟨by omega, by omega⟩
 have h5 : i64v z := ⟨by omega, by omega⟩
 exact ⟨⟨K, d, q, o, x, z⟩, ⟨hk, h1, h2, h3, h4, h5⟩, rfl⟩
theorem fits_rowAc {w : World} {v : Value} (h : FitsV w (.slice shAc) v) : ∃ (y : Option Addr) (len cap : Nat) (zs : Nat → Ac), v = .slice y len cap ∧ len ≤ cap ∧ RowAc w y len cap zs := by
 obtain ⟨y, len, cap, rfl, hy⟩ := fits_slice h (by simp [Sh.size])
 rcases hy with hy | ⟨b, off, rfl, hl, hm, hb, hz⟩
 · exact ⟨y, len, cap, fun _ => az, rfl, by omega, .inl hy⟩
 have g : ∀ i, i < cap → ∃ a : Ac, a.ok ∧ ∀ j v, (acl a)[j]? = some v → w.cell? ⟨b, off + i * 6 + j, none⟩ = some v := fun i hi => by
  obtain ⟨cs, hcl, hcell, hf⟩ := hz i hi
  obtain ⟨a, hok, rfl⟩ := fits_ac hf
  refine ⟨a, hok, fun j v hv => ?_⟩
  have hj : j < 6 := by have := (List.getElem?_eq_some_iff.1 hv).1; rw [acl_len] at this; exact this
  have := hcell j (by simp [Sh.size]; omega)
  rw [show (Sh.size shAc) = 6 from rfl] at this
  rw [Nat.add_assoc, this]
  exact hv
 refine ⟨_, len, cap, fun i => if h : i < cap then (g i h).choose else az, rfl, hl, .inr ⟨b, off, rfl, hl, hm, hb, fun i hi => ?_⟩⟩
 have hic : i < cap := by omega
 simp only [hic, dite_true]
 exact (g i hic).choose_spec
theorem fits_i64s {w : World} {v : Value} (h : FitsV w (.slice (.int .i64)) v) : ∃ (y : Option Addr) (len cap : Nat), v = .slice y len cap ∧ len ≤ cap ∧ I64s w y len cap := by
 obtain ⟨y, len, cap, rfl, hy⟩ := fits_ints h
 rcases hy with hy | ⟨b, off, zs, rfl, hl, hm, hb, hz⟩
 · exact ⟨y, len, cap, rfl, by omega, .inl hy⟩
 refine ⟨_, len, cap, rfl, hl, .inr ⟨b, off, zs, rfl, hl, hm, hb, fun i hi => ⟨(hz i hi).1, ?_⟩⟩⟩
 have := bounds_i64 (hz i hi).2
 exact ⟨by omega, by omega⟩
section
variable {R : PoolR} (C : PoolC R)
include C
theorem wPoolPlaysH (v0 v1 v2 : Value) (w : World) (h0 : FitsV w (.int .i64) v0) (h1 : FitsV w (.slice shAc) v1) (h2 : FitsV w (.int .i64) v2) : Calls Try.prog 3 #[v0, v1, v2] w fun e w' => e = .returned (.bool true) ∧ Below w.heap.size w w' := by
 obtain ⟨a, rfl, a0, a1⟩ := fits_i64 h0
 obtain ⟨y, len, cap, zs, rfl, hc, hr⟩ := fits_rowAc h1
 obtain ⟨b, rfl, b0, b1⟩ := fits_i64 h2
 exact poPlays C a b y len cap zs w ⟨a0, a1⟩ ⟨b0, b1⟩ hc hr
theorem wPoolOnceH (v0 v1 : Value) (w : World) (h0 : FitsV w (.int .i64) v0) (h1 : FitsV w (.slice (.int .i64)) v1) : Calls Try.prog 4 #[v0, v1] w fun e w' => e = .returned (.bool true) ∧ Below w.heap.size w w' := by
 obtain ⟨a, rfl, a0, a1⟩ := fits_i64 h0
 obtain ⟨y, len, cap, rfl, hc, hr⟩ := fits_i64s h1
 exact poOnce C a y len cap w ⟨a0, a1⟩ hc hr
theorem wPoolFullH (v0 : Value) (w : World) (h0 : FitsV w (.int .i64) v0) : Calls Try.prog 5 #[v0] w fun e w' => e = .returned (.bool true) ∧ Below w.heap.size w w' := by
 obtain ⟨a, rfl, a0, a1⟩ := fits_i64 h0
 exact poFull C a w ⟨a0, a1⟩
theorem wPoolNilH (v0 v1 : Value) (w : World) (h0 : FitsV w (.int .u64) v0) (h1 : FitsV w (.int .i64) v1) : Calls Try.prog 6 #[v0, v1] w fun e w' => e = .returned (.bool true) ∧ Below w.heap.size w w' := by
 obtain ⟨x, rfl, x0, x1⟩ := fits_u64 h0
 obtain ⟨a, rfl, a0, a1⟩ := fits_i64 h1
 exact poNil C x a w ⟨x0, x1⟩ ⟨a0, a1⟩
theorem wPoolSplitsH (v0 v1 : Value) (w : World) (h0 : FitsV w (.int .i64) v0) (h1 : FitsV w (.int .i64) v1) : Calls Try.prog 7 #[v0, v1] w fun e w' => e = .returned (.bool true) ∧ Below w.heap.size w w' := by
 obtain ⟨a, rfl, a0, a1⟩ := fits_i64 h0
 obtain ⟨b, rfl, b0, b1⟩ := fits_i64 h1
 exact poSplits C a b w ⟨a0, a1⟩ ⟨b0, b1⟩
end
theorem key_one {P : Program} {k : TypeId} {q : IntKind} {f : Field} (hk : P.underlying k = some (.struct #[f])) (hf : P.underlying f.type = some (.int q)) (h0 : f.offset = 0) (hn : (f.name != "_") = true)
 {n : Nat} (hs : P.types.size = n + 1) (hc : P.cellsOf k = 1) (hd : P.cellsOf f.type = 1) (hkey : P.keyType k = true) {a : Int} (hw : (Lit.int q a).wf = true) :
 ∃ l, keyOf P k (.agg #[.int q a]) = some l := by
 have hfm : (Value.agg #[Value.int q a]).formed P k = true := by simp [Value.formed, hk, hc]
 refine ⟨.string (keyBytes [.int q a]), ?_⟩
 have e1 : P.keyLits (n + 1) f.type [Value.int q a] = some [Lit.int q a] := by simp [Program.keyLits, hf, hw]
 have e2 : P.keyLits (P.types.size + 1) k [Value.int q a] = some [Lit.int q a] := by
  rw [hs]
  have : P.keyLits (n + 1 + 1) k [Value.int q a] = (if [Value.int q a].length = P.cellsOf k ∧ (#[f]).all (·.name != "_") = true then ((#[f]).toList.mapM fun f => P.keyLits (n + 1) f.type (([Value.int q a].drop f.offset).take (P.cellsOf f.type))).map List.flatten else none) := by
   rw [Program.keyLits.eq_def]; simp only [hk]
  rw [this, if_pos ⟨by simp [hc], by simpa using hn⟩]
  simp [h0, hd, e1]
 unfold keyOf
 rw [hk]
 simp only [hkey, hfm, Bool.and_self, if_true]
 show ((P.keyLits (P.types.size + 1) k [Value.int q a]).map _) = _
 rw [e2]; rfl
theorem wf_u32 {a : Int} (h0 : 0 ≤ a) (h1 : a < 4294967296) : (Lit.int .u32 a).wf = true := WalkArith.wf_u32 (by omega)
def ek (a : Int) : Value := .agg #[.int .u32 a]
def ok32 (a : Int) : Prop := 0 ≤ a ∧ a < 4294967296
theorem ek_inj (i j : Int) (h : ek i = ek j) : i = j := by unfold ek at h; simpa using h
theorem laidT : laidOutB Try.prog = true := by kernel_rfl
theorem sizeT : Try.prog.types.size = (Try.prog.types.size - 1) + 1 := by kernel_rfl
end Go.Proofs.Ytggmllobcemhhaa.B
namespace Go.Proofs.Ytggmllobcemhhaa.B
set_option linter.unusedVariables false
set_option linter.unusedSimpArgs false
open Go.ChangeShapes Go.WideShapes Go.RowKit Go.Sort Go.MapKept
open Go.ChangeMaps (setBlock modify_eq_set set_perm map_eraseIdx)
section
variable {P : Program} {k : TypeId} {κ : Type} {ek : κ → Value} {ok : κ → Prop} {w : World} {b : Nat} {M : List (κ × Value)}
theorem mapP.drop [DecidableEq κ] (K : KeyE P k ek ok) {t e ty : TypeId} (ht : P.underlying t = some (.map k e)) (h : mapP w ek ok b M) (x : κ) (hok : ok x) :
 ∃ es' clock', (Builtin.delete_ #[t, k] ty #[.map (some b), ek x]).run P w = .ok (.tuple #[]) (setBlock w b (.map es' clock')) ∧ mapP (setBlock w b (.map es' clock')) ek ok b (M.filter fun p => decide (p.1 ≠ x)) := by
 have hlt := h.lt
 have hnd := h.nodup
 obtain ⟨es, clock, hb, hS, h3, h4⟩ := h
 obtain ⟨l, hl⟩ := K.reads x hok
 have hok' : ∀ p ∈ M.filter (fun p => decide (p.1 ≠ x)), ok p.1 := fun p hp => h4 p (List.mem_filter.1 hp).1
 rcases K.keyed.find w hl es.toList (es_reads K h3 h4) with ⟨h1, h2⟩ | ⟨j, e0, h1, h2, hk0⟩
 · have hno : M.filter (fun p => decide (p.1 ≠ x)) = M := List.filter_eq_self.2 fun p hp => by
    have : p.1 ≠ x := fun e1 => by
     have : (ek p.1, p.2) ∈ es.toList.map fun e => (e.key, e.val) := h3.mem_iff.2 (List.mem_map.2 ⟨p, hp, rfl⟩)
     obtain ⟨e2, he2, hq⟩ := List.mem_map.1 this
     exact h2 e2 he2 (by rw [← e1]; exact (Prod.mk.inj hq).1)
    simpa using this
   refine ⟨es, clock, ?_, es, clock, setBlock_self w b _ hlt, hS, by rw [hno]; exact h3, hok'⟩
   simp [Builtin.delete_, run_underlying ht, MapKept.run_getObj_map hb, K.keyed.check w _ hl, h1, MapKept.run_setObj_map _ hb, Result.andThen, setBlock]
 · have hjl : j < es.toList.length := (List.getElem?_eq_some_iff.1 h2).1
   have hjs : j < es.size := by simpa using hjl
   have hsub : (es.eraseIdxIfInBounds j).toList = es.toList.eraseIdx j := by
    unfold Array.eraseIdxIfInBounds
    rw [dif_pos hjs]
    simp
   refine ⟨es.eraseIdxIfInBounds j, clock, ?_, es.eraseIdxIfInBounds j, clock, setBlock_self w b _ hlt, stamped_erase hS j, ?_, hok'⟩
   · simp [Builtin.delete_, run_underlying ht, MapKept.run_getObj_map hb, K.keyed.check w _ hl, h1, MapKept.run_setObj_map _ hb, Result.andThen, setBlock]
   · rw [hsub, map_eraseIdx]
     have hm : (ek x, e0.val) ∈ M.map fun p => (ek p.1, p.2) := h3.mem_iff.1 (List.mem_map.2 ⟨e0, List.mem_of_getElem? h2, by rw [hk0]⟩)
     obtain ⟨q, hq, hq2⟩ := List.mem_map.1 hm
     have hqx : q = (x, e0.val) := Prod.ext (K.inj _ _ (Prod.mk.inj hq2).1) (Prod.mk.inj hq2).2
     subst hqx
     have hp1 := split_hit hnd hq
     have hp2 : (es.toList.map fun e => (e.key, e.val)).Perm ((ek x, e0.val) :: (es.toList.map fun e => (e.key, e.val)).eraseIdx j) := by
      have := set_perm (es.toList.map fun e => (e.key, e.val)) j (by simpa using hjl) ((es.toList.map fun e => (e.key, e.val))[j]'(by simpa using hjl))
      rw [List.set_getElem_self] at this
      have he : (es.toList.map fun e => (e.key, e.val))[j]'(by simpa using hjl) = (ek x, e0.val) := by
       have := (List.getElem?_eq_some_iff.1 h2).2
       rw [List.getElem_map, this, hk0]
      rw [he] at this
      exact this
     have hp3 := (hp2.symm.trans (h3.trans (hp1.map _)))
     simp only [List.map_cons] at hp3
     exact (List.perm_cons _).1 hp3
theorem mapP.len (h : mapP w ek ok b M) {t e : TypeId} (ht : P.underlying t = some (.map k e)) (ty : TypeId) : (Builtin.len_ #[t] ty #[.map (some b)]).run P w = .ok (goInt M.length) w := by
 obtain ⟨es, clock, hb, hS, h3, h4⟩ := h
 have hlen : es.size = M.length := by have := h3.length_eq; simpa using this
 simp [Builtin.len_, run_underlying ht, MapKept.run_getObj_map hb, Result.andThen, hlen]
end
section
variable {P : Program} {k e : TypeId} {κ : Type} {ek : κ → Value} {ok : κ → Prop} {w : World} {b : Nat} {M : List (κ × Value)} {ops : Array Oper} {rest : List Oper} {o : Oper} {a : Act} {Q : Exit → Act → World → Prop}
theorem wpList_del [DecidableEq κ] (K : KeyE P k ek ok) (hg : o.guard = none) (m x : Operand) (t : TypeId) (hop : o.op = Op.call { callee := Callee.builtin Builtin.delete, args := #[m, x], argTypes := #[t, k] }) (ht : P.underlying t = some (.map k e)) (hm : a.eval m = .map (some b)) (hown : mapP w ek ok b M)
 (key : κ) (hx : a.eval x = ek key) (hok : ok key) (hK : ∀ w', mapP w' ek ok b (M.filter fun p => decide (p.1 ≠ key)) → Off (· = b) w w' → wpList P ops Q rest (a.put o.dst (.tuple #[])) w') : wpList P ops Q (o :: rest) a w := by
 refine wpList_plain hg fun K' hK' => ?_
 obtain ⟨es', clock', hrun, hmap⟩ := hown.drop K (ty := o.type) ht key hok
 unfold Oper.wp
 simp [execOp, hop, resolve, invoke, builtin, hm, hx, hrun, Result.andThen]
 exact hK' _ _ (hK _ hmap (off_setBlock w b _ rfl))
theorem wpList_lenM (hg : o.guard = none) (m : Operand) (t : TypeId) (hop : o.op = Op.call { callee := Callee.builtin Builtin.len, args := #[m], argTypes := #[t] }) (ht : P.underlying t = some (.map k e)) (hm : a.eval m = .map (some b)) (hown : mapP w ek ok b M)
 (hK : wpList P ops Q rest (a.put o.dst (goInt M.length)) w) : wpList P ops Q (o :: rest) a w := by
 refine wpList_plain hg fun K' hK' => ?_
 unfold Oper.wp
 simp [execOp, hop, resolve, invoke, builtin, hm, hown.len ht o.type, Result.andThen]
 exact hK' _ _ hK
theorem quiet_hit (K : KeyE P k ek ok) {C : World → Prop} {G : Act → Prop} (m x : Operand) (t : TypeId) (hop : o.op = Op.lookup t m x false) (ht : P.underlying t = some (.map k e)) (hm : a.eval m = .map (some b)) (hown : ∀ w, C w → mapP w ek ok b M)
 (key : κ) (v : Value) (hx : a.eval x = ek key) (hin : (key, v) ∈ M) (hK : G (a.put o.dst v)) : o.quiet P a C G :=
 ⟨_, fun w hw => by
  have hrun := (hown w hw).hit K ht hin false
  unfold Oper.quietAt execOp
  simp only [hop, hm, hx, Sem.run_bind, hrun, Sem.run_pure, Result.andThen_ok]
  exact ⟨rfl, rfl⟩, hK⟩
end
def sk (a : Int) : Value := .agg #[.int .i64 a]
def ok64 (a : Int) : Prop := -9223372036854775808 ≤ a ∧ a < 9223372036854775808
theorem sk_inj (i j : Int) (h : sk i = sk j) : i = j := by unfold sk at h; simpa using h
theorem spotLaw : Maps.Keyed Try.prog 71 :=
 Maps.Keyed.of_law (deep_law_laid laidT (m := 2) (by omega) (of_decide_eq_true (by kernel_rfl)) (by kernel_rfl) (by rw [Try.underlying71]))
theorem spotKey : KeyE Try.prog 71 sk ok64 :=
 ⟨spotLaw, fun i h => key_one Try.underlying71 Try.underlying3 rfl (by decide) sizeT (by kernel_rfl) (by kernel_rfl) (by kernel_rfl) (WalkArith.wf_i64 ⟨h.1, by have := h.2; omega⟩), sk_inj⟩
end Go.Proofs.Ytggmllobcemhhaa.B
namespace Go.Proofs.Ytggmllobcemhhaa.B
set_option linter.unusedVariables false
set_option linter.unusedSimpArgs false
def lo (a : Int) : Int := a % 4294967296
def hi (a : Int) : Int := a / 4294967296
def mask (n : Int) : Int := if n < 0 then 0 else if 64 ≤ n then 18446744073709551615 else 2 ^ n.toNat - 1
def bit (n : Int) (i : Nat) : Bool := decide (n / 2 ^ i % 2 = 1)
def firstB (n f : Int) : Nat → Nat → Int
 | 0, _ => -1
 | k + 1, i => if f ≤ (i : Int) ∧ bit n i = true then i else firstB n f k (i + 1)
def first (n f : Int) : Int := firstB n f 64 0
def inw (low width : Int) : Bool := decide (0 ≤ low ∧ low < 32 ∧ 1 ≤ width)
def ofBits (f : Nat → Bool) : Nat → Nat
 | 0 => 0
 | k + 1 => ofBits f k + if f k = true then 2 ^ k else 0
def putBit (n low width v : Int) (i : Nat) : Bool :=
 if low.toNat ≤ i ∧ i - low.toNat < width.toNat then v.toNat.testBit (i - low.toNat) else n.toNat.testBit i
def put (n low width v : Int) : Int := if inw low width = true then ((ofBits (putBit n low width v) 32 : Nat) : Int) else n
theorem mask_nonneg (n : Int) : 0 ≤ mask n := by
 unfold mask; split; · omega
 split; · omega
 have : (0 : Int) < 2 ^ n.toNat := Int.pow_pos (by decide); omega
theorem two_pow_le {i j : Nat} (h : i ≤ j) : (2 : Int) ^ i ≤ 2 ^ j := by
 have := Nat.pow_le_pow_right (n := 2) (by decide) h
 exact_mod_cast this
theorem mask_le (n : Int) : mask n ≤ 18446744073709551615 := by
 unfold mask; split; · omega
 split; · omega
 have h := two_pow_le (show n.toNat ≤ 63 by omega); have : (2 : Int) ^ 63 = 9223372036854775808 := by decide
 omega
theorem wrap_mask (n : Int) (h0 : 0 ≤ n) (h1 : n ≤ 64) : IntKind.u64.wrap (IntKind.u64.wrap (2 ^ n.toNat) - 1) = mask n := by
 by_cases e : n = 64
 · subst e; decide
 have h := two_pow_le (show n.toNat ≤ 63 by omega)
 have e : (2 : Int) ^ 63 = 9223372036854775808 := by decide
 have p : (0 : Int) < 2 ^ n.toNat := Int.pow_pos (by decide)
 unfold mask; rw [if_neg (by omega), if_neg (by omega), IntKind.wrap_u64, IntKind.wrap_u64]
 omega
theorem wrap_mask_top (n : Int) (h0 : 64 ≤ n) : IntKind.u64.wrap (IntKind.u64.wrap 18446744073709551616 - 1) = mask n := by
 unfold mask; rw [if_neg (by omega), if_pos h0, IntKind.wrap_u64, IntKind.wrap_u64]; decide
theorem and1 (x : Int) (h0 : 0 ≤ x) (h1 : x < 18446744073709551616) : bits BinOp.and IntKind.u64 x 1 = x % 2 := by
 rw [u64_and _ _ h0 h1 (by omega) (by omega)]; show ((x.toNat &&& 1 : Nat) : Int) = _; rw [nat_mask1]; omega
theorem div_pow_nonneg (n : Int) (i : Nat) (h0 : 0 ≤ n) : 0 ≤ n / 2 ^ i := Int.ediv_nonneg h0 (Int.le_of_lt (Int.pow_pos (by decide)))
theorem div_pow_lt (n : Int) (i : Nat) (h0 : 0 ≤ n) (h1 : n < 18446744073709551616) : n / 2 ^ i < 18446744073709551616 :=
 Int.lt_of_le_of_lt (Int.ediv_le_self _ h0) h1
theorem set_bit (n p : Int) (h0 : 0 ≤ n) (h1 : n < 18446744073709551616) : (bits BinOp.and IntKind.u64 (n / 2 ^ p.toNat) 1 == 1) = bit n p.toNat := by
 rw [and1 _ (div_pow_nonneg _ _ h0) (div_pow_lt _ _ h0 h1)]; rfl
theorem cast_two_pow (k : Nat) : ((2 ^ k : Nat) : Int) = 2 ^ k := by push_cast; rfl
theorem firstB_step (n f : Int) (k i : Nat) (h : ¬ (f ≤ (i : Int) ∧ bit n i = true)) : firstB n f (k + 1) i = firstB n f k (i + 1) := by
 rw [firstB, if_neg h]
theorem firstB_some (n f : Int) (p : Nat) (hf : f ≤ (p : Int)) (hb : bit n p = true) : ∀ (d i k : Nat), i + d = p → d < k →
 (∀ q : Nat, i ≤ q → f ≤ (q : Int) → q < p → bit n q = false) → firstB n f k i = p := by
 intro d
 induction d with
 | zero =>
   intro i k hi hk _
   obtain rfl : i = p := by omega
   obtain ⟨k', rfl⟩ : ∃ k', k = k' + 1 := ⟨k - 1, by omega⟩
   rw [firstB, if_pos ⟨hf, hb⟩]
 | succ d ih =>
   intro i k hi hk hq
   obtain ⟨k', rfl⟩ : ∃ k', k = k' + 1 := ⟨k - 1, by omega⟩
   rw [firstB_step n f k' i (fun ⟨a, b⟩ => by rw [hq i (Nat.le_refl _) a (by omega)] at b; cases b)]
   exact ih (i + 1) k' (by omega) (by omega) (fun q h1 h2 h3 => hq q (by omega) h2 h3)
theorem firstB_none (n f : Int) : ∀ (k i : Nat), (∀ q : Nat, i ≤ q → f ≤ (q : Int) → q < i + k → bit n q = false) → firstB n f k i = -1 := by
 intro k
 induction k with
 | zero => intro i _; rfl
 | succ k ih =>
   intro i hq
   rw [firstB_step n f k i (fun ⟨a, b⟩ => by rw [hq i (Nat.le_refl _) a (by omega)] at b; cases b)]
   exact ih (i + 1) (fun q h1 h2 h3 => hq q (by omega) h2 (by omega))
def noneTo (n f : Int) (k : Nat) : Prop := ∀ q : Nat, f ≤ (q : Int) → q < k → bit n q = false
theorem noneTo_start (n f : Int) (k : Nat) (h : (k : Int) ≤ f ∨ k = 0) : noneTo n f k := fun q h1 h2 => by omega
theorem noneTo_next (n f : Int) (k : Nat) (h : noneTo n f k) (hb : bit n k = false) : noneTo n f (k + 1) := fun q h1 h2 => by
 by_cases e : q = k
 · subst e; exact hb
 · exact h q h1 (by omega)
theorem first_some (n f : Int) (k : Nat) (h : noneTo n f k) (hf : f ≤ (k : Int)) (hk : k < 64) (hb : bit n k = true) : first n f = k :=
 firstB_some n f k hf hb k 0 64 (by omega) hk (fun q _ h2 h3 => h q h2 h3)
theorem first_none (n f : Int) (k : Nat) (h : noneTo n f k) (hk : 64 ≤ k) : first n f = -1 :=
 firstB_none n f 64 0 (fun q _ h2 h3 => h q h2 (by omega))
theorem ofBits_lt (f : Nat → Bool) (n : Nat) : ofBits f n < 2 ^ n := by
 induction n with
 | zero => simp [ofBits]
 | succ n ih => rw [ofBits, Nat.pow_succ]; split <;> omega
theorem ofBits_testBit (f : Nat → Bool) (n i : Nat) : (ofBits f n).testBit i = (decide (i < n) && f i) := by
 induction n with
 | zero => simp [ofBits]
 | succ n ih =>
   rw [ofBits]
   by_cases hf : f n = true
   · rw [if_pos hf, Nat.add_comm]
     by_cases e : i = n
     · subst e
       rw [Nat.testBit_two_pow_add_eq, ih]; simp [hf]
     · by_cases hlt : i < n
       · rw [Nat.testBit_two_pow_add_gt hlt, ih]; simp [hlt, Nat.lt_succ_of_lt hlt]
       · have : (2 ^ n + ofBits f n).testBit i = false := by
          apply Nat.testBit_lt_two_pow
          have a := ofBits_lt f n
          have b : 2 ^ (n + 1) ≤ 2 ^ i := Nat.pow_le_pow_right (by decide) (by omega)
          rw [Nat.pow_succ] at b; omega
         rw [this]; simp; omega
   · rw [if_neg hf, Nat.add_zero, ih]
     by_cases e : i = n
     · subst e; simp [hf]
     · by_cases hlt : i < n
       · simp [hlt, Nat.lt_succ_of_lt hlt]
       · have : ¬ i < n + 1 := by omega
         simp [hlt, this]
def ob (f : Nat → Bool) (k : Nat) : Int := ((ofBits f k : Nat) : Int)
theorem bit_testBit (n : Int) (i : Nat) (h : 0 ≤ n) : bit n i = n.toNat.testBit i := by
 obtain ⟨m, rfl⟩ := Int.eq_ofNat_of_zero_le h
 rw [Int.toNat_natCast, Nat.testBit_eq_decide_div_mod_eq]
 unfold bit
 have : ((m : Int) / 2 ^ i % 2) = ((m / 2 ^ i % 2 : Nat) : Int) := by push_cast; rfl
 rw [this]
 exact decide_eq_decide.2 (by omega)
theorem bit_zero (i : Nat) : bit 0 i = false := by unfold bit; simp
end Go.Proofs.Ytggmllobcemhhaa.B
namespace Go.Proofs.Ytggmllobcemhhaa.B
set_option linter.unusedVariables false
set_option linter.unusedSimpArgs false
open Go.RowKit Go.Sort
def upd (f : Nat → Int) (h : Nat) (v : Int) : Nat → Int := fun i => if i = h then v else f i
theorem upd_at (f : Nat → Int) (h : Nat) (v : Int) : upd f h v h = v := by unfold upd; rw [if_pos rfl]
theorem upd_ne (f : Nat → Int) {h i : Nat} (v : Int) (hi : i ≠ h) : upd f h v i = f i := by unfold upd; rw [if_neg hi]
end Go.Proofs.Ytggmllobcemhhaa.B
namespace Go.Proofs.Ytggmllobcemhhaa.B
set_option linter.unusedVariables false
set_option linter.unusedSimpArgs false
def ofw (f : Nat → Bool) : Int := ((ofBits f 64 : Nat) : Int)
theorem ofw_bounds (f : Nat → Bool) : 0 ≤ ofw f ∧ ofw f < 18446744073709551616 := by
 have := ofBits_lt f 64
 unfold ofw
 omega
theorem bit_ofw (f : Nat → Bool) (i : Nat) : bit (ofw f) i = (decide (i < 64) && f i) := by
 unfold ofw
 rw [bit_testBit _ _ (by omega), Int.toNat_natCast, ofBits_testBit]
theorem bit_high64 {n : Int} {i : Nat} (h0 : 0 ≤ n) (h1 : n < 18446744073709551616) (hi : 64 ≤ i) : bit n i = false := by
 rw [bit_testBit n i h0]
 apply Nat.testBit_lt_two_pow
 have : 2 ^ 64 ≤ 2 ^ i := Nat.pow_le_pow_right (by decide) hi
 omega
theorem same_bits64 {a b : Int} (a0 : 0 ≤ a) (a1 : a < 18446744073709551616) (b0 : 0 ≤ b) (b1 : b < 18446744073709551616) (h : ∀ i, i < 64 → bit a i = bit b i) : a = b := by
 have : a.toNat = b.toNat := by
  apply Nat.eq_of_testBit_eq
  intro i
  rw [← bit_testBit a i a0, ← bit_testBit b i b0]
  by_cases hi : i < 64
  · exact h i hi
  · rw [bit_high64 a0 a1 (by omega), bit_high64 b0 b1 (by omega)]
 omega
def wput (n : Int) (s : Nat) (b : Bool) : Int := ofw fun i => if i = s then b else bit n i
theorem wput_bounds (n : Int) (s : Nat) (b : Bool) : 0 ≤ wput n s b ∧ wput n s b < 18446744073709551616 := ofw_bounds _
theorem bit_wput (n : Int) (s : Nat) (b : Bool) (i : Nat) (hi : i < 64) : bit (wput n s b) i = if i = s then b else bit n i := by
 unfold wput
 rw [bit_ofw, decide_eq_true hi, Bool.true_and]
theorem pow64 (s : Nat) (hs : s < 64) : 0 ≤ (2 : Int) ^ s ∧ (2 : Int) ^ s < 18446744073709551616 := by
 have h := two_pow_le (show s ≤ 63 by omega)
 have e : (2 : Int) ^ 63 = 9223372036854775808 := by decide
 have p : (0 : Int) < 2 ^ s := Int.pow_pos (by decide)
 omega
theorem bit_pow (s i : Nat) : bit (2 ^ s) i = decide (s = i) := by
 rw [bit_testBit _ _ (Int.le_of_lt (Int.pow_pos (by decide))), ← cast_two_pow, Int.toNat_natCast, Nat.testBit_two_pow]
end Go.Proofs.Ytggmllobcemhhaa.B
namespace Go.Proofs.Ytggmllobcemhhaa.B
set_option linter.unusedVariables false
set_option linter.unusedSimpArgs false
open Go.MapKept
def enV (c : Po) : Value := .agg (e3 c.d c.p c.o).toArray
def entM (t : Nat → Po) : Nat → List (Int × Value)
 | 0 => []
 | k + 1 => entM t k ++ (if (t k).tk = true then [((k : Int), enV (t k))] else [])
theorem entM_lt (t : Nat → Po) : ∀ (n : Nat) (p : Int × Value), p ∈ entM t n → ∃ i, i < n ∧ (t i).tk = true ∧ p = ((i : Int), enV (t i))
 | 0, p, h => by cases h
 | k + 1, p, h => by
   unfold entM at h
   rcases List.mem_append.1 h with h | h
   · obtain ⟨i, hi, h1, h2⟩ := entM_lt t k p h
     exact ⟨i, by omega, h1, h2⟩
   · split at h
     · rename_i ht
       exact ⟨k, by omega, ht, by simpa using h⟩
     · cases h
theorem mem_entM (t : Nat → Po) : ∀ (n i : Nat), i < n → (t i).tk = true → ((i : Int), enV (t i)) ∈ entM t n
 | 0, i, hi, h => by omega
 | k + 1, i, hi, h => by
   unfold entM
   by_cases e : i = k
   · subst e; rw [if_pos h]; exact List.mem_append_right _ (by simp)
   · exact List.mem_append_left _ (mem_entM t k i (by omega) h)
theorem entM_len (t : Nat → Po) (n : Nat) : (entM t n).length = (hdsB t n).length := by
 induction n with
 | zero => rfl
 | succ k ih =>
   unfold entM hdsB
   rw [List.length_append, List.length_append, ih]
   split <;> rfl
theorem entM_congr {t s : Nat → Po} : ∀ (n : Nat), (∀ i, i < n → t i = s i) → entM t n = entM s n
 | 0, _ => rfl
 | k + 1, h => by
   unfold entM
   rw [entM_congr k (fun i hi => h i (by omega)), h k (by omega)]
theorem entM_out (t : Nat → Po) (n : Nat) {x : Int} (hx : ∀ i : Nat, i < n → (t i).tk = true → (i : Int) ≠ x) : ∀ p ∈ entM t n, p.1 ≠ x := fun p hp => by
 obtain ⟨i, hi, h1, rfl⟩ := entM_lt t n p hp
 exact hx i hi h1
theorem entM_self (t : Nat → Po) (n : Nat) {x : Int} (hx : ∀ i : Nat, i < n → (t i).tk = true → (i : Int) ≠ x) : ((entM t n).filter fun p => decide (p.1 ≠ x)) = entM t n :=
 List.filter_eq_self.2 fun p hp => by simpa using entM_out t n hx p hp
theorem entM_del {t : Nat → Po} {i : Nat} {c : Po} (hc : c.tk = false) : ∀ n, i < n → ((entM t n).filter fun p => decide (p.1 ≠ (i : Int))) = entM (pupd t i c) n
 | 0, h => by omega
 | k + 1, h => by
   unfold entM
   rw [List.filter_append]
   by_cases e : i = k
   · subst e
     rw [entM_self t i (fun j hj _ => by omega), pupd_at, entM_congr (t := pupd t i c) (s := t) i (fun j hj => pupd_ne t c (by omega)), hc]
     split
     · simp
     · simp
   · rw [entM_del hc k (by omega), pupd_ne t c (by omega)]
     congr 1
     split
     · have : ¬ (k : Int) = i := by omega
       simp [this]
     · rfl
theorem entM_put {t : Nat → Po} {i : Nat} {c : Po} (hc : c.tk = true) : ∀ n, i < n → (putM (i : Int) (enV c) (entM t n)).Perm (entM (pupd t i c) n)
 | 0, h => by omega
 | k + 1, h => by
   unfold putM entM
   rw [List.filter_append]
   by_cases e : i = k
   · subst e
     rw [entM_self t i (fun j hj _ => by omega), pupd_at, if_pos hc, entM_congr (t := pupd t i c) (s := t) i (fun j hj => pupd_ne t c (by omega))]
     refine List.Perm.trans ?_ (List.perm_append_singleton _ _).symm
     refine List.Perm.cons _ ?_
     rw [show (List.filter (fun p : Int × Value => decide (p.1 ≠ (i : Int))) (if (t i).tk = true then [((i : Int), enV (t i))] else [])) = [] by split <;> simp, List.append_nil]
   · have h1 := entM_put hc k (t := t) (i := i) (by omega)
     unfold putM at h1
     rw [pupd_ne t c (by omega)]
     rw [show (List.filter (fun p : Int × Value => decide (p.1 ≠ (i : Int))) (if (t k).tk = true then [((k : Int), enV (t k))] else [])) = (if (t k).tk = true then [((k : Int), enV (t k))] else []) by
      split
      · have : ¬ (k : Int) = i := by omega
        simp [this]
      · rfl]
     rw [← List.cons_append]
     exact h1.append_right _
def nwo (n : Nat) : Nat := (n + 63) / 64
structure FreeW (n : Nat) (t : Nat → Po) (F : Nat → Int) : Prop where
 b : ∀ k, k < nwo n → 0 ≤ F k ∧ F k < 18446744073709551616
 f : ∀ k s, k < nwo n → s < 64 → bit (F k) s = (decide (k * 64 + s < n) && !(t (k * 64 + s)).tk)
theorem FreeW.congr {n : Nat} {t s : Nat → Po} {F : Nat → Int} (h : FreeW n t F) (e : ∀ i, i < n → (t i).tk = (s i).tk) : FreeW n s F :=
 ⟨h.b, fun k j hk hj => by
  rw [h.f k j hk hj]
  by_cases hn : k * 64 + j < n
  · rw [e _ hn]
  · rw [decide_eq_false hn]; rfl⟩
theorem xor_pow (n : Int) (s : Nat) (hs : s < 64) (h0 : 0 ≤ n) (h1 : n < 18446744073709551616) : bits BinOp.xor IntKind.u64 n (2 ^ s) = wput n s (!bit n s) := by
 obtain ⟨p0, p1⟩ := pow64 s hs
 obtain ⟨b0, b1⟩ := wput_bounds n s (!bit n s)
 have e := u64_xor n (2 ^ s) h0 h1 p0 p1
 have hx : n.toNat ^^^ ((2 : Int) ^ s).toNat < 2 ^ 64 := Nat.xor_lt_two_pow (by omega) (by omega)
 rw [e]
 refine same_bits64 (by omega) (by omega) b0 b1 fun i hi => ?_
 rw [bit_wput _ _ _ _ hi, bit_testBit _ _ (by omega), Int.toNat_natCast, Nat.testBit_xor, ← bit_testBit _ _ h0, ← bit_testBit _ _ p0, bit_pow]
 by_cases e : i = s
 · rw [if_pos e, decide_eq_true e.symm, e, Bool.xor_true]
 · rw [if_neg e, decide_eq_false (fun h => e h.symm), Bool.xor_false]
theorem FreeW.turn {n : Nat} {t : Nat → Po} {F : Nat → Int} (h : FreeW n t F) {i : Nat} (hi : i < n) {c : Po} (hc : c.tk = !(t i).tk) : FreeW n (pupd t i c) (upd F (i / 64) (bits BinOp.xor IntKind.u64 (F (i / 64)) (2 ^ (i % 64)))) := by
 have hk : i / 64 < nwo n := by unfold nwo; omega
 have hb := h.b _ hk
 rw [xor_pow _ _ (by omega) hb.1 hb.2]
 refine ⟨fun k hk => ?_, fun k s hk hs => ?_⟩
 · by_cases e : k = i / 64
   · subst e; rw [upd_at]; exact wput_bounds _ _ _
   · rw [upd_ne _ _ e]; exact h.b k hk
 · by_cases e : k = i / 64
   · subst e
     rw [upd_at, bit_wput _ _ _ _ hs]
     by_cases e2 : s = i % 64
     · subst e2
       rw [if_pos rfl, h.f _ _ hk hs, show i / 64 * 64 + i % 64 = i by omega, pupd_at, hc, decide_eq_true hi]
       cases (t i).tk <;> rfl
     · rw [if_neg e2, h.f _ _ hk hs, pupd_ne t c (by omega)]
   · rw [upd_ne _ _ e, h.f _ _ hk hs, pupd_ne t c (by omega)]
theorem FreeW.zero {n : Nat} {t : Nat → Po} {F : Nat → Int} (h : FreeW n t F) {k : Nat} (hk : k < nwo n) (hz : ∀ j, k * 64 ≤ j → j < (k + 1) * 64 → j < n → (t j).tk = true) : F k = 0 := by
 have hb := h.b _ hk
 refine same_bits64 hb.1 hb.2 (Int.le_refl _) (by decide) fun s hs => ?_
 rw [bit_zero, h.f k s hk hs]
 by_cases hn : k * 64 + s < n
 · rw [hz _ (by omega) (by omega) hn]; simp
 · rw [decide_eq_false hn]; rfl
theorem FreeW.least {n : Nat} {t : Nat → Po} {F : Nat → Int} (h : FreeW n t F) {i : Nat} (hi : i < n) (hf : (t i).tk = false) (hl : ∀ j, j < i → (t j).tk = true) : F (i / 64) ≠ 0 ∧ first (F (i / 64)) 0 = ((i % 64 : Nat) : Int) := by
 have hk : i / 64 < nwo n := by unfold nwo; omega
 have hb : bit (F (i / 64)) (i % 64) = true := by rw [h.f _ _ hk (by omega), show i / 64 * 64 + i % 64 = i by omega, hf, decide_eq_true hi]; rfl
 refine ⟨fun e => ?_, first_some _ _ _ (fun q _ hq => ?_) (by omega) (by omega) hb⟩
 · rw [e, bit_zero] at hb; cases hb
 · rw [h.f _ _ hk (by omega), hl (i / 64 * 64 + q) (by omega)]; simp
theorem bit_maskI (m : Int) (s : Nat) (hm : 1 ≤ m) (hs : s < 64) : bit (mask m) s = decide ((s : Int) < m) := by
 have e : mask m = ((2 ^ min m.toNat 64 - 1 : Nat) : Int) := by
  unfold mask
  rw [if_neg (by omega)]
  split
  · rw [show min m.toNat 64 = 64 by omega]; decide
  · rw [show min m.toNat 64 = m.toNat by omega, ← cast_two_pow]
    have := Nat.pow_pos (n := m.toNat) (show 0 < 2 by decide)
    omega
 rw [e, bit_testBit _ _ (by omega), Int.toNat_natCast, Nat.testBit_two_pow_sub_one]
 by_cases h : (s : Int) < m
 · rw [decide_eq_true h, decide_eq_true (by omega)]
 · rw [decide_eq_false h, decide_eq_false (by omega)]
theorem FreeW.new (n : Nat) : FreeW n (fun _ => pz) (fun k => mask ((n : Int) - 64 * k)) :=
 ⟨fun k hk => ⟨mask_nonneg _, by have := mask_le ((n : Int) - 64 * k); omega⟩, fun k s hk hs => by
  unfold nwo at hk
  rw [bit_maskI _ _ (by omega) hs]
  by_cases h : k * 64 + s < n
  · rw [decide_eq_true h, decide_eq_true (by omega)]; rfl
  · rw [decide_eq_false h, decide_eq_false (by omega)]; rfl⟩
end Go.Proofs.Ytggmllobcemhhaa.B
