/- Several texts in one: Arguments of any plain type (integers, bools, texts, slices, structs, arrays, nested) opened to their cells, by one shape. .. -/
import Derived.Test.YtappnidimnhndaaZAaa
import Derived.Test.YtappnidimnhndaaRows
import Derived.OpenShut
import Derived.ProofKit
import Derived.WalkKit
import Derived.WideShapes
import Derived.ChangeArms
import Derived.DataReads
import Derived.Deep.Slices
namespace Go.Proofs.Ytappnidimnhndaa.B
set_option linter.unusedVariables false
set_option linter.unusedSimpArgs false
open Go.ChangeShapes Go.WideShapes Go.RowKit Go.Deep
inductive Sh where
 | int (k : IntKind) | bool | str | slice (e : Sh) | unit | pair (a b : Sh)
def Sh.size : Sh → Nat
 | .unit => 0
 | .pair a b => a.size + b.size
 | _ => 1
def Fits (w : World) : Sh → List Value → Prop
 | .int k, cs => ∃ n, cs = [.int k n] ∧ (Lit.int k n).wf = true
 | .bool, cs => ∃ b, cs = [.bool b]
 | .str, cs => ∃ s : ByteArray, cs = [.string s] ∧ s.size ≤ maxLen
 | .slice e, cs => cs = [.slice none 0 0] ∨ ∃ x len cap, cs = [.slice (some x) len cap] ∧ len ≤ cap ∧ cap ≤ maxLen ∧
     ∀ i, i < cap → ∃ cs' : List Value, cs'.length = e.size ∧ (∀ j, j < e.size → w.cell? (x.add (i * e.size + j)) = cs'[j]?) ∧ Fits w e cs'
 | .unit, cs => cs = []
 | .pair a b, cs => ∃ c1 c2, cs = c1 ++ c2 ∧ Fits w a c1 ∧ Fits w b c2
theorem Fits.length {w : World} : ∀ {s : Sh} {cs : List Value}, Fits w s cs → cs.length = s.size
 | .int _, _, ⟨_, h, _⟩ => by rw [h]; rfl
 | .bool, _, ⟨_, h⟩ => by rw [h]; rfl
 | .str, _, ⟨_, h, _⟩ => by rw [h]; rfl
 | .slice _, _, .inl h => by rw [h]; rfl
 | .slice _, _, .inr ⟨_, _, _, h, _⟩ => by rw [h]; rfl
 | .unit, _, h => by rw [show _ = [] from h]; rfl
 | .pair a b, _, ⟨_, _, h, h1, h2⟩ => by rw [h, List.length_append, h1.length, h2.length]; rfl
inductive Md where
 | ty (t : TypeId) | fs (l : List Field) (off : Nat) | rep (n : Nat) (e : TypeId)
def okAs (P : Program) : Sh → Md → Bool
 | .int k, .ty t => match P.underlying t with | some (.int k') => decide (k' = k) | _ => false
 | .bool, .ty t => match P.underlying t with | some .bool => true | _ => false
 | .str, .ty t => match P.underlying t with | some .string => true | _ => false
 | .slice e, .ty t => match P.underlying t with | some (.slice u) => okAs P e (.ty u) && decide (P.cellsOf u = e.size) | _ => false
 | .pair a b, .ty t => match P.underlying t with
  | some (.struct fs) => match fs.toList with
    | f :: l => okAs P a (.ty f.type) && decide (f.offset = 0) && decide (P.cellsOf f.type = a.size) && okAs P b (.fs l a.size) && decide (P.cellsOf t = a.size + b.size)
    | [] => false
  | some (.array (n + 1) u) => okAs P a (.ty u) && decide (P.cellsOf u = a.size) && okAs P b (.rep n u) && decide (P.cellsOf t = a.size + b.size)
  | _ => false
 | .pair a b, .fs (f :: l) off => okAs P a (.ty f.type) && decide (f.offset = off) && decide (P.cellsOf f.type = a.size) && okAs P b (.fs l (off + a.size))
 | .pair a b, .rep (n + 1) u => okAs P a (.ty u) && decide (P.cellsOf u = a.size) && okAs P b (.rep n u)
 | .unit, .fs [] _ => true
 | .unit, .rep 0 _ => true
 | _, _ => false
def Known {H : Type} (enc : TypeId × Value → H) (P : Program) (w : World) (s : Sh) (cs : List Value) : Md → Prop
 | .ty t => ∃ fuel x, DataW.trod enc P w 0 (fun _ => true) true fuel t cs = some x
 | .fs l off => cs.length = s.size ∧ ∀ (i : Nat) (f : Field), l[i]? = some f → ∃ fuel x, DataW.trod enc P w 0 (fun _ => true) true fuel f.type ((cs.drop (f.offset - off)).take (P.cellsOf f.type)) = some x ∧ off ≤ f.offset
 | .rep n e => cs.length = s.size ∧ ∀ i, i < n → ∃ fuel x, DataW.trod enc P w 0 (fun _ => true) true fuel e ((cs.drop (i * P.cellsOf e)).take (P.cellsOf e)) = some x
theorem fits_of {H : Type} {enc : TypeId × Value → H} {P : Program} {w : World} : ∀ (s : Sh) (m : Md) (cs : List Value), okAs P s m = true → Known enc P w s cs m → Fits w s cs := by
 intro s
 induction s with
 | int k =>
   intro m cs h hk
   cases m with
   | ty t =>
     obtain ⟨fuel, x, hx⟩ := hk
     unfold okAs at h
     split at h
     · rename_i k' hu
       obtain rfl : k' = k := by simpa using h
       obtain ⟨n, h1, _, h3⟩ := DataW.trod_int hu hx
       exact ⟨n, h1, h3⟩
     · cases h
   | fs l off => simp [okAs] at h
   | rep n e => simp [okAs] at h
 | bool =>
   intro m cs h hk
   cases m with
   | ty t =>
     obtain ⟨fuel, x, hx⟩ := hk
     unfold okAs at h
     split at h
     · rename_i hu
       obtain ⟨b, h1, _⟩ := DataW.trod_bool hu hx
       exact ⟨b, h1⟩
     · cases h
   | fs l off => simp [okAs] at h
   | rep n e => simp [okAs] at h
 | str =>
   intro m cs h hk
   cases m with
   | ty t =>
     obtain ⟨fuel, x, hx⟩ := hk
     unfold okAs at h
     split at h
     · rename_i hu
       obtain ⟨b, h1, _, h3⟩ := DataW.trod_string hu hx
       exact ⟨b, h1, h3⟩
     · cases h
   | fs l off => simp [okAs] at h
   | rep n e => simp [okAs] at h
 | slice e ih =>
   intro m cs h hk
   cases m with
   | ty t =>
     obtain ⟨fuel, x, hx⟩ := hk
     unfold okAs at h
     split at h
     · rename_i u hu
       simp only [Bool.and_eq_true, decide_eq_true_eq] at h
       rcases open_slice hu hx with ⟨h1, _⟩ | ⟨a, len, cap, m, n, D, Pl, h1, hb, hl, hc, hm, _, hi⟩
       · exact .inl h1
       · refine .inr ⟨a, len, cap, h1, hl, hc, fun i hic => ?_⟩
         obtain ⟨cs', hcs, ht⟩ := hi i (by rw [hm]; simpa using hic)
         rw [h.2] at hcs
         obtain ⟨_, hlen, hat⟩ := World.cells?_some hcs
         exact ⟨cs', hlen, fun j hj => by rw [← hat j hj, Go.Deep.add_add], ih (.ty u) cs' h.1 ⟨n, _, ht⟩⟩
     · cases h
   | fs l off => simp [okAs] at h
   | rep n e => simp [okAs] at h
 | unit =>
   intro m cs h hk
   cases m with
   | ty t => simp [okAs] at h
   | fs l off =>
     cases l with
     | nil => exact List.length_eq_zero_iff.1 hk.1
     | cons f l => simp [okAs] at h
   | rep n e =>
     cases n with
     | zero => exact List.length_eq_zero_iff.1 hk.1
     | succ n => simp [okAs] at h
 | pair a b iha ihb =>
   intro m cs h hk
   have split3 : ∀ c : List Value, cs = c ++ cs.drop c.length → Fits w a c → Fits w b (cs.drop c.length) → Fits w (.pair a b) cs := fun c h1 h2 h3 => ⟨c, _, h1, h2, h3⟩
   cases m with
   | ty t =>
     obtain ⟨fuel, x, hx⟩ := hk
     unfold okAs at h
     split at h
     · rename_i fs hu
       split at h
       · rename_i f l hfs
         simp only [Bool.and_eq_true, decide_eq_true_eq] at h
         obtain ⟨⟨⟨⟨h1, h2⟩, h3⟩, h4⟩, h5⟩ := h
         obtain ⟨xs, n, _, _, hlen, hxl, hg⟩ := DataW.trod_struct hu hx
         have hfs' : ∀ i : Nat, fs[i]? = (f :: l)[i]? := fun i => by rw [← hfs, Array.getElem?_toList]
         have hsz : fs.size = (f :: l).length := by rw [← hfs]; simp
         have g : ∀ (i : Nat) (f' : Field), (f :: l)[i]? = some f' → ∃ x, DataW.trod enc P w 0 (fun _ => true) true n f'.type ((cs.drop f'.offset).take (P.cellsOf f'.type)) = some x := fun i f' hi => by
          have := hg i f' (by rw [hfs' i]; exact hi)
          have hil : i < xs.length := by rw [hxl, hsz]; exact (List.getElem?_eq_some_iff.1 hi).1
          exact ⟨_, this.trans (List.getElem?_eq_getElem hil)⟩
         have hcl : cs.length = a.size + b.size := by rw [hlen, h5]
         obtain ⟨x0, g0⟩ := g 0 f rfl
         rw [h2, h3] at g0
         refine ⟨cs.take a.size, cs.drop a.size, (List.take_append_drop _ _).symm, iha (.ty f.type) _ h1 ⟨n, x0, by simpa using g0⟩, ihb (.fs l a.size) _ h4 ⟨by simp; omega, fun i f' hi => ?_⟩⟩
         obtain ⟨x1, g1⟩ := g (i + 1) f' hi
         have hoff : a.size ≤ f'.offset := by
          clear g g0 g1 hg iha ihb
          have : ∀ (b : Sh) (l : List Field) (off : Nat) (i : Nat), okAs P b (.fs l off) = true → l[i]? = some f' → off ≤ f'.offset := by
           intro b
           induction b with
           | pair a b _ ihb =>
             intro l off i hk hi
             cases l with
             | nil => simp at hi
             | cons f0 l =>
               simp only [okAs, Bool.and_eq_true, decide_eq_true_eq] at hk
               cases i with
               | zero => simp at hi; subst hi; omega
               | succ i => have := ihb l _ i hk.2 (by simpa using hi); omega
           | unit => intro l off i hk hi; cases l <;> simp [okAs] at hk hi
           | int k => intro l off i hk hi; simp [okAs] at hk
           | bool => intro l off i hk hi; simp [okAs] at hk
           | str => intro l off i hk hi; simp [okAs] at hk
           | slice e _ => intro l off i hk hi; simp [okAs] at hk
          exact this b l a.size i h4 hi
         refine ⟨n, x1, ?_, hoff⟩
         rw [List.drop_drop, show a.size + (f'.offset - a.size) = f'.offset by omega]
         exact g1
       · cases h
     · rename_i n u hu
       simp only [Bool.and_eq_true, decide_eq_true_eq] at h
       obtain ⟨⟨⟨h1, h2⟩, h3⟩, h4⟩ := h
       obtain ⟨xs, m, _, _, hlen, hxl, hg⟩ := DataW.trod_array hu hx
       have hcl : cs.length = a.size + b.size := by rw [hlen, h4]
       have g : ∀ i, i < n + 1 → ∃ x, DataW.trod enc P w 0 (fun _ => true) true m u ((cs.drop (i * P.cellsOf u)).take (P.cellsOf u)) = some x := fun i hi =>
        ⟨_, (hg i hi).trans (List.getElem?_eq_getElem (by omega))⟩
       obtain ⟨x0, g0⟩ := g 0 (by omega)
       rw [h2] at g0
       refine ⟨cs.take a.size, cs.drop a.size, (List.take_append_drop _ _).symm, iha (.ty u) _ h1 ⟨m, x0, by simpa using g0⟩, ihb (.rep n u) _ h3 ⟨by simp; omega, fun i hi => ?_⟩⟩
       obtain ⟨x1, g1⟩ := g (i + 1) (by omega)
       refine ⟨m, x1, ?_⟩
       rw [List.drop_drop, show a.size + i * P.cellsOf u = (i + 1) * P.cellsOf u by rw [h2, Nat.add_mul]; omega]
       exact g1
     · cases h
   | fs l off =>
     cases l with
     | nil => simp [okAs] at h
     | cons f l =>
       simp only [okAs, Bool.and_eq_true, decide_eq_true_eq] at h
       obtain ⟨⟨⟨h1, h2⟩, h3⟩, h4⟩ := h
       obtain ⟨hcl, hg⟩ := hk
       have hcl' : cs.length = a.size + b.size := hcl
       obtain ⟨fuel, x0, g0, _⟩ := hg 0 f rfl
       rw [h2, h3, Nat.sub_self] at g0
       refine ⟨cs.take a.size, cs.drop a.size, (List.take_append_drop _ _).symm, iha (.ty f.type) _ h1 ⟨fuel, x0, by simpa using g0⟩, ihb (.fs l (off + a.size)) _ h4 ⟨by simp; omega, fun i f' hi => ?_⟩⟩
       obtain ⟨fuel1, x1, g1, _⟩ := hg (i + 1) f' hi
       have hoff : off + a.size ≤ f'.offset := by
        clear hg g0 g1 iha ihb
        have : ∀ (b : Sh) (l : List Field) (off : Nat) (i : Nat), okAs P b (.fs l off) = true → l[i]? = some f' → off ≤ f'.offset := by
         intro b
         induction b with
         | pair a b _ ihb =>
           intro l off i hk hi
           cases l with
           | nil => simp at hi
           | cons f0 l =>
             simp only [okAs, Bool.and_eq_true, decide_eq_true_eq] at hk
             cases i with
             | zero => simp at hi; subst hi; omega
             | succ i => have := ihb l _ i hk.2 (by simpa using hi); omega
         | unit => intro l off i hk hi; cases l <;> simp [okAs] at hk hi
         | int k => intro l off i hk hi; simp [okAs] at hk
         | bool => intro l off i hk hi; simp [okAs] at hk
         | str => intro l off i hk hi; simp [okAs] at hk
         | slice e _ => intro l off i hk hi; simp [okAs] at hk
        exact this b l _ i h4 hi
       refine ⟨fuel1, x1, ?_, hoff⟩
       rw [List.drop_drop, show a.size + (f'.offset - (off + a.size)) = f'.offset - off by omega]
       exact g1
   | rep n u =>
     cases n with
     | zero => simp [okAs] at h
     | succ n =>
       simp only [okAs, Bool.and_eq_true, decide_eq_true_eq] at h
       obtain ⟨⟨h1, h2⟩, h3⟩ := h
       obtain ⟨hcl, hg⟩ := hk
       have hcl' : cs.length = a.size + b.size := hcl
       obtain ⟨fuel, x0, g0⟩ := hg 0 (by omega)
       rw [h2] at g0
       refine ⟨cs.take a.size, cs.drop a.size, (List.take_append_drop _ _).symm, iha (.ty u) _ h1 ⟨fuel, x0, by simpa using g0⟩, ihb (.rep n u) _ h3 ⟨by simp; omega, fun i hi => ?_⟩⟩
       obtain ⟨fuel1, x1, g1⟩ := hg (i + 1) (by omega)
       refine ⟨fuel1, x1, ?_⟩
       rw [List.drop_drop, show a.size + i * P.cellsOf u = (i + 1) * P.cellsOf u by rw [h2, Nat.add_mul]; omega]
       exact g1
def FitsV (w : World) : Sh → Value → Prop
 | .pair a b, v => ∃ l : List Value, v = .agg l.toArray ∧ Fits w (.pair a b) l
 | .unit, v => v = .agg #[]
 | s, v => Fits w s [v]
theorem fitsV_of {H : Type} {enc : TypeId × Value → H} {P : Program} {w : World} {base : Nat} {s : Sh} {t : TypeId} {v : Value} {d : DataW H} {ps : List MemPlace} (hs : okAs P s (.ty t) = true)
 (hv : Value.okWide P w .any base t v) (hd : DataW.Trod enc P w 0 (fun _ => true) true t v d ps) : FitsV w s v := by
 obtain ⟨fuel, hf⟩ := hd
 have hfit : Fits w s v.cells.toList := fits_of s (.ty t) _ hs ⟨fuel, _, hf⟩
 cases s with
 | int k =>
   have hs' := hs
   unfold okAs at hs'
   split at hs'
   · rename_i k' hu
     obtain ⟨n, rfl⟩ := okWide_int hu hv
     exact hfit
   · cases hs'
 | bool =>
   have hs' := hs
   unfold okAs at hs'
   split at hs'
   · rename_i hu
     obtain ⟨n, rfl⟩ := okWide_bool hu hv
     exact hfit
   · cases hs'
 | str =>
   have hs' := hs
   unfold okAs at hs'
   split at hs'
   · rename_i hu
     obtain ⟨n, rfl⟩ := okWide_string hu hv
     exact hfit
   · cases hs'
 | slice e =>
   have hs' := hs
   unfold okAs at hs'
   split at hs'
   · rename_i hu
     obtain ⟨a, l, c, rfl⟩ := okWide_slice hu hv
     exact hfit
   · cases hs'
 | unit => simp [okAs] at hs
 | pair a b =>
   have hs' := hs
   unfold okAs at hs'
   have : ∃ cs, v = .agg cs := by
    split at hs'
    · rename_i fs hu
      obtain ⟨cs, h, _⟩ := okWide_struct hu hv
      exact ⟨cs, h⟩
    · rename_i n u hu
      unfold Value.okWide at hv
      rw [hu] at hv
      obtain ⟨cs, h, _⟩ := hv
      exact ⟨cs, h⟩
    · cases hs'
   obtain ⟨cs, rfl⟩ := this
   exact ⟨cs.toList, by simp, hfit⟩
end Go.Proofs.Ytappnidimnhndaa.B
namespace Go.Proofs.Ytappnidimnhndaa.B
set_option linter.unusedVariables false
set_option linter.unusedSimpArgs false
open Go.ChangeShapes Go.WideShapes Go.RowKit Go.Sort
theorem fits_int {k : IntKind} {w : World} {v : Value} (h : FitsV w (.int k) v) : ∃ a : Int, v = .int k a ∧ (Lit.int k a).wf = true := by
 obtain ⟨a, e, ha⟩ := h
 exact ⟨a, by simpa using e, ha⟩
theorem fits_u32 {w : World} {v : Value} (h : FitsV w (.int .u32) v) : ∃ a : Int, v = .int .u32 a ∧ 0 ≤ a ∧ a < 4294967296 := by
 obtain ⟨a, e, ha⟩ := fits_int h
 have := bounds_u32 ha
 exact ⟨a, e, by omega, by omega⟩
theorem fits_u64 {w : World} {v : Value} (h : FitsV w (.int .u64) v) : ∃ a : Int, v = .int .u64 a ∧ 0 ≤ a ∧ a < 18446744073709551616 := by
 obtain ⟨a, e, ha⟩ := fits_int h
 have := bounds_u64 ha
 exact ⟨a, e, by omega, by omega⟩
theorem fits_i64 {w : World} {v : Value} (h : FitsV w (.int .i64) v) : ∃ a : Int, v = .int .i64 a ∧ -9223372036854775808 ≤ a ∧ a < 9223372036854775808 := by
 obtain ⟨a, e, ha⟩ := fits_int h
 have := bounds_i64 ha
 exact ⟨a, e, by omega, by omega⟩
theorem fits_bool {w : World} {v : Value} (h : FitsV w .bool v) : ∃ b : Bool, v = .bool b := by
 obtain ⟨b, e⟩ := h
 exact ⟨b, by simpa using e⟩
theorem add_form (b o i : Nat) : (⟨b, o, none⟩ : Addr).add i = ⟨b, o + i, none⟩ := by
 unfold Addr.add
 split
 · rename_i h; subst h; rfl
 · rfl
theorem addr_of_cell {w : World} {x : Addr} {v : Value} (h : w.cell? (x.add 0) = some v) : x = ⟨x.block, x.off, none⟩ ∧ x.block < w.heap.size := by
 have e : x.add 0 = x := by unfold Addr.add; rw [if_pos rfl]
 rw [e] at h
 have h1 := World.cell?_spot h
 obtain ⟨b, o, s⟩ := x
 simp only at h1
 subst h1
 exact ⟨rfl, block_lt_of_cell h⟩
theorem fits_slice {e : Sh} {w : World} {v : Value} (h : FitsV w (.slice e) v) (he : 0 < e.size) : ∃ y len cap, v = .slice y len cap ∧ (len = 0 ∨ ∃ b off, y = some ⟨b, off, none⟩ ∧ len ≤ cap ∧ cap ≤ maxLen ∧ b < w.heap.size ∧
 ∀ i, i < cap → ∃ cs : List Value, cs.length = e.size ∧ (∀ j, j < e.size → w.cell? ⟨b, off + (i * e.size + j), none⟩ = cs[j]?) ∧ Fits w e cs) := by
 rcases h with h | ⟨x, len, cap, h, h1, h2, h3⟩
 · exact ⟨none, 0, 0, by simpa using h, .inl rfl⟩
 have hv : v = .slice (some x) len cap := by simpa using h
 by_cases hc : cap = 0
 · exact ⟨_, _, _, hv, .inl (by omega)⟩
 obtain ⟨cs0, hl0, hc0, _⟩ := h3 0 (by omega)
 have g0 := hc0 0 he
 rw [List.getElem?_eq_getElem (by omega)] at g0
 rw [Nat.zero_mul, Nat.zero_add] at g0
 obtain ⟨hx, hb⟩ := addr_of_cell g0
 refine ⟨_, _, _, hv, .inr ⟨x.block, x.off, by rw [← hx], h1, h2, hb, fun i hi => ?_⟩⟩
 obtain ⟨cs, hl, hcell, hf⟩ := h3 i hi
 refine ⟨cs, hl, fun j hj => ?_, hf⟩
 have := hcell j hj
 rw [hx, add_form] at this
 exact this
theorem fits_ints {k : IntKind} {w : World} {v : Value} (h : FitsV w (.slice (.int k)) v) : ∃ y len cap, v = .slice y len cap ∧ (len = 0 ∨ ∃ b off, ∃ zs : Nat → Int, y = some ⟨b, off, none⟩ ∧ len ≤ cap ∧ cap ≤ maxLen ∧ b < w.heap.size ∧
 ∀ i, i < cap → w.cell? ⟨b, off + i, none⟩ = some (.int k (zs i)) ∧ (Lit.int k (zs i)).wf = true) := by
 obtain ⟨y, len, cap, hv, h⟩ := fits_slice h (by simp [Sh.size])
 refine ⟨y, len, cap, hv, ?_⟩
 rcases h with h | ⟨b, off, hy, h1, h2, hb, h3⟩
 · exact .inl h
 have g : ∀ i, i < cap → ∃ n : Int, w.cell? ⟨b, off + i, none⟩ = some (.int k n) ∧ (Lit.int k n).wf = true := fun i hi => by
  obtain ⟨cs, hl, hcell, n, hn, hw⟩ := h3 i hi
  have := hcell 0 (by simp [Sh.size])
  rw [hn] at this
  exact ⟨n, by simpa [Sh.size] using this, hw⟩
 refine .inr ⟨b, off, fun i => if h : i < cap then (g i h).choose else 0, hy, h1, h2, hb, fun i hi => ?_⟩
 simp only [hi, dite_true]
 exact (g i hi).choose_spec
end Go.Proofs.Ytappnidimnhndaa.B
