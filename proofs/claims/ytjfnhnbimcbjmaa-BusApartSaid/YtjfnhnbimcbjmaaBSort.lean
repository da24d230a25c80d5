/- Package bus: regions sorted by their bases, over the library's contract of slices.SortFunc. -/
import Derived.Test.YtjfnhnbimcbjmaaBLay
import Derived.Test.YtjfnhnbimcbjmaaBusF
namespace Go.Proofs.Ytjfnhnbimcbjmaa.B
set_option linter.unusedVariables false
set_option linter.unusedSimpArgs false
open Go.ChangeShapes Go.WideShapes Go.RowKit Go.Sort Go.Shelf
theorem flat_list {α : Type} [Inhabited α] (f : α → List Value) (k : Nat) (h : ∀ x, (f x).length = k) (d : Array α) : (flatK f k d).toList = d.toList.flatMap f := by
  apply List.ext_getElem?
  intro t
  by_cases ht : t < d.size * k
  · have hk : 0 < k := by rcases Nat.eq_zero_or_pos k with h0 | h0; · subst h0; simp at ht
                          · exact h0
    have hq : t / k < d.size := Nat.div_lt_of_lt_mul (by rwa [Nat.mul_comm])
    have h1 := flat_at f k h d.toList (t / k) (t % k) d[t / k] (by simp [hq]) (Nat.mod_lt _ hk)
    have h2 := get_flatK f k d t ht
    have hlen : t < (flatK f k d).size := by rw [size_flatK]; exact ht
    rw [getElem!_pos _ t hlen] at h2
    rw [Array.getElem?_toList, Array.getElem?_eq_getElem hlen, h2, getElem!_pos d (t / k) hq]
    have e1 : t / k * k + t % k = t := by rw [Nat.mul_comm]; exact Nat.div_add_mod t k
    rw [e1] at h1
    rw [h1]
    have : t % k < (f d[t / k]).length := by rw [h]; exact Nat.mod_lt _ hk
    rw [getElem!_pos (f d[t / k]) (t % k) this, List.getElem?_eq_getElem this]
  · rw [List.getElem?_eq_none (by simp; omega), List.getElem?_eq_none (by rw [flat_len f k h]; simp; omega)]
theorem heap_laid {w : World} {g n : Nat} {os : Array Obj} {cur : Array Value} {e : TypeId} {fr : Nat × Nat} (d : Array Value) (hb : w.heap[g]? = some (.cells cur e fr)) :
    (grow (putRow id (Sort.ahead w n) g 0 d) os).heap[g]? = some (.cells (putCells id 0 d cur) e fr) := by
  have hg : g < w.heap.size := lt_of_block hb
  rw [heap_grow_old _ _ (by simpa using hg)]
  simp [putRow, mapBlock, Sort.ahead, Array.getElem?_modify, hb, onCells]
theorem off_laid {S : Nat → Prop} {w : World} {g n : Nat} {os : Array Obj} (d : Array Value) (hS : S g) : Off S w (grow (putRow id (Sort.ahead w n) g 0 d) os) := by
  refine ⟨rfl, rfl, rfl, by simp, fun k hk hne => ?_⟩
  rw [heap_grow_old _ _ (by simpa using hk)]
  have : g ≠ k := fun e => hne (by rw [← e]; exact hS)
  simp [putRow, mapBlock, Sort.ahead, Array.getElem?_modify, this]
theorem take_laid (cur : Array Value) (ts : Array Value) (h : ts.size ≤ cur.size) : (putCells id 0 ts cur).toList.take ts.size = ts.toList := by
  apply List.ext_getElem?
  intro j
  by_cases hj : j < ts.size
  · rw [List.getElem?_take_of_lt hj, Array.getElem?_toList]
    simp [putCells, hj, show j < cur.size by omega]
  · rw [List.getElem?_take_eq_none (by omega), List.getElem?_eq_none (by simp; omega)]
/-- A row that was owned, laid anew. -/
theorem row_laid {α : Type} [Inhabited α] {f : α → List Value} {k : Nat} (hf : ∀ x, (f x).length = k) {w : World} {base g cap n : Nat} {e : TypeId} {os : Array Obj} {L : List α} {d : Array α} (hd : d.size = L.length)
    (ho : w.ownsRow base e k (.slice (some ⟨g, 0, none⟩) L.length cap) L.length (L.flatMap f)) : (sortWorldK f k w g 0 n d os).ownsRow base e k (.slice (some ⟨g, 0, none⟩) L.length cap) L.length (d.toList.flatMap f) := by
  rcases ho.2 with ⟨h1, _⟩ | ⟨g', cap', cur, h1, h2, h3, h4, h5, h6, h7⟩
  · cases h1
  · obtain ⟨⟨rfl⟩, _, rfl⟩ : (Addr.mk g 0 none = Addr.mk g' 0 none) ∧ True ∧ cap = cap' := by simp at h1; exact ⟨by rw [h1.1], trivial, h1.2⟩
    refine ⟨by rw [flat_len f k hf]; simp [hd], .inr ⟨g, cap, _, rfl, h2, heap_laid _ h3, h4, h5, by simp [putCells, h6], ?_⟩⟩
    have hs : (flatK f k d).size = L.length * k := by rw [size_flatK, hd]
    rw [← hs, take_laid _ _ (by rw [hs, h6]; exact Nat.mul_le_mul_right _ h4), flat_list f k hf]
theorem holds_own {α : Type} [Inhabited α] {f : α → List Value} {k : Nat} (hf : ∀ x, (f x).length = k) {w : World} {base g cap : Nat} {e : TypeId} {L : List α} (ho : w.ownsRow base e k (.slice (some ⟨g, 0, none⟩) L.length cap) L.length (L.flatMap f)) :
    HoldsK f k w g 0 L.toArray := by
  intro j hj
  have hj' : j < L.length * k := by simpa using hj
  have h1 := ho.cellAt j hj'
  have h2 := ho.frozenAt j
  rw [Nat.zero_add, h1, h2]
  refine ⟨?_, rfl⟩
  rw [getElem!_pos _ j hj]
  have := flat_list f k hf L.toArray
  have hl : j < (L.flatMap f).length := by rw [flat_len f k hf]; exact hj'
  rw [List.getElem?_eq_getElem hl]
  simp only [id, Option.some.injEq]
  have h3 : (flatK f k L.toArray).toList[j]? = (L.flatMap f)[j]? := by rw [this]
  rw [List.getElem?_eq_getElem hl, Array.getElem?_toList, Array.getElem?_eq_getElem hj] at h3
  exact (Option.some.inj h3).symm
theorem zLess (x y : Int × Int) (W : World) : Calls Try.prog 45 #[.agg #[.int .u32 x.1, .int .u32 x.2], .agg #[.int .u32 y.1, .int .u32 y.2]] W
    fun e w' => e = .returned (.int .i64 (cmpI x.1 y.1)) ∧ ∃ q os', w' = grow (W.drewN q) os' := by
  go_enter Try.func45, Try.ntmps45
  go_wp2_with (go_at_call 46; refine (zCompare _ _ _).mono ?_; rintro e w' ⟨rfl, rfl⟩)
  go_ret
  exact ⟨rfl, 0, _, by rw [alloc_eq_grow, alloc_eq_grow, grow_grow]; rfl⟩
theorem ltReg (x y : Int × Int) : ltOf (fun x y : Int × Int => cmpI x.1 y.1) x y = decide (x.1 < y.1) := by
  unfold ltOf cmpI
  by_cases h1 : x.1 < y.1
  · simp [h1]
  · by_cases h2 : y.1 < x.1 <;> simp [h1, h2]
theorem swoReg : SWO (ltOf fun x y : Int × Int => cmpI x.1 y.1) where
  irrefl x := by rw [ltReg]; simp
  trans x y z h1 h2 := by rw [ltReg] at *; simp at *; omega
  ntrans x y z h1 h2 := by rw [ltReg] at *; simp at *; omega
/-- The regions of a bus, sorted by their bases. -/
theorem zSort (R : List (Int × Int)) (g cap : Nat) (w : World) (ho : w.ownsRow 0 24 2 (.slice (some ⟨g, 0, none⟩) R.length cap) R.length (R.flatMap regCells)) (hs : R.length < 4611686018427387904) :
    Calls Try.prog 44 #[.slice (some ⟨g, 0, none⟩) R.length cap, .func (.func 45) #[] #[]] w
      fun e w' => e = .returned (.tuple #[]) ∧ ∃ R' : List (Int × Int), R'.Perm R ∧ R'.Pairwise (fun x y => x.1 ≤ y.1) ∧ w'.ownsRow 0 24 2 (.slice (some ⟨g, 0, none⟩) R.length cap) R.length (R'.flatMap regCells) ∧ Off (· = g) w w' := by
  have eg : ∀ args w, (callFunc 45 args).run Try.prog w = .ok (.enter 45 args) w := enters_of Try.func45 (by kernel_rfl) rfl
  have hcon := AnyQ.slices_SortFunc Try.sortReg 2 Try.isAgg24 Try.sizeOf24 regCells (fun _ => rfl) (fun x v hv => by simp [regCells] at hv; rcases hv with rfl | rfl <;> rfl) (fun x y => cmpI x.1 y.1) swoReg
    45 #[] g 0 cap R.toArray w eg (fun _ _ _ _ x y => zLess x y _) (holds_own (f := regCells) (k := 2) (fun _ => rfl) ho) (ho.lt g rfl).2 (by simpa using hs)
  change Calls Try.prog 44 _ _ _ at hcon
  simp only [List.size_toArray] at hcon
  refine hcon.mono ?_
  rintro e w' ⟨rfl, d', n, os, hp, hsd, rfl⟩
  obtain ⟨p1, p2, p3⟩ := hp
  refine ⟨rfl, d'.toList, ?_, ?_, row_laid (f := regCells) (k := 2) (fun _ => rfl) (by simpa using p1) ho, off_laid _ rfl⟩
  · have : d'.extract 0 R.length = d' := by
      rw [show R.length = d'.size by simpa using p1.symm]; simp
    rw [this] at p3
    simpa using p3
  · rw [List.pairwise_iff_getElem]
    intro i j hi hj hij
    have := hsd i j (Nat.zero_le _) hij (by have : d'.size = R.length := by simpa using p1
                                            simp at hj; omega)
    rw [ltReg] at this
    simp at hi hj
    rw [getElem!_pos d' i (by omega), getElem!_pos d' j (by omega)] at this
    simp at this
    simpa using this
end Go.Proofs.Ytjfnhnbimcbjmaa.B
