/- The law BusApart: one region changes no other one. -/
import Derived.Test.YtjfnhnbimcbjmaaL03F
namespace Go.Proofs.Ytjfnhnbimcbjmaa.B
set_option linter.unusedVariables false
set_option linter.unusedSimpArgs false
open Go.ChangeShapes Go.WideShapes Go.RowKit Go.Sort Go.Shelf
/-- Files' seats, 64 addresses apart. -/
def seatsOf (F : List (Nat × Nat)) : List Seat := F.mapIdx fun j x => ⟨64 * (j : Int), 16, x.1⟩
def ptrs (F : List (Nat × Nat)) : List Value := F.map fun x => .pointer (some ⟨x.1, 0, none⟩)
def rg (v : Int) : Rg := ⟨v, 0, 4294967295, 0⟩
structure ApIn (w0 w : World) (p bm : Nat) (F : List (Nat × Nat)) (fv rv sv : Value) (R : List (Int × Int)) (L : List Seat) (V : Nat → Int) : Prop where
  bus : BusAt w p bm rv sv R L
  perm : R.Perm (L.map fun x => (x.b, x.s))
  row : w.ownsRow 0 38 1 fv F.length (ptrs F)
  files : ∀ j x, F[j]? = some x → FileAt w x.1 x.2 [(4, rg (V j))]
  nodup : (bm :: F.map (·.2)).Nodup
  below : Below w0.heap.size w0 w
  new : ∀ k, busBlocks p bm rv sv k → w0.heap.size ≤ k
  fnew : ∀ k, fv.ownBlock = some k → w0.heap.size ≤ k
  newF : ∀ x ∈ F, w0.heap.size ≤ x.1 ∧ w0.heap.size ≤ x.2
theorem FileAt.isMap {w : World} {f m : Nat} {M : List (Int × Rg)} (h : FileAt w f m M) : ∃ es c, w.heap[m]? = some (.map es c) := by
  obtain ⟨es, c, hb, _⟩ := h.map; exact ⟨es, c, hb⟩
theorem file_not_bus {w : World} {p bm f m : Nat} {rv sv : Value} {R : List (Int × Int)} {L : List Seat} {M : List (Int × Rg)} (hB : BusAt w p bm rv sv R L) (hF : FileAt w f m M) (hm : m ≠ bm) : ¬ busBlocks p bm rv sv f ∧ ¬ busBlocks p bm rv sv m := by
  obtain ⟨es, c, hme⟩ := hF.isMap
  obtain ⟨es2, c2, hbm, _⟩ := hB.map
  constructor
  · rintro (rfl | rfl | h | h)
    · have := hF.cell; rw [hB.cell] at this; simp at this
    · have := hF.cell; rw [hbm] at this; cases this
    · obtain ⟨d, hd⟩ := row_obj hB.regs h; rw [hF.cell] at hd; simp at hd
    · obtain ⟨d, hd⟩ := row_obj hB.seats h; rw [hF.cell] at hd; simp at hd
  · rintro (rfl | rfl | h | h)
    · rw [hB.cell] at hme; cases hme
    · exact hm rfl
    · obtain ⟨d, hd⟩ := row_obj hB.regs h; rw [hme] at hd; cases hd
    · obtain ⟨d, hd⟩ := row_obj hB.seats h; rw [hme] at hd; cases hd
theorem row_not_bus {w : World} {p bm : Nat} {rv sv fv : Value} {R : List (Int × Int)} {L : List Seat} {n : Nat} {xs : List Value} (hB : BusAt w p bm rv sv R L) (hr : w.ownsRow 0 38 1 fv n xs) {k : Nat} (hk : fv.ownBlock = some k) : ¬ busBlocks p bm rv sv k := by
  obtain ⟨c, hc⟩ := row_obj hr hk
  obtain ⟨es2, c2, hbm, _⟩ := hB.map
  rintro (rfl | rfl | h | h)
  · rw [hB.cell] at hc; simp at hc
  · rw [hbm] at hc; cases hc
  · obtain ⟨d, hd⟩ := row_obj hB.regs h; rw [hc] at hd; simp at hd
  · obtain ⟨d, hd⟩ := row_obj hB.seats h; rw [hc] at hd; simp at hd
theorem file_not_row {w : World} {f m : Nat} {fv : Value} {M : List (Int × Rg)} {n : Nat} {xs : List Value} (hF : FileAt w f m M) (hr : w.ownsRow 0 38 1 fv n xs) : fv.ownBlock ≠ some f ∧ fv.ownBlock ≠ some m := by
  obtain ⟨es, c, hme⟩ := hF.isMap
  constructor
  · intro h; obtain ⟨d, hd⟩ := row_obj hr h; rw [hF.cell] at hd; simp at hd
  · intro h; obtain ⟨d, hd⟩ := row_obj hr h; rw [hme] at hd; cases hd
theorem ApIn.map_ne {w0 w : World} {p bm : Nat} {F : List (Nat × Nat)} {fv rv sv : Value} {R : List (Int × Int)} {L : List Seat} {V : Nat → Int} (h : ApIn w0 w p bm F fv rv sv R L V) {x : Nat × Nat} (hx : x ∈ F) : x.2 ≠ bm := by
  have := (List.nodup_cons.1 h.nodup).1
  intro e; exact this (by rw [← e]; exact List.mem_map.2 ⟨x, hx, rfl⟩)
theorem ApIn.ofBelow {w0 w w' : World} {p bm : Nat} {F : List (Nat × Nat)} {fv rv sv : Value} {R : List (Int × Int)} {L : List Seat} {V : Nat → Int} (h : ApIn w0 w p bm F fv rv sv R L V) (hb : Below w.heap.size w w') : ApIn w0 w' p bm F fv rv sv R L V :=
  ⟨h.bus.ofBelow hb, h.perm, row_keep h.row fun g hg => hb.block g (h.row.lt g hg).2, fun j x hx => (h.files j x hx).below hb, h.nodup, h.below.trans (hb.mono h.below.size), h.new, h.fnew, h.newF⟩
theorem ApIn.start {w0 w : World} {p bm : Nat} (h : BusAt w p bm (.slice none 0 0) (.slice none 0 0) [] []) (hb : Below w0.heap.size w0 w) (hp : w0.heap.size ≤ p) (hm : w0.heap.size ≤ bm) : ApIn w0 w p bm [] (.slice none 0 0) (.slice none 0 0) (.slice none 0 0) [] [] (fun j => j) :=
  ⟨h, .nil, World.ownsRow_nil _ _ _ _, fun j x hx => by simp at hx, by simp, hb, (fun k hk => by
    rcases hk with rfl | rfl | h | h
    · exact hp
    · exact hm
    · cases h
    · cases h), (fun k hk => by cases hk), (fun x hx => by cases hx)⟩
/-- Another region is there. -/
theorem ApIn.attached {w0 w w' : World} {p bm : Nat} {F : List (Nat × Nat)} {fv rv sv : Value} {R : List (Int × Int)} {L : List Seat} {V : Nat → Int} (h : ApIn w0 w p bm F fv rv sv R L V) {x : Seat} (hp : PutSo p bm rv sv R L x w w') :
    ∃ rv' sv' R', ApIn w0 w' p bm F fv rv' sv' R' (L ++ [x]) V ∧ Off (busBlocks p bm rv sv) w w' := by
  obtain ⟨rv', sv', R', hB, hpm, _, ho, hk⟩ := hp
  refine ⟨rv', sv', R', ⟨hB, ?_, row_keep h.row fun g hg => ho.block g (h.row.lt g hg).2 (row_not_bus h.bus h.row hg), fun j y hy => ?_, h.nodup, h.below.trans (off_new ho h.new h.below.size), fun k hk' => ?_, h.fnew, h.newF⟩, ho⟩
  · rw [List.map_append]; exact hpm.trans (h.perm.append_right _)
  · obtain ⟨h1, h2⟩ := file_not_bus h.bus (h.files j y hy) (h.map_ne (List.mem_of_getElem? hy))
    exact (h.files j y hy).off ho h1 h2
  · rcases hk k hk' with h1 | h1
    · exact h.new k h1
    · exact Nat.le_trans h.below.size h1
/-- Another file is there, and appended to the list of files. -/
theorem ApIn.another {w0 w w' : World} {p bm : Nat} {F : List (Nat × Nat)} {fv fv' rv sv : Value} {R : List (Int × Int)} {L : List Seat} {V : Nat → Int} (h : ApIn w0 w p bm F fv rv sv R L V) {f m : Nat} (hf : FileAt w f m [(4, rg (V F.length))]) (hm : m ∉ (bm :: F.map (·.2))) (hn : w0.heap.size ≤ f ∧ w0.heap.size ≤ m)
    (hg : w.grownBy w' fv.ownBlock) (hrow : w'.ownsRow 0 38 1 fv' (F.length + 1) (ptrs F ++ [.pointer (some ⟨f, 0, none⟩)])) (hat : fv'.ownBlock = fv.ownBlock ∨ ∃ k, fv'.ownBlock = some k ∧ w0.heap.size ≤ k) : ApIn w0 w' p bm (F ++ [(f, m)]) fv' rv sv R L V := by
  have ho : Off (fun k => fv.ownBlock = some k) w w' := Off.ofGrown hg fun k e => e
  have hkeep : ∀ {f' m' : Nat} {M : List (Int × Rg)}, FileAt w f' m' M → FileAt w' f' m' M := fun hF => hF.off ho (file_not_row hF h.row).1 (file_not_row hF h.row).2
  refine ⟨h.bus.ofOff ho fun k hk hk2 => row_not_bus h.bus h.row hk2 hk, h.perm, ?_, fun j x hx => ?_, ?_, h.below.trans (off_new ho h.fnew h.below.size), h.new, fun k hk => ?_, fun x hx => ?_⟩
  · have : (F ++ [(f, m)]).length = F.length + 1 := by simp
    rw [this]; unfold ptrs at hrow ⊢; rw [List.map_append]; exact hrow
  · by_cases hj : j < F.length
    · rw [List.getElem?_append_left hj] at hx; exact hkeep (h.files j x hx)
    · rw [List.getElem?_append_right (by omega)] at hx
      have hj2 : j - F.length = 0 := by
        have := (List.getElem?_eq_some_iff.1 hx).1; simp at this; omega
      have hjn : j = F.length := by omega
      rw [hj2] at hx; simp at hx; subst hx; rw [hjn]; exact hkeep hf
  · rw [List.map_append, ← List.cons_append]
    refine List.nodup_append.2 ⟨h.nodup, by simp, ?_⟩
    intro a ha b hb; simp at hb; subst hb; intro e; subst e; exact hm ha
  · rcases hat with h1 | ⟨k', h1, h2⟩
    · exact h.fnew k (h1 ▸ hk)
    · rw [hk] at h1; cases h1; exact h2
  · rcases List.mem_append.1 hx with h1 | h1
    · exact h.newF x h1
    · simp at h1; subst h1; exact hn
/-- Stored: one register of one file. -/
theorem ApIn.stored {w0 w w' : World} {p bm : Nat} {F : List (Nat × Nat)} {fv rv sv : Value} {R : List (Int × Int)} {L : List Seat} {V : Nat → Int} (h : ApIn w0 w p bm F fv rv sv R L V) {x : Nat} {fm : Nat × Nat} (hx : F[x]? = some fm) (v : Int)
    (ho : Off (· = fm.2) w w') (hf : FileAt w' fm.1 fm.2 [(4, rg v)]) : ApIn w0 w' p bm F fv rv sv R L (fun j => if j = x then v else V j) := by
  have hmem := List.mem_of_getElem? hx
  have hF := h.files x fm hx
  obtain ⟨n1, n2⟩ := file_not_bus h.bus hF (h.map_ne hmem)
  refine ⟨h.bus.ofOff ho fun k hk e => n2 (e ▸ hk), h.perm, row_keep h.row fun g hg => ho.block g (h.row.lt g hg).2 (fun e => (file_not_row hF h.row).2 (e ▸ hg)), fun j y hy => ?_, h.nodup, h.below.trans (off_new ho (fun k e => by rw [e]; exact (h.newF fm hmem).2) h.below.size), h.new, h.fnew, h.newF⟩
  by_cases hj : j = x
  · subst hj; rw [hx] at hy; cases hy; rw [if_pos rfl]; exact hf
  · rw [if_neg hj]
    have hFy := h.files j y hy
    obtain ⟨es, c, hme⟩ := hF.isMap
    refine hFy.off ho (fun e => ?_) (fun e => ?_)
    · have := hFy.cell; rw [e, hme] at this; cases this
    · have hnd := (List.nodup_cons.1 h.nodup).2
      have hj1 := (List.getElem?_eq_some_iff.1 hy)
      have hx1 := (List.getElem?_eq_some_iff.1 hx)
      obtain ⟨a1, a2⟩ := hj1
      obtain ⟨b1, b2⟩ := hx1
      have : (F.map (·.2))[j]'(by simpa using a1) = (F.map (·.2))[x]'(by simpa using b1) := by simp [a2, b2, e]
      exact hj ((List.getElem_inj hnd).1 this)
/-- Which seat an address has. -/
theorem seat_find {L : List Seat} {a : Int} {x : Nat} {s : Seat} (hx : L[x]? = some s) (hs : hasB s.b s.s a = true) (hno : ∀ j t, j < x → L[j]? = some t → hasB t.b t.s a = false) : findL a L = (.agg #[.int .u32 s.b, .int .u32 s.s, .iface 38 (.pointer (some ⟨s.f, 0, none⟩))], 0) := by
  have : L.find? (fun x => hasB x.b x.s a) = some s := by
    obtain ⟨h1, h2⟩ := List.getElem?_eq_some_iff.1 hx
    rw [List.find?_eq_some_iff_getElem]
    refine ⟨hs, x, h1, h2, fun j hj => ?_⟩
    rw [hno j L[j] hj (List.getElem?_eq_getElem (by omega))]; rfl
  unfold findL
  rw [this]; rfl
theorem seatsOf_at {F : List (Nat × Nat)} {j : Nat} {x : Nat × Nat} (h : F[j]? = some x) : (seatsOf F)[j]? = some ⟨64 * (j : Int), 16, x.1⟩ := by
  unfold seatsOf; rw [List.getElem?_mapIdx, h]; rfl
theorem seatsOf_form {F : List (Nat × Nat)} {j : Nat} {t : Seat} (h : (seatsOf F)[j]? = some t) : ∃ f, t = ⟨64 * (j : Int), 16, f⟩ ∧ j < F.length := by
  unfold seatsOf at h; rw [List.getElem?_mapIdx] at h
  cases hF : F[j]? with
  | none => rw [hF] at h; simp at h
  | some x => rw [hF] at h; simp at h; exact ⟨x.1, h.symm, (List.getElem?_eq_some_iff.1 hF).1⟩
theorem has_no {j x : Nat} (hj : j < x) (hx : x < 8) : hasB (64 * (j : Int)) 16 (64 * (x : Int) + 4) = false := by unfold hasB; simp; omega
theorem find_at {F : List (Nat × Nat)} {x : Nat} {y : Nat × Nat} (h : F[x]? = some y) (hx : x < 8) (T : List Seat) : findL (64 * (x : Int) + 4) (seatsOf F ++ T) = (.agg #[.int .u32 (64 * (x : Int)), .int .u32 16, .iface 38 (.pointer (some ⟨y.1, 0, none⟩))], 0) := by
  have hxl : x < (seatsOf F).length := by have := (List.getElem?_eq_some_iff.1 (seatsOf_at h)).1; exact this
  refine seat_find (x := x) (s := ⟨64 * (x : Int), 16, y.1⟩) (by rw [List.getElem?_append_left hxl]; exact seatsOf_at h) (by unfold hasB; simp; omega) fun j t hj ht => ?_
  rw [List.getElem?_append_left (by omega)] at ht
  obtain ⟨f, rfl, _⟩ := seatsOf_form ht
  exact has_no hj hx
theorem find_last {F : List (Nat × Nat)} (h8 : F.length = 8) (f : Nat) : findL 4100 (seatsOf F ++ [⟨4096, 16, f⟩]) = (.agg #[.int .u32 4096, .int .u32 16, .iface 38 (.pointer (some ⟨f, 0, none⟩))], 0) := by
  have hl : (seatsOf F).length = 8 := by unfold seatsOf; simp [h8]
  refine seat_find (x := 8) (s := ⟨4096, 16, f⟩) (by rw [List.getElem?_append_right (by omega), hl]; rfl) (by unfold hasB; simp) fun j t hj ht => ?_
  rw [List.getElem?_append_left (by omega)] at ht
  obtain ⟨f', rfl, hj2⟩ := seatsOf_form ht
  unfold hasB; simp; omega
theorem store_all (a v : Int) (v0 : 0 ≤ v) (v1 : v < 4294967296) : stV a 4294967295 0 v = v := by
  obtain ⟨p0, p1⟩ := stV_bounds a 4294967295 0 v
  refine same_bits p0 p1 v0 v1 fun i hi => ?_
  rw [bit_stV _ _ _ _ i hi]
  have h1 : bit 4294967295 i = true := by
    rw [bit_testBit _ _ (by omega)]
    show (4294967295 : Nat).testBit i = true
    have : (4294967295 : Nat) = 2 ^ 32 - 1 := by decide
    rw [this, Nat.testBit_two_pow_sub_one]; simp [hi]
  unfold stB
  rw [h1, bit_zero]; simp
theorem seatsOf_snoc (F : List (Nat × Nat)) (f m : Nat) : seatsOf (F ++ [(f, m)]) = seatsOf F ++ [⟨64 * ((F.length : Nat) : Int), 16, f⟩] := by
  unfold seatsOf; rw [List.mapIdx_append]; simp
theorem ap_off {F : List (Nat × Nat)} {R : List (Int × Int)} (h : R.Perm ((seatsOf F).map fun x => (x.b, x.s))) (hF : F.length ≤ 8) :
    (∀ x ∈ R, (0 ≤ x.1 ∧ x.1 < 4294967296) ∧ 0 ≤ x.2 ∧ x.2 < 4294967296) ∧ anyMeet (64 * ((F.length : Nat) : Int)) 16 R = false ∧ anyMeet 4096 16 R = false ∧ R.length = F.length ∧ (seatsOf F).length = F.length := by
  have hsl : (seatsOf F).length = F.length := by unfold seatsOf; simp
  have hmem : ∀ x ∈ R, ∃ j : Nat, j < F.length ∧ x = (64 * (j : Int), 16) := fun x hx => by
    have := h.mem_iff.1 hx
    obtain ⟨t, ht, rfl⟩ := List.mem_map.1 this
    obtain ⟨j, hj, hjt⟩ := List.getElem_of_mem ht
    obtain ⟨f, h2, h3⟩ := seatsOf_form (List.getElem?_eq_some_iff.2 ⟨hj, hjt⟩)
    exact ⟨j, h3, by rw [h2]⟩
  have any : ∀ b : Int, (∀ j : Nat, j < F.length → meetB b 16 (64 * (j : Int)) 16 = false) → anyMeet b 16 R = false := fun b hb => by
    unfold anyMeet; rw [List.any_eq_false]; intro x hx
    obtain ⟨j, hj, rfl⟩ := hmem x hx
    simp [hb j hj]
  refine ⟨fun x hx => ?_, any _ fun j hj => ?_, any _ fun j hj => ?_, ?_, hsl⟩
  · obtain ⟨j, hj, rfl⟩ := hmem x hx
    simp; omega
  · unfold meetB; simp; (repeat' split) <;> omega
  · unfold meetB; simp; (repeat' split) <;> omega
  · have := h.length_eq; simpa [hsl] using this
theorem ApIn.attach {w0 w : World} {p bm : Nat} {F : List (Nat × Nat)} {fv rv sv : Value} {R : List (Int × Int)} {V : Nat → Int} (h : ApIn w0 w p bm F fv rv sv R (seatsOf F) V) (hF : F.length ≤ 8) (b : Int) (f : Nat) (hb : b = 64 * ((F.length : Nat) : Int) ∨ b = 4096) :
    Calls Try.prog 16 #[.pointer (some ⟨p, 0, none⟩), .agg #[.int .u32 b, .int .u32 16], .iface 38 (.pointer (some ⟨f, 0, none⟩))] w
      fun e w' => e = .returned (.int .i64 0) ∧ ∃ rv' sv' R', ApIn w0 w' p bm F fv rv' sv' R' (seatsOf F ++ [⟨b, 16, f⟩]) V ∧ Off (busBlocks p bm rv sv) w w' := by
  obtain ⟨o1, o2, o3, o4, o5⟩ := ap_off h.perm hF
  refine (zAttach p bm rv sv R _ b 16 f w h.bus (by omega) (by omega) ⟨?_, by simp, ?_⟩ o1 ?_ ?_ (by decide)).mono ?_
  · simp; omega
  · simp; omega
  · rcases hb with rfl | rfl
    · exact o2
    · exact o3
  · rcases hb with rfl | rfl
    · simp; omega
    · decide
  rintro e w' ⟨rfl, hp⟩
  exact ⟨rfl, h.attached hp⟩
theorem ApIn.store {w0 w : World} {p bm : Nat} {F : List (Nat × Nat)} {fv rv sv : Value} {R : List (Int × Int)} {T : List Seat} {V : Nat → Int} (h : ApIn w0 w p bm F fv rv sv R (seatsOf F ++ T) V) {x : Nat} {fm : Nat × Nat} (hx : F[x]? = some fm) (hx8 : x < 8) (v : Int) (v0 : 0 ≤ v) (v1 : v < 4294967296) (a : Int) (ha : a = 64 * (x : Int) + 4) :
    Calls Try.prog 20 #[.pointer (some ⟨p, 0, none⟩), .int .u32 a, .int .u32 v] w fun e w' => e = .returned (.int .i64 0) ∧ ApIn w0 w' p bm F fv rv sv R (seatsOf F ++ T) (fun j => if j = x then v else V j) := by
  subst ha
  have e4 : 64 * (x : Int) + 4 - 64 * (x : Int) = 4 := by omega
  have hF := h.files x fm hx
  obtain ⟨n1, n2⟩ := file_not_bus h.bus hF (h.map_ne (List.mem_of_getElem? hx))
  refine (zStore p bm rv sv R _ (64 * (x : Int) + 4) (64 * (x : Int)) 16 v fm.1 fm.2 [(4, rg (V x))] (rg (V x)) w (by omega) (by omega) v0 v1 (by simp; omega) h.bus (find_at hx hx8 T) (by omega) (by omega) hF (by rw [e4]; simp) (by unfold only rg; simp) (by rw [e4]; decide) (fun e => n1 (.inl e)) (fun e => n2 (.inl e))).mono ?_
  rintro e w' ⟨rfl, ho, hf⟩
  refine ⟨rfl, h.stored hx v ho ?_⟩
  rw [e4] at hf
  have : putF 4 ((rg (V x)).put v) [(4, rg (V x))] = [(4, rg v)] := by
    unfold putF Rg.put rg
    simp [store_all _ v v0 v1]
  rwa [this] at hf
theorem ApIn.load {w0 w : World} {p bm : Nat} {F : List (Nat × Nat)} {fv rv sv : Value} {R : List (Int × Int)} {T : List Seat} {V : Nat → Int} (h : ApIn w0 w p bm F fv rv sv R (seatsOf F ++ T) V) {x : Nat} {fm : Nat × Nat} (hx : F[x]? = some fm) (hx8 : x < 8) (a : Int) (ha : a = 64 * (x : Int) + 4) :
    Calls Try.prog 18 #[.pointer (some ⟨p, 0, none⟩), .int .u32 a] w fun e w' => e = .returned (.tuple #[.int .u32 (V x), .int .i64 0]) ∧ Below w.heap.size w w' := by
  subst ha
  have e4 : 64 * (x : Int) + 4 - 64 * (x : Int) = 4 := by omega
  have hF := h.files x fm hx
  obtain ⟨n1, n2⟩ := file_not_bus h.bus hF (h.map_ne (List.mem_of_getElem? hx))
  exact zLoad p bm rv sv R _ (64 * (x : Int) + 4) (64 * (x : Int)) 16 fm.1 fm.2 [(4, rg (V x))] (rg (V x)) w (by omega) (by omega) (by simp; omega) h.bus (find_at hx hx8 T) (by omega) (by omega) hF (by rw [e4]; simp) (by rw [e4]; decide) (fun e => n1 (.inl e)) (fun e => n2 (.inl e))
theorem ApIn.loadLast {w0 w : World} {p bm : Nat} {F : List (Nat × Nat)} {fv rv sv : Value} {R : List (Int × Int)} {V : Nat → Int} {x : Nat} {fm : Nat × Nat} (h : ApIn w0 w p bm F fv rv sv R (seatsOf F ++ [⟨4096, 16, fm.1⟩]) V) (h8 : F.length = 8) (hx : F[x]? = some fm) :
    Calls Try.prog 18 #[.pointer (some ⟨p, 0, none⟩), .int .u32 4100] w fun e w' => e = .returned (.tuple #[.int .u32 (V x), .int .i64 0]) ∧ Below w.heap.size w w' := by
  have hF := h.files x fm hx
  obtain ⟨n1, n2⟩ := file_not_bus h.bus hF (h.map_ne (List.mem_of_getElem? hx))
  exact zLoad p bm rv sv R _ 4100 4096 16 fm.1 fm.2 [(4, rg (V x))] (rg (V x)) w (by omega) (by omega) (by decide) h.bus (find_last h8 fm.1) (by omega) (by omega) hF (by simp) (by decide) (fun e => n1 (.inl e)) (fun e => n2 (.inl e))
theorem mod8 (n : Int) : 0 ≤ (IntKind.u64.wrap n).tmod 8 % 4294967296 ∧ (IntKind.u64.wrap n).tmod 8 % 4294967296 < 8 := by
  have h0 := wrap_u64_nonneg n
  have h1 : 0 ≤ (IntKind.u64.wrap n).tmod 8 := Int.tmod_nonneg _ h0
  have h2 : (IntKind.u64.wrap n).tmod 8 < 8 := Int.tmod_lt_of_pos _ (by omega)
  omega
theorem infoPtr : (Try.prog.info? 38).map (fun i => (i.zero, i.size, i.bytes)) = some (some (.pointer none), 1, 8) := by kernel_rfl
set_option maxRecDepth 100000 in
set_option maxHeartbeats 6400000 in
theorem busApart (n m v u : Int) (w : World) (v0 : 0 ≤ v) (v1 : v < 4294967296) (u0 : 0 ≤ u) (u1 : u < 4294967296) :
    Calls Try.prog 7 #[.int .i64 n, .int .i64 m, .int .u32 v, .int .u32 u] w fun e w' => e = .returned (.bool true) ∧ Below w.heap.size w w' := by
  obtain ⟨i0, hi, hz0, hz1, hz2⟩ := info_parts infoPtr
  have HI := Lib.hid hi
  have HZ := Lib.hid hz0
  have HZ1 := Lib.hid hz1
  have HZ2 := Lib.hid hz2
  clear hi hz0 hz1 hz2
  go_enter Try.func7, Try.ntmps7
  go_wp2_with fail
  refine (zNew _).mono ?_
  rintro e w1 ⟨rfl, hB1, hb1⟩
  have HA1 := Lib.hid (ApIn.start hB1 hb1 (by omega) (Nat.le_refl _))
  clear hB1 hb1
  go_wp2_with fail
  go_loopw [10, 11] (fun fv i wr => ∃ (k : Nat) (F : List (Nat × Nat)) (rv sv : Value) (R : List (Int × Int)), k ≤ 8 ∧ F.length = k ∧ i = .int .i64 k ∧ ApIn w wr (w.heap.size + 1) w.heap.size F fv rv sv R (seatsOf F) (fun j => j)) (fun _ i _ => 8 - (intOf i).toNat)
  case atStart => exact ⟨0, [], _, _, _, by omega, rfl, rfl, HA1.out⟩
  case round =>
    obtain ⟨k, F, rv, sv, R, hk, hF, rfl, hA⟩ := hrel
    have HA := Lib.hid hA
    clear hA
    by_cases hlt : k < 8
    · go_wp2_with fail
      refine (fNew _).mono ?_
      rintro e w2 ⟨rfl, hF2, hb2⟩
      have HA2 := Lib.hid (HA.out.ofBelow hb2)
      have HWR := Lib.hid hb2.size
      have HF2 := Lib.hid hF2
      clear hb2 hF2
      go_wp2_with fail
      refine (fDefine 4 (rg (k : Int)) (wr.heap.size + 1) wr.heap.size [] _ ⟨by simp [rg]; omega, by simp [rg], by simp [rg], by simp [rg]⟩ (by omega) (by omega) (by decide) HF2.out (fun _ h => by cases h)).mono ?_
      rintro e w3 ⟨rfl, hF3, ho3⟩
      have hmap : ∀ x ∈ F, x.2 ≠ wr.heap.size ∧ x.1 ≠ wr.heap.size := fun x hx => by
        obtain ⟨j, hj, hjx⟩ := List.getElem_of_mem hx
        have hf := HA.out.files j x (List.getElem?_eq_some_iff.2 ⟨hj, hjx⟩)
        have h1 := hf.ltf
        have h2 := hf.ltm
        omega
      have hbus : ∀ j, busBlocks (w.heap.size + 1) w.heap.size rv sv j → j < wr.heap.size := HA.out.bus.lt
      have hA3 : ApIn w w3 (w.heap.size + 1) w.heap.size F (u10) rv sv R (seatsOf F) (fun j => j) := by
        have h := HA2.out
        refine ⟨h.bus.ofOff ho3 fun j hj e => by have := hbus j hj; omega, h.perm, row_keep h.row fun g hg => ho3.block g (h.row.lt g hg).2 (fun e => by have := (HA.out.row.lt g hg).2; omega), fun j x hx => (h.files j x hx).off ho3 (hmap x (List.mem_of_getElem? hx)).2 (hmap x (List.mem_of_getElem? hx)).1, h.nodup, h.below.trans (off_new ho3 (fun j e => by have := HA.out.below.size; omega) h.below.size), h.new, h.fnew, h.newF⟩
      have HA3 := Lib.hid hA3
      have HF3 := Lib.hid hF3
      have hnm : wr.heap.size ∉ (w.heap.size :: F.map (·.2)) := by
        intro hm
        rcases List.mem_cons.1 hm with h | h
        · have := hbus _ (.inr (.inl h)); omega
        · obtain ⟨x, hx, he⟩ := List.mem_map.1 h
          exact (hmap x hx).1 he
      have hge := HA.out.below.size
      have hat := HA3.out.attach (by omega) (64 * (k : Int)) (wr.heap.size + 1) (.inl (by rw [hF]))
      have hnb : ∀ j, busBlocks (w.heap.size + 1) w.heap.size rv sv j → j ≠ wr.heap.size ∧ j ≠ wr.heap.size + 1 := fun j hj => by have := hbus j hj; omega
      clear hA3 hF3 ho3 hmap hbus
      go_wp2_with fail
      refine hat.mono ?_
      rintro e w4 ⟨rfl, rv', sv', R', hA4, ho4⟩
      have hF4 := HF3.out.off ho4 (fun h => (hnb _ h).2 rfl) (fun h => (hnb _ h).1 rfl)
      have HA5 := Lib.hid (hA4.ofBelow (trA (tr0 w4) (.cells #[.pointer (some ⟨wr.heap.size + 1, 0, none⟩)] 38)))
      have HF5 := Lib.hid (hF4.below (trA (tr0 w4) (.cells #[.pointer (some ⟨wr.heap.size + 1, 0, none⟩)] 38)))
      have HROW := Lib.hid HA5.out.row
      have hge4 := hA4.below.size
      clear hat hnb hA4 ho4 hF4
      go_wp2_with (at_builtin; refine wpList_append_own_at _ rfl _ _ 36 rfl 0 38 i0 (.pointer none) 1 8 Try.underlying36 HI.out HZ.out HZ1.out HZ2.out rfl (by decide) u10 F.length (ptrs F) rfl HROW.out ⟨w4.heap.size, 0, none⟩ 1 1 [.pointer (some ⟨wr.heap.size + 1, 0, none⟩)] rfl rfl (cell_one_new _ _ _) (fun x hx => by simp at hx; subst hx; rfl) (by unfold maxLen; omega) (by omega) (Nat.zero_le _) ?_; intro fv' w5 hown5 hgr5 hnil5 hat5)
      have hA6 : ApIn w w5 (w.heap.size + 1) w.heap.size (F ++ [(wr.heap.size + 1, wr.heap.size)]) fv' rv' sv' R' (seatsOf (F ++ [(wr.heap.size + 1, wr.heap.size)])) (fun j => j) := by
        rw [seatsOf_snoc, hF]
        exact HA5.out.another (by rw [hF]; exact HF5.out) hnm ⟨by omega, hge⟩ hgr5 hown5 (hat5.imp id fun h => ⟨_, h, by simp; omega⟩)
      have HA6 := Lib.hid hA6
      clear hA6 hown5 hgr5 hnil5 hat5
      go_wp2_with fail
      go_roundw
      case rel => exact ⟨k + 1, _, rv', sv', R', by omega, by simp [hF], by go_num, HA6.out⟩
      case measure => simp [intOf]; omega
    · have hk8 : k = 8 := by omega
      subst hk8
      go_upto_region 11 with (fail)
      obtain ⟨X, hX⟩ : ∃ X, X = (IntKind.u64.wrap n).tmod 8 % 4294967296 := ⟨_, rfl⟩
      obtain ⟨Y, hY⟩ : ∃ Y, Y = (IntKind.u64.wrap m).tmod 8 % 4294967296 := ⟨_, rfl⟩
      have hx := mod8 n
      have hy := mod8 m
      rw [← hX] at hx ⊢
      rw [← hY] at hy ⊢
      clear hX hY
      obtain ⟨x, rfl⟩ := Int.eq_ofNat_of_zero_le hx.1
      obtain ⟨y, rfl⟩ := Int.eq_ofNat_of_zero_le hy.1
      obtain ⟨fx, hfx⟩ : ∃ f, F[x]? = some f := ⟨F[x], List.getElem?_eq_getElem (by omega)⟩
      obtain ⟨fy, hfy⟩ : ∃ f, F[y]? = some f := ⟨F[y], List.getElem?_eq_getElem (by omega)⟩
      have hx1 : (x : Int) < 8 := hx.2
      have hy1 : (y : Int) < 8 := hy.2
      clear hx hy
      rcases row_form HA.out.row with ⟨_, h⟩ | ⟨g, cap, rfl, hc1, hc2, _⟩
      · omega
      · have hcell : wr.cell? ⟨g, x, none⟩ = some (.pointer (some ⟨fx.1, 0, none⟩)) := by
          have h1 := HA.out.row.cellAt x (by omega)
          rw [h1]; unfold ptrs; rw [List.getElem?_map, hfx]; rfl
        have hlenF : (x : Int) < (F.length : Int) := by omega
        have hat := HA.out.attach (by omega) 4096 fx.1 (.inr rfl)
        have H8 := Lib.hid hF
        have HFX := Lib.hid hfx
        have HFY := Lib.hid hfy
        unfold maxLen at hc2
        clear hF hfx hfy HI HZ HZ1 HZ2
        go_wp2_with fail
        refine hat.mono ?_
        rintro e w4 ⟨rfl, rv', sv', R', hA4, _⟩
        have HA4 := Lib.hid hA4
        clear hat hA4 hcell
        go_wp2_with fail
        refine (HA4.out.store HFX.out (by omega) v v0 v1 _ rfl).mono ?_
        rintro e w5 ⟨rfl, hA5⟩
        have HA5 := Lib.hid hA5
        clear hA5
        go_wp2_with fail
        refine (HA5.out.store HFY.out (by omega) u u0 u1 _ rfl).mono ?_
        rintro e w6 ⟨rfl, hA6⟩
        have HA6 := Lib.hid hA6
        clear hA6
        go_wp2_with fail
        clear HA HA1 HA4 HA5
        go_loopw [15] (fun i wr => ∃ k : Nat, k ≤ 8 ∧ i = .int .u32 k ∧ ApIn w wr (w.heap.size + 1) w.heap.size F (.slice (some ⟨g, 0, none⟩) F.length cap) rv' sv' R' (seatsOf F ++ [⟨4096, 16, fx.1⟩]) (fun j => if j = y then u else if j = x then v else j)) (fun i _ => 8 - (intOf i).toNat)
        case atStart => exact ⟨0, by omega, rfl, HA6.out⟩
        case round =>
          obtain ⟨k, hk, rfl, hA⟩ := hrel
          have HA := Lib.hid hA
          clear hA
          by_cases hlt : k < 8
          · have hkl : k < F.length := by have := H8.out; omega
            obtain ⟨fk, hfk⟩ : ∃ f, F[k]? = some f := ⟨F[k], List.getElem?_eq_getElem hkl⟩
            clear hkl
            have hld := HA.out.load hfk hlt (64 * (k : Int) + 4) rfl
            have hkk : (k : Int) < 8 := by omega
            clear hfk
            by_cases h2 : k = y
            · rw [if_pos h2] at hld
              have b2 : ((k : Int) == (y : Int)) = true := by subst h2; exact beq_self_eq_true _
              cases b1 : ((k : Int) == (x : Int))
              all_goals
                clear h2
                go_wp2_with fail
                refine hld.mono ?_
                rintro e w7 ⟨rfl, hb7⟩
                have HA7 := Lib.hid (HA.out.ofBelow hb7)
                clear hb7 hld
                go_wp2_with fail
                go_roundw
                case rel => exact ⟨k + 1, by omega, by go_num, HA7.out⟩
                case measure => simp [intOf]; omega
            · rw [if_neg h2] at hld
              have b2 : ((k : Int) == (y : Int)) = false := by simp; omega
              by_cases h1 : k = x
              · rw [if_pos h1] at hld
                have b1 : ((k : Int) == (x : Int)) = true := by subst h1; exact beq_self_eq_true _
                clear h1 h2
                go_wp2_with fail
                refine hld.mono ?_
                rintro e w7 ⟨rfl, hb7⟩
                have HA7 := Lib.hid (HA.out.ofBelow hb7)
                clear hb7 hld
                go_wp2_with fail
                go_roundw
                case rel => exact ⟨k + 1, by omega, by go_num, HA7.out⟩
                case measure => simp [intOf]; omega
              · rw [if_neg h1] at hld
                have b1 : ((k : Int) == (x : Int)) = false := by simp; omega
                clear h1 h2
                go_wp2_with fail
                refine hld.mono ?_
                rintro e w7 ⟨rfl, hb7⟩
                have HA7 := Lib.hid (HA.out.ofBelow hb7)
                clear hb7 hld
                go_wp2_with fail
                go_roundw
                case rel => exact ⟨k + 1, by omega, by go_num, HA7.out⟩
                case measure => simp [intOf]; omega
          · have l1 := fun (w' : World) (h : ApIn w w' (w.heap.size + 1) w.heap.size F (.slice (some ⟨g, 0, none⟩) F.length cap) rv' sv' R' (seatsOf F ++ [⟨4096, 16, fx.1⟩]) (fun j => if j = y then u else if j = x then v else j)) => h.load HFX.out (by omega) (64 * (x : Int) + 4) rfl
            have l2 := fun (w' : World) (h : ApIn w w' (w.heap.size + 1) w.heap.size F (.slice (some ⟨g, 0, none⟩) F.length cap) rv' sv' R' (seatsOf F ++ [⟨4096, 16, fx.1⟩]) (fun j => if j = y then u else if j = x then v else j)) => h.loadLast H8.out HFX.out
            generalize hZ : (if x = y then u else if x = x then v else (x : Int)) = Z at l1 l2
            clear hZ
            have HL1 := Lib.hid l1
            have HL2 := Lib.hid l2
            clear l1 l2
            go_wp2_with fail
            refine (HL1.out _ HA.out).mono ?_
            rintro e w7 ⟨rfl, hb7⟩
            have HA7 := Lib.hid (HA.out.ofBelow hb7)
            clear hb7
            go_wp2_with fail
            refine (HL2.out _ HA7.out).mono ?_
            rintro e w8 ⟨rfl, hb8⟩
            have HA8 := Lib.hid (HA7.out.ofBelow hb8)
            clear hb8
            go_wp2_with fail
            refine (zknown _).mono ?_
            rintro e w9 ⟨rfl, hb9⟩
            have HA9 := Lib.hid (HA8.out.ofBelow hb9)
            clear hb9
            have hself := self_eq Z
            go_wp2_with fail
            go_ret
            exact ⟨rfl, HA9.out.below⟩
theorem wBusApart (v0 v1 v2 v3 : Value) (w : World) (h0 : FitsV w (.int .i64) v0) (h1 : FitsV w (.int .i64) v1) (h2 : FitsV w (.int .u32) v2) (h3 : FitsV w (.int .u32) v3) :
    Calls Try.prog 7 #[v0, v1, v2, v3] w fun e w' => e = .returned (.bool true) ∧ Below w.heap.size w w' := by
  obtain ⟨n, rfl, _, _⟩ := fits_i64 h0
  obtain ⟨m, rfl, _, _⟩ := fits_i64 h1
  obtain ⟨v, rfl, v0, v1⟩ := fits_u32 h2
  obtain ⟨u, rfl, u0, u1⟩ := fits_u32 h3
  exact busApart n m v u w v0 v1 u0 u1
end Go.Proofs.Ytjfnhnbimcbjmaa.B
