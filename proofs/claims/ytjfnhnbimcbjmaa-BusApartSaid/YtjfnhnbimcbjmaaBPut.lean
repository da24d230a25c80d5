/- Package bus: a region and its device are put. -/
import Derived.Test.YtjfnhnbimcbjmaaBRoom
import Derived.Test.YtjfnhnbimcbjmaaBusR
import Derived.Test.YtjfnhnbimcbjmaaMapE
import Derived.Deep.Cut
namespace Go.Proofs.Ytjfnhnbimcbjmaa.B
set_option linter.unusedVariables false
set_option linter.unusedSimpArgs false
open Go.ChangeShapes Go.WideShapes Go.RowKit Go.Sort Go.Shelf
theorem pageLawK : WideMaps.KeyLaw Try.prog 107 := deep_law_laid laidT (m := 2) (by omega) (of_decide_eq_true (by kernel_rfl)) (by kernel_rfl) (by rw [Try.underlying107])
theorem zPage0 (a : Int) (w : World) (a0 : 0 ≤ a) (a1 : a < 16777216) :
    Calls Try.prog 43 #[.int .u32 a] w fun e w' => e = .returned (.agg #[.int .u32 0]) ∧ Below w.heap.size w w' := by
  have h := zPageOf a w a0 (by omega)
  rwa [show a / 16777216 = 0 by omega] at h
theorem infoSeat : (Try.prog.info? 86).map (fun i => (i.zero, i.size, i.bytes)) = some (some (.agg #[.int .u32 0, .int .u32 0, .nilIface]), 3, 24) := by kernel_rfl
theorem infoReg : (Try.prog.info? 24).map (fun i => (i.zero, i.size, i.bytes)) = some (some (.agg #[.int .u32 0, .int .u32 0]), 2, 8) := by kernel_rfl
theorem zeroSeats (u : World) : (zeroValue 109).run Try.prog u = .ok (.slice none 0 0) u := by kernel_rfl
theorem cells3 {w : World} {B : Nat} {c0 c1 c2 : Value} {t : TypeId} (h : w.heap[B]? = some (.cells #[c0, c1, c2] t (0, 0))) : ∀ j u, [c0, c1, c2][j]? = some u → w.cell? ((⟨B, 0, none⟩ : Addr).add j) = some u := by
  intro j u hj
  have h1 := blk_cell h j
  match j, hj with
  | 0, hj => simp at hj; subst hj; simpa [Addr.add] using h1
  | 1, hj => simp at hj; subst hj; simpa [Addr.add] using h1
  | 2, hj => simp at hj; subst hj; simpa [Addr.add] using h1
  | j + 3, hj => simp at hj
theorem cells2 {w : World} {B : Nat} {c0 c1 : Value} {t : TypeId} (h : w.heap[B]? = some (.cells #[c0, c1] t (0, 0))) : ∀ j u, [c0, c1][j]? = some u → w.cell? ((⟨B, 0, none⟩ : Addr).add j) = some u := by
  intro j u hj
  have h1 := blk_cell h j
  match j, hj with
  | 0, hj => simp at hj; subst hj; simpa [Addr.add] using h1
  | 1, hj => simp at hj; subst hj; simpa [Addr.add] using h1
  | j + 2, hj => simp at hj
/-- What has become of a bus behind a seat that is put. -/
def PutSo (p bm : Nat) (rv sv : Value) (R : List (Int × Int)) (L : List Seat) (x : Seat) (w w' : World) : Prop :=
  ∃ (rv' sv' : Value) (R' : List (Int × Int)), BusAt w' p bm rv' sv' R' (L ++ [x]) ∧ R'.Perm (R ++ [(x.b, x.s)]) ∧ R'.Pairwise (fun x y => x.1 ≤ y.1) ∧ Off (busBlocks p bm rv sv) w w' ∧
    (∀ k, busBlocks p bm rv' sv' k → busBlocks p bm rv sv k ∨ w.heap.size ≤ k)
theorem row_obj {w : World} {base : Nat} {e : TypeId} {n m : Nat} {v : Value} {xs : List Value} (h : w.ownsRow base e n v m xs) {k : Nat} (hk : v.ownBlock = some k) : ∃ cur, w.heap[k]? = some (.cells cur e (0, 0)) := by
  rcases h.2 with ⟨rfl, _⟩ | ⟨g, cap, cur, rfl, _, h3, _⟩
  · cases hk
  · cases hk; exact ⟨cur, h3⟩
structure Apart (p bm : Nat) (rv sv : Value) : Prop where
  pm : p ≠ bm
  rp : ∀ k, rv.ownBlock = some k → k ≠ p
  rm : ∀ k, rv.ownBlock = some k → k ≠ bm
  sp : ∀ k, sv.ownBlock = some k → k ≠ p
  sm : ∀ k, sv.ownBlock = some k → k ≠ bm
  rs : ∀ k, rv.ownBlock = some k → sv.ownBlock ≠ some k
theorem BusAt.apart {w : World} {p bm : Nat} {rv sv : Value} {R : List (Int × Int)} {L : List Seat} (h : BusAt w p bm rv sv R L) : Apart p bm rv sv := by
  obtain ⟨_, _, hm, _⟩ := h.map
  refine ⟨?_, fun k hk => ?_, fun k hk => ?_, fun k hk => ?_, fun k hk => ?_, fun k hk hk2 => ?_⟩
  · rintro rfl; rw [h.cell] at hm; cases hm
  · rintro rfl; obtain ⟨c, hc⟩ := row_obj h.regs hk; rw [h.cell] at hc; simp at hc
  · rintro rfl; obtain ⟨c, hc⟩ := row_obj h.regs hk; rw [hm] at hc; cases hc
  · rintro rfl; obtain ⟨c, hc⟩ := row_obj h.seats hk; rw [h.cell] at hc; simp at hc
  · rintro rfl; obtain ⟨c, hc⟩ := row_obj h.seats hk; rw [hm] at hc; cases hc
  · obtain ⟨c, hc⟩ := row_obj h.regs hk; obtain ⟨d, hd⟩ := row_obj h.seats hk2; rw [hc] at hd; simp at hd
/-- What has become of the list of regions behind one that is appended. -/
def RegsSo (p bm : Nat) (rv : Value) (R : List (Int × Int)) (b s : Int) (w w' : World) : Prop :=
  ∃ (g cap : Nat), w'.heap[p]? = some (.cells #[.slice (some ⟨g, 0, none⟩) (R.length + 1) cap, .map (some bm), .int .i64 0] 77 (0, 0)) ∧ w'.ownsRow 0 24 2 (.slice (some ⟨g, 0, none⟩) (R.length + 1) cap) (R.length + 1) (R.flatMap regCells ++ regCells (b, s)) ∧
    Off (fun k => k = p ∨ rv.ownBlock = some k) w w' ∧ (rv.ownBlock = some g ∨ w.heap.size ≤ g)
theorem regs_so {p bm : Nat} {rv : Value} {R : List (Int × Int)} {b s : Int} {g cap : Nat} {w w1 w3 : World} {C : Obj} (hp : w.heap[p]? = some (.cells #[rv, .map (some bm), .int .i64 0] 77 (0, 0))) (hrp : ∀ k, rv.ownBlock = some k → k ≠ p)
    (hw1 : w1 = (w.alloc C).drew) (h13 : w1.grownBy w3 rv.ownBlock) (hown : w3.ownsRow 0 24 2 (.slice (some ⟨g, 0, none⟩) (R.length + 1) cap) (R.length + 1) (R.flatMap regCells ++ regCells (b, s)))
    (hat : some g = rv.ownBlock ∨ some g = some w1.heap.size) : RegsSo p bm rv R b s w (w3.setCell ⟨p, 0, none⟩ (.slice (some ⟨g, 0, none⟩) (R.length + 1) cap)) := by
  have hlp := lt_of_block hp
  have ho1 : Off (fun k => k = p ∨ rv.ownBlock = some k) w w1 := by subst hw1; exact ⟨rfl, rfl, rfl, (Off.ofAlloc (S := fun k => k = p ∨ rv.ownBlock = some k) w C).size, fun k hk hs => (Off.ofAlloc (S := fun k => k = p ∨ rv.ownBlock = some k) w C).block k hk hs⟩
  have hsz : w1.heap.size = w.heap.size + 1 := by subst hw1; show (w.alloc C).heap.size = _; simp
  have hp1 : w1.heap[p]? = w.heap[p]? := by subst hw1; exact blk_old w C hlp
  have hp3 : w3.heap[p]? = some (.cells #[rv, .map (some bm), .int .i64 0] 77 (0, 0)) := ((h13.block p (by omega) (fun e => hrp p e.symm rfl)).trans hp1).trans hp
  have hg : g ≠ p := by
    rcases hat with h | h
    · exact hrp g h.symm
    · simp at h; omega
  refine ⟨g, cap, by simpa using blk_set hp3 0 (.slice (some ⟨g, 0, none⟩) (R.length + 1) cap), row_keep hown fun k hk => ?_, (ho1.andThen (T := fun k => rv.ownBlock = some k) (Off.ofGrown h13 fun k e => e) (fun _ _ h => h) (fun _ _ h => .inr h)).andThen (T := (· = p)) (Off.ofSetCell _ _ _ rfl) (fun _ _ h => h) (fun _ _ h => .inl h), ?_⟩
  · have : k = g := by simp [Value.ownBlock] at hk; exact hk.symm
    subst this
    exact Below.heap_setCell _ _ _ _ hg
  · rcases hat with h | h
    · exact .inl h.symm
    · simp at h; right; omega
theorem regs_mid {p bm : Nat} {rv v' : Value} {R : List (Int × Int)} {b s : Int} {w w3 : World} {C : Obj} (hp : w.heap[p]? = some (.cells #[rv, .map (some bm), .int .i64 0] 77 (0, 0))) (hrp : ∀ k, rv.ownBlock = some k → k ≠ p)
    (h13 : ((w.alloc C).drew).grownBy w3 rv.ownBlock) (hown : w3.ownsRow 0 24 2 v' (R.length + 1) (R.flatMap regCells ++ [.int .u32 b, .int .u32 s]))
    (hat : v'.ownBlock = rv.ownBlock ∨ v'.ownBlock = some (w.alloc C).drew.heap.size) :
    ∃ g cap, v' = .slice (some ⟨g, 0, none⟩) (R.length + 1) cap ∧ w3.cell? ⟨p, 0, none⟩ = some rv ∧ w3.frozen? ⟨p, 0, none⟩ = false ∧ RegsSo p bm rv R b s w (w3.setCell ⟨p, 0, none⟩ (.slice (some ⟨g, 0, none⟩) (R.length + 1) cap)) := by
  rcases row_form hown with ⟨_, h⟩ | ⟨g, cap, rfl, _⟩
  · omega
  · have hlp := lt_of_block hp
    have hp3 : w3.heap[p]? = some (.cells #[rv, .map (some bm), .int .i64 0] 77 (0, 0)) := ((h13.block p (by show p < (w.alloc C).heap.size; simp; omega) (fun e => hrp p e.symm rfl)).trans (blk_old w C hlp)).trans hp
    exact ⟨g, cap, rfl, by simpa using blk_cell hp3 0, blk_free hp3 0, regs_so hp hrp rfl h13 hown hat⟩
theorem put_so {p bm : Nat} {rv sv sv' : Value} {R R' : List (Int × Int)} {L : List Seat} {b s : Int} {f : Nat} {g3 cap3 : Nat} {w W V Y X : World} (hBW : BusAt W p bm rv sv R L) (hbW : Below w.heap.size w W) (hold : ∀ k, busBlocks p bm rv sv k → k < w.heap.size) (hA : Apart p bm rv sv)
    (hO : Off (fun k => k = bm ∨ sv.ownBlock = some k) W V) (hM : mapP V ek ok32 bm [(0, sv')]) (hS : V.ownsRow 0 86 3 sv' (L.length + 1) (L.flatMap Seat.cells ++ (Seat.mk b s f).cells)) (hat : sv'.ownBlock = sv.ownBlock ∨ ∃ k, sv'.ownBlock = some k ∧ W.heap.size ≤ k)
    (hP1 : V.heap[p]? = some (.cells #[rv, .map (some bm), .int .i64 0] 77 (0, 0))) (hRG : V.ownsRow 0 24 2 rv R.length (R.flatMap regCells))
    (hP3 : Y.heap[p]? = some (.cells #[.slice (some ⟨g3, 0, none⟩) (R.length + 1) cap3, .map (some bm), .int .i64 0] 77 (0, 0))) (hO3 : Off (fun k => k = p ∨ rv.ownBlock = some k) V Y) (hat3 : rv.ownBlock = some g3 ∨ V.heap.size ≤ g3)
    (hperm : R'.Perm (R ++ [(b, s)])) (hsorted : R'.Pairwise (fun x y => x.1 ≤ y.1)) (hown5 : X.ownsRow 0 24 2 (.slice (some ⟨g3, 0, none⟩) (R.length + 1) cap3) (R.length + 1) (R'.flatMap regCells)) (hO5 : Off (· = g3) Y X) (hx : Seat.wf ⟨b, s, f⟩) :
    PutSo p bm rv sv R L ⟨b, s, f⟩ w X := by
  have hbm := hM.lt
  have hpl := lt_of_block hP1
  have hgp : g3 ≠ p := by
    rcases hat3 with h | h
    · exact hA.rp g3 h
    · omega
  have hgm : g3 ≠ bm := by
    rcases hat3 with h | h
    · exact hA.rm g3 h
    · omega
  have hks : ∀ k, sv'.ownBlock = some k → k ≠ p ∧ rv.ownBlock ≠ some k ∧ k ≠ g3 := by
    intro k hk
    obtain ⟨c, hc⟩ := row_obj hS hk
    have hr : rv.ownBlock ≠ some k := fun h => by obtain ⟨d, hd⟩ := row_obj hRG h; rw [hc] at hd; simp at hd
    refine ⟨?_, hr, ?_⟩
    · rintro rfl; rw [hP1] at hc; simp at hc
    · rintro rfl
      rcases hat3 with h | h
      · exact hr h
      · have := lt_of_block hc; omega
  have hRl : R'.length = R.length + 1 := by have := hperm.length_eq; simpa using this
  refine ⟨.slice (some ⟨g3, 0, none⟩) (R.length + 1) cap3, sv', R', ⟨?_, ?_, ?_, ?_, ?_, ?_⟩, hperm, hsorted, ?_, ?_⟩
  · exact hO5.at hP3 (fun h => hgp h.symm)
  · rw [hRl]; exact hown5
  · rw [if_neg (by simp)]
    refine hM.kept ?_
    rw [hO5.block bm (Nat.lt_of_lt_of_le hbm hO3.size) (fun h => hgm h.symm), hO3.block bm hbm (fun h => h.elim (fun h => hA.pm h.symm) (fun h => hA.rm bm h rfl))]
  · have : (L ++ [Seat.mk b s f]).length = L.length + 1 := by simp
    rw [this, List.flatMap_append]
    simp only [List.flatMap_cons, List.flatMap_nil, List.append_nil]
    refine row_keep hS fun k hk => ?_
    obtain ⟨h1, h2, h3⟩ := hks k hk
    have hkl := (hS.lt k hk).2
    rw [hO5.block k (Nat.lt_of_lt_of_le hkl hO3.size) h3, hO3.block k hkl (fun h => h.elim h1 h2)]
  · intro y hy
    rcases List.mem_append.1 hy with h | h
    · exact hBW.wf y h
    · simp at h; subst h; exact hx
  · intro h; simp at h
  · have o1 : Off (busBlocks p bm rv sv) w W := Off.ofBelow hbW
    have o2 := o1.andThen hO (U := busBlocks p bm rv sv) (fun _ _ h => h) (fun i _ h => h.elim (fun h => .inr (.inl h)) (fun h => .inr (.inr (.inr h))))
    have o3 := o2.andThen hO3 (U := busBlocks p bm rv sv) (fun _ _ h => h) (fun i _ h => h.elim (fun h => .inl h) (fun h => .inr (.inr (.inl h))))
    refine o3.andThen hO5 (fun _ _ h => h) (fun i hi h => ?_)
    subst h
    rcases hat3 with h | h
    · exact .inr (.inr (.inl h))
    · have := o2.size; omega
  · have o2 := hO.size
    have o1 := hbW.size
    intro k hk
    rcases hk with h | h | h | h
    · exact .inl (.inl h)
    · exact .inl (.inr (.inl h))
    · have : k = g3 := by simp [Value.ownBlock] at h; exact h.symm
      subst this
      rcases hat3 with h | h
      · exact .inl (.inr (.inr (.inl h)))
      · right; omega
    · rcases hat with h2 | ⟨k', h2, h3⟩
      · exact .inl (.inr (.inr (.inr (h2 ▸ h))))
      · rw [h] at h2; cases h2; right; omega
/-- A statement that is the last of its sequence, as one that is followed by something. -/
theorem wp_asThen {P : Program} {c : Code} {Q : Exit → Act → World → Prop} {a : Act} {w : World} (h : ∀ K : Act → World → Prop, (∀ a w, Q .normal a w → K a w) → c.wp P (Exit.then K Q) a w) : c.wp P Q a w := by
  refine wp_mono (h (Q .normal) fun _ _ q => q) ?_
  intro e a' w' hq
  cases e <;> exact hq
/-- What has become of the pages behind a seat that is put. -/
def PagesSo (bm : Nat) (sv : Value) (L : List Seat) (x : Seat) (w w' : World) : Prop :=
  ∃ sv' : Value, mapP w' ek ok32 bm [(0, sv')] ∧ w'.ownsRow 0 86 3 sv' (L.length + 1) (L.flatMap Seat.cells ++ x.cells) ∧ Off (fun k => k = bm ∨ sv.ownBlock = some k) w w' ∧
    (sv'.ownBlock = sv.ownBlock ∨ ∃ k, sv'.ownBlock = some k ∧ w.heap.size ≤ k)
theorem one3 (b s : Int) (f : Nat) : ∀ u ∈ [Value.int .u32 b, Value.int .u32 s, Value.iface 38 (.pointer (some ⟨f, 0, none⟩))], u.oneCell' = true := by
  intro u hu; simp at hu; rcases hu with rfl | rfl | rfl <;> rfl
theorem one2 (b s : Int) : ∀ u ∈ [Value.int .u32 b, Value.int .u32 s], u.oneCell' = true := by
  intro u hu; simp at hu; rcases hu with rfl | rfl <;> rfl
theorem put_one (sv v : Value) (L : List Seat) : putM (0 : Int) v (if L = [] then [] else [((0 : Int), sv)]) = [(0, v)] := by
  unfold putM
  split <;> simp
theorem pages_so {bm : Nat} {sv v' : Value} {L : List Seat} {x : Seat} {w w1 w2 w3 w4 : World} {C : Obj} (hbm : bm < w.heap.size) (hsv : ∀ k, sv.ownBlock = some k → k < w.heap.size ∧ k ≠ bm) (hw1 : w1 = (w.alloc C).drew) (h12 : Off (· = bm) w1 w2) (h23 : w2.grownBy w3 sv.ownBlock)
    (hown : w3.ownsRow 0 86 3 v' (L.length + 1) (L.flatMap Seat.cells ++ x.cells)) (hat : v'.ownBlock = sv.ownBlock ∨ v'.ownBlock = some w2.heap.size)
    (hm : mapP w4 ek ok32 bm (putM 0 v' (if L = [] then [] else [(0, sv)]))) (h34 : Off (· = bm) w3 w4) : PagesSo bm sv L x w w4 := by
  rw [put_one] at hm
  have ho1 : Off (fun k => k = bm ∨ sv.ownBlock = some k) w w1 := by subst hw1; exact ⟨rfl, rfl, rfl, (Off.ofAlloc (S := fun k => k = bm ∨ sv.ownBlock = some k) w C).size, fun k hk hs => (Off.ofAlloc (S := fun k => k = bm ∨ sv.ownBlock = some k) w C).block k hk hs⟩
  have hs1 : w.heap.size ≤ w1.heap.size := ho1.size
  have ho2 : Off (fun k => k = bm ∨ sv.ownBlock = some k) w w2 := ho1.andThen h12 (fun _ _ h => h) (fun _ _ h => .inl h)
  have ho3 : Off (fun k => k = bm ∨ sv.ownBlock = some k) w w3 := ho2.andThen (T := fun k => sv.ownBlock = some k) (Off.ofGrown h23 fun k e => e) (fun _ _ h => h) (fun _ _ h => .inr h)
  refine ⟨v', hm, row_keep hown fun g hg => h34.block g (hown.lt g hg).2 ?_, ho3.andThen h34 (fun _ _ h => h) (fun _ _ h => .inl h), ?_⟩
  · rintro rfl
    rcases hat with h | h
    · exact (hsv g (h ▸ hg)).2 rfl
    · rw [hg] at h
      have h5 := h12.size
      have : g = w2.heap.size := Option.some.inj h
      omega
  · rcases hat with h | h
    · exact .inl h
    · exact .inr ⟨_, h, Nat.le_trans hs1 h12.size⟩
set_option maxRecDepth 100000 in
set_option maxHeartbeats 4000000 in
theorem zPut (p bm : Nat) (rv sv : Value) (R : List (Int × Int)) (L : List Seat) (b s : Int) (f : Nat) (w : World) (hB : BusAt w p bm rv sv R L) (hn : R.length < 64) (hl : L.length = R.length) (hx : Seat.wf ⟨b, s, f⟩) :
    Calls Try.prog 30 #[.pointer (some ⟨p, 0, none⟩), .agg #[.int .u32 b, .int .u32 s, .iface 38 (.pointer (some ⟨f, 0, none⟩))]] w fun e w' => e = .returned (.tuple #[]) ∧ PutSo p bm rv sv R L ⟨b, s, f⟩ w w' := by
  obtain ⟨x0, x1, x2⟩ := hx
  simp only at x0 x1 x2
  have hold : ∀ k, busBlocks p bm rv sv k → k < w.heap.size := hB.lt
  go_enter Try.func30, Try.ntmps30
  go_wp2_with fail
  refine (zPage0 _ _ (by omega) (by omega)).mono ?_
  rintro e w1 ⟨rfl, hb1⟩
  have hX := blk_below hb1 (blk_new w _) (by simp)
  have hl1 := lt_of_block hX
  have hc0 := blk_cell hX 0
  simp only [List.getElem?_toArray, List.getElem?_cons_zero] at hc0
  have hbw1 := tr (trA (tr0 w) _) hb1
  clear hb1
  go_upto_region 2 with (fail)
  go_wp2_with fail
  refine (zPage0 _ _ (by omega) (by omega)).mono ?_
  rintro e w2 ⟨rfl, hb2⟩
  have hX2 := blk_below hb2 ((blk_old _ _ hl1).trans hX) (by simp; omega)
  have hY2 := blk_below hb2 (blk_new w1 _) (by simp)
  have hbw2 := tr (trA hbw1 _) hb2
  have hl2 := lt_of_block hX2
  have hl3 := lt_of_block hY2
  clear hb2
  go_upto_region 3 with (fail)
  have hW0 := (blk_old w2 (.cells #[.int .u32 0] 107) hl2).trans hX2
  have hW1 := (blk_old w2 (.cells #[.int .u32 0] 107) hl3).trans hY2
  have hW2 := blk_new w2 (.cells #[.int .u32 0] 107)
  have hbW := trA hbw2 (.cells #[.int .u32 0] 107)
  clear hX hc0 hX2 hY2 hbw1 hbw2
  generalize w2.alloc (.cells #[.int .u32 0] 107) = W at *
  generalize w2.heap.size = at1 at *
  generalize w1.heap.size = last1 at *
  clear w1 w2
  have hlW := lt_of_block hW2
  have hBW := hB.ofBelow hbW
  have hcP := blk_cell hBW.cell 1
  have hc0 := blk_cell hW0 0
  have hc1 := blk_cell hW0 1
  have hc2 := blk_cell hW0 2
  have hd0 := blk_cell hW1 0
  have he0 := blk_cell hW2 0
  simp only [List.getElem?_toArray, List.getElem?_cons_zero, List.getElem?_cons_succ] at hcP hc0 hc1 hc2 hd0 he0
  obtain ⟨i0, hi, hz0, hz1, hz2⟩ := info_parts infoSeat
  have hMl : (if L = [] then [] else [((0 : Int), sv)]).length ≤ maxLen := by split <;> simp [maxLen]
  obtain ⟨v0, st, W2, hE, hoE, hv0, hst⟩ := (hBW.map.kept (w' := (W.alloc (.cells #[.int .u32 b, .int .u32 s, .iface 38 (.pointer (some ⟨f, 0, none⟩))] 86)).drew) (blk_old W _ hBW.map.lt)).entry pageKey pageLawK Try.underlying75 0 ⟨by omega, by omega⟩ hMl zeroSeats
  have hv : v0 = sv := by
    by_cases hL : L = []
    · rw [if_pos hL] at hv0
      rcases hv0 with h | ⟨_, h⟩
      · cases h
      · rw [h, hB.nilv hL]
    · rw [if_neg hL] at hv0
      rcases hv0 with h | ⟨h, _⟩
      · simpa using h
      · exact absurd rfl (h (0, sv) (by simp))
  subst hv
  unfold ek at hE
  have hsvb : ∀ k, v0.ownBlock = some k → k < W.heap.size ∧ k ≠ bm := fun k hk => ⟨(hBW.seats.lt k hk).2, by
    rintro rfl
    obtain ⟨_, _, hb, _⟩ := hBW.map
    rcases hBW.seats.2 with ⟨h1, _⟩ | ⟨g, cap, cur, h1, _, h3, _⟩
    · rw [h1] at hk; cases hk
    · rw [h1] at hk; cases hk; rw [hb] at h3; cases h3⟩
  have hnb : W.heap.size ≠ bm := by have := hBW.map.lt; omega
  have hN := hoE.at (k := W.heap.size) (blk_new W (.cells #[.int .u32 b, .int .u32 s, .iface 38 (.pointer (some ⟨f, 0, none⟩))] 86)) hnb
  have hownW : W2.ownsRow 0 86 3 v0 L.length (L.flatMap Seat.cells) := row_keep hBW.seats fun g hg => by
    rw [hoE.block g (by have := (hsvb g hg).1; show g < (W.alloc _).heap.size; simp; omega) (hsvb g hg).2]
    exact blk_old W _ (hsvb g hg).1
  have hnews := cells3 hN
  have hszW : p < W.heap.size := hBW.ltp
  have hrest : ∀ v' w3, w3.ownsRow 0 86 3 v' (L.length + 1) (L.flatMap Seat.cells ++ [.int .u32 b, .int .u32 s, .iface 38 (.pointer (some ⟨f, 0, none⟩))]) → W2.grownBy w3 v0.ownBlock → (v'.ownBlock = v0.ownBlock ∨ v'.ownBlock = some W2.heap.size) →
      ∃ w4, (Instr.entryStore 75 (.map (some bm)) (.int .i64 st) v').run Try.prog w3 = .ok () w4 ∧ PagesSo bm v0 L ⟨b, s, f⟩ W w4 := by
    intro v' w3 hown3 hgr3 hat3
    have hb3 : w3.heap[bm]? = W2.heap[bm]? := hgr3.block bm (Nat.lt_of_lt_of_le (by have := hBW.map.lt; show bm < (W.alloc _).heap.size; simp; omega) hoE.size) (fun e => (hsvb bm e.symm).2 rfl)
    obtain ⟨w4, hr4, hm4, ho4⟩ := hst w3 v' hb3
    exact ⟨w4, hr4, pages_so hBW.map.lt hsvb rfl hoE hgr3 hown3 hat3 hm4 ho4⟩
  have HOW := Lib.hid hownW
  have HN := Lib.hid hnews
  have HI := Lib.hid hi
  have HZ := Lib.hid hz0
  have HZ1 := Lib.hid hz1
  have HZ2 := Lib.hid hz2
  have HBW := Lib.hid hBW
  have HR := Lib.hid hrest
  clear hrest hst hv0 hoE hN hownW hnews hB hsvb hMl hi hz0 hz1 hz2 hBW
  refine wp_loop_rounds 2 ?_
  rw [rounds_succ]
  go_upto_region 5 with (fail)
  refine wp_asThen fun K5 hK5 => ?_
  go_cut [] from 28 (fun w' => PagesSo bm v0 L ⟨b, s, f⟩ W w')
  case first =>
    go_region_law (refine step_append_own rfl (.tmp 33) (.tmp 35) 109 rfl 0 86 i0 (.agg #[.int .u32 0, .int .u32 0, .nilIface]) 3 24 Try.underlying109 HI.out HZ.out HZ1.out HZ2.out rfl (by decide) v0 L.length (L.flatMap Seat.cells) rfl HOW.out ⟨W.heap.size, 0, none⟩ 1 1 [.int .u32 b, .int .u32 s, .iface 38 (.pointer (some ⟨f, 0, none⟩))] rfl rfl HN.out (one3 b s f) (by unfold maxLen; omega) (by omega) (Nat.zero_le _) ?_; intro v' w3 hown3 hgr3 hnil3 hat3; obtain ⟨w4, hr4, hp4⟩ := HR.out v' w3 hown3 hgr3 hat3)
    all_goals
      go_wp2_with fail
      go_meet
      case rel => assumption
  case rest =>
    have HP := Lib.hid hcut
    have hw1 : W.heap.size ≤ wc.heap.size := by obtain ⟨_, _, _, ho, _⟩ := hcut; exact ho.size
    have hnS : ∀ k o, W.heap[k]? = some o → w.heap.size ≤ k → wc.heap[k]? = some o := fun k o hk h1 => by
      obtain ⟨_, _, _, ho, _⟩ := hcut
      refine ho.at hk fun h => ?_
      rcases h with h | h
      · have := hold bm (.inr (.inl rfl)); omega
      · have := hold k (.inr (.inr (.inr h))); omega
    have hZ0 := hnS _ _ hW0 (Nat.le_refl _)
    have hZ1 := hnS _ _ hW1 (Nat.le_of_lt hl1)
    have hZ2 := hnS _ _ hW2 (Nat.le_of_lt hl2)
    have hz1 := blk_cell hZ1 0
    have hz2 := blk_cell hZ2 0
    simp only [List.getElem?_toArray, List.getElem?_cons_zero, List.getElem?_cons_succ] at hz1 hz2
    have hlz := lt_of_block hZ2
    have hlz1 := lt_of_block hZ1
    have G0 := Lib.hid hZ0
    refine hK5 _ _ ?_
    clear hE hcut hW0 hW1 hW2 hcP hc0 hc1 hc2 hd0 he0 hZ0 hZ1 hZ2 hnS
    go_upto_region 8 with (fail)
    rw [rounds_succ]
    clear HOW HN HI HZ HZ1 HZ2 HR
    go_upto_region 8 with (fail)
    have hA := HBW.out.apart
    obtain ⟨sv', hmap', hseat', hoP, hat'⟩ := HP.out
    have hPW := hoP.at HBW.out.cell (fun h => h.elim hA.pm fun h => hA.sp p h rfl)
    have hregW := row_keep HBW.out.regs fun g hg => hoP.block g (HBW.out.regs.lt g hg).2 (fun h => h.elim (hA.rm g hg) (hA.rs g hg))
    have hP1 := (blk_old wc (.cells #[.int .u32 1] 107) (lt_of_block hPW)).trans hPW
    have hN1 := (blk_old wc (.cells #[.int .u32 1] 107) (lt_of_block G0.out)).trans G0.out
    have hreg1 := hregW.alloc (.cells #[.int .u32 1] 107)
    have ho1 : Off (fun k => k = bm ∨ v0.ownBlock = some k) W (wc.alloc (.cells #[.int .u32 1] 107)) := hoP.trans (Off.ofAlloc _ _)
    have hmap1 := hmap'.kept (blk_old wc (.cells #[.int .u32 1] 107) hmap'.lt)
    have hseat1 := hseat'.alloc (.cells #[.int .u32 1] 107)
    clear hz1 hz2 hlz hlz1 hoP hPW hregW G0 hmap' hseat'
    generalize wc.alloc (.cells #[.int .u32 1] 107) = V at *
    have HO := Lib.hid ho1
    have HM := Lib.hid hmap1
    have HS := Lib.hid hseat1
    have HRG := Lib.hid hreg1
    have HAT := Lib.hid hat'
    have hp0 := blk_cell hP1 0
    have hn0 := blk_cell hN1 0
    have hn1 := blk_cell hN1 1
    simp only [List.getElem?_toArray, List.getElem?_cons_zero, List.getElem?_cons_succ] at hp0 hn0 hn1
    have hlp := lt_of_block hP1
    have HP1 := Lib.hid hP1
    obtain ⟨i0, hi, hz0, hz1, hz2⟩ := info_parts infoReg
    have HI := Lib.hid hi
    have HZ := Lib.hid hz0
    have HZ1 := Lib.hid hz1
    have HZ2 := Lib.hid hz2
    clear ho1 hmap1 hseat1 hreg1 hat' hP1 hN1 hi hz0 hz1 hz2
    have hownV : ((V.alloc (.cells #[.int .u32 b, .int .u32 s] 24)).drew).ownsRow 0 24 2 rv R.length (R.flatMap regCells) := HRG.out.alloc _
    have hnewsV := cells2 (blk_new V (.cells #[.int .u32 b, .int .u32 s] 24))
    have HOV := Lib.hid hownV
    have HNV := Lib.hid hnewsV
    clear hownV hnewsV
    refine wp_asThen fun K8 hK8 => ?_
    go_cut [] from 40 (fun w' => RegsSo p bm rv R b s V w')
    case first =>
      go_region_law (refine step_append_own rfl (.tmp 44) (.tmp 47) 67 rfl 0 24 i0 (.agg #[.int .u32 0, .int .u32 0]) 2 8 Try.underlying67 HI.out HZ.out HZ1.out HZ2.out rfl (by decide) rv R.length (R.flatMap regCells) rfl HOV.out ⟨V.heap.size, 0, none⟩ 1 1 [.int .u32 b, .int .u32 s] rfl rfl HNV.out (one2 b s) (by unfold maxLen; omega) (by omega) (Nat.zero_le _) ?_; intro v' w3 hown3 hgr3 hnil3 hat3; obtain ⟨g3, cap3, rfl, hp03, hf03, hso3⟩ := regs_mid HP1.out hA.rp hgr3 hown3 hat3)
      all_goals
        go_wp2_with fail
        go_meet
        case rel => assumption
    case rest =>
      obtain ⟨g3, cap3, hP3, hown3, ho3, hat3⟩ := hcut
      have hp3 := blk_cell hP3 0
      simp only [List.getElem?_toArray, List.getElem?_cons_zero, List.getElem?_cons_succ] at hp3
      have hlp3 := lt_of_block hP3
      have hlen : (R ++ [(b, s)]).length = R.length + 1 := by simp
      have hown4 : wc.ownsRow 0 24 2 (.slice (some ⟨g3, 0, none⟩) (R ++ [(b, s)]).length cap3) (R ++ [(b, s)]).length ((R ++ [(b, s)]).flatMap regCells) := by
        rw [hlen, List.flatMap_append]; simpa using hown3
      have hsort := zSort (R ++ [(b, s)]) g3 cap3 wc hown4 (by rw [hlen]; omega)
      rw [hlen] at hsort
      have H3 := Lib.hid hP3
      have HO3 := Lib.hid ho3
      have HAT3 := Lib.hid hat3
      refine hK8 _ _ ?_
      clear hP3 hown3 ho3 hat3 hown4 hlen
      go_wp2_with fail
      refine hsort.mono ?_
      rintro e X ⟨rfl, R', hperm, hsorted, hown5, ho5⟩
      have HX := Lib.hid (put_so HBW.out hbW hold hA HO.out HM.out HS.out HAT.out HP1.out HRG.out H3.out HO3.out HAT3.out hperm hsorted hown5 ho5 ⟨x0, x1, x2⟩)
      clear hperm hsorted hown5 ho5 hsort
      go_wp2_with fail
      go_end0
      exact ⟨rfl, HX.out⟩
end Go.Proofs.Ytjfnhnbimcbjmaa.B
