/- Several texts in one: Package bus: what a region that is put asks, whatever the pages: keys, zeros, a row of regions that grows. A bus of any regions: a region and its device are put into all their pages. A board's blocks: its devices, its bus, its row of resets; what turns one of them leaves the others. -/
import Derived.Test.YtcgmnjajodegmaaGreatZNat
import Derived.Test.YtcgmnjajodegmaaGreatZNau
import Derived.Test.YtcgmnjajodegmaaGreatZNax
import Derived.Test.YtcgmnjajodegmaaGreatZNay
import Derived.Test.YtcgmnjajodegmaaGreatZNaz
import Derived.Deep.Cut
import Derived.Deep.RegionLaw
import Derived.Deep.CutRange
namespace Go.Proofs.YtcgmnjajodegmaaGreat.B
set_option linter.unusedVariables false
set_option linter.unusedSimpArgs false
open Go.ChangeShapes Go.WideShapes Go.RowKit Go.Sort
theorem pageLawK : WideMaps.KeyLaw Tryz.prog 260 := deep_law_laid laidT (m := 2) (by omega) (of_decide_eq_true (by kernel_rfl)) (by kernel_rfl) (by rw [Tryz.underlying260])
theorem infoSeat : (Tryz.prog.info? 227).map (fun i => (i.zero, i.size, i.bytes)) = some (some (.agg #[.int .u32 0, .int .u32 0, .nilIface]), 3, 24) := by kernel_rfl
theorem infoReg : (Tryz.prog.info? 136).map (fun i => (i.zero, i.size, i.bytes)) = some (some (.agg #[.int .u32 0, .int .u32 0]), 2, 8) := by kernel_rfl
theorem zeroSeats (u : World) : (zeroValue 262).run Tryz.prog u = .ok (.slice none 0 0) u := by kernel_rfl
theorem cells3 {w : World} {B : Nat} {c0 c1 c2 : Value} {t : TypeId} (h : w.heap[B]? = some (.cells #[c0, c1, c2] t (0, 0))) : ∀ j u, [c0, c1, c2][j]? = some u → w.cell? ((⟨B, 0, none⟩ : Addr).add j) = some u := by
  intro j u hj
  have h1 := blk_cell h j
  match j, hj with
  | 0, hj => simp at hj; subst hj; simpa [Addr.add] using h1
  | 1, hj => simp at hj; subst hj; simpa [Addr.add] using h1
  | 2, hj => simp at hj; subst hj; simpa [Addr.add] using h1
  | j + 3, hj => simp at hj
theorem cells2 {w : World} {B : Nat} {c0 c1 : Value} {t : TypeId} (h : w.heap[B]? = some (.cells #[c0, c1] t (0, 0))) : ∀ j u, [c0, c1][j]? = some u → w.cell? ((⟨B, 0, none⟩ : Addr).add j) = some u := by
  intro j u hj
  have h1 := blk_cell h j
  match j, hj with
  | 0, hj => simp at hj; subst hj; simpa [Addr.add] using h1
  | 1, hj => simp at hj; subst hj; simpa [Addr.add] using h1
  | j + 2, hj => simp at hj
/-- What has become of the list of regions behind one that is appended. -/
def RegsSo (p bm : Nat) (rv : Value) (R : List (Int × Int)) (b s : Int) (w w' : World) : Prop :=
  ∃ (g cap : Nat), w'.heap[p]? = some (.cells #[.slice (some ⟨g, 0, none⟩) (R.length + 1) cap, .map (some bm), .int .i64 0] 223 (0, 0)) ∧ w'.ownsRow 0 136 2 (.slice (some ⟨g, 0, none⟩) (R.length + 1) cap) (R.length + 1) (R.flatMap regCells ++ regCells (b, s)) ∧
    Off (fun k => k = p ∨ rv.ownBlock = some k) w w' ∧ (rv.ownBlock = some g ∨ w.heap.size ≤ g)
theorem regs_so {p bm : Nat} {rv : Value} {R : List (Int × Int)} {b s : Int} {g cap : Nat} {w w1 w3 : World} {C : Obj} (hp : w.heap[p]? = some (.cells #[rv, .map (some bm), .int .i64 0] 223 (0, 0))) (hrp : ∀ k, rv.ownBlock = some k → k ≠ p)
    (hw1 : w1 = (w.alloc C).drew) (h13 : w1.grownBy w3 rv.ownBlock) (hown : w3.ownsRow 0 136 2 (.slice (some ⟨g, 0, none⟩) (R.length + 1) cap) (R.length + 1) (R.flatMap regCells ++ regCells (b, s)))
    (hat : some g = rv.ownBlock ∨ some g = some w1.heap.size) : RegsSo p bm rv R b s w (w3.setCell ⟨p, 0, none⟩ (.slice (some ⟨g, 0, none⟩) (R.length + 1) cap)) := by
  have hlp := lt_of_block hp
  have ho1 : Off (fun k => k = p ∨ rv.ownBlock = some k) w w1 := by subst hw1; exact ⟨rfl, rfl, rfl, (Off.ofAlloc (S := fun k => k = p ∨ rv.ownBlock = some k) w C).size, fun k hk hs => (Off.ofAlloc (S := fun k => k = p ∨ rv.ownBlock = some k) w C).block k hk hs⟩
  have hsz : w1.heap.size = w.heap.size + 1 := by subst hw1; show (w.alloc C).heap.size = _; simp
  have hp1 : w1.heap[p]? = w.heap[p]? := by subst hw1; exact blk_old w C hlp
  have hp3 : w3.heap[p]? = some (.cells #[rv, .map (some bm), .int .i64 0] 223 (0, 0)) := ((h13.block p (by omega) (fun e => hrp p e.symm rfl)).trans hp1).trans hp
  have hg : g ≠ p := by
    rcases hat with h | h
    · exact hrp g h.symm
    · simp at h; omega
  refine ⟨g, cap, by simpa using blk_set hp3 0 (.slice (some ⟨g, 0, none⟩) (R.length + 1) cap), row_keep hown fun k hk => ?_, (ho1.andThen (T := fun k => rv.ownBlock = some k) (Off.ofGrown h13 fun k e => e) (fun _ _ h => h) (fun _ _ h => .inr h)).andThen (T := (· = p)) (Off.ofSetCell _ _ _ rfl) (fun _ _ h => h) (fun _ _ h => .inl h), ?_⟩
  · have : k = g := by simp [Value.ownBlock] at hk; exact hk.symm
    subst this
    exact Below.heap_setCell _ _ _ _ hg
  · rcases hat with h | h
    · exact .inl h.symm
    · simp at h; right; omega
theorem regs_mid {p bm : Nat} {rv v' : Value} {R : List (Int × Int)} {b s : Int} {w w3 : World} {C : Obj} (hp : w.heap[p]? = some (.cells #[rv, .map (some bm), .int .i64 0] 223 (0, 0))) (hrp : ∀ k, rv.ownBlock = some k → k ≠ p)
    (h13 : ((w.alloc C).drew).grownBy w3 rv.ownBlock) (hown : w3.ownsRow 0 136 2 v' (R.length + 1) (R.flatMap regCells ++ [.int .u32 b, .int .u32 s]))
    (hat : v'.ownBlock = rv.ownBlock ∨ v'.ownBlock = some (w.alloc C).drew.heap.size) :
    ∃ g cap, v' = .slice (some ⟨g, 0, none⟩) (R.length + 1) cap ∧ w3.cell? ⟨p, 0, none⟩ = some rv ∧ w3.frozen? ⟨p, 0, none⟩ = false ∧ RegsSo p bm rv R b s w (w3.setCell ⟨p, 0, none⟩ (.slice (some ⟨g, 0, none⟩) (R.length + 1) cap)) := by
  rcases row_form hown with ⟨_, h⟩ | ⟨g, cap, rfl, _⟩
  · omega
  · have hlp := lt_of_block hp
    have hp3 : w3.heap[p]? = some (.cells #[rv, .map (some bm), .int .i64 0] 223 (0, 0)) := ((h13.block p (by show p < (w.alloc C).heap.size; simp; omega) (fun e => hrp p e.symm rfl)).trans (blk_old w C hlp)).trans hp
    exact ⟨g, cap, rfl, by simpa using blk_cell hp3 0, blk_free hp3 0, regs_so hp hrp rfl h13 hown hat⟩
theorem one2 (b s : Int) : ∀ u ∈ [Value.int .u32 b, Value.int .u32 s], u.oneCell' = true := by
  intro u hu; simp at hu; rcases hu with rfl | rfl <;> rfl
end Go.Proofs.YtcgmnjajodegmaaGreat.B
namespace Go.Proofs.YtcgmnjajodegmaaGreat.B
set_option linter.unusedVariables false
set_option linter.unusedSimpArgs false
set_option maxRecDepth 100000
open Go.ChangeShapes Go.WideShapes Go.RowKit Go.Sort
/-- The pages' seats, with one more in the pages from one on, as far as a second one; in all its pages. -/
def lpTo (L : Int → List Su) (x : Su) (u0 k : Int) : Int → List Su := fun u => if u0 ≤ u ∧ u < k then L u ++ [x] else L u
def lpAll (L : Int → List Su) (x : Su) : Int → List Su := fun u => if x.b / 16777216 ≤ u ∧ u ≤ (x.b + (x.s - 1)) / 16777216 then L u ++ [x] else L u
theorem lpTo_start (L : Int → List Su) (x : Su) (u0 : Int) : lpTo L x u0 u0 = L := by funext u; unfold lpTo; rw [if_neg (by omega)]
theorem lpTo_next (L : Int → List Su) (x : Su) {u0 k : Int} (h : u0 ≤ k) : lpOf (lpTo L x u0 k) k x = lpTo L x u0 (k + 1) := by
  funext u; unfold lpOf lpTo
  by_cases e : u = k
  · subst e; rw [if_pos rfl, if_neg (by omega), if_pos (by omega)]
  · rw [if_neg e]
    by_cases g : u0 ≤ u ∧ u < k
    · rw [if_pos g, if_pos (by omega)]
    · rw [if_neg g, if_neg (by omega)]
theorem lpTo_end (L : Int → List Su) (x : Su) : lpTo L x (x.b / 16777216) ((x.b + (x.s - 1)) / 16777216 + 1) = lpAll L x := by
  funext u; unfold lpTo lpAll
  by_cases g : x.b / 16777216 ≤ u ∧ u ≤ (x.b + (x.s - 1)) / 16777216
  · rw [if_pos g, if_pos (by omega)]
  · rw [if_neg g, if_neg (by omega)]
/-- The loop's head: so many pages are done. -/
structure PutAt (W : World) (bm : Nat) (R : List (Int × Int)) (ks : List Int) (pv : Int → Value) (Lp : Int → List Su) (x : Su) (u0 k : Int) (ab : Nat) (ks' : List Int) (pv' : Int → Value) (wr : World) : Prop where
  pg : Pgs wr bm ks' pv' (lpTo Lp x u0 k)
  kl : (ks'.length : Int) ≤ 256 * R.length + (k - u0)
  news : ∀ u, u ∈ ks' → ∀ j, (pv' u).ownBlock = some j → (∃ v, v ∈ ks ∧ (pv v).ownBlock = some j) ∨ W.heap.size ≤ j
  off : Off (fun j => j = bm ∨ ∃ v, v ∈ ks ∧ (pv v).ownBlock = some j) W wr
  at_ : wr.heap[ab]? = some (.cells #[.int .u32 k] 260 (0, 0))
theorem put_next {W wr wc : World} {bm : Nat} {R : List (Int × Int)} {ks ks' : List Int} {pv pv' : Int → Value} {Lp : Int → List Su} {x : Su} {u0 k : Int} {ab : Nat} (h : PutAt W bm R ks pv Lp x u0 k ab ks' pv' wr) (h0 : u0 ≤ k) (hs : StepSo bm ks' pv' (lpTo Lp x u0 k) k x wr wc) :
    ∃ pv'', PutAt W bm R ks pv Lp x u0 (k + 1) wc.heap.size (ksOf ks' k) pv'' (wc.alloc (.cells #[.int .u32 (k + 1)] 260)) := by
  obtain ⟨v', hp, ho, hat⟩ := hs
  have hrow : ∀ j, (rowV ks' pv' k).ownBlock = some j → (∃ v, v ∈ ks ∧ (pv v).ownBlock = some j) ∨ W.heap.size ≤ j := by
    intro j hj
    unfold rowV at hj
    by_cases hu : k ∈ ks'
    · rw [if_pos hu] at hj; exact h.news k hu j hj
    · rw [if_neg hu] at hj; cases hj
  have hoff : Off (fun j => j = bm ∨ ∃ v, v ∈ ks ∧ (pv v).ownBlock = some j) W wc := h.off.next ho fun i hi hx => by
    rcases hx with hx | hx
    · exact .inl hx
    · rcases hrow i hx with g | g
      · exact .inr g
      · omega
  rw [lpTo_next Lp x h0] at hp
  refine ⟨pvOf pv' k v', ⟨hp.kept (blk_old wc _ hp.map.lt) fun u hu j hj => blk_old wc _ (hp.lt hu hj), ?_, ?_, hoff.trans (Off.ofAlloc _ _), blk_new wc _⟩⟩
  · have := ksOf_len ks' k; have := h.kl; omega
  · intro u hu j hj
    unfold pvOf at hj
    by_cases e : u = k
    · rw [if_pos e] at hj
      rcases hat with g | ⟨j', g, hj'⟩
      · exact hrow j (g ▸ hj)
      · rw [hj] at g; have := Option.some.inj g; have := h.off.size; right; omega
    · rw [if_neg e] at hj
      exact h.news u ((mem_ksOf.1 hu).resolve_left e) j hj
/-- The number in the cell that a pointer points at. -/
def cellI (w : World) : Value → Int
  | .pointer (some a) => match w.cell? a with | some (.int _ n) => n | _ => 0
  | _ => 0
theorem cellI_at {w : World} {b : Nat} {k : IntKind} {n : Int} (h : w.cell? ⟨b, 0, none⟩ = some (.int k n)) : cellI w (.pointer (some ⟨b, 0, none⟩)) = n := by unfold cellI; simp [h]
theorem one3' (b s : Int) (xt : TypeId) (xv : Value) : ∀ u ∈ [Value.int .u32 b, Value.int .u32 s, Value.iface xt xv], u.oneCell' = true := by
  intro u hu; simp at hu; rcases hu with rfl | rfl | rfl <;> rfl
/-- What slices.SortFunc does to the regions. -/
def SortSpec : Prop := ∀ (R : List (Int × Int)) (g cap : Nat) (w : World), w.ownsRow 0 136 2 (.slice (some ⟨g, 0, none⟩) R.length cap) R.length (R.flatMap regCells) → R.length < 4611686018427387904 →
    Calls Tryz.prog 184 #[.slice (some ⟨g, 0, none⟩) R.length cap, .func (.func 185) #[] #[]] w
      fun e w' => e = .returned (.tuple #[]) ∧ ∃ R' : List (Int × Int), R'.Perm R ∧ R'.Pairwise (fun x y => x.1 ≤ y.1) ∧ w'.ownsRow 0 136 2 (.slice (some ⟨g, 0, none⟩) R.length cap) R.length (R'.flatMap regCells) ∧ Off (· = g) w w'
/-- What has become of a bus behind a seat that is put. -/
def UPut (p bm : Nat) (rv : Value) (R : List (Int × Int)) (ks : List Int) (pv : Int → Value) (Lp : Int → List Su) (x : Su) (w w' : World) : Prop :=
  ∃ (rv' : Value) (R' : List (Int × Int)) (ks' : List Int) (pv' : Int → Value), UBus w' p bm rv' R' ks' pv' (lpAll Lp x) ∧ R'.Perm (R ++ [(x.b, x.s)]) ∧ R'.Pairwise (fun x y => x.1 ≤ y.1) ∧ Off (uBlocks p bm rv ks pv) w w' ∧
    (∀ k, uBlocks p bm rv' ks' pv' k → uBlocks p bm rv ks pv k ∨ w.heap.size ≤ k)
structure UApart (p bm : Nat) (rv : Value) (ks : List Int) (pv : Int → Value) : Prop where
  pm : p ≠ bm
  rp : ∀ k, rv.ownBlock = some k → k ≠ p
  rm : ∀ k, rv.ownBlock = some k → k ≠ bm
  sp : ∀ u, u ∈ ks → ∀ k, (pv u).ownBlock = some k → k ≠ p
  rs : ∀ u, u ∈ ks → ∀ k, (pv u).ownBlock = some k → rv.ownBlock ≠ some k
theorem UBus.apart {w : World} {p bm : Nat} {rv : Value} {R : List (Int × Int)} {ks : List Int} {pv : Int → Value} {Lp : Int → List Su} (h : UBus w p bm rv R ks pv Lp) : UApart p bm rv ks pv := by
  obtain ⟨_, _, hm, _⟩ := h.map
  refine ⟨?_, fun k hk => ?_, fun k hk => ?_, fun u hu k hk => ?_, fun u hu k hk hk2 => ?_⟩
  · rintro rfl; rw [h.cell] at hm; cases hm
  · rintro rfl; obtain ⟨c, hc⟩ := row_obj h.regs hk; rw [h.cell] at hc; simp at hc
  · rintro rfl; obtain ⟨c, hc⟩ := row_obj h.regs hk; rw [hm] at hc; cases hc
  · rintro rfl; obtain ⟨c, hc⟩ := row_obj (h.rows u hu) hk; rw [h.cell] at hc; simp at hc
  · obtain ⟨c, hc⟩ := row_obj h.regs hk2; obtain ⟨d, hd⟩ := row_obj (h.rows u hu) hk; rw [hc] at hd; simp at hd
theorem uput_so {p bm g3 cap3 : Nat} {rv : Value} {R R' : List (Int × Int)} {ks ks' : List Int} {pv pv' : Int → Value} {Lp : Int → List Su} {x : Su} {u1 : Int} {ab : Nat} {w W V Y X : World} (hB : UBus w p bm rv R ks pv Lp) (hbW : Below w.heap.size w W) (hP : PutAt W bm R ks pv Lp x (x.b / 16777216) (u1 + 1) ab ks' pv' V)
    (hu1 : (x.b + (x.s - 1)) / 16777216 = u1) (hx : x.wf)
    (hP3 : Y.heap[p]? = some (.cells #[.slice (some ⟨g3, 0, none⟩) (R.length + 1) cap3, .map (some bm), .int .i64 0] 223 (0, 0))) (hO3 : Off (fun k => k = p ∨ rv.ownBlock = some k) V Y) (hat3 : rv.ownBlock = some g3 ∨ V.heap.size ≤ g3)
    (hperm : R'.Perm (R ++ [(x.b, x.s)])) (hsorted : R'.Pairwise (fun x y => x.1 ≤ y.1)) (hown5 : X.ownsRow 0 136 2 (.slice (some ⟨g3, 0, none⟩) (R.length + 1) cap3) (R.length + 1) (R'.flatMap regCells)) (hO5 : Off (· = g3) Y X) : UPut p bm rv R ks pv Lp x w X := by
  have hA := hB.apart
  have hRl : R'.length = R.length + 1 := by have := hperm.length_eq; simpa using this
  have hwW := hbW.size
  have hWV := hP.off.size
  have hbml := hB.map.lt
  have hpl := hB.ltp
  have hgp : g3 ≠ p := by
    rcases hat3 with h | h
    · exact hA.rp g3 h
    · omega
  have hgm : g3 ≠ bm := by
    rcases hat3 with h | h
    · exact hA.rm g3 h
    · omega
  obtain ⟨x0, ⟨x1, x1'⟩, x2⟩ := hx
  have hrl : ∀ k, rv.ownBlock = some k → k < w.heap.size := fun k hk => (hB.regs.lt k hk).2
  have hpk : ∀ u, u ∈ ks' → ∀ k, (pv' u).ownBlock = some k → k ≠ p ∧ rv.ownBlock ≠ some k ∧ k ≠ g3 := by
    intro u hu k hk
    have hkV := hP.pg.lt hu hk
    rcases hP.news u hu k hk with ⟨v, hv, hj⟩ | hj
    · refine ⟨hA.sp v hv k hj, hA.rs v hv k hj, ?_⟩
      rintro rfl
      rcases hat3 with h | h
      · exact hA.rs v hv _ hj h
      · omega
    · refine ⟨by omega, fun e => by have := hrl k e; omega, ?_⟩
      rintro rfl
      rcases hat3 with h | h
      · have := hrl _ h; omega
      · omega
  have hPX : Pgs X bm ks' pv' (lpTo Lp x (x.b / 16777216) (u1 + 1)) := by
    refine hP.pg.kept ?_ fun u hu k hk => ?_
    · have hm := hP.pg.map.lt
      rw [hO5.block bm (Nat.lt_of_lt_of_le hm hO3.size) (fun h => hgm h.symm), hO3.block bm hm (fun h => h.elim (fun h => hA.pm h.symm) (fun h => hA.rm bm h rfl))]
    · obtain ⟨h1, h2, h3⟩ := hpk u hu k hk
      have hkV := hP.pg.lt hu hk
      rw [hO5.block k (Nat.lt_of_lt_of_le hkV hO3.size) h3, hO3.block k hkV (fun h => h.elim h1 h2)]
  rw [← hu1, lpTo_end] at hPX
  have hle : ∀ u, (lpAll Lp x u).length ≤ (Lp u).length + 1 := fun u => by unfold lpAll; split <;> simp
  refine ⟨.slice (some ⟨g3, 0, none⟩) (R.length + 1) cap3, R', ks', pv', ⟨hO5.at hP3 (fun h => hgp h.symm), by rw [hRl]; exact hown5, hPX.map, hPX.rows, hPX.nos, hPX.disj, fun u y hy => ?_, ?_, fun u => ?_⟩, hperm, hsorted, ?_, ?_⟩
  · unfold lpAll at hy
    split at hy
    · rcases List.mem_append.1 hy with h | h
      · exact hB.wf u y h
      · simp at h; subst h; exact ⟨x0, ⟨x1, x1'⟩, x2⟩
    · exact hB.wf u y hy
  · have := hP.kl; rw [hRl]; omega
  · have := hle u; have := hB.ll u; rw [hRl]; omega
  · have o1 : Off (uBlocks p bm rv ks pv) w W := Off.ofBelow hbW
    have o2 := o1.andThen hP.off (U := uBlocks p bm rv ks pv) (fun _ _ h => h) (fun i _ h => h.elim (fun h => .inr (.inl h)) (fun ⟨v, hv, h⟩ => .inr (.inr (.inr ⟨v, hv, h⟩))))
    have o3 := o2.andThen hO3 (U := uBlocks p bm rv ks pv) (fun _ _ h => h) (fun i _ h => h.elim (fun h => .inl h) (fun h => .inr (.inr (.inl h))))
    refine o3.andThen hO5 (fun _ _ h => h) (fun i hi h => ?_)
    subst h
    rcases hat3 with h | h
    · exact .inr (.inr (.inl h))
    · omega
  · intro k hk
    rcases hk with h | h | h | ⟨u, hu, h⟩
    · exact .inl (.inl h)
    · exact .inl (.inr (.inl h))
    · have : k = g3 := by simp [Value.ownBlock] at h; exact h.symm
      subst this
      rcases hat3 with h | h
      · exact .inl (.inr (.inr (.inl h)))
      · right; omega
    · rcases hP.news u hu k h with ⟨v, hv, hj⟩ | hj
      · exact .inl (.inr (.inr (.inr ⟨v, hv, hj⟩)))
      · right; omega
end Go.Proofs.YtcgmnjajodegmaaGreat.B
namespace Go.Proofs.YtcgmnjajodegmaaGreat.B
set_option linter.unusedVariables false
set_option linter.unusedSimpArgs false
set_option maxRecDepth 100000
open Go.ChangeShapes Go.WideShapes Go.RowKit Go.Sort
abbrev tCl : TypeId := 193
abbrev tLn : TypeId := 197
abbrev tBd : TypeId := 89
abbrev tEv : TypeId := 64
abbrev tDv : TypeId := 83
abbrev tBu : TypeId := 223
abbrev tRg : TypeId := 136
abbrev tSt : TypeId := 227
/-- Where a board's parts lie. -/
structure Bp where
  b : Nat
  pc : Nat
  mc : Nat
  pb : Nat
  gb : Nat
  qb : Nat → Nat
  pd : Nat
  ps : Nat
  pr : Nat
  pl : Nat
  bp : Nat
  bm : Nat
  rv : Value
  R : List (Int × Int)
  ks : List Int
  pv : Int → Value
  n : Nat
  c : Nat
  div : Int
  ev : Value
def evC (x : Int × Int) : List Value := [.int .u64 x.1, .int .i64 x.2]
/-- A row of resets. -/
def EvAt (w : World) (T : TypeId) (v : Value) (es : List (Int × Int)) : Prop := w.ownsRow 0 T 2 v es.length (es.flatMap evC)
def Bp.dvl (B : Bp) : List Value := [ptr B.pc, ptr B.pb, ptr B.pd, ptr B.ps, ptr B.pr, ptr B.pl]
def Bp.dvv (B : Bp) : Value := .agg #[ptr B.pc, ptr B.pb, ptr B.pd, ptr B.ps, ptr B.pr, ptr B.pl]
def Bp.cl (B : Bp) : List Value := [ptr B.pc, ptr B.pb, ptr B.pd, ptr B.ps, ptr B.pr, ptr B.pl, .int .i64 B.n, .int .i64 B.c, .int .u32 B.div, ptr B.bp, B.ev]
/-- What the devices' calls may turn. -/
def Bp.dvs (B : Bp) (k : Nat) : Prop := k = B.pc ∨ k = B.pb ∨ k = B.gb ∨ own B.c B.qb k ∨ k = B.pd ∨ k = B.ps ∨ k = B.pr ∨ k = B.pl
def Bp.own (B : Bp) (k : Nat) : Prop := k = B.b ∨ B.dvs k ∨ B.ev.ownBlock = some k
def Bp.all (B : Bp) (k : Nat) : Prop := B.own k ∨ k = B.mc ∨ uBlocks B.bp B.bm B.rv B.ks B.pv k
/-- A block's type, and 0 where it has no cells. -/
def kd (w : World) (k : Nat) : Nat := match w.heap[k]? with
  | some (.cells _ t _) => t + 1
  | _ => 0
theorem kd_of {w : World} {k : Nat} {cs : Array Value} {t : TypeId} {f : Nat × Nat} (h : w.heap[k]? = some (.cells cs t f)) : kd w k = t + 1 := by unfold kd; rw [h]
theorem kd_map {w : World} {k : Nat} {κ : Type} {ek : κ → Value} {ok : κ → Prop} {M : List (κ × Value)} (h : mapP w ek ok k M) : kd w k = 0 := by obtain ⟨_, _, hb, _⟩ := h; unfold kd; rw [hb]
theorem kd_keep {w w' : World} {k : Nat} (h : w'.heap[k]? = w.heap[k]?) : kd w' k = kd w k := by unfold kd; rw [h]
def devK (m : Nat) : Bool := m == tCl + 1 || m == tBk + 1 || m == tRm + 1 || m == tC + 1 || m == tD + 1 || m == tS + 1 || m == tRtc + 1 || m == tLn + 1
def busK (m : Nat) : Bool := m == 0 || m == tBu + 1 || m == tRg + 1 || m == tSt + 1
theorem dev_bus {m : Nat} (h : devK m = true) : busK m = false := by
  unfold devK at h
  simp only [Bool.or_eq_true, beq_iff_eq] at h
  rcases h with ((((((h | h) | h) | h) | h) | h) | h) | h <;> rw [h] <;> decide
theorem dev_ne {m j : Nat} (h : devK m = true) (hj : devK j = false) : m ≠ j := fun e => by rw [e, hj] at h; cases h
structure DvAt (w : World) (B : Bp) (x : Bx) (h : Int) : Prop where
  c : CAt w B.pc B.mc x.ti B.n x.D x.S
  b : BkAt w B.pb B.gb B.c B.qb x.tm
  d : DAt w B.pd x.wd
  s : SAt w B.ps tS x.rs
  r : EAt w B.pr tRtc x.rk
  l : LAt w B.pl h x.msk
section
variable {w w' : World} {B : Bp} {x : Bx} {h : Int}
theorem DvAt.kd (H : DvAt w B x h) {k : Nat} (hk : B.dvs k) : devK (kd w k) = true := by
  rcases hk with rfl | rfl | rfl | ⟨i, hi, rfl⟩ | rfl | rfl | rfl | rfl
  · rw [kd_of H.c.cell]; decide
  · rw [kd_of H.b.cell]; decide
  · rw [kd_of H.b.rm.room]; decide
  · rw [kd_of (H.b.rm.tms i hi)]; decide
  · rw [kd_of H.d]; decide
  · rw [kd_of H.s]; decide
  · rw [kd_of H.r]; decide
  · rw [kd_of H.l]; decide
theorem DvAt.lt (H : DvAt w B x h) {k : Nat} (hk : B.dvs k) : k < w.heap.size := by
  rcases hk with rfl | rfl | rfl | ⟨i, hi, rfl⟩ | rfl | rfl | rfl | rfl
  · exact H.c.ltp
  · exact H.b.ltp
  · exact H.b.rm.lt
  · exact H.b.rm.ltq hi
  · exact H.d.lt
  · exact H.s.lt
  · exact H.r.lt
  · exact H.l.lt
theorem DvAt.ltm (H : DvAt w B x h) : B.mc < w.heap.size := H.c.ltm
theorem DvAt.no (H : DvAt w B x h) {k : Nat} {cs : Array Value} {t : TypeId} {f : Nat × Nat} (hk : w.heap[k]? = some (.cells cs t f)) (ht : devK (t + 1) = false) : ¬ B.dvs k := fun hd => by
  have := H.kd hd; rw [kd_of hk, ht] at this; cases this
theorem DvAt.noMc (H : DvAt w B x h) : ¬ B.dvs B.mc := fun hd => by
  have := H.kd hd; rw [kd_map H.c.map] at this; revert this; decide
theorem DvAt.kept (H : DvAt w B x h) (hk : ∀ k, B.dvs k → w'.heap[k]? = w.heap[k]?) (hm : w'.heap[B.mc]? = w.heap[B.mc]?) : DvAt w' B x h :=
  ⟨H.c.kept (hk _ (.inl rfl)) hm,
   ⟨(hk _ (.inr (.inl rfl))).trans H.b.cell, ⟨(hk _ (.inr (.inr (.inl rfl)))).trans H.b.rm.room, fun i hi => (hk _ (.inr (.inr (.inr (.inl ⟨i, hi, rfl⟩))))).trans (H.b.rm.tms i hi), H.b.rm.ok, H.b.rm.one, H.b.rm.n8⟩⟩,
   (hk _ (.inr (.inr (.inr (.inr (.inl rfl)))))).trans H.d, (hk _ (.inr (.inr (.inr (.inr (.inr (.inl rfl))))))).trans H.s,
   (hk _ (.inr (.inr (.inr (.inr (.inr (.inr (.inl rfl)))))))).trans H.r, (hk _ (.inr (.inr (.inr (.inr (.inr (.inr (.inr rfl)))))))).trans H.l⟩
theorem DvAt.below (H : DvAt w B x h) (hb : Below w.heap.size w w') : DvAt w' B x h := H.kept (fun k hk => hb.block k (H.lt hk)) (hb.block _ H.ltm)
theorem DvAt.off {S : Nat → Prop} (H : DvAt w B x h) (ho : Off S w w') (hs : ∀ k, B.dvs k → ¬ S k) (hm : ¬ S B.mc) : DvAt w' B x h := H.kept (fun k hk => ho.block k (H.lt hk) (hs k hk)) (ho.block _ H.ltm hm)
theorem DvAt.like {y : Bx} (H : DvAt w B x h) (l : Bx.like B.c x y) : DvAt w B y h :=
  ⟨l.ti ▸ l.D ▸ l.S ▸ H.c, H.b.congr l.tm, l.wd ▸ H.d, l.rs ▸ H.s, l.rk ▸ H.r, l.msk ▸ H.l⟩
/-- One device turns, the others stay. -/
theorem DvAt.turnC (H : DvAt w B x h) {t : Int} {D S : Nat → Int} (a : CAt w' B.pc B.mc t B.n D S) (ho : Off (· = B.pc) w w') : DvAt w' B { x with ti := t, D := D, S := S } h :=
  ⟨a, H.b.off ho (apart_types H.b.cell H.c.cell rfl) (apart_types H.b.rm.room H.c.cell rfl) (fun i hi => apart_types (H.b.rm.tms i hi) H.c.cell rfl), H.d.off ho (apart_types H.d H.c.cell rfl), H.s.off ho (apart_types H.s H.c.cell rfl), H.r.off ho (apart_types H.r H.c.cell rfl), ho.at H.l (apart_types H.l H.c.cell rfl)⟩
theorem own_no (H : BkAt w B.pb B.gb B.c B.qb x.tm) {k : Nat} (hk : Go.Proofs.YtcgmnjajodegmaaGreat.B.kd w k ≠ tC + 1) : ¬ Go.Proofs.YtcgmnjajodegmaaGreat.B.own B.c B.qb k := fun ⟨i, hi, e⟩ => hk (by rw [e]; exact kd_of (H.rm.tms i hi))
theorem DvAt.turnB (H : DvAt w B x h) {t : Nat → Tm} (a : BkAt w' B.pb B.gb B.c B.qb t) (ho : Off (Go.Proofs.YtcgmnjajodegmaaGreat.B.own B.c B.qb) w w') : DvAt w' B { x with tm := t } h :=
  ⟨H.c.off ho (own_no H.b (by rw [kd_of H.c.cell]; decide)) (own_no H.b (by rw [kd_map H.c.map]; decide)), a, H.d.off ho (own_no H.b (by rw [kd_of H.d]; decide)), H.s.off ho (own_no H.b (by rw [kd_of H.s]; decide)), H.r.off ho (own_no H.b (by rw [kd_of H.r]; decide)), ho.at H.l (own_no H.b (by rw [kd_of H.l]; decide))⟩
theorem mc_ne (H : CAt w B.pc B.mc x.ti B.n x.D x.S) {k : Nat} {cs : Array Value} {t : TypeId} {f : Nat × Nat} (hk : w.heap[k]? = some (.cells cs t f)) : B.mc ≠ k := fun e => by
  have h1 := kd_map H.map; rw [e, kd_of hk] at h1; cases h1
theorem DvAt.turnD (H : DvAt w B x h) {t : Wd} (a : DAt w' B.pd t) (ho : Off (· = B.pd) w w') : DvAt w' B { x with wd := t } h :=
  ⟨H.c.off ho (apart_types H.c.cell H.d rfl) (mc_ne H.c H.d), H.b.off ho (apart_types H.b.cell H.d rfl) (apart_types H.b.rm.room H.d rfl) (fun i hi => apart_types (H.b.rm.tms i hi) H.d rfl), a, H.s.off ho (apart_types H.s H.d rfl), H.r.off ho (apart_types H.r H.d rfl), ho.at H.l (apart_types H.l H.d rfl)⟩
theorem DvAt.turnS (H : DvAt w B x h) {t : Rs} (a : SAt w' B.ps tS t) (ho : Off (· = B.ps) w w') : DvAt w' B { x with rs := t } h :=
  ⟨H.c.off ho (apart_types H.c.cell H.s rfl) (mc_ne H.c H.s), H.b.off ho (apart_types H.b.cell H.s rfl) (apart_types H.b.rm.room H.s rfl) (fun i hi => apart_types (H.b.rm.tms i hi) H.s rfl), H.d.off ho (apart_types H.d H.s rfl), a, H.r.off ho (apart_types H.r H.s rfl), ho.at H.l (apart_types H.l H.s rfl)⟩
theorem DvAt.turnR (H : DvAt w B x h) {t : Rk} (a : EAt w' B.pr tRtc t) (ho : Off (· = B.pr) w w') : DvAt w' B { x with rk := t } h :=
  ⟨H.c.off ho (apart_types H.c.cell H.r rfl) (mc_ne H.c H.r), H.b.off ho (apart_types H.b.cell H.r rfl) (apart_types H.b.rm.room H.r rfl) (fun i hi => apart_types (H.b.rm.tms i hi) H.r rfl), H.d.off ho (apart_types H.d H.r rfl), H.s.off ho (apart_types H.s H.r rfl), a, ho.at H.l (apart_types H.l H.r rfl)⟩
theorem DvAt.turnL (H : DvAt w B x h) {h' m' : Int} (a : LAt w' B.pl h' m') (ho : Off (· = B.pl) w w') : DvAt w' B { x with msk := m' } h' :=
  ⟨H.c.off ho (apart_types H.c.cell H.l rfl) (mc_ne H.c H.l), H.b.off ho (apart_types H.b.cell H.l rfl) (apart_types H.b.rm.room H.l rfl) (fun i hi => apart_types (H.b.rm.tms i hi) H.l rfl), H.d.off ho (apart_types H.d H.l rfl), H.s.off ho (apart_types H.s H.l rfl), H.r.off ho (apart_types H.r H.l rfl), a⟩
theorem offC (ho : Off (· = B.pc) w w') : Off B.dvs w w' := ho.mono fun k _ e => .inl e
theorem offB (ho : Off (Go.Proofs.YtcgmnjajodegmaaGreat.B.own B.c B.qb) w w') : Off B.dvs w w' := ho.mono fun k _ e => .inr (.inr (.inr (.inl e)))
theorem offD (ho : Off (· = B.pd) w w') : Off B.dvs w w' := ho.mono fun k _ e => .inr (.inr (.inr (.inr (.inl e))))
theorem offS (ho : Off (· = B.ps) w w') : Off B.dvs w w' := ho.mono fun k _ e => .inr (.inr (.inr (.inr (.inr (.inl e)))))
theorem offR (ho : Off (· = B.pr) w w') : Off B.dvs w w' := ho.mono fun k _ e => .inr (.inr (.inr (.inr (.inr (.inr (.inl e))))))
theorem offL (ho : Off (· = B.pl) w w') : Off B.dvs w w' := ho.mono fun k _ e => .inr (.inr (.inr (.inr (.inr (.inr (.inr e))))))
end
/-! Resets' rows -/
theorem evC_len (x : Int × Int) : (evC x).length = 2 := rfl
theorem ev_nil (w : World) (T : TypeId) : EvAt w T (.slice none 0 0) [] := World.ownsRow_nil w 0 T 2
theorem EvAt.keep {w w' : World} {T : TypeId} {v : Value} {es : List (Int × Int)} (h : EvAt w T v es) (hk : ∀ g, v.ownBlock = some g → w'.heap[g]? = w.heap[g]?) : EvAt w' T v es := row_keep h hk
theorem EvAt.lt {w : World} {T : TypeId} {v : Value} {es : List (Int × Int)} (h : EvAt w T v es) {k : Nat} (hk : v.ownBlock = some k) : k < w.heap.size := (World.ownsRow.lt h k hk).2
theorem EvAt.kd {w : World} {T : TypeId} {v : Value} {es : List (Int × Int)} (h : EvAt w T v es) {k : Nat} (hk : v.ownBlock = some k) : kd w k = T + 1 := by obtain ⟨cur, hc⟩ := row_obj h hk; exact kd_of hc
theorem EvAt.below {w w' : World} {T : TypeId} {v : Value} {es : List (Int × Int)} (h : EvAt w T v es) (hb : Below w.heap.size w w') : EvAt w' T v es := h.keep fun g hg => hb.block g (h.lt hg)
/-! The bus's seats -/
def seatC (B : Bp) : Su := ⟨33554432, 49152, 79, ptr B.pc⟩
def seatB (B : Bp) : Su := ⟨268500992, 256, 69, ptr B.pb⟩
def seatD (B : Bp) : Su := ⟨268566528, 20, 65, ptr B.pd⟩
def seatS (B : Bp) : Su := ⟨268632064, 16, 80, ptr B.ps⟩
def seatR (B : Bp) : Su := ⟨268697600, 36, 67, ptr B.pr⟩
def seatL (B : Bp) : Su := ⟨268763136, 12, 81, ptr B.pl⟩
def LpB (B : Bp) : Int → List Su := lpAll (lpAll (lpAll (lpAll (lpAll (lpAll (fun _ => []) (seatC B)) (seatB B)) (seatD B)) (seatS B)) (seatR B)) (seatL B)
structure BdAt (w : World) (B : Bp) (x : Bx) : Prop where
  cell : w.heap[B.b]? = some (.cells B.cl.toArray tBd (0, 0))
  dv : DvAt w B x (wires B.n B.c x)
  bus : UBus w B.bp B.bm B.rv B.R B.ks B.pv (LpB B)
  ev : EvAt w tEv B.ev x.es
  ok : x.ok B.n B.c
  still : x.still
theorem UBus.kd {w : World} {p bm : Nat} {rv : Value} {R : List (Int × Int)} {ks : List Int} {pv : Int → Value} {Lp : Int → List Su} (h : UBus w p bm rv R ks pv Lp) {k : Nat} (hk : uBlocks p bm rv ks pv k) : busK (kd w k) = true := by
  rcases hk with rfl | rfl | hk | ⟨u, hu, hk⟩
  · rw [kd_of h.cell]; decide
  · rw [kd_map h.map]; decide
  · obtain ⟨cur, hc⟩ := row_obj h.regs hk; rw [kd_of hc]; decide
  · obtain ⟨cur, hc⟩ := row_obj (h.rows u hu) hk; rw [kd_of hc]; decide
section
variable {w w' : World} {B : Bp} {x : Bx}
theorem BdAt.lt (H : BdAt w B x) {k : Nat} (hk : B.all k) : k < w.heap.size := by
  rcases hk with (rfl | hk | hk) | rfl | hk
  · exact lt_of_block H.cell
  · exact H.dv.lt hk
  · exact H.ev.lt hk
  · exact H.dv.ltm
  · exact H.bus.lt k hk
theorem BdAt.kept (H : BdAt w B x) (hk : ∀ k, B.all k → w'.heap[k]? = w.heap[k]?) : BdAt w' B x :=
  ⟨(hk _ (.inl (.inl rfl))).trans H.cell, H.dv.kept (fun k h => hk k (.inl (.inr (.inl h)))) (hk _ (.inr (.inl rfl))), H.bus.kept fun k h => hk k (.inr (.inr h)), H.ev.keep fun g hg => hk g (.inl (.inr (.inr hg))), H.ok, H.still⟩
theorem BdAt.below (H : BdAt w B x) (hb : Below w.heap.size w w') : BdAt w' B x := H.kept fun k hk => hb.block k (H.lt hk)
theorem BdAt.off {S : Nat → Prop} (H : BdAt w B x) (ho : Off S w w') (hs : ∀ k, B.all k → ¬ S k) : BdAt w' B x := H.kept fun k hk => ho.block k (H.lt hk) (hs k hk)
theorem BdAt.like {y : Bx} (H : BdAt w B x) (l : Bx.like B.c x y) : BdAt w B y :=
  ⟨H.cell, l.wires (n := B.n) ▸ H.dv.like l, H.bus, l.es ▸ H.ev, l.ok H.ok, l.still H.still⟩
/-- What turns apart from what stays. -/
theorem BdAt.busApart (H : BdAt w B x) {k : Nat} (hk : uBlocks B.bp B.bm B.rv B.ks B.pv k) : ¬ B.own k := by
  have hb := H.bus.kd hk
  rintro (rfl | hd | he)
  · rw [kd_of H.cell] at hb; revert hb; decide
  · rw [dev_bus (H.dv.kd hd)] at hb; cases hb
  · rw [H.ev.kd he] at hb; revert hb; decide
theorem BdAt.mcApart (H : BdAt w B x) : ¬ B.own B.mc := by
  have hm := kd_map H.dv.c.map
  rintro (h | hd | he)
  · rw [h, kd_of H.cell] at hm; cases hm
  · exact H.dv.noMc hd
  · rw [H.ev.kd he] at hm; cases hm
theorem BdAt.bApart (H : BdAt w B x) : ¬ B.dvs B.b := H.dv.no H.cell (by decide)
theorem BdAt.evApart (H : BdAt w B x) {k : Nat} (hk : B.ev.ownBlock = some k) : ¬ B.dvs k ∧ k ≠ B.b := by
  have he := H.ev.kd hk
  refine ⟨fun hd => ?_, fun e => ?_⟩
  · have := H.dv.kd hd; rw [he] at this; revert this; decide
  · rw [e, kd_of H.cell] at he; revert he; decide
/-- The devices have turned. -/
theorem BdAt.turn {y : Bx} (H : BdAt w B x) (D : DvAt w' B y (wires B.n B.c y)) (ho : Off B.dvs w w') (hes : y.es = x.es) (ok : y.ok B.n B.c) (st : y.still) : BdAt w' B y :=
  ⟨ho.at H.cell H.bApart, D, H.bus.ofOff ho fun k hk hd => H.busApart hk (.inr (.inl hd)), hes ▸ H.ev.keep fun g hg => ho.block g (H.ev.lt hg) (H.evApart hg).1, ok, st⟩
end
end Go.Proofs.YtcgmnjajodegmaaGreat.B
