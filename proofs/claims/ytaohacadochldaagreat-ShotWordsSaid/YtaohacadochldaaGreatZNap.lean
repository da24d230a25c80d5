/- A part of the proof of a law of layer 12: ap. -/
import Derived.Test.YtaohacadochldaaGreatZNan
import Derived.Test.YtaohacadochldaaGreatZNao
set_option linter.unusedVariables false
set_option linter.unusedSimpArgs false
set_option maxHeartbeats 12800000
set_option maxRecDepth 100000
namespace Go.Proofs.YtaohacadochldaaGreat.B
open Go.Proofs.Tryz
open Go.ChangeShapes Go.WideShapes Go.RowKit Go.Sort
abbrev tCl : TypeId := 166
abbrev tLn : TypeId := 261
abbrev yO : TypeId := 121
abbrev tEv : TypeId := 156
abbrev tDv : TypeId := 117
abbrev tBu : TypeId := 265
abbrev tRg : TypeId := 180
abbrev tSt : TypeId := 269
structure Bp where
 b : Nat
 pc : Nat
 mc : Nat
 pb : Nat
 gb : Nat
 qb : Nat -> Nat
 pd : Nat
 ps : Nat
 pr : Nat
 pl : Nat
 bp : Nat
 bm : Nat
 rv : Value
 R : List (Int × Int)
 ks : List Int
 pv : Int -> Value
 n : Nat
 c : Nat
 div : Int
 ev : Value
def evC (x : Int × Int) : List Value := [.int .u64 x.1, .int .i64 x.2]
def fN (w : World) (T : TypeId) (v : Value) (es : List (Int × Int)) : Prop := w.ownsRow 0 T 2 v es.length (es.flatMap evC)
def Bp.cl (B : Bp) : List Value := [dM B.pc, dM B.pb, dM B.pd, dM B.ps, dM B.pr, dM B.pl, .int .i64 B.n, .int .i64 B.c, .int .u32 B.div, dM B.bp, B.ev]
def Bp.dvs (B : Bp) (k : Nat) : Prop := k = B.pc \/ k = B.pb \/ k = B.gb \/ own B.c B.qb k \/ k = B.pd \/ k = B.ps \/ k = B.pr \/ k = B.pl
def Bp.own (B : Bp) (k : Nat) : Prop := k = B.b \/ B.dvs k \/ B.ev.ownBlock = some k
def Bp.all (B : Bp) (k : Nat) : Prop := B.own k \/ k = B.mc \/ bJ B.bp B.bm B.rv B.ks B.pv k
def kd (w : World) (k : Nat) : Nat := match w.heap[k]? with
 | some (.cells _ t _) => t + 1
 | _ => 0
theorem bA {w : World} {k : Nat} {cs : Array Value} {t : TypeId} {f : Nat × Nat} (h : w.heap[k]? = some (.cells cs t f)) : kd w k = t + 1 := by unfold kd; rw [h]
theorem fY {w : World} {k : Nat} {κ : Type} {ek : κ -> Value} {ok : κ -> Prop} {M : List (κ × Value)} (h : bI w ek ok k M) : kd w k = 0 := by obtain ⟨_, _, hb, _⟩ := h; unfold kd; rw [hb]
theorem zY {w w' : World} {k : Nat} (h : w'.heap[k]? = w.heap[k]?) : kd w' k = kd w k := by unfold kd; rw [h]
def vM (m : Nat) : Bool := m == tCl + 1 || m == tBk + 1 || m == tRm + 1 || m == tC + 1 || m == tD + 1 || m == tS + 1 || m == bW + 1 || m == tLn + 1
def aA6 (m : Nat) : Bool := m == 0 || m == tBu + 1 || m == tRg + 1 || m == tSt + 1
theorem zR {m : Nat} (h : vM m = true) : aA6 m = false := by
 unfold vM at h
 simp only [Bool.or_eq_true, beq_iff_eq] at h
 rcases h with ((((((h | h) | h) | h) | h) | h) | h) | h <;> rw [h] <;> decide
structure aL (w : World) (B : Bp) (x : Bx) (h : Int) : Prop where
 c : bD w B.pc B.mc x.ti B.n x.D x.S
 b : bG w B.pb B.gb B.c B.qb x.tm
 d : bR w B.pd x.wd
 s : bO w B.ps tS x.rs
 r : aX w B.pr bW x.rk
 l : eO w B.pl h x.msk
section
variable {w w' : World} {B : Bp} {x : Bx} {h : Int}
theorem aL.kd (H : aL w B x h) {k : Nat} (hk : B.dvs k) : vM (kd w k) = true := by
 rcases hk with rfl | rfl | rfl | ⟨i, hi, rfl⟩ | rfl | rfl | rfl | rfl
 . rw [bA H.c.cell]; decide
 . rw [bA H.b.cell]; decide
 . rw [bA H.b.rm.room]; decide
 . rw [bA (H.b.rm.tms i hi)]; decide
 . rw [bA H.d]; decide
 . rw [bA H.s]; decide
 . rw [bA H.r]; decide
 . rw [bA H.l]; decide
theorem aL.lt (H : aL w B x h) {k : Nat} (hk : B.dvs k) : k < w.heap.size := by
 rcases hk with rfl | rfl | rfl | ⟨i, hi, rfl⟩ | rfl | rfl | rfl | rfl
 . exact H.c.ltp
 . exact H.b.ltp
 . exact H.b.rm.lt
 . exact H.b.rm.ltq hi
 . exact H.d.lt
 . exact H.s.lt
 . exact H.r.lt
 . exact H.l.lt
theorem aL.ltm (H : aL w B x h) : B.mc < w.heap.size := H.c.ltm
theorem aL.no (H : aL w B x h) {k : Nat} {cs : Array Value} {t : TypeId} {f : Nat × Nat} (hk : w.heap[k]? = some (.cells cs t f)) (ht : vM (t + 1) = false) : ¬ B.dvs k := fun hd => by
 have := H.kd hd; rw [bA hk, ht] at this; cases this
theorem aL.noMc (H : aL w B x h) : ¬ B.dvs B.mc := fun hd => by
 have := H.kd hd; rw [fY H.c.map] at this; revert this; decide
theorem aL.kept (H : aL w B x h) (hk : ∀ k, B.dvs k -> w'.heap[k]? = w.heap[k]?) (hm : w'.heap[B.mc]? = w.heap[B.mc]?) : aL w' B x h :=
 ⟨H.c.kept (hk _ (.inl rfl)) hm,
  ⟨(hk _ (.inr (.inl rfl))).trans H.b.cell, ⟨(hk _ (.inr (.inr (.inl rfl)))).trans H.b.rm.room, fun i hi => (hk _ (.inr (.inr (.inr (.inl ⟨i, hi, rfl⟩))))).trans (H.b.rm.tms i hi), H.b.rm.ok, H.b.rm.one, H.b.rm.n8⟩⟩,
  (hk _ (.inr (.inr (.inr (.inr (.inl rfl)))))).trans H.d, (hk _ (.inr (.inr (.inr (.inr (.inr (.inl rfl))))))).trans H.s,
  (hk _ (.inr (.inr (.inr (.inr (.inr (.inr (.inl rfl)))))))).trans H.r, (hk _ (.inr (.inr (.inr (.inr (.inr (.inr (.inr rfl)))))))).trans H.l⟩
theorem aL.below (H : aL w B x h) (hb : Below w.heap.size w w') : aL w' B x h := H.kept (fun k hk => hb.block k (H.lt hk)) (hb.block _ H.ltm)
theorem aL.off {S : Nat -> Prop} (H : aL w B x h) (ho : aD S w w') (hs : ∀ k, B.dvs k -> ¬ S k) (hm : ¬ S B.mc) : aL w' B x h := H.kept (fun k hk => ho.block k (H.lt hk) (hs k hk)) (ho.block _ H.ltm hm)
theorem aL.like {y : Bx} (H : aL w B x h) (l : Bx.like B.c x y) : aL w B y h :=
 ⟨l.ti ▸ l.D ▸ l.S ▸ H.c, H.b.congr l.tm, l.wd ▸ H.d, l.rs ▸ H.s, l.rk ▸ H.r, l.msk ▸ H.l⟩
theorem aL.turnC (H : aL w B x h) {t : Int} {D S : Nat -> Int} (a : bD w' B.pc B.mc t B.n D S) (ho : aD (· = B.pc) w w') : aL w' B { x with ti := t, D := D, S := S } h :=
 ⟨a, H.b.off ho (aC H.b.cell H.c.cell rfl) (aC H.b.rm.room H.c.cell rfl) (fun i hi => aC (H.b.rm.tms i hi) H.c.cell rfl), H.d.off ho (aC H.d H.c.cell rfl), H.s.off ho (aC H.s H.c.cell rfl), H.r.off ho (aC H.r H.c.cell rfl), ho.at H.l (aC H.l H.c.cell rfl)⟩
theorem iH (H : bG w B.pb B.gb B.c B.qb x.tm) {k : Nat} (hk : Go.Proofs.YtaohacadochldaaGreat.B.kd w k ≠ tC + 1) : ¬ Go.Proofs.YtaohacadochldaaGreat.B.own B.c B.qb k := fun ⟨i, hi, e⟩ => hk (by rw [e]; exact bA (H.rm.tms i hi))
theorem aL.turnB (H : aL w B x h) {t : Nat -> Tm} (a : bG w' B.pb B.gb B.c B.qb t) (ho : aD (Go.Proofs.YtaohacadochldaaGreat.B.own B.c B.qb) w w') : aL w' B { x with tm := t } h :=
 ⟨H.c.off ho (iH H.b (by rw [bA H.c.cell]; decide)) (iH H.b (by rw [fY H.c.map]; decide)), a, H.d.off ho (iH H.b (by rw [bA H.d]; decide)), H.s.off ho (iH H.b (by rw [bA H.s]; decide)), H.r.off ho (iH H.b (by rw [bA H.r]; decide)), ho.at H.l (iH H.b (by rw [bA H.l]; decide))⟩
theorem oZ (H : bD w B.pc B.mc x.ti B.n x.D x.S) {k : Nat} {cs : Array Value} {t : TypeId} {f : Nat × Nat} (hk : w.heap[k]? = some (.cells cs t f)) : B.mc ≠ k := fun e => by
 have h1 := fY H.map; rw [e, bA hk] at h1; cases h1
theorem aL.turnD (H : aL w B x h) {t : Wd} (a : bR w' B.pd t) (ho : aD (· = B.pd) w w') : aL w' B { x with wd := t } h :=
 ⟨H.c.off ho (aC H.c.cell H.d rfl) (oZ H.c H.d), H.b.off ho (aC H.b.cell H.d rfl) (aC H.b.rm.room H.d rfl) (fun i hi => aC (H.b.rm.tms i hi) H.d rfl), a, H.s.off ho (aC H.s H.d rfl), H.r.off ho (aC H.r H.d rfl), ho.at H.l (aC H.l H.d rfl)⟩
theorem aL.turnS (H : aL w B x h) {t : Rs} (a : bO w' B.ps tS t) (ho : aD (· = B.ps) w w') : aL w' B { x with rs := t } h :=
 ⟨H.c.off ho (aC H.c.cell H.s rfl) (oZ H.c H.s), H.b.off ho (aC H.b.cell H.s rfl) (aC H.b.rm.room H.s rfl) (fun i hi => aC (H.b.rm.tms i hi) H.s rfl), H.d.off ho (aC H.d H.s rfl), a, H.r.off ho (aC H.r H.s rfl), ho.at H.l (aC H.l H.s rfl)⟩
theorem aL.turnR (H : aL w B x h) {t : Rk} (a : aX w' B.pr bW t) (ho : aD (· = B.pr) w w') : aL w' B { x with rk := t } h :=
 ⟨H.c.off ho (aC H.c.cell H.r rfl) (oZ H.c H.r), H.b.off ho (aC H.b.cell H.r rfl) (aC H.b.rm.room H.r rfl) (fun i hi => aC (H.b.rm.tms i hi) H.r rfl), H.d.off ho (aC H.d H.r rfl), H.s.off ho (aC H.s H.r rfl), a, ho.at H.l (aC H.l H.r rfl)⟩
theorem aL.turnL (H : aL w B x h) {h' m' : Int} (a : eO w' B.pl h' m') (ho : aD (· = B.pl) w w') : aL w' B { x with msk := m' } h' :=
 ⟨H.c.off ho (aC H.c.cell H.l rfl) (oZ H.c H.l), H.b.off ho (aC H.b.cell H.l rfl) (aC H.b.rm.room H.l rfl) (fun i hi => aC (H.b.rm.tms i hi) H.l rfl), H.d.off ho (aC H.d H.l rfl), H.s.off ho (aC H.s H.l rfl), H.r.off ho (aC H.r H.l rfl), a⟩
theorem xH (ho : aD (· = B.pc) w w') : aD B.dvs w w' := ho.mono fun k _ e => .inl e
theorem xG (ho : aD (Go.Proofs.YtaohacadochldaaGreat.B.own B.c B.qb) w w') : aD B.dvs w w' := ho.mono fun k _ e => .inr (.inr (.inr (.inl e)))
theorem aAD (ho : aD (· = B.pd) w w') : aD B.dvs w w' := ho.mono fun k _ e => .inr (.inr (.inr (.inr (.inl e))))
theorem aC3 (ho : aD (· = B.ps) w w') : aD B.dvs w w' := ho.mono fun k _ e => .inr (.inr (.inr (.inr (.inr (.inl e)))))
theorem xI (ho : aD (· = B.pr) w w') : aD B.dvs w w' := ho.mono fun k _ e => .inr (.inr (.inr (.inr (.inr (.inr (.inl e))))))
theorem jT (ho : aD (· = B.pl) w w') : aD B.dvs w w' := ho.mono fun k _ e => .inr (.inr (.inr (.inr (.inr (.inr (.inr e))))))
end
theorem aBU (w : World) (T : TypeId) : fN w T (.slice none 0 0) [] := World.ownsRow_nil w 0 T 2
theorem fN.keep {w w' : World} {T : TypeId} {v : Value} {es : List (Int × Int)} (h : fN w T v es) (hk : ∀ g, v.ownBlock = some g -> w'.heap[g]? = w.heap[g]?) : fN w' T v es := cQ h hk
theorem fN.lt {w : World} {T : TypeId} {v : Value} {es : List (Int × Int)} (h : fN w T v es) {k : Nat} (hk : v.ownBlock = some k) : k < w.heap.size := (World.ownsRow.lt h k hk).2
theorem fN.kd {w : World} {T : TypeId} {v : Value} {es : List (Int × Int)} (h : fN w T v es) {k : Nat} (hk : v.ownBlock = some k) : kd w k = T + 1 := by obtain ⟨cur, hc⟩ := cR h hk; exact bA hc
theorem fN.below {w w' : World} {T : TypeId} {v : Value} {es : List (Int × Int)} (h : fN w T v es) (hb : Below w.heap.size w w') : fN w' T v es := h.keep fun g hg => hb.block g (h.lt hg)
def kA (B : Bp) : Su := ⟨33554432, 49152, 110, dM B.pc⟩
def dS (B : Bp) : Su := ⟨268500992, 256, 111, dM B.pb⟩
def eD (B : Bp) : Su := ⟨268566528, 20, 112, dM B.pd⟩
def eY (B : Bp) : Su := ⟨268632064, 16, 113, dM B.ps⟩
def gQ (B : Bp) : Su := ⟨268697600, 36, 114, dM B.pr⟩
def kB (B : Bp) : Su := ⟨268763136, 12, 115, dM B.pl⟩
def iM (B : Bp) : Int -> List Su := dO (dO (dO (dO (dO (dO (fun _ => []) (kA B)) (dS B)) (eD B)) (eY B)) (gQ B)) (kB B)
structure aS (w : World) (B : Bp) (x : Bx) : Prop where
 cell : w.heap[B.b]? = some (.cells B.cl.toArray yO (0, 0))
 dv : aL w B x (wires B.n B.c x)
 bus : bQ w B.bp B.bm B.rv B.R B.ks B.pv (iM B)
 ev : fN w tEv B.ev x.es
 ok : x.ok B.n B.c
 still : x.still
theorem bQ.kd {w : World} {p bm : Nat} {rv : Value} {R : List (Int × Int)} {ks : List Int} {pv : Int -> Value} {Lp : Int -> List Su} (h : bQ w p bm rv R ks pv Lp) {k : Nat} (hk : bJ p bm rv ks pv k) : aA6 (kd w k) = true := by
 rcases hk with rfl | rfl | hk | ⟨u, hu, hk⟩
 . rw [bA h.cell]; decide
 . rw [fY h.map]; decide
 . obtain ⟨cur, hc⟩ := cR h.regs hk; rw [bA hc]; decide
 . obtain ⟨cur, hc⟩ := cR (h.rows u hu) hk; rw [bA hc]; decide
section
variable {w w' : World} {B : Bp} {x : Bx}
theorem kY {P : Prop} (h : P := by
 rcases hk with (rfl | hk | hk) | rfl | hk
 . exact lt_of_block H.cell
 . exact H.dv.lt hk
 . exact H.ev.lt hk
 . exact H.dv.ltm
 . exact H.bus.lt k hk
 ) : P := h
theorem aS.lt (H : aS w B x) {k : Nat} (hk : B.all k) : k < w.heap.size := by
 exact kY
theorem aS.kept (H : aS w B x) (hk : ∀ k, B.all k -> w'.heap[k]? = w.heap[k]?) : aS w' B x :=
 ⟨(hk _ (.inl (.inl rfl))).trans H.cell, H.dv.kept (fun k h => hk k (.inl (.inr (.inl h)))) (hk _ (.inr (.inl rfl))), H.bus.kept fun k h => hk k (.inr (.inr h)), H.ev.keep fun g hg => hk g (.inl (.inr (.inr hg))), H.ok, H.still⟩
theorem aS.below (H : aS w B x) (hb : Below w.heap.size w w') : aS w' B x := H.kept fun k hk => hb.block k (H.lt hk)
theorem aS.off {S : Nat -> Prop} (H : aS w B x) (ho : aD S w w') (hs : ∀ k, B.all k -> ¬ S k) : aS w' B x := H.kept fun k hk => ho.block k (H.lt hk) (hs k hk)
theorem aS.like {y : Bx} (H : aS w B x) (l : Bx.like B.c x y) : aS w B y :=
 ⟨H.cell, l.wires (n := B.n) ▸ H.dv.like l, H.bus, l.es ▸ H.ev, l.ok H.ok, l.still H.still⟩
theorem lC {P : Prop} (h : P := by
 have hb := H.bus.kd hk
 rintro (rfl | hd | he)
 . rw [bA H.cell] at hb; revert hb; decide
 . rw [zR (H.dv.kd hd)] at hb; cases hb
 . rw [H.ev.kd he] at hb; revert hb; decide
 ) : P := h
theorem aS.busApart (H : aS w B x) {k : Nat} (hk : bJ B.bp B.bm B.rv B.ks B.pv k) : ¬ B.own k := by
 exact lC
theorem lD {P : Prop} (h : P := by
 have hm := fY H.dv.c.map
 rintro (h | hd | he)
 . rw [h, bA H.cell] at hm; cases hm
 . exact H.dv.noMc hd
 . rw [H.ev.kd he] at hm; cases hm
 ) : P := h
theorem aS.mcApart (H : aS w B x) : ¬ B.own B.mc := by
 exact lD
theorem aS.bApart (H : aS w B x) : ¬ B.dvs B.b := H.dv.no H.cell (by decide)
theorem lA {P : Prop} (h : P := by
 have he := H.ev.kd hk
 refine ⟨fun hd => ?_, fun e => ?_⟩
 . have := H.dv.kd hd; rw [he] at this; revert this; decide
 . rw [e, bA H.cell] at he; revert he; decide
 ) : P := h
theorem aS.evApart (H : aS w B x) {k : Nat} (hk : B.ev.ownBlock = some k) : ¬ B.dvs k /\ k ≠ B.b := by
 exact lA
theorem aS.turn {y : Bx} (H : aS w B x) (D : aL w' B y (wires B.n B.c y)) (ho : aD B.dvs w w') (hes : y.es = x.es) (ok : y.ok B.n B.c) (st : y.still) : aS w' B y :=
 ⟨ho.at H.cell H.bApart, D, H.bus.ofOff ho fun k hk hd => H.busApart hk (.inr (.inl hd)), hes ▸ H.ev.keep fun g hg => ho.block g (H.ev.lt hg) (H.evApart hg).1, ok, st⟩
end
end Go.Proofs.YtaohacadochldaaGreat.B
