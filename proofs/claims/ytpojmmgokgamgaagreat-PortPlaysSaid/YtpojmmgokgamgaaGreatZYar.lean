/- A part of the proof of a law of layer 12: ar. -/
import Derived.Test.YtpojmmgokgamgaaGreatZYap
import Derived.Test.YtpojmmgokgamgaaGreatZYaq
set_option linter.unusedVariables false
set_option linter.unusedSimpArgs false
set_option maxHeartbeats 12800000
set_option maxRecDepth 100000
namespace Go.Proofs.YtpojmmgokgamgaaGreat.B
open Go.Proofs.Tryz
open Go.ChangeShapes Go.WideShapes Go.RowKit Go.Sort
abbrev tCl : TypeId := 164
abbrev tLn : TypeId := 189
abbrev tBd : TypeId := 104
abbrev tEv : TypeId := 151
abbrev tDv : TypeId := 76
abbrev tBu : TypeId := 193
abbrev tRg : TypeId := 119
abbrev tSt : TypeId := 197
structure Bp where
 b : Nat
 pc : Nat
 mc : Nat
 pb : Nat
 gb : Nat
 qb : Nat -> Nat
 pd : Nat
 ps : Nat
 pr : Nat
 pl : Nat
 bp : Nat
 bm : Nat
 rv : Value
 R : List (Int × Int)
 ks : List Int
 pv : Int -> Value
 n : Nat
 c : Nat
 div : Int
 ev : Value
def yM (x : Int × Int) : List Value := [.int .u64 x.1, .int .i64 x.2]
def gC (w : World) (T : TypeId) (v : Value) (es : List (Int × Int)) : Prop := w.ownsRow 0 T 2 v es.length (es.flatMap yM)
def Bp.cl (B : Bp) : List Value := [jN B.pc, jN B.pb, jN B.pd, jN B.ps, jN B.pr, jN B.pl, .int .i64 B.n, .int .i64 B.c, .int .u32 B.div, jN B.bp, B.ev]
def Bp.dvs (B : Bp) (k : Nat) : Prop := k = B.pc \/ k = B.pb \/ k = B.gb \/ own B.c B.qb k \/ k = B.pd \/ k = B.ps \/ k = B.pr \/ k = B.pl
def Bp.own (B : Bp) (k : Nat) : Prop := k = B.b \/ B.dvs k \/ B.ev.ownBlock = some k
def Bp.all (B : Bp) (k : Nat) : Prop := B.own k \/ k = B.mc \/ dZ B.bp B.bm B.rv B.ks B.pv k
def kd (w : World) (k : Nat) : Nat := match w.heap[k]? with
 | some (.cells _ t _) => t + 1
 | _ => 0
theorem bP {w : World} {k : Nat} {cs : Array Value} {t : TypeId} {f : Nat × Nat} (h : w.heap[k]? = some (.cells cs t f)) : kd w k = t + 1 := by unfold kd; rw [h]
theorem oH {w : World} {k : Nat} {κ : Type} {ek : κ -> Value} {ok : κ -> Prop} {M : List (κ × Value)} (h : eL w ek ok k M) : kd w k = 0 := by obtain ⟨_, _, hb, _⟩ := h; unfold kd; rw [hb]
theorem aIc {w w' : World} {k : Nat} (h : w'.heap[k]? = w.heap[k]?) : kd w' k = kd w k := by unfold kd; rw [h]
def aE2 (m : Nat) : Bool := m == tCl + 1 || m == tBk + 1 || m == tRm + 1 || m == tC + 1 || m == tD + 1 || m == tS + 1 || m == dB + 1 || m == tLn + 1
def aMC (m : Nat) : Bool := m == 0 || m == tBu + 1 || m == tRg + 1 || m == tSt + 1
theorem aIj {m : Nat} (h : aE2 m = true) : aMC m = false := by
 unfold aE2 at h
 simp only [Bool.or_eq_true, beq_iff_eq] at h
 rcases h with ((((((h | h) | h) | h) | h) | h) | h) | h <;> rw [h] <;> decide
structure aZ (w : World) (B : Bp) (x : Bx) (h : Int) : Prop where
 c : dO w B.pc B.mc x.ti B.n x.D x.S
 b : cI w B.pb B.gb B.c B.qb x.tm
 d : dT w B.pd x.wd
 s : eQ w B.ps tS x.rs
 r : cJ w B.pr dB x.rk
 l : lS w B.pl h x.msk
section
variable {w w' : World} {B : Bp} {x : Bx} {h : Int}
theorem aZ.kd (H : aZ w B x h) {k : Nat} (hk : B.dvs k) : aE2 (kd w k) = true := by
 rcases hk with rfl | rfl | rfl | ⟨i, hi, rfl⟩ | rfl | rfl | rfl | rfl
 . rw [bP H.c.cell]; decide
 . rw [bP H.b.cell]; decide
 . rw [bP H.b.rm.room]; decide
 . rw [bP (H.b.rm.tms i hi)]; decide
 . rw [bP H.d]; decide
 . rw [bP H.s]; decide
 . rw [bP H.r]; decide
 . rw [bP H.l]; decide
theorem aZ.lt (H : aZ w B x h) {k : Nat} (hk : B.dvs k) : k < w.heap.size := by
 rcases hk with rfl | rfl | rfl | ⟨i, hi, rfl⟩ | rfl | rfl | rfl | rfl
 . exact H.c.ltp
 . exact H.b.ltp
 . exact H.b.rm.lt
 . exact H.b.rm.ltq hi
 . exact H.d.lt
 . exact H.s.lt
 . exact H.r.lt
 . exact H.l.lt
theorem aZ.ltm (H : aZ w B x h) : B.mc < w.heap.size := H.c.ltm
theorem aZ.no (H : aZ w B x h) {k : Nat} {cs : Array Value} {t : TypeId} {f : Nat × Nat} (hk : w.heap[k]? = some (.cells cs t f)) (ht : aE2 (t + 1) = false) : ¬ B.dvs k := fun hd => by
 have := H.kd hd; rw [bP hk, ht] at this; cases this
theorem aZ.noMc (H : aZ w B x h) : ¬ B.dvs B.mc := fun hd => by
 have := H.kd hd; rw [oH H.c.map] at this; revert this; decide
theorem aZ.kept (H : aZ w B x h) (hk : ∀ k, B.dvs k -> w'.heap[k]? = w.heap[k]?) (hm : w'.heap[B.mc]? = w.heap[B.mc]?) : aZ w' B x h :=
 ⟨H.c.kept (hk _ (.inl rfl)) hm,
  ⟨(hk _ (.inr (.inl rfl))).trans H.b.cell, ⟨(hk _ (.inr (.inr (.inl rfl)))).trans H.b.rm.room, fun i hi => (hk _ (.inr (.inr (.inr (.inl ⟨i, hi, rfl⟩))))).trans (H.b.rm.tms i hi), H.b.rm.ok, H.b.rm.one, H.b.rm.n8⟩⟩,
  (hk _ (.inr (.inr (.inr (.inr (.inl rfl)))))).trans H.d, (hk _ (.inr (.inr (.inr (.inr (.inr (.inl rfl))))))).trans H.s,
  (hk _ (.inr (.inr (.inr (.inr (.inr (.inr (.inl rfl)))))))).trans H.r, (hk _ (.inr (.inr (.inr (.inr (.inr (.inr (.inr rfl)))))))).trans H.l⟩
theorem aZ.below (H : aZ w B x h) (hb : Below w.heap.size w w') : aZ w' B x h := H.kept (fun k hk => hb.block k (H.lt hk)) (hb.block _ H.ltm)
theorem aZ.off {S : Nat -> Prop} (H : aZ w B x h) (ho : aF S w w') (hs : ∀ k, B.dvs k -> ¬ S k) (hm : ¬ S B.mc) : aZ w' B x h := H.kept (fun k hk => ho.block k (H.lt hk) (hs k hk)) (ho.block _ H.ltm hm)
theorem aZ.like {y : Bx} (H : aZ w B x h) (l : Bx.like B.c x y) : aZ w B y h :=
 ⟨l.ti ▸ l.D ▸ l.S ▸ H.c, H.b.congr l.tm, l.wd ▸ H.d, l.rs ▸ H.s, l.rk ▸ H.r, l.msk ▸ H.l⟩
theorem aZ.turnC (H : aZ w B x h) {t : Int} {D S : Nat -> Int} (a : dO w' B.pc B.mc t B.n D S) (ho : aF (· = B.pc) w w') : aZ w' B { x with ti := t, D := D, S := S } h :=
 ⟨a, H.b.off ho (aK H.b.cell H.c.cell rfl) (aK H.b.rm.room H.c.cell rfl) (fun i hi => aK (H.b.rm.tms i hi) H.c.cell rfl), H.d.off ho (aK H.d H.c.cell rfl), H.s.off ho (aK H.s H.c.cell rfl), H.r.off ho (aK H.r H.c.cell rfl), ho.at H.l (aK H.l H.c.cell rfl)⟩
theorem qL (H : cI w B.pb B.gb B.c B.qb x.tm) {k : Nat} (hk : Go.Proofs.YtpojmmgokgamgaaGreat.B.kd w k ≠ tC + 1) : ¬ Go.Proofs.YtpojmmgokgamgaaGreat.B.own B.c B.qb k := fun ⟨i, hi, e⟩ => hk (by rw [e]; exact bP (H.rm.tms i hi))
theorem aZ.turnB (H : aZ w B x h) {t : Nat -> Tm} (a : cI w' B.pb B.gb B.c B.qb t) (ho : aF (Go.Proofs.YtpojmmgokgamgaaGreat.B.own B.c B.qb) w w') : aZ w' B { x with tm := t } h :=
 ⟨H.c.off ho (qL H.b (by rw [bP H.c.cell]; decide)) (qL H.b (by rw [oH H.c.map]; decide)), a, H.d.off ho (qL H.b (by rw [bP H.d]; decide)), H.s.off ho (qL H.b (by rw [bP H.s]; decide)), H.r.off ho (qL H.b (by rw [bP H.r]; decide)), ho.at H.l (qL H.b (by rw [bP H.l]; decide))⟩
theorem wQ (H : dO w B.pc B.mc x.ti B.n x.D x.S) {k : Nat} {cs : Array Value} {t : TypeId} {f : Nat × Nat} (hk : w.heap[k]? = some (.cells cs t f)) : B.mc ≠ k := fun e => by
 have h1 := oH H.map; rw [e, bP hk] at h1; cases h1
theorem aZ.turnD (H : aZ w B x h) {t : Wd} (a : dT w' B.pd t) (ho : aF (· = B.pd) w w') : aZ w' B { x with wd := t } h :=
 ⟨H.c.off ho (aK H.c.cell H.d rfl) (wQ H.c H.d), H.b.off ho (aK H.b.cell H.d rfl) (aK H.b.rm.room H.d rfl) (fun i hi => aK (H.b.rm.tms i hi) H.d rfl), a, H.s.off ho (aK H.s H.d rfl), H.r.off ho (aK H.r H.d rfl), ho.at H.l (aK H.l H.d rfl)⟩
theorem aZ.turnS (H : aZ w B x h) {t : Rs} (a : eQ w' B.ps tS t) (ho : aF (· = B.ps) w w') : aZ w' B { x with rs := t } h :=
 ⟨H.c.off ho (aK H.c.cell H.s rfl) (wQ H.c H.s), H.b.off ho (aK H.b.cell H.s rfl) (aK H.b.rm.room H.s rfl) (fun i hi => aK (H.b.rm.tms i hi) H.s rfl), H.d.off ho (aK H.d H.s rfl), a, H.r.off ho (aK H.r H.s rfl), ho.at H.l (aK H.l H.s rfl)⟩
theorem aZ.turnR (H : aZ w B x h) {t : Rk} (a : cJ w' B.pr dB t) (ho : aF (· = B.pr) w w') : aZ w' B { x with rk := t } h :=
 ⟨H.c.off ho (aK H.c.cell H.r rfl) (wQ H.c H.r), H.b.off ho (aK H.b.cell H.r rfl) (aK H.b.rm.room H.r rfl) (fun i hi => aK (H.b.rm.tms i hi) H.r rfl), H.d.off ho (aK H.d H.r rfl), H.s.off ho (aK H.s H.r rfl), a, ho.at H.l (aK H.l H.r rfl)⟩
theorem aZ.turnL (H : aZ w B x h) {h' m' : Int} (a : lS w' B.pl h' m') (ho : aF (· = B.pl) w w') : aZ w' B { x with msk := m' } h' :=
 ⟨H.c.off ho (aK H.c.cell H.l rfl) (wQ H.c H.l), H.b.off ho (aK H.b.cell H.l rfl) (aK H.b.rm.room H.l rfl) (fun i hi => aK (H.b.rm.tms i hi) H.l rfl), H.d.off ho (aK H.d H.l rfl), H.s.off ho (aK H.s H.l rfl), H.r.off ho (aK H.r H.l rfl), a⟩
theorem aGk (ho : aF (· = B.pc) w w') : aF B.dvs w w' := ho.mono fun k _ e => .inl e
theorem aGO (ho : aF (Go.Proofs.YtpojmmgokgamgaaGreat.B.own B.c B.qb) w w') : aF B.dvs w w' := ho.mono fun k _ e => .inr (.inr (.inr (.inl e)))
theorem aII (ho : aF (· = B.pd) w w') : aF B.dvs w w' := ho.mono fun k _ e => .inr (.inr (.inr (.inr (.inl e))))
theorem offS (ho : aF (· = B.ps) w w') : aF B.dvs w w' := ho.mono fun k _ e => .inr (.inr (.inr (.inr (.inr (.inl e)))))
theorem aE8 (ho : aF (· = B.pr) w w') : aF B.dvs w w' := ho.mono fun k _ e => .inr (.inr (.inr (.inr (.inr (.inr (.inl e))))))
theorem sR (ho : aF (· = B.pl) w w') : aF B.dvs w w' := ho.mono fun k _ e => .inr (.inr (.inr (.inr (.inr (.inr (.inr e))))))
end
theorem nG (x : Int × Int) : (yM x).length = 2 := rfl
theorem aCR (w : World) (T : TypeId) : gC w T (.slice none 0 0) [] := World.ownsRow_nil w 0 T 2
theorem gC.keep {w w' : World} {T : TypeId} {v : Value} {es : List (Int × Int)} (h : gC w T v es) (hk : ∀ g, v.ownBlock = some g -> w'.heap[g]? = w.heap[g]?) : gC w' T v es := gV h hk
theorem gC.lt {w : World} {T : TypeId} {v : Value} {es : List (Int × Int)} (h : gC w T v es) {k : Nat} (hk : v.ownBlock = some k) : k < w.heap.size := (World.ownsRow.lt h k hk).2
theorem gC.kd {w : World} {T : TypeId} {v : Value} {es : List (Int × Int)} (h : gC w T v es) {k : Nat} (hk : v.ownBlock = some k) : kd w k = T + 1 := by obtain ⟨cur, hc⟩ := fV h hk; exact bP hc
theorem gC.below {w w' : World} {T : TypeId} {v : Value} {es : List (Int × Int)} (h : gC w T v es) (hb : Below w.heap.size w w') : gC w' T v es := h.keep fun g hg => hb.block g (h.lt hg)
def tI (B : Bp) : Su := ⟨33554432, 49152, 69, jN B.pc⟩
def jY (B : Bp) : Su := ⟨268500992, 256, 70, jN B.pb⟩
def kL (B : Bp) : Su := ⟨268566528, 20, 71, jN B.pd⟩
def mF (B : Bp) : Su := ⟨268632064, 16, 72, jN B.ps⟩
def pB (B : Bp) : Su := ⟨268697600, 36, 73, jN B.pr⟩
def sG (B : Bp) : Su := ⟨268763136, 12, 74, jN B.pl⟩
def rE (B : Bp) : Int -> List Su := jU (jU (jU (jU (jU (jU (fun _ => []) (tI B)) (jY B)) (kL B)) (mF B)) (pB B)) (sG B)
structure bC (w : World) (B : Bp) (x : Bx) : Prop where
 cell : w.heap[B.b]? = some (.cells B.cl.toArray tBd (0, 0))
 dv : aZ w B x (wires B.n B.c x)
 bus : eK w B.bp B.bm B.rv B.R B.ks B.pv (rE B)
 ev : gC w tEv B.ev x.es
 ok : x.ok B.n B.c
 still : x.still
theorem eK.kd {w : World} {p bm : Nat} {rv : Value} {R : List (Int × Int)} {ks : List Int} {pv : Int -> Value} {Lp : Int -> List Su} (h : eK w p bm rv R ks pv Lp) {k : Nat} (hk : dZ p bm rv ks pv k) : aMC (kd w k) = true := by
 rcases hk with rfl | rfl | hk | ⟨u, hu, hk⟩
 . rw [bP h.cell]; decide
 . rw [oH h.map]; decide
 . obtain ⟨cur, hc⟩ := fV h.regs hk; rw [bP hc]; decide
 . obtain ⟨cur, hc⟩ := fV (h.rows u hu) hk; rw [bP hc]; decide
section
variable {w w' : World} {B : Bp} {x : Bx}
theorem wU {P : Prop} (h : P := by
 rcases hk with (rfl | hk | hk) | rfl | hk
 . exact lt_of_block H.cell
 . exact H.dv.lt hk
 . exact H.ev.lt hk
 . exact H.dv.ltm
 . exact H.bus.lt k hk
 ) : P := h
theorem bC.lt (H : bC w B x) {k : Nat} (hk : B.all k) : k < w.heap.size := by
 exact wU
theorem bC.kept (H : bC w B x) (hk : ∀ k, B.all k -> w'.heap[k]? = w.heap[k]?) : bC w' B x :=
 ⟨(hk _ (.inl (.inl rfl))).trans H.cell, H.dv.kept (fun k h => hk k (.inl (.inr (.inl h)))) (hk _ (.inr (.inl rfl))), H.bus.kept fun k h => hk k (.inr (.inr h)), H.ev.keep fun g hg => hk g (.inl (.inr (.inr hg))), H.ok, H.still⟩
theorem bC.below (H : bC w B x) (hb : Below w.heap.size w w') : bC w' B x := H.kept fun k hk => hb.block k (H.lt hk)
theorem bC.off {S : Nat -> Prop} (H : bC w B x) (ho : aF S w w') (hs : ∀ k, B.all k -> ¬ S k) : bC w' B x := H.kept fun k hk => ho.block k (H.lt hk) (hs k hk)
theorem bC.like {y : Bx} (H : bC w B x) (l : Bx.like B.c x y) : bC w B y :=
 ⟨H.cell, l.wires (n := B.n) ▸ H.dv.like l, H.bus, l.es ▸ H.ev, l.ok H.ok, l.still H.still⟩
theorem uW {P : Prop} (h : P := by
 have hb := H.bus.kd hk
 rintro (rfl | hd | he)
 . rw [bP H.cell] at hb; revert hb; decide
 . rw [aIj (H.dv.kd hd)] at hb; cases hb
 . rw [H.ev.kd he] at hb; revert hb; decide
 ) : P := h
theorem bC.busApart (H : bC w B x) {k : Nat} (hk : dZ B.bp B.bm B.rv B.ks B.pv k) : ¬ B.own k := by
 exact uW
end
end Go.Proofs.YtpojmmgokgamgaaGreat.B
