/- A board's blocks: its devices, its bus, its row of resets; what turns one of them leaves the others. -/
import Derived.Test.YtpojmmgokgamgaaGreatZVak
import Derived.Test.YtpojmmgokgamgaaGreatZVam
import Derived.Test.YtpojmmgokgamgaaGreatZVan
import Derived.Test.YtpojmmgokgamgaaGreatZVao
set_option linter.unusedVariables false
set_option linter.unusedSimpArgs false
set_option maxRecDepth 100000
namespace Go.Proofs.YtpojmmgokgamgaaGreat.B
open Go.ChangeShapes Go.WideShapes Go.RowKit Go.Sort
abbrev tCl : TypeId := 164
abbrev tLn : TypeId := 189
abbrev tBd : TypeId := 104
abbrev tEv : TypeId := 151
abbrev tDv : TypeId := 76
abbrev tBu : TypeId := 193
abbrev tRg : TypeId := 119
abbrev tSt : TypeId := 197
structure Bp where
 b : Nat
 pc : Nat
 mc : Nat
 pb : Nat
 gb : Nat
 qb : Nat -> Nat
 pd : Nat
 ps : Nat
 pr : Nat
 pl : Nat
 bp : Nat
 bm : Nat
 rv : Value
 R : List (Int × Int)
 ks : List Int
 pv : Int -> Value
 n : Nat
 c : Nat
 div : Int
 ev : Value
def evC (x : Int × Int) : List Value := [.int .u64 x.1, .int .i64 x.2]
def EvAt (w : World) (T : TypeId) (v : Value) (es : List (Int × Int)) : Prop := w.ownsRow 0 T 2 v es.length (es.flatMap evC)
def Bp.cl (B : Bp) : List Value := [ptr B.pc, ptr B.pb, ptr B.pd, ptr B.ps, ptr B.pr, ptr B.pl, .int .i64 B.n, .int .i64 B.c, .int .u32 B.div, ptr B.bp, B.ev]
def Bp.dvs (B : Bp) (k : Nat) : Prop := k = B.pc \/ k = B.pb \/ k = B.gb \/ own B.c B.qb k \/ k = B.pd \/ k = B.ps \/ k = B.pr \/ k = B.pl
def Bp.own (B : Bp) (k : Nat) : Prop := k = B.b \/ B.dvs k \/ B.ev.ownBlock = some k
def Bp.all (B : Bp) (k : Nat) : Prop := B.own k \/ k = B.mc \/ uBlocks B.bp B.bm B.rv B.ks B.pv k
def kd (w : World) (k : Nat) : Nat := match w.heap[k]? with
 | some (.cells _ t _) => t + 1
 | _ => 0
theorem kd_of {w : World} {k : Nat} {cs : Array Value} {t : TypeId} {f : Nat × Nat} (h : w.heap[k]? = some (.cells cs t f)) : kd w k = t + 1 := by unfold kd; rw [h]
theorem kd_map {w : World} {k : Nat} {κ : Type} {ek : κ -> Value} {ok : κ -> Prop} {M : List (κ × Value)} (h : mapP w ek ok k M) : kd w k = 0 := by obtain ⟨_, _, hb, _⟩ := h; unfold kd; rw [hb]
theorem kd_keep {w w' : World} {k : Nat} (h : w'.heap[k]? = w.heap[k]?) : kd w' k = kd w k := by unfold kd; rw [h]
def devK (m : Nat) : Bool := m == tCl + 1 || m == tBk + 1 || m == tRm + 1 || m == tC + 1 || m == tD + 1 || m == tS + 1 || m == tRtc + 1 || m == tLn + 1
def busK (m : Nat) : Bool := m == 0 || m == tBu + 1 || m == tRg + 1 || m == tSt + 1
theorem dev_bus {m : Nat} (h : devK m = true) : busK m = false := by
 unfold devK at h
 simp only [Bool.or_eq_true, beq_iff_eq] at h
 rcases h with ((((((h | h) | h) | h) | h) | h) | h) | h <;> rw [h] <;> decide
structure DvAt (w : World) (B : Bp) (x : Bx) (h : Int) : Prop where
 c : CAt w B.pc B.mc x.ti B.n x.D x.S
 b : BkAt w B.pb B.gb B.c B.qb x.tm
 d : DAt w B.pd x.wd
 s : SAt w B.ps tS x.rs
 r : EAt w B.pr tRtc x.rk
 l : LAt w B.pl h x.msk
section
variable {w w' : World} {B : Bp} {x : Bx} {h : Int}
theorem DvAt.kd (H : DvAt w B x h) {k : Nat} (hk : B.dvs k) : devK (kd w k) = true := by
 rcases hk with rfl | rfl | rfl | ⟨i, hi, rfl⟩ | rfl | rfl | rfl | rfl
 . rw [kd_of H.c.cell]; decide
 . rw [kd_of H.b.cell]; decide
 . rw [kd_of H.b.rm.room]; decide
 . rw [kd_of (H.b.rm.tms i hi)]; decide
 . rw [kd_of H.d]; decide
 . rw [kd_of H.s]; decide
 . rw [kd_of H.r]; decide
 . rw [kd_of H.l]; decide
theorem DvAt.lt (H : DvAt w B x h) {k : Nat} (hk : B.dvs k) : k < w.heap.size := by
 rcases hk with rfl | rfl | rfl | ⟨i, hi, rfl⟩ | rfl | rfl | rfl | rfl
 . exact H.c.ltp
 . exact H.b.ltp
 . exact H.b.rm.lt
 . exact H.b.rm.ltq hi
 . exact H.d.lt
 . exact H.s.lt
 . exact H.r.lt
 . exact H.l.lt
theorem DvAt.ltm (H : DvAt w B x h) : B.mc < w.heap.size := H.c.ltm
theorem DvAt.no (H : DvAt w B x h) {k : Nat} {cs : Array Value} {t : TypeId} {f : Nat × Nat} (hk : w.heap[k]? = some (.cells cs t f)) (ht : devK (t + 1) = false) : ¬ B.dvs k := fun hd => by
 have := H.kd hd; rw [kd_of hk, ht] at this; cases this
theorem DvAt.noMc (H : DvAt w B x h) : ¬ B.dvs B.mc := fun hd => by
 have := H.kd hd; rw [kd_map H.c.map] at this; revert this; decide
theorem DvAt.kept (H : DvAt w B x h) (hk : ∀ k, B.dvs k -> w'.heap[k]? = w.heap[k]?) (hm : w'.heap[B.mc]? = w.heap[B.mc]?) : DvAt w' B x h :=
 ⟨H.c.kept (hk _ (.inl rfl)) hm,
  ⟨(hk _ (.inr (.inl rfl))).trans H.b.cell, ⟨(hk _ (.inr (.inr (.inl rfl)))).trans H.b.rm.room, fun i hi => (hk _ (.inr (.inr (.inr (.inl ⟨i, hi, rfl⟩))))).trans (H.b.rm.tms i hi), H.b.rm.ok, H.b.rm.one, H.b.rm.n8⟩⟩,
  (hk _ (.inr (.inr (.inr (.inr (.inl rfl)))))).trans H.d, (hk _ (.inr (.inr (.inr (.inr (.inr (.inl rfl))))))).trans H.s,
  (hk _ (.inr (.inr (.inr (.inr (.inr (.inr (.inl rfl)))))))).trans H.r, (hk _ (.inr (.inr (.inr (.inr (.inr (.inr (.inr rfl)))))))).trans H.l⟩
theorem DvAt.below (H : DvAt w B x h) (hb : Below w.heap.size w w') : DvAt w' B x h := H.kept (fun k hk => hb.block k (H.lt hk)) (hb.block _ H.ltm)
theorem DvAt.off {S : Nat -> Prop} (H : DvAt w B x h) (ho : Off S w w') (hs : ∀ k, B.dvs k -> ¬ S k) (hm : ¬ S B.mc) : DvAt w' B x h := H.kept (fun k hk => ho.block k (H.lt hk) (hs k hk)) (ho.block _ H.ltm hm)
theorem DvAt.like {y : Bx} (H : DvAt w B x h) (l : Bx.like B.c x y) : DvAt w B y h :=
 ⟨l.ti ▸ l.D ▸ l.S ▸ H.c, H.b.congr l.tm, l.wd ▸ H.d, l.rs ▸ H.s, l.rk ▸ H.r, l.msk ▸ H.l⟩
theorem DvAt.turnC (H : DvAt w B x h) {t : Int} {D S : Nat -> Int} (a : CAt w' B.pc B.mc t B.n D S) (ho : Off (· = B.pc) w w') : DvAt w' B { x with ti := t, D := D, S := S } h :=
 ⟨a, H.b.off ho (apart_types H.b.cell H.c.cell rfl) (apart_types H.b.rm.room H.c.cell rfl) (fun i hi => apart_types (H.b.rm.tms i hi) H.c.cell rfl), H.d.off ho (apart_types H.d H.c.cell rfl), H.s.off ho (apart_types H.s H.c.cell rfl), H.r.off ho (apart_types H.r H.c.cell rfl), ho.at H.l (apart_types H.l H.c.cell rfl)⟩
theorem own_no (H : BkAt w B.pb B.gb B.c B.qb x.tm) {k : Nat} (hk : Go.Proofs.YtpojmmgokgamgaaGreat.B.kd w k ≠ tC + 1) : ¬ Go.Proofs.YtpojmmgokgamgaaGreat.B.own B.c B.qb k := fun ⟨i, hi, e⟩ => hk (by rw [e]; exact kd_of (H.rm.tms i hi))
theorem DvAt.turnB (H : DvAt w B x h) {t : Nat -> Tm} (a : BkAt w' B.pb B.gb B.c B.qb t) (ho : Off (Go.Proofs.YtpojmmgokgamgaaGreat.B.own B.c B.qb) w w') : DvAt w' B { x with tm := t } h :=
 ⟨H.c.off ho (own_no H.b (by rw [kd_of H.c.cell]; decide)) (own_no H.b (by rw [kd_map H.c.map]; decide)), a, H.d.off ho (own_no H.b (by rw [kd_of H.d]; decide)), H.s.off ho (own_no H.b (by rw [kd_of H.s]; decide)), H.r.off ho (own_no H.b (by rw [kd_of H.r]; decide)), ho.at H.l (own_no H.b (by rw [kd_of H.l]; decide))⟩
theorem mc_ne (H : CAt w B.pc B.mc x.ti B.n x.D x.S) {k : Nat} {cs : Array Value} {t : TypeId} {f : Nat × Nat} (hk : w.heap[k]? = some (.cells cs t f)) : B.mc ≠ k := fun e => by
 have h1 := kd_map H.map; rw [e, kd_of hk] at h1; cases h1
theorem DvAt.turnD (H : DvAt w B x h) {t : Wd} (a : DAt w' B.pd t) (ho : Off (· = B.pd) w w') : DvAt w' B { x with wd := t } h :=
 ⟨H.c.off ho (apart_types H.c.cell H.d rfl) (mc_ne H.c H.d), H.b.off ho (apart_types H.b.cell H.d rfl) (apart_types H.b.rm.room H.d rfl) (fun i hi => apart_types (H.b.rm.tms i hi) H.d rfl), a, H.s.off ho (apart_types H.s H.d rfl), H.r.off ho (apart_types H.r H.d rfl), ho.at H.l (apart_types H.l H.d rfl)⟩
theorem DvAt.turnS (H : DvAt w B x h) {t : Rs} (a : SAt w' B.ps tS t) (ho : Off (· = B.ps) w w') : DvAt w' B { x with rs := t } h :=
 ⟨H.c.off ho (apart_types H.c.cell H.s rfl) (mc_ne H.c H.s), H.b.off ho (apart_types H.b.cell H.s rfl) (apart_types H.b.rm.room H.s rfl) (fun i hi => apart_types (H.b.rm.tms i hi) H.s rfl), H.d.off ho (apart_types H.d H.s rfl), a, H.r.off ho (apart_types H.r H.s rfl), ho.at H.l (apart_types H.l H.s rfl)⟩
theorem DvAt.turnR (H : DvAt w B x h) {t : Rk} (a : EAt w' B.pr tRtc t) (ho : Off (· = B.pr) w w') : DvAt w' B { x with rk := t } h :=
 ⟨H.c.off ho (apart_types H.c.cell H.r rfl) (mc_ne H.c H.r), H.b.off ho (apart_types H.b.cell H.r rfl) (apart_types H.b.rm.room H.r rfl) (fun i hi => apart_types (H.b.rm.tms i hi) H.r rfl), H.d.off ho (apart_types H.d H.r rfl), H.s.off ho (apart_types H.s H.r rfl), a, ho.at H.l (apart_types H.l H.r rfl)⟩
theorem DvAt.turnL (H : DvAt w B x h) {h' m' : Int} (a : LAt w' B.pl h' m') (ho : Off (· = B.pl) w w') : DvAt w' B { x with msk := m' } h' :=
 ⟨H.c.off ho (apart_types H.c.cell H.l rfl) (mc_ne H.c H.l), H.b.off ho (apart_types H.b.cell H.l rfl) (apart_types H.b.rm.room H.l rfl) (fun i hi => apart_types (H.b.rm.tms i hi) H.l rfl), H.d.off ho (apart_types H.d H.l rfl), H.s.off ho (apart_types H.s H.l rfl), H.r.off ho (apart_types H.r H.l rfl), a⟩
theorem offC (ho : Off (· = B.pc) w w') : Off B.dvs w w' := ho.mono fun k _ e => .inl e
theorem offB (ho : Off (Go.Proofs.YtpojmmgokgamgaaGreat.B.own B.c B.qb) w w') : Off B.dvs w w' := ho.mono fun k _ e => .inr (.inr (.inr (.inl e)))
theorem offD (ho : Off (· = B.pd) w w') : Off B.dvs w w' := ho.mono fun k _ e => .inr (.inr (.inr (.inr (.inl e))))
theorem offS (ho : Off (· = B.ps) w w') : Off B.dvs w w' := ho.mono fun k _ e => .inr (.inr (.inr (.inr (.inr (.inl e)))))
theorem offR (ho : Off (· = B.pr) w w') : Off B.dvs w w' := ho.mono fun k _ e => .inr (.inr (.inr (.inr (.inr (.inr (.inl e))))))
theorem offL (ho : Off (· = B.pl) w w') : Off B.dvs w w' := ho.mono fun k _ e => .inr (.inr (.inr (.inr (.inr (.inr (.inr e))))))
end
theorem ev_nil (w : World) (T : TypeId) : EvAt w T (.slice none 0 0) [] := World.ownsRow_nil w 0 T 2
theorem EvAt.keep {w w' : World} {T : TypeId} {v : Value} {es : List (Int × Int)} (h : EvAt w T v es) (hk : ∀ g, v.ownBlock = some g -> w'.heap[g]? = w.heap[g]?) : EvAt w' T v es := row_keep h hk
theorem EvAt.lt {w : World} {T : TypeId} {v : Value} {es : List (Int × Int)} (h : EvAt w T v es) {k : Nat} (hk : v.ownBlock = some k) : k < w.heap.size := (World.ownsRow.lt h k hk).2
theorem EvAt.kd {w : World} {T : TypeId} {v : Value} {es : List (Int × Int)} (h : EvAt w T v es) {k : Nat} (hk : v.ownBlock = some k) : kd w k = T + 1 := by obtain ⟨cur, hc⟩ := row_obj h hk; exact kd_of hc
theorem EvAt.below {w w' : World} {T : TypeId} {v : Value} {es : List (Int × Int)} (h : EvAt w T v es) (hb : Below w.heap.size w w') : EvAt w' T v es := h.keep fun g hg => hb.block g (h.lt hg)
def seatC (B : Bp) : Su := ⟨33554432, 49152, 69, ptr B.pc⟩
def seatB (B : Bp) : Su := ⟨268500992, 256, 70, ptr B.pb⟩
def seatD (B : Bp) : Su := ⟨268566528, 20, 71, ptr B.pd⟩
def seatS (B : Bp) : Su := ⟨268632064, 16, 72, ptr B.ps⟩
def seatR (B : Bp) : Su := ⟨268697600, 36, 73, ptr B.pr⟩
def seatL (B : Bp) : Su := ⟨268763136, 12, 74, ptr B.pl⟩
def LpB (B : Bp) : Int -> List Su := lpAll (lpAll (lpAll (lpAll (lpAll (lpAll (fun _ => []) (seatC B)) (seatB B)) (seatD B)) (seatS B)) (seatR B)) (seatL B)
structure BdAt (w : World) (B : Bp) (x : Bx) : Prop where
 cell : w.heap[B.b]? = some (.cells B.cl.toArray tBd (0, 0))
 dv : DvAt w B x (wires B.n B.c x)
 bus : UBus w B.bp B.bm B.rv B.R B.ks B.pv (LpB B)
 ev : EvAt w tEv B.ev x.es
 ok : x.ok B.n B.c
 still : x.still
theorem UBus.kd {w : World} {p bm : Nat} {rv : Value} {R : List (Int × Int)} {ks : List Int} {pv : Int -> Value} {Lp : Int -> List Su} (h : UBus w p bm rv R ks pv Lp) {k : Nat} (hk : uBlocks p bm rv ks pv k) : busK (kd w k) = true := by
 rcases hk with rfl | rfl | hk | ⟨u, hu, hk⟩
 . rw [kd_of h.cell]; decide
 . rw [kd_map h.map]; decide
 . obtain ⟨cur, hc⟩ := row_obj h.regs hk; rw [kd_of hc]; decide
 . obtain ⟨cur, hc⟩ := row_obj (h.rows u hu) hk; rw [kd_of hc]; decide
section
variable {w w' : World} {B : Bp} {x : Bx}
theorem BdAt.lt (H : BdAt w B x) {k : Nat} (hk : B.all k) : k < w.heap.size := by
 rcases hk with (rfl | hk | hk) | rfl | hk
 . exact lt_of_block H.cell
 . exact H.dv.lt hk
 . exact H.ev.lt hk
 . exact H.dv.ltm
 . exact H.bus.lt k hk
theorem BdAt.kept (H : BdAt w B x) (hk : ∀ k, B.all k -> w'.heap[k]? = w.heap[k]?) : BdAt w' B x :=
 ⟨(hk _ (.inl (.inl rfl))).trans H.cell, H.dv.kept (fun k h => hk k (.inl (.inr (.inl h)))) (hk _ (.inr (.inl rfl))), H.bus.kept fun k h => hk k (.inr (.inr h)), H.ev.keep fun g hg => hk g (.inl (.inr (.inr hg))), H.ok, H.still⟩
theorem BdAt.below (H : BdAt w B x) (hb : Below w.heap.size w w') : BdAt w' B x := H.kept fun k hk => hb.block k (H.lt hk)
theorem BdAt.off {S : Nat -> Prop} (H : BdAt w B x) (ho : Off S w w') (hs : ∀ k, B.all k -> ¬ S k) : BdAt w' B x := H.kept fun k hk => ho.block k (H.lt hk) (hs k hk)
theorem BdAt.like {y : Bx} (H : BdAt w B x) (l : Bx.like B.c x y) : BdAt w B y :=
 ⟨H.cell, l.wires (n := B.n) ▸ H.dv.like l, H.bus, l.es ▸ H.ev, l.ok H.ok, l.still H.still⟩
theorem BdAt.busApart (H : BdAt w B x) {k : Nat} (hk : uBlocks B.bp B.bm B.rv B.ks B.pv k) : ¬ B.own k := by
 have hb := H.bus.kd hk
 rintro (rfl | hd | he)
 . rw [kd_of H.cell] at hb; revert hb; decide
 . rw [dev_bus (H.dv.kd hd)] at hb; cases hb
 . rw [H.ev.kd he] at hb; revert hb; decide
theorem BdAt.mcApart (H : BdAt w B x) : ¬ B.own B.mc := by
 have hm := kd_map H.dv.c.map
 rintro (h | hd | he)
 . rw [h, kd_of H.cell] at hm; cases hm
 . exact H.dv.noMc hd
 . rw [H.ev.kd he] at hm; cases hm
theorem BdAt.bApart (H : BdAt w B x) : ¬ B.dvs B.b := H.dv.no H.cell (by decide)
theorem BdAt.evApart (H : BdAt w B x) {k : Nat} (hk : B.ev.ownBlock = some k) : ¬ B.dvs k /\ k ≠ B.b := by
 have he := H.ev.kd hk
 refine ⟨fun hd => ?_, fun e => ?_⟩
 . have := H.dv.kd hd; rw [he] at this; revert this; decide
 . rw [e, kd_of H.cell] at he; revert he; decide
theorem BdAt.turn {y : Bx} (H : BdAt w B x) (D : DvAt w' B y (wires B.n B.c y)) (ho : Off B.dvs w w') (hes : y.es = x.es) (ok : y.ok B.n B.c) (st : y.still) : BdAt w' B y :=
 ⟨ho.at H.cell H.bApart, D, H.bus.ofOff ho fun k hk hd => H.busApart hk (.inr (.inl hd)), hes ▸ H.ev.keep fun g hg => ho.block g (H.ev.lt hg) (H.evApart hg).1, ok, st⟩
end
end Go.Proofs.YtpojmmgokgamgaaGreat.B
