/- Several texts in one: Layer 12: access over its two closures, Load, Store of a port; nil ones. (Written by tools/gen_port5.py.) What a port's call leaves of other blocks. -/
import Derived.Test.YtpojmmgokgamgaaGreatZVas
import Derived.Test.YtpojmmgokgamgaaGreatZVaw
import Derived.Test.YtpojmmgokgamgaaGreatZVax
import Derived.Test.YtpojmmgokgamgaaGreatZVay
set_option linter.unusedVariables false
set_option linter.unusedSimpArgs false
set_option maxRecDepth 100000
namespace Go.Proofs.YtpojmmgokgamgaaGreat.B
open Go.ChangeShapes Go.WideShapes Go.RowKit Go.Sort
def acV (p p2 : Pt) (V : Int) : Int := if p.dn = true then 0 else if p.pass.dn = true then 0 else if p2.dn = true then 0 else V
def acE (p p2 : Pt) (E : Int) : Int := if p.dn = true then 13 else if p.pass.dn = true then 13 else if p2.dn = true then 13 else E
def acS (p p2 : Pt) : Pt := if p.dn = true then p else if p.pass.dn = true then p.pass else p2
theorem PLeft.off {w w' : World} {q : Nat} {B : Bp} {p : Pt} {gv : Value} (L : PLeft q B p gv w w') : Off (fun k => k = q \/ B.own k) w w' := by obtain ⟨_, _, h, _⟩ := L; exact h
theorem box_keep {w w' : World} {q : Nat} {B : Bp} {p : Pt} {gv : Value} (H : PtAt w q B p gv) (ho : Off (fun k => k = q \/ B.own k) w w') {k : Nat} {cs : Array Value} {T : TypeId} {f : Nat × Nat} (h : w.heap[k]? = some (.cells cs T f)) (h1 : ownK (T + 1) = false) (h2 : (T == tPt) = false) : w'.heap[k]? = some (.cells cs T f) :=
 ho.at h fun e => by
  rcases e with e | e
  . exact apart_types h H.cell h2 e
  . have := H.bd.ownKd e; rw [kd_of h, h1] at this; cases this
set_option maxHeartbeats 800000 in
theorem pAccL0 (q : Nat) (B : Bp) (p : Pt) (gv : Value) (m : Nat) (x y : Nat) (V E : Int) (p2 : Pt) (w : World) (H : PtAt w q B p gv) (ok : p.ok m) (hm : m < 4294967290)
 (H2 : p.dn = false -> p.pass.dn = false -> p2.x.told /\ p2.se <= p2.x.es.length)
 (HF : Hid (∀ w1 ev1, p.dn = false -> p.pass.dn = false -> Off (fun k => k = q \/ B.own k) w w1 -> PtAt w1 q { B with ev := ev1 } p.pass gv -> Calls Tryz.prog 40 #[.pointer (some ⟨x, 0, none⟩), .pointer (some ⟨y, 0, none⟩)] w1 fun e w' => e = .returned (.tuple #[.int .u32 V, .int .i64 E]) /\ PLeft q { B with ev := ev1 } p2 gv w1 w')) (h0 : p.dn = true) :
 Calls Tryz.prog 39 #[.pointer (some ⟨q, 0, none⟩), .func (.func 40) #[] #[.pointer (some ⟨x, 0, none⟩), .pointer (some ⟨y, 0, none⟩)]] w fun e w' => e = .returned (.tuple #[.int .u32 0, .int .i64 13]) /\ PLeft q B p gv w w' := by
 have HD := Hd (pDown q B p gv w H ok.td ok.se)
 rw [h0] at HD
 have HH := Hd H
 clear H2 HF ok hm H h0
 go_enter Tryz.func39, Tryz.ntmps39
 go_wp2_with fail
 refine (HD.out).mono ?_
 rintro e w1 ⟨rfl, hb⟩
 have HX := Hd (HH.out.left hb)
 clear hb
 go_wp2_with fail
 go_ret2
 exact ⟨rfl, HX.out⟩
set_option maxHeartbeats 800000 in
theorem pAccL1 (q : Nat) (B : Bp) (p : Pt) (gv : Value) (m : Nat) (x y : Nat) (V E : Int) (p2 : Pt) (w : World) (H : PtAt w q B p gv) (ok : p.ok m) (hm : m < 4294967290)
 (H2 : p.dn = false -> p.pass.dn = false -> p2.x.told /\ p2.se <= p2.x.es.length)
 (HF : Hid (∀ w1 ev1, p.dn = false -> p.pass.dn = false -> Off (fun k => k = q \/ B.own k) w w1 -> PtAt w1 q { B with ev := ev1 } p.pass gv -> Calls Tryz.prog 40 #[.pointer (some ⟨x, 0, none⟩), .pointer (some ⟨y, 0, none⟩)] w1 fun e w' => e = .returned (.tuple #[.int .u32 V, .int .i64 E]) /\ PLeft q { B with ev := ev1 } p2 gv w1 w')) (h0 : p.dn = false) (h1 : p.pass.dn = true) :
 Calls Tryz.prog 39 #[.pointer (some ⟨q, 0, none⟩), .func (.func 40) #[] #[.pointer (some ⟨x, 0, none⟩), .pointer (some ⟨y, 0, none⟩)]] w fun e w' => e = .returned (.tuple #[.int .u32 0, .int .i64 13]) /\ PLeft q B p.pass gv w w' := by
 have HD := Hd (pDown q B p gv w H ok.td ok.se)
 rw [h0] at HD
 have HP := Hd (fun w' h => pPass q B p gv m w' h ok hm)
 have hpo := Pt.pass_ok ok H.bd.still hm
 have HD2 := Hd (fun w' ev' (h : PtAt w' q { B with ev := ev' } p.pass gv) => pDown q { B with ev := ev' } p.pass gv w' h hpo.td hpo.se)
 rw [h1] at HD2
 have HH := Hd H
 clear H2 HF
 clear hpo ok hm H h0 h1
 go_enter Tryz.func39, Tryz.ntmps39
 go_wp2_with fail
 refine (HD.out).mono ?_
 rintro e w1 ⟨rfl, hb⟩
 have HO := Hd (Off.ofBelow (S := fun k => k = q \/ B.own k) hb)
 have HH1 := Hd (HH.out.below hb)
 clear hb HD
 go_wp2_with fail
 refine (HP.out _ HH1.out).mono ?_
 rintro e w2 ⟨rfl, hL⟩
 have HL := Hd (PLeft.from HO.out hL)
 clear hL HH1 HO HP
 go_wp2_with fail
 obtain ⟨ev2, h2, ho2, he2⟩ := HL.out
 refine (HD2.out _ _ h2).mono ?_
 rintro e w3 ⟨rfl, hb⟩
 have HX := Hd (HL.out.below hb)
 have HH3 := Hd (h2.below hb)
 have HO3 := Hd (ho2.trans (Off.ofBelow hb))
 have HE3 := Hd he2
 clear hb h2 ho2 he2 HD2 HL
 go_wp2_with fail
 go_ret2
 exact ⟨rfl, HX.out⟩
set_option maxHeartbeats 800000 in
theorem pAccL2 (q : Nat) (B : Bp) (p : Pt) (gv : Value) (m : Nat) (x y : Nat) (V E : Int) (p2 : Pt) (w : World) (H : PtAt w q B p gv) (ok : p.ok m) (hm : m < 4294967290)
 (H2 : p.dn = false -> p.pass.dn = false -> p2.x.told /\ p2.se <= p2.x.es.length)
 (HF : Hid (∀ w1 ev1, p.dn = false -> p.pass.dn = false -> Off (fun k => k = q \/ B.own k) w w1 -> PtAt w1 q { B with ev := ev1 } p.pass gv -> Calls Tryz.prog 40 #[.pointer (some ⟨x, 0, none⟩), .pointer (some ⟨y, 0, none⟩)] w1 fun e w' => e = .returned (.tuple #[.int .u32 V, .int .i64 E]) /\ PLeft q { B with ev := ev1 } p2 gv w1 w')) (h0 : p.dn = false) (h1 : p.pass.dn = false) (h2 : p2.dn = true) :
 Calls Tryz.prog 39 #[.pointer (some ⟨q, 0, none⟩), .func (.func 40) #[] #[.pointer (some ⟨x, 0, none⟩), .pointer (some ⟨y, 0, none⟩)]] w fun e w' => e = .returned (.tuple #[.int .u32 0, .int .i64 13]) /\ PLeft q B p2 gv w w' := by
 have HD := Hd (pDown q B p gv w H ok.td ok.se)
 rw [h0] at HD
 have HP := Hd (fun w' h => pPass q B p gv m w' h ok hm)
 have hpo := Pt.pass_ok ok H.bd.still hm
 have HD2 := Hd (fun w' ev' (h : PtAt w' q { B with ev := ev' } p.pass gv) => pDown q { B with ev := ev' } p.pass gv w' h hpo.td hpo.se)
 rw [h1] at HD2
 have HH := Hd H
 have hq2 := H2 h0 h1
 have HFF := Hd (fun w1 ev1 => HF.out w1 ev1 h0 h1)
 have HD3 := Hd (fun w' C (h : PtAt w' q C p2 gv) => pDown q C p2 gv w' h hq2.1 hq2.2)
 rw [h2] at HD3
 clear H2 HF hq2 h2
 clear hpo ok hm H h0 h1
 go_enter Tryz.func39, Tryz.ntmps39
 go_wp2_with fail
 refine (HD.out).mono ?_
 rintro e w1 ⟨rfl, hb⟩
 have HO := Hd (Off.ofBelow (S := fun k => k = q \/ B.own k) hb)
 have HH1 := Hd (HH.out.below hb)
 clear hb HD
 go_wp2_with fail
 refine (HP.out _ HH1.out).mono ?_
 rintro e w2 ⟨rfl, hL⟩
 have HL := Hd (PLeft.from HO.out hL)
 clear hL HH1 HO HP
 go_wp2_with fail
 obtain ⟨ev2, h2, ho2, he2⟩ := HL.out
 refine (HD2.out _ _ h2).mono ?_
 rintro e w3 ⟨rfl, hb⟩
 have HX := Hd (HL.out.below hb)
 have HH3 := Hd (h2.below hb)
 have HO3 := Hd (ho2.trans (Off.ofBelow hb))
 have HE3 := Hd he2
 clear hb h2 ho2 he2 HD2 HL
 go_wp2_with fail
 refine (HFF.out _ ev2 HO3.out HH3.out).mono ?_
 rintro e w4 ⟨rfl, hL⟩
 obtain ⟨ev4, h4, ho4, he4⟩ := hL
 have HX4 := Hd (PLeft.andThen HO3.out HE3.out ⟨ev4, h4, ho4, he4⟩)
 have HH4 := Hd h4
 clear h4 ho4 he4 HH3 HFF HX HO3 HE3
 go_wp2_with fail
 refine (HD3.out _ _ HH4.out).mono ?_
 rintro e w5 ⟨rfl, hb⟩
 have HX5 := Hd (HX4.out.below hb)
 clear hb HX4 HH4 HD3
 go_wp2_with fail
 go_ret2
 exact ⟨rfl, HX5.out⟩
set_option maxHeartbeats 800000 in
theorem pAccL3 (q : Nat) (B : Bp) (p : Pt) (gv : Value) (m : Nat) (x y : Nat) (V E : Int) (p2 : Pt) (w : World) (H : PtAt w q B p gv) (ok : p.ok m) (hm : m < 4294967290)
 (H2 : p.dn = false -> p.pass.dn = false -> p2.x.told /\ p2.se <= p2.x.es.length)
 (HF : Hid (∀ w1 ev1, p.dn = false -> p.pass.dn = false -> Off (fun k => k = q \/ B.own k) w w1 -> PtAt w1 q { B with ev := ev1 } p.pass gv -> Calls Tryz.prog 40 #[.pointer (some ⟨x, 0, none⟩), .pointer (some ⟨y, 0, none⟩)] w1 fun e w' => e = .returned (.tuple #[.int .u32 V, .int .i64 E]) /\ PLeft q { B with ev := ev1 } p2 gv w1 w')) (h0 : p.dn = false) (h1 : p.pass.dn = false) (h2 : p2.dn = false) :
 Calls Tryz.prog 39 #[.pointer (some ⟨q, 0, none⟩), .func (.func 40) #[] #[.pointer (some ⟨x, 0, none⟩), .pointer (some ⟨y, 0, none⟩)]] w fun e w' => e = .returned (.tuple #[.int .u32 V, .int .i64 E]) /\ PLeft q B p2 gv w w' := by
 have HD := Hd (pDown q B p gv w H ok.td ok.se)
 rw [h0] at HD
 have HP := Hd (fun w' h => pPass q B p gv m w' h ok hm)
 have hpo := Pt.pass_ok ok H.bd.still hm
 have HD2 := Hd (fun w' ev' (h : PtAt w' q { B with ev := ev' } p.pass gv) => pDown q { B with ev := ev' } p.pass gv w' h hpo.td hpo.se)
 rw [h1] at HD2
 have HH := Hd H
 have hq2 := H2 h0 h1
 have HFF := Hd (fun w1 ev1 => HF.out w1 ev1 h0 h1)
 have HD3 := Hd (fun w' C (h : PtAt w' q C p2 gv) => pDown q C p2 gv w' h hq2.1 hq2.2)
 rw [h2] at HD3
 clear H2 HF hq2 h2
 clear hpo ok hm H h0 h1
 go_enter Tryz.func39, Tryz.ntmps39
 go_wp2_with fail
 refine (HD.out).mono ?_
 rintro e w1 ⟨rfl, hb⟩
 have HO := Hd (Off.ofBelow (S := fun k => k = q \/ B.own k) hb)
 have HH1 := Hd (HH.out.below hb)
 clear hb HD
 go_wp2_with fail
 refine (HP.out _ HH1.out).mono ?_
 rintro e w2 ⟨rfl, hL⟩
 have HL := Hd (PLeft.from HO.out hL)
 clear hL HH1 HO HP
 go_wp2_with fail
 obtain ⟨ev2, h2, ho2, he2⟩ := HL.out
 refine (HD2.out _ _ h2).mono ?_
 rintro e w3 ⟨rfl, hb⟩
 have HX := Hd (HL.out.below hb)
 have HH3 := Hd (h2.below hb)
 have HO3 := Hd (ho2.trans (Off.ofBelow hb))
 have HE3 := Hd he2
 clear hb h2 ho2 he2 HD2 HL
 go_wp2_with fail
 refine (HFF.out _ ev2 HO3.out HH3.out).mono ?_
 rintro e w4 ⟨rfl, hL⟩
 obtain ⟨ev4, h4, ho4, he4⟩ := hL
 have HX4 := Hd (PLeft.andThen HO3.out HE3.out ⟨ev4, h4, ho4, he4⟩)
 have HH4 := Hd h4
 clear h4 ho4 he4 HH3 HFF HX HO3 HE3
 go_wp2_with fail
 refine (HD3.out _ _ HH4.out).mono ?_
 rintro e w5 ⟨rfl, hb⟩
 have HX5 := Hd (HX4.out.below hb)
 clear hb HX4 HH4 HD3
 go_wp2_with fail
 go_ret2
 exact ⟨rfl, HX5.out⟩
theorem pAccL (q : Nat) (B : Bp) (p : Pt) (gv : Value) (m : Nat) (x y : Nat) (V E : Int) (p2 : Pt) (w : World) (H : PtAt w q B p gv) (ok : p.ok m) (hm : m < 4294967290)
 (H2 : p.dn = false -> p.pass.dn = false -> p2.x.told /\ p2.se <= p2.x.es.length)
 (HF : Hid (∀ w1 ev1, p.dn = false -> p.pass.dn = false -> Off (fun k => k = q \/ B.own k) w w1 -> PtAt w1 q { B with ev := ev1 } p.pass gv -> Calls Tryz.prog 40 #[.pointer (some ⟨x, 0, none⟩), .pointer (some ⟨y, 0, none⟩)] w1 fun e w' => e = .returned (.tuple #[.int .u32 V, .int .i64 E]) /\ PLeft q { B with ev := ev1 } p2 gv w1 w')) :
 Calls Tryz.prog 39 #[.pointer (some ⟨q, 0, none⟩), .func (.func 40) #[] #[.pointer (some ⟨x, 0, none⟩), .pointer (some ⟨y, 0, none⟩)]] w fun e w' => e = .returned (.tuple #[.int .u32 (acV p p2 V), .int .i64 (acE p p2 E)]) /\ PLeft q B (acS p p2) gv w w' := by
 unfold acV acE acS
 cases h0 : p.dn
 . cases h1 : p.pass.dn
   . cases h2 : p2.dn
     . exact pAccL3 q B p gv m x y V E p2 w H ok hm H2 HF h0 h1 h2
     . exact pAccL2 q B p gv m x y V E p2 w H ok hm H2 HF h0 h1 h2
   . exact pAccL1 q B p gv m x y V E p2 w H ok hm H2 HF h0 h1
 . exact pAccL0 q B p gv m x y V E p2 w H ok hm H2 HF h0
set_option maxHeartbeats 800000 in
theorem pAccS0 (q : Nat) (B : Bp) (p : Pt) (gv : Value) (m : Nat) (x y z : Nat) (V E : Int) (p2 : Pt) (w : World) (H : PtAt w q B p gv) (ok : p.ok m) (hm : m < 4294967290)
 (H2 : p.dn = false -> p.pass.dn = false -> p2.x.told /\ p2.se <= p2.x.es.length)
 (HF : Hid (∀ w1 ev1, p.dn = false -> p.pass.dn = false -> Off (fun k => k = q \/ B.own k) w w1 -> PtAt w1 q { B with ev := ev1 } p.pass gv -> Calls Tryz.prog 42 #[.pointer (some ⟨x, 0, none⟩), .pointer (some ⟨y, 0, none⟩), .pointer (some ⟨z, 0, none⟩)] w1 fun e w' => e = .returned (.tuple #[.int .u32 V, .int .i64 E]) /\ PLeft q { B with ev := ev1 } p2 gv w1 w')) (h0 : p.dn = true) :
 Calls Tryz.prog 39 #[.pointer (some ⟨q, 0, none⟩), .func (.func 42) #[] #[.pointer (some ⟨x, 0, none⟩), .pointer (some ⟨y, 0, none⟩), .pointer (some ⟨z, 0, none⟩)]] w fun e w' => e = .returned (.tuple #[.int .u32 0, .int .i64 13]) /\ PLeft q B p gv w w' := by
 have HD := Hd (pDown q B p gv w H ok.td ok.se)
 rw [h0] at HD
 have HH := Hd H
 clear H2 HF ok hm H h0
 go_enter Tryz.func39, Tryz.ntmps39
 go_wp2_with fail
 refine (HD.out).mono ?_
 rintro e w1 ⟨rfl, hb⟩
 have HX := Hd (HH.out.left hb)
 clear hb
 go_wp2_with fail
 go_ret2
 exact ⟨rfl, HX.out⟩
set_option maxHeartbeats 800000 in
theorem pAccS1 (q : Nat) (B : Bp) (p : Pt) (gv : Value) (m : Nat) (x y z : Nat) (V E : Int) (p2 : Pt) (w : World) (H : PtAt w q B p gv) (ok : p.ok m) (hm : m < 4294967290)
 (H2 : p.dn = false -> p.pass.dn = false -> p2.x.told /\ p2.se <= p2.x.es.length)
 (HF : Hid (∀ w1 ev1, p.dn = false -> p.pass.dn = false -> Off (fun k => k = q \/ B.own k) w w1 -> PtAt w1 q { B with ev := ev1 } p.pass gv -> Calls Tryz.prog 42 #[.pointer (some ⟨x, 0, none⟩), .pointer (some ⟨y, 0, none⟩), .pointer (some ⟨z, 0, none⟩)] w1 fun e w' => e = .returned (.tuple #[.int .u32 V, .int .i64 E]) /\ PLeft q { B with ev := ev1 } p2 gv w1 w')) (h0 : p.dn = false) (h1 : p.pass.dn = true) :
 Calls Tryz.prog 39 #[.pointer (some ⟨q, 0, none⟩), .func (.func 42) #[] #[.pointer (some ⟨x, 0, none⟩), .pointer (some ⟨y, 0, none⟩), .pointer (some ⟨z, 0, none⟩)]] w fun e w' => e = .returned (.tuple #[.int .u32 0, .int .i64 13]) /\ PLeft q B p.pass gv w w' := by
 have HD := Hd (pDown q B p gv w H ok.td ok.se)
 rw [h0] at HD
 have HP := Hd (fun w' h => pPass q B p gv m w' h ok hm)
 have hpo := Pt.pass_ok ok H.bd.still hm
 have HD2 := Hd (fun w' ev' (h : PtAt w' q { B with ev := ev' } p.pass gv) => pDown q { B with ev := ev' } p.pass gv w' h hpo.td hpo.se)
 rw [h1] at HD2
 have HH := Hd H
 clear H2 HF
 clear hpo ok hm H h0 h1
 go_enter Tryz.func39, Tryz.ntmps39
 go_wp2_with fail
 refine (HD.out).mono ?_
 rintro e w1 ⟨rfl, hb⟩
 have HO := Hd (Off.ofBelow (S := fun k => k = q \/ B.own k) hb)
 have HH1 := Hd (HH.out.below hb)
 clear hb HD
 go_wp2_with fail
 refine (HP.out _ HH1.out).mono ?_
 rintro e w2 ⟨rfl, hL⟩
 have HL := Hd (PLeft.from HO.out hL)
 clear hL HH1 HO HP
 go_wp2_with fail
 obtain ⟨ev2, h2, ho2, he2⟩ := HL.out
 refine (HD2.out _ _ h2).mono ?_
 rintro e w3 ⟨rfl, hb⟩
 have HX := Hd (HL.out.below hb)
 have HH3 := Hd (h2.below hb)
 have HO3 := Hd (ho2.trans (Off.ofBelow hb))
 have HE3 := Hd he2
 clear hb h2 ho2 he2 HD2 HL
 go_wp2_with fail
 go_ret2
 exact ⟨rfl, HX.out⟩
set_option maxHeartbeats 800000 in
theorem pAccS2 (q : Nat) (B : Bp) (p : Pt) (gv : Value) (m : Nat) (x y z : Nat) (V E : Int) (p2 : Pt) (w : World) (H : PtAt w q B p gv) (ok : p.ok m) (hm : m < 4294967290)
 (H2 : p.dn = false -> p.pass.dn = false -> p2.x.told /\ p2.se <= p2.x.es.length)
 (HF : Hid (∀ w1 ev1, p.dn = false -> p.pass.dn = false -> Off (fun k => k = q \/ B.own k) w w1 -> PtAt w1 q { B with ev := ev1 } p.pass gv -> Calls Tryz.prog 42 #[.pointer (some ⟨x, 0, none⟩), .pointer (some ⟨y, 0, none⟩), .pointer (some ⟨z, 0, none⟩)] w1 fun e w' => e = .returned (.tuple #[.int .u32 V, .int .i64 E]) /\ PLeft q { B with ev := ev1 } p2 gv w1 w')) (h0 : p.dn = false) (h1 : p.pass.dn = false) (h2 : p2.dn = true) :
 Calls Tryz.prog 39 #[.pointer (some ⟨q, 0, none⟩), .func (.func 42) #[] #[.pointer (some ⟨x, 0, none⟩), .pointer (some ⟨y, 0, none⟩), .pointer (some ⟨z, 0, none⟩)]] w fun e w' => e = .returned (.tuple #[.int .u32 0, .int .i64 13]) /\ PLeft q B p2 gv w w' := by
 have HD := Hd (pDown q B p gv w H ok.td ok.se)
 rw [h0] at HD
 have HP := Hd (fun w' h => pPass q B p gv m w' h ok hm)
 have hpo := Pt.pass_ok ok H.bd.still hm
 have HD2 := Hd (fun w' ev' (h : PtAt w' q { B with ev := ev' } p.pass gv) => pDown q { B with ev := ev' } p.pass gv w' h hpo.td hpo.se)
 rw [h1] at HD2
 have HH := Hd H
 have hq2 := H2 h0 h1
 have HFF := Hd (fun w1 ev1 => HF.out w1 ev1 h0 h1)
 have HD3 := Hd (fun w' C (h : PtAt w' q C p2 gv) => pDown q C p2 gv w' h hq2.1 hq2.2)
 rw [h2] at HD3
 clear H2 HF hq2 h2
 clear hpo ok hm H h0 h1
 go_enter Tryz.func39, Tryz.ntmps39
 go_wp2_with fail
 refine (HD.out).mono ?_
 rintro e w1 ⟨rfl, hb⟩
 have HO := Hd (Off.ofBelow (S := fun k => k = q \/ B.own k) hb)
 have HH1 := Hd (HH.out.below hb)
 clear hb HD
 go_wp2_with fail
 refine (HP.out _ HH1.out).mono ?_
 rintro e w2 ⟨rfl, hL⟩
 have HL := Hd (PLeft.from HO.out hL)
 clear hL HH1 HO HP
 go_wp2_with fail
 obtain ⟨ev2, h2, ho2, he2⟩ := HL.out
 refine (HD2.out _ _ h2).mono ?_
 rintro e w3 ⟨rfl, hb⟩
 have HX := Hd (HL.out.below hb)
 have HH3 := Hd (h2.below hb)
 have HO3 := Hd (ho2.trans (Off.ofBelow hb))
 have HE3 := Hd he2
 clear hb h2 ho2 he2 HD2 HL
 go_wp2_with fail
 refine (HFF.out _ ev2 HO3.out HH3.out).mono ?_
 rintro e w4 ⟨rfl, hL⟩
 obtain ⟨ev4, h4, ho4, he4⟩ := hL
 have HX4 := Hd (PLeft.andThen HO3.out HE3.out ⟨ev4, h4, ho4, he4⟩)
 have HH4 := Hd h4
 clear h4 ho4 he4 HH3 HFF HX HO3 HE3
 go_wp2_with fail
 refine (HD3.out _ _ HH4.out).mono ?_
 rintro e w5 ⟨rfl, hb⟩
 have HX5 := Hd (HX4.out.below hb)
 clear hb HX4 HH4 HD3
 go_wp2_with fail
 go_ret2
 exact ⟨rfl, HX5.out⟩
set_option maxHeartbeats 800000 in
theorem pAccS3 (q : Nat) (B : Bp) (p : Pt) (gv : Value) (m : Nat) (x y z : Nat) (V E : Int) (p2 : Pt) (w : World) (H : PtAt w q B p gv) (ok : p.ok m) (hm : m < 4294967290)
 (H2 : p.dn = false -> p.pass.dn = false -> p2.x.told /\ p2.se <= p2.x.es.length)
 (HF : Hid (∀ w1 ev1, p.dn = false -> p.pass.dn = false -> Off (fun k => k = q \/ B.own k) w w1 -> PtAt w1 q { B with ev := ev1 } p.pass gv -> Calls Tryz.prog 42 #[.pointer (some ⟨x, 0, none⟩), .pointer (some ⟨y, 0, none⟩), .pointer (some ⟨z, 0, none⟩)] w1 fun e w' => e = .returned (.tuple #[.int .u32 V, .int .i64 E]) /\ PLeft q { B with ev := ev1 } p2 gv w1 w')) (h0 : p.dn = false) (h1 : p.pass.dn = false) (h2 : p2.dn = false) :
 Calls Tryz.prog 39 #[.pointer (some ⟨q, 0, none⟩), .func (.func 42) #[] #[.pointer (some ⟨x, 0, none⟩), .pointer (some ⟨y, 0, none⟩), .pointer (some ⟨z, 0, none⟩)]] w fun e w' => e = .returned (.tuple #[.int .u32 V, .int .i64 E]) /\ PLeft q B p2 gv w w' := by
 have HD := Hd (pDown q B p gv w H ok.td ok.se)
 rw [h0] at HD
 have HP := Hd (fun w' h => pPass q B p gv m w' h ok hm)
 have hpo := Pt.pass_ok ok H.bd.still hm
 have HD2 := Hd (fun w' ev' (h : PtAt w' q { B with ev := ev' } p.pass gv) => pDown q { B with ev := ev' } p.pass gv w' h hpo.td hpo.se)
 rw [h1] at HD2
 have HH := Hd H
 have hq2 := H2 h0 h1
 have HFF := Hd (fun w1 ev1 => HF.out w1 ev1 h0 h1)
 have HD3 := Hd (fun w' C (h : PtAt w' q C p2 gv) => pDown q C p2 gv w' h hq2.1 hq2.2)
 rw [h2] at HD3
 clear H2 HF hq2 h2
 clear hpo ok hm H h0 h1
 go_enter Tryz.func39, Tryz.ntmps39
 go_wp2_with fail
 refine (HD.out).mono ?_
 rintro e w1 ⟨rfl, hb⟩
 have HO := Hd (Off.ofBelow (S := fun k => k = q \/ B.own k) hb)
 have HH1 := Hd (HH.out.below hb)
 clear hb HD
 go_wp2_with fail
 refine (HP.out _ HH1.out).mono ?_
 rintro e w2 ⟨rfl, hL⟩
 have HL := Hd (PLeft.from HO.out hL)
 clear hL HH1 HO HP
 go_wp2_with fail
 obtain ⟨ev2, h2, ho2, he2⟩ := HL.out
 refine (HD2.out _ _ h2).mono ?_
 rintro e w3 ⟨rfl, hb⟩
 have HX := Hd (HL.out.below hb)
 have HH3 := Hd (h2.below hb)
 have HO3 := Hd (ho2.trans (Off.ofBelow hb))
 have HE3 := Hd he2
 clear hb h2 ho2 he2 HD2 HL
 go_wp2_with fail
 refine (HFF.out _ ev2 HO3.out HH3.out).mono ?_
 rintro e w4 ⟨rfl, hL⟩
 obtain ⟨ev4, h4, ho4, he4⟩ := hL
 have HX4 := Hd (PLeft.andThen HO3.out HE3.out ⟨ev4, h4, ho4, he4⟩)
 have HH4 := Hd h4
 clear h4 ho4 he4 HH3 HFF HX HO3 HE3
 go_wp2_with fail
 refine (HD3.out _ _ HH4.out).mono ?_
 rintro e w5 ⟨rfl, hb⟩
 have HX5 := Hd (HX4.out.below hb)
 clear hb HX4 HH4 HD3
 go_wp2_with fail
 go_ret2
 exact ⟨rfl, HX5.out⟩
theorem pAccS (q : Nat) (B : Bp) (p : Pt) (gv : Value) (m : Nat) (x y z : Nat) (V E : Int) (p2 : Pt) (w : World) (H : PtAt w q B p gv) (ok : p.ok m) (hm : m < 4294967290)
 (H2 : p.dn = false -> p.pass.dn = false -> p2.x.told /\ p2.se <= p2.x.es.length)
 (HF : Hid (∀ w1 ev1, p.dn = false -> p.pass.dn = false -> Off (fun k => k = q \/ B.own k) w w1 -> PtAt w1 q { B with ev := ev1 } p.pass gv -> Calls Tryz.prog 42 #[.pointer (some ⟨x, 0, none⟩), .pointer (some ⟨y, 0, none⟩), .pointer (some ⟨z, 0, none⟩)] w1 fun e w' => e = .returned (.tuple #[.int .u32 V, .int .i64 E]) /\ PLeft q { B with ev := ev1 } p2 gv w1 w')) :
 Calls Tryz.prog 39 #[.pointer (some ⟨q, 0, none⟩), .func (.func 42) #[] #[.pointer (some ⟨x, 0, none⟩), .pointer (some ⟨y, 0, none⟩), .pointer (some ⟨z, 0, none⟩)]] w fun e w' => e = .returned (.tuple #[.int .u32 (acV p p2 V), .int .i64 (acE p p2 E)]) /\ PLeft q B (acS p p2) gv w w' := by
 unfold acV acE acS
 cases h0 : p.dn
 . cases h1 : p.pass.dn
   . cases h2 : p2.dn
     . exact pAccS3 q B p gv m x y z V E p2 w H ok hm H2 HF h0 h1 h2
     . exact pAccS2 q B p gv m x y z V E p2 w H ok hm H2 HF h0 h1 h2
   . exact pAccS1 q B p gv m x y z V E p2 w H ok hm H2 HF h0 h1
 . exact pAccS0 q B p gv m x y z V E p2 w H ok hm H2 HF h0
theorem pAccLNil (x y : Nat) (w : World) : Calls Tryz.prog 39 #[.pointer none, .func (.func 40) #[] #[.pointer (some ⟨x, 0, none⟩), .pointer (some ⟨y, 0, none⟩)]] w fun e w' => e = .returned (.tuple #[.int .u32 0, .int .i64 1]) /\ Below w.heap.size w w' := by
 go_enter Tryz.func39, Tryz.ntmps39
 go_wp2_with fail
 go_ret2
 exact ⟨rfl, tr0 _⟩
theorem pAccSNil (x y z : Nat) (w : World) : Calls Tryz.prog 39 #[.pointer none, .func (.func 42) #[] #[.pointer (some ⟨x, 0, none⟩), .pointer (some ⟨y, 0, none⟩), .pointer (some ⟨z, 0, none⟩)]] w fun e w' => e = .returned (.tuple #[.int .u32 0, .int .i64 1]) /\ Below w.heap.size w w' := by
 go_enter Tryz.func39, Tryz.ntmps39
 go_wp2_with fail
 go_ret2
 exact ⟨rfl, tr0 _⟩
abbrev tPp : TypeId := 31
def bxP (q : Nat) : Obj := .cells #[.pointer (some ⟨q, 0, none⟩)] tPp (0, 0)
def bxU (a : Int) : Obj := .cells #[.int .u32 a] tU (0, 0)
set_option maxHeartbeats 800000 in
theorem pLoadF (q : Nat) (C : Bp) (p : Pt) (gv : Value) (x y : Nat) (a : Int) (w : World) (H : PtAt w q C p gv) (hx : w.heap[x]? = some (bxP q)) (hy : w.heap[y]? = some (bxU a)) (a0 : 0 <= a) (a1 : a < 4294967296) :
 Calls Tryz.prog 40 #[.pointer (some ⟨x, 0, none⟩), .pointer (some ⟨y, 0, none⟩)] w fun e w' => e = .returned (.tuple #[.int .u32 (p.x.ldv C.n C.c a), .int .i64 (Bx.lde C.n C.c a)]) /\ Below w.heap.size w w' := by
 have HL := Hd (show ∀ w', BdAt w' C p.x -> _ from fun w' h => bdLoad C p.x a w' h a0 a1)
 have HH := Hd H
 have cx := blk_cell hx 0
 have cy := blk_cell hy 0
 simp only [List.getElem?_toArray, List.getElem?_cons_zero] at cx cy
 have hlx := lt_of_block hx
 have hly := lt_of_block hy
 have c3 := H.c3
 have hq := H.lt
 have hg := gcell
 clear H hx hy a0 a1
 go_enter Tryz.func40, Tryz.ntmps40
 go_upto_region 1 with (fail)
 refine wp_region_quiet_below (by kernel_rfl) (by kernel_rfl) ?_
 repeat (go_big_quiet_step (first | (go_at_call 41; exact Calls.regrown_of (HL.out _ (HH.out.bd.below (below_regrown w _ _))))))
 refine wpQuiet_nil ?_
 intro _ hw'
 obtain ⟨⟨dq, osq⟩, hw''⟩ := hw'
 subst hw''
 go_wp2_with fail
 go_ret2
 exact ⟨rfl, below_regrown w _ _⟩
theorem pStoreF (q : Nat) (C : Bp) (p : Pt) (gv : Value) (x y z : Nat) (a v : Int) (w : World) (H : PtAt w q C p gv) (hx : w.heap[x]? = some (bxP q)) (hy : w.heap[y]? = some (bxU a)) (hz : w.heap[z]? = some (bxU v)) (a0 : 0 <= a) (a1 : a < 4294967296) (v0 : 0 <= v) (v1 : v < 4294967296) (hl : p.x.es.length < 4294967296) :
 Calls Tryz.prog 42 #[.pointer (some ⟨x, 0, none⟩), .pointer (some ⟨y, 0, none⟩), .pointer (some ⟨z, 0, none⟩)] w fun e w' => e = .returned (.tuple #[.int .u32 0, .int .i64 (Bx.ste C.n C.c a)]) /\ PLeft q C (p.put C.n C.c a v) gv w w' := by
 have HL := Hd (show ∀ w', BdAt w' C p.x -> _ from fun w' h => bdStore C p.x a v w' h a0 a1 v0 v1 hl)
 have HH := Hd H
 have cx := blk_cell hx 0
 have cy := blk_cell hy 0
 have cz := blk_cell hz 0
 simp only [List.getElem?_toArray, List.getElem?_cons_zero] at cx cy cz
 have hlx := lt_of_block hx
 have hly := lt_of_block hy
 have hlz := lt_of_block hz
 have c3 := H.c3
 have hq := H.lt
 have hg := gcell
 clear H hx hy hz a0 a1 v0 v1 hl
 go_enter Tryz.func42, Tryz.ntmps42
 go_upto_region 1 with (fail)
 refine wp_region_mix_below 6 (by kernel_rfl) (by kernel_rfl) (by intro _ _ d _ _ h; cases d <;> exact h) ?_
 simp only [List.take_succ_cons, List.take_zero, List.drop_succ_cons, List.drop_zero]
 repeat (go_big_quiet_step (fail))
 refine wpQuiet_nil ?_
 intro _ hw'
 obtain ⟨⟨dq, osq⟩, hw''⟩ := hw'
 subst hw''
 have hb := below_regrown w dq osq
 have HH1 := Hd (HH.out.below hb)
 have HO := Hd (Off.ofBelow (S := fun k => k = q \/ C.own k) hb)
 clear hb hg cx cy cz c3
 dsimp only at HH1 HO ⊢
 generalize grow (redrawn w dq) osq = W at *
 go_wp2_with (go_at_call 43; refine (HL.out _ HH1.out.bd).mono ?_; rintro e w2 ⟨rfl, hL⟩; have HX := Hd (PLeft.from HO.out (HH1.out.board hL)); clear hL)
 go_ret2
 exact ⟨rfl, HX.out⟩
theorem ac_load (n c : Nat) (p : Pt) (a : Int) : acV p p.pass (p.pass.x.ldv n c a) = p.ldv n c a /\ acE p p.pass (Bx.lde n c a) = p.lde n c a /\ acS p p.pass = p.ldp := by
 unfold acV acE acS Pt.ldv Pt.lde Pt.ldp
 cases h0 : p.dn <;> cases h1 : p.pass.dn <;> simp
theorem ac_store (n c : Nat) (p : Pt) (a v : Int) : acE p (p.pass.put n c a v) (Bx.ste n c a) = p.ste n c a v /\ acS p (p.pass.put n c a v) = p.stp n c a v := by
 unfold acE acS Pt.ste Pt.stp
 exact ⟨rfl, rfl⟩
set_option maxHeartbeats 800000 in
theorem pLoad (q : Nat) (B : Bp) (p : Pt) (gv : Value) (m : Nat) (a : Int) (w : World) (H : PtAt w q B p gv) (ok : p.ok m) (hm : m < 4294967290) (a0 : 0 <= a) (a1 : a < 4294967296) :
 Calls Tryz.prog 17 #[.pointer (some ⟨q, 0, none⟩), .int .u32 a] w fun e w' => e = .returned (.tuple #[.int .u32 (p.ldv B.n B.c a), .int .i64 (p.lde B.n B.c a)]) /\ PLeft q B p.ldp gv w w' := by
 have hb := trA (trA (tr0 w) (bxP q)) (bxU a)
 have hpo := Pt.pass_ok ok H.bd.still hm
 have hx := b2_0 w (bxP q) (bxU a)
 have hy := b2_1 w (bxP q) (bxU a)
 have HH := H.below hb
 have HA := Hd (pAccL q B p gv m w.heap.size (w.heap.size + 1) (p.pass.x.ldv B.n B.c a) (Bx.lde B.n B.c a) p.pass _ HH ok hm (fun _ _ => ⟨hpo.td, hpo.se⟩) (Hd fun w1 ev1 _ _ ho h => (pLoadF q { B with ev := ev1 } p.pass gv _ _ a w1 h (box_keep HH ho hx (by decide) rfl) (box_keep HH ho hy (by decide) rfl) a0 a1).mono fun e w' g => ⟨g.1, h.left g.2⟩))
 rw [(ac_load B.n B.c p a).1, (ac_load B.n B.c p a).2.1, (ac_load B.n B.c p a).2.2] at HA
 have HO := Hd (Off.ofBelow (S := fun k => k = q \/ B.own k) hb)
 have cx := blk_cell hx 0
 simp only [List.getElem?_toArray, List.getElem?_cons_zero] at cx
 clear HH hpo H ok hm a0 a1 hb hx hy
 go_enter Tryz.func17, Tryz.ntmps17
 go_upto_region 1 with (fail)
 rw [show Obj.cells #[.pointer (some ⟨q, 0, none⟩)] 31 (0, 0) = bxP q from rfl, show Obj.cells #[.int .u32 a] 22 (0, 0) = bxU a from rfl]
 generalize (w.alloc (bxP q)).alloc (bxU a) = W at *
 go_wp2_with fail
 refine (HA.out).mono ?_
 rintro e w1 ⟨rfl, hL⟩
 have HX := Hd (PLeft.from HO.out hL)
 clear hL
 go_wp2_with fail
 go_ret2
 exact ⟨rfl, HX.out⟩
set_option maxHeartbeats 800000 in
theorem pStore (q : Nat) (B : Bp) (p : Pt) (gv : Value) (m : Nat) (a v : Int) (w : World) (H : PtAt w q B p gv) (ok : p.ok m) (hm : m < 4294967290) (a0 : 0 <= a) (a1 : a < 4294967296) (v0 : 0 <= v) (v1 : v < 4294967296) :
 Calls Tryz.prog 18 #[.pointer (some ⟨q, 0, none⟩), .int .u32 a, .int .u32 v] w fun e w' => e = .returned (.int .i64 (p.ste B.n B.c a v)) /\ PLeft q B (p.stp B.n B.c a v) gv w w' := by
 have hb := trA (trA (trA (tr0 w) (bxP q)) (bxU a)) (bxU v)
 have gb := Pt.gp_bounds ok.gs
 have hps := (Bx.tick_ok H.bd.ok H.bd.still (N := p.gp) gb.1 (by omega)).2
 have hx := b3_0 w (bxP q) (bxU a) (bxU v)
 have hy := b3_1 w (bxP q) (bxU a) (bxU v)
 have hz := b3_2 w (bxP q) (bxU a) (bxU v)
 have HH := H.below hb
 have HA := Hd (pAccS q B p gv m w.heap.size (w.heap.size + 1) (w.heap.size + 2) 0 (Bx.ste B.n B.c a) (p.pass.put B.n B.c a v) _ HH ok hm
  (fun h0 h1 => have h2 := Pt.stored_ok (n := B.n) (c := B.c) ok HH.bd.still hps hm h0 h1 a v; ⟨h2.td, h2.se⟩)
  (Hd fun w1 ev1 h0 h1 ho h => pStoreF q { B with ev := ev1 } p.pass gv _ _ _ a v w1 h (box_keep HH ho hx (by decide) rfl) (box_keep HH ho hy (by decide) rfl) (box_keep HH ho hz (by decide) rfl) a0 a1 v0 v1 (by have := Pt.passed_ok ok HH.bd.still hm h0 h1; omega)))
 rw [(ac_store B.n B.c p a v).1, (ac_store B.n B.c p a v).2] at HA
 have HO := Hd (Off.ofBelow (S := fun k => k = q \/ B.own k) hb)
 have cx := blk_cell hx 0
 simp only [List.getElem?_toArray, List.getElem?_cons_zero] at cx
 clear HH hps gb H ok hm a0 a1 v0 v1 hb hx hy hz
 go_enter Tryz.func18, Tryz.ntmps18
 go_upto_region 1 with (fail)
 rw [show Obj.cells #[.pointer (some ⟨q, 0, none⟩)] 31 (0, 0) = bxP q from rfl, show Obj.cells #[.int .u32 a] 22 (0, 0) = bxU a from rfl, show Obj.cells #[.int .u32 v] 22 (0, 0) = bxU v from rfl]
 generalize ((w.alloc (bxP q)).alloc (bxU a)).alloc (bxU v) = W at *
 go_wp2_with fail
 refine (HA.out).mono ?_
 rintro e w1 ⟨rfl, hL⟩
 have HX := Hd (PLeft.from HO.out hL)
 clear hL
 go_wp2_with fail
 go_ret
 exact ⟨rfl, HX.out⟩
theorem pLoadNil (a : Int) (w : World) : Calls Tryz.prog 17 #[.pointer none, .int .u32 a] w fun e w' => e = .returned (.tuple #[.int .u32 0, .int .i64 1]) /\ Below w.heap.size w w' := by
 have hb := trA (trA (tr0 w) (.cells #[.pointer none] tPp (0, 0))) (bxU a)
 go_enter Tryz.func17, Tryz.ntmps17
 go_wp2_with fail
 refine (pAccLNil _ _ _).mono ?_
 rintro e w1 ⟨rfl, hb1⟩
 go_wp2_with fail
 go_ret2
 exact ⟨rfl, tr hb hb1⟩
theorem pStoreNil (a v : Int) (w : World) : Calls Tryz.prog 18 #[.pointer none, .int .u32 a, .int .u32 v] w fun e w' => e = .returned (.int .i64 1) /\ Below w.heap.size w w' := by
 have hb := trA (trA (trA (tr0 w) (.cells #[.pointer none] tPp (0, 0))) (bxU a)) (bxU v)
 go_enter Tryz.func18, Tryz.ntmps18
 go_wp2_with fail
 refine (pAccSNil _ _ _ _).mono ?_
 rintro e w1 ⟨rfl, hb1⟩
 go_wp2_with fail
 go_ret
 exact ⟨rfl, tr hb hb1⟩
def Kq (w w' : World) : Prop := ∀ (k : Nat) (cs : Array Value) (T : TypeId) (f : Nat × Nat), w.heap[k]? = some (.cells cs T f) -> ownK (T + 1) = false -> (T == tPt) = false -> w'.heap[k]? = some (.cells cs T f)
theorem Kq.refl (w : World) : Kq w w := fun _ _ _ _ h _ _ => h
theorem Kq.trans {a b c : World} (h : Kq a b) (g : Kq b c) : Kq a c := fun k cs T f hk hT hP => g k cs T f (h k cs T f hk hT hP) hT hP
theorem Kq.ofBelow {w w' : World} (hb : Below w.heap.size w w') : Kq w w' := fun _ _ _ _ h _ _ => blk_below hb h (lt_of_block h)
theorem Kq.ofOff {w w' : World} {r : Nat} {cs : Array Value} {T : TypeId} {f : Nat × Nat} (hr : w.heap[r]? = some (.cells cs T f)) (ho : Off (· = r) w w') (hT : (T == tPt) = true \/ ownK (T + 1) = true) : Kq w w' := fun k cs' T' f' hk h1 h2 =>
 ho.at hk fun e => by
  rw [e, hr] at hk
  cases hk
  rcases hT with h | h
  . rw [h2] at h; cases h
  . rw [h1] at h; cases h
structure Lp (s q : Nat) (B C : Bp) (p : Pt) (gv : Value) (w w' : World) : Prop where
 h : PtAt w' q C p gv
 nw : C.new s
 e : C.b = B.b
 n : C.n = B.n
 c : C.c = B.c
 d : C.div = B.div
 lo : Below s w w'
 kq : Kq w w'
section
variable {w w' w'' : World} {s q : Nat} {B C : Bp} {p p0 : Pt} {gv gv0 : Value}
theorem PLeft.kq (H : PtAt w q B p0 gv0) (L : PLeft q B p gv w w') : Kq w w' := fun k cs T f hk hT hP => L.off.at hk fun e => by
 rcases e with e | e
 . rw [e, H.cell] at hk; cases hk; cases hP
 . have := H.bd.ownKd e; rw [kd_of hk, hT] at this; cases this
theorem PLeft.lp (H : PtAt w q B p0 gv0) (L : PLeft q B p gv w w') (h : B.new s) (hq : s <= q) (hs : s <= w.heap.size) : ∃ C, Lp s q B C p gv w w' := by
 have K := L.kq H
 obtain ⟨ev', H1, ho, he⟩ := L
 exact ⟨{ B with ev := ev' }, H1, left_new h hs he, rfl, rfl, rfl, rfl, ho.below (fun k hk ho => by
  rcases ho with e | e
  . omega
  . have := h k (.inl e); omega) hs, K⟩
theorem GAt.kq {t : Nat} {v : Value} {gs : List Int} (h : GAt t w v gs) (K : Kq w w') (lo : Below t w w') : GAt t w' v gs := h.keep lo.size fun k hk hg => by
 rcases hg with hg | hg
 . exact lo.block k hg
 . unfold kd at hg
   cases e : w.heap[k]? with
   | none => rw [e] at hg; exact absurd (show gK 0 = true from hg) (by decide)
   | some o =>
     rw [e] at hg
     cases o with
     | cells cs T f =>
       have h1 := gK_own hg
       exact K k cs T f e h1.1 (by
        cases h2 : (T == tPt)
        . rfl
        . exact absurd (by rw [beq_iff_eq.1 h2]) h1.2.2)
     | _ => exact absurd (show gK 0 = true from hg) (by decide)
end
theorem told0 (d : Int) : (bx0 d).told := rfl
theorem pt0_ok {m : Nat} (x : Bx) (gs : List Int) (ht : x.told) (hm : x.es.length <= m) (hl : gs.length <= 64) (hg : ∀ g ∈ gs, 0 <= g /\ g < 4294967296) : (pt0 x gs).ok m :=
 ⟨ht, Nat.le_refl _, hm, Nat.zero_le _, Int.le_refl _, (by show (0 : Int) <= ((0 : Nat) : Int) * 4294967295; omega), hl, hg⟩
end Go.Proofs.YtpojmmgokgamgaaGreat.B
