/- Several texts in one: Layer 16's laws: PoolSplits. Layer 16's laws, for PoolOnce: plain, and what its loop holds. Layer 16's laws, for PoolPlays: plain, and what its loop holds. -/
import Derived.Test.YtggmllobcemhhaaZAae
namespace Go.Proofs.Ytggmllobcemhhaa.B
set_option linter.unusedVariables false
set_option linter.unusedSimpArgs false
set_option maxRecDepth 100000
open Go.ChangeShapes Go.WideShapes Go.RowKit Go.Sort
def sp (g i : Nat) (j : Nat) : Po := if j < i then ⟨g, true, g, 0, j⟩ else ⟨g, false, 0, 0, 0⟩
theorem sp_start : sp 1 0 = fun _ => pz := by funext i; unfold sp; rw [if_neg (Nat.not_lt_zero i)]; rfl
theorem sp_put (g k : Nat) : pupd (sp g k) k ((sp g k k).put g 0 k) = sp g (k + 1) := by
 funext i
 unfold pupd sp
 by_cases e : i = k
 · rw [if_pos e, if_neg (Nat.lt_irrefl k), if_pos (by omega), e]
   rfl
 · rw [if_neg e]
   by_cases h : i < k
   · rw [if_pos h, if_pos (by omega)]
   · rw [if_neg h, if_neg (by omega)]
theorem sp_ok (g k n : Nat) (hg : 1 ≤ g) (hg2 : g ≤ 100) (hn : n ≤ 4096) : ∀ i, i < n → (sp g k i).ok 100 := fun i hi => by
 unfold sp
 split
 · exact ⟨by show (1 : Int) ≤ g; omega, by show (g : Int) ≤ _; omega, ⟨by show (0 : Int) ≤ g; omega, by show (g : Int) < _; omega⟩, u0, ⟨by show (0 : Int) ≤ i; omega, by show (i : Int) < _; omega⟩⟩
 · exact ⟨by show (1 : Int) ≤ g; omega, by show (g : Int) ≤ _; omega, u0, u0, u0⟩
theorem sp_clear (g n i : Nat) (hi : i < n) : clearT (sp g n) i = sp (g + 1) 0 i := by
 unfold clearT sp
 rw [if_pos hi, if_neg (Nat.not_lt_zero i)]
 rfl
theorem sp_at (g k : Nat) : sp g (k + 1) k = ⟨g, true, g, 0, k⟩ := by unfold sp; rw [if_pos (Nat.lt_succ_self k)]
theorem hd_sp (g k : Nat) (hk : k < 4096) : hd (sp g k k) k = g * 4096 + k ∧ ((g : Int) * 4096 + (k : Int)) / 4096 = g ∧ ((g : Int) * 4096 + (k : Int)) % 4096 = k := by
 refine ⟨?_, by omega, by omega⟩
 unfold hd sp
 rw [if_neg (Nat.lt_irrefl k)]
structure KE (R : PoolR) (w0 w : World) (p : Nat) (S : Nat → Prop) (n : Nat) (t : Nat → Po) (be : Nat) (d q o : Int) : Prop where
 K : KS R w0 w p S n t
 E : EnAt tEn w be d q o
 Es : ¬ S be
theorem KE.left {R : PoolR} {w0 w w' : World} {p : Nat} {S : Nat → Prop} {n : Nat} {t s : Nat → Po} {be : Nat} {d q o : Int} (X : KE R w0 w p S n t be d q o) (L : VLeft R w p S n s w') : ∃ S' : Nat → Prop, KE R w0 w' p S' n s be d q o := by
 obtain ⟨S2, h1, h2, h3⟩ := X.K.left L
 refine ⟨S2, h1, X.E.off h3 X.Es, fun h => ?_⟩
 rcases h2 be h with h | h
 · exact X.Es h
 · have := X.E.lt; omega
set_option maxHeartbeats 6400000 in
theorem poSplits {R : PoolR} (C : PoolC R) (a b : Int) (w : World) (ha : i64v a) (hb : i64v b) : Calls Try.prog 7 #[.int .i64 a, .int .i64 b] w fun e w' => e = .returned (.bool true) ∧ Below w.heap.size w w' := by
 have HC := Lib.hid C
 clear C
 obtain ⟨a0, a1⟩ := ha
 obtain ⟨b0, b1⟩ := hb
 obtain ⟨n, hN, n0, n1⟩ := num_mod a 40 (by decide) (by decide)
 replace hN : wrap64 (1 + wrap64 ((IntKind.u64.wrap a).tmod 40)) = (n : Int) := hN
 obtain ⟨m, hM, m0, m1⟩ := num_mod b 20 (by decide) (by decide)
 have HM := Lib.hid (show wrap64 (1 + wrap64 ((IntKind.u64.wrap b).tmod 20)) = (m : Int) from hM)
 clear hM
 have n2 : n ≤ 4096 := by omega
 go_enter Try.func7, Try.ntmps7
 go_wp2_with fail
 simp only [hN]
 clear hN a0 a1
 refine (HC.out.new n w n0 n2).mono ?_
 rintro e w1 ⟨p, S0, rfl, h1, h2, h3⟩
 have HK := Lib.hid (show ∃ S, KS R w w1 p S n (sp 1 0) from ⟨S0, by rw [sp_start]; exact h1, h2, h3⟩)
 clear h1 h2 h3
 go_wp2_with fail
 go_loopw [7] (fun x wr => ∃ (g : Nat), 1 ≤ g ∧ g ≤ m + 1 ∧ x = .int .i64 g ∧ Hid (∃ S, KS R w wr p S n (sp g 0))) (fun x wr => m + 1 - (intOf x).toNat)
 case atStart => exact ⟨1, by omega, by omega, rfl, HK⟩
 case round =>
  clear HK
  obtain ⟨g, g0, g1, rfl, HK⟩ := hrel
  rename_i wr
  by_cases hlt : g ≤ m
  · have e1 : decide ((g : Int) ≤ wrap64 (1 + wrap64 ((IntKind.u64.wrap b).tmod 20))) = true := decide_eq_true (by rw [HM.out]; omega)
    go_wp2_with fail
    clear e1
    go_loopw [8] (fun x wr => ∃ (k : Nat), k ≤ n ∧ x = .int .i64 k ∧ Hid (∃ S, KS R w wr p S n (sp g k))) (fun x wr => n - (intOf x).toNat)
    case atStart => exact ⟨0, by omega, rfl, HK⟩
    case round =>
     clear HK
     obtain ⟨k, hk, rfl, HK⟩ := hrel
     rename_i wr2
     by_cases hkn : k < n
     · obtain ⟨S1, A1⟩ := HK.out
       obtain ⟨hh1, hh2, hh3⟩ := hd_sp g k (by omega)
       have q0 : (g : Int) < 18446744073709551616 := by omega
       have q1 : (k : Int) < 18446744073709551616 := by omega
       have hkt : (sp g (k + 1) k).tk = true := by rw [sp_at]
       have hkg : (sp g (k + 1) k).g = g := by rw [sp_at]
       have hhd : hd (sp g (k + 1) k) k = (g : Int) * 4096 + k := by unfold hd; rw [hkg]
       have hfd : fnd n (sp g (k + 1)) ((g : Int) * 4096 + k) = some k := by rw [← hhd]; exact fnd_hd hkn n2 hkt (by rw [hkg]; omega)
       have hxr : u64r ((g : Int) * 4096 + k) := ⟨by omega, by omega⟩
       have HIN := Lib.hid (fun (w' : World) (S1 : Nat → Prop) (j : Nat) (A : KS R w w' p S1 n (sp g j)) => A.vin n0 n2 (sp_ok g j n g0 (by omega) n2) (by decide))
       have HP := Lib.hid (HC.out.put wr p S1 n (sp g k) k g 0 k (HIN.out _ _ _ A1) ⟨by omega, q0⟩ u0 ⟨by omega, q1⟩ hkn (by unfold sp; rw [if_neg (Nat.lt_irrefl k)]) (fun j hj => by unfold sp; rw [if_pos hj]))
       rw [sp_put, hh1] at HP
       have HSp := Lib.hid (fun w' => HC.out.split ((g : Int) * 4096 + k) w' hxr)
       rw [hh2, hh3] at HSp
       have HGt := Lib.hid (fun (w' : World) (S1 : Nat → Prop) (A : KS R w w' p S1 n (sp g (k + 1))) => HC.out.get w' p S1 n (sp g (k + 1)) _ (HIN.out _ _ _ A) hxr)
       rw [hfd] at HGt
       dsimp only at HGt
       rw [sp_at] at HGt
       dsimp only at HGt
       have HPl := Lib.hid (fun (w' : World) (S1 : Nat → Prop) (A : KS R w w' p S1 n (sp g (k + 1))) => HC.out.place w' p S1 n (sp g (k + 1)) _ (HIN.out _ _ _ A) hxr)
       rw [show fndI n (sp g (k + 1)) ((g : Int) * 4096 + k) = k by unfold fndI; rw [hfd]] at HPl
       have HHa := Lib.hid (fun (w' : World) (S1 : Nat → Prop) (A : KS R w w' p S1 n (sp g (k + 1))) => HC.out.handle w' p S1 n (sp g (k + 1)) k (HIN.out _ _ _ A) ⟨by omega, by omega⟩)
       rw [show hdlI n (sp g (k + 1)) k = (g : Int) * 4096 + k by unfold hdlI; rw [Int.toNat_natCast, if_pos ⟨by omega, by omega, hkt⟩, hhd]] at HHa
       clear hh1 hh2 hh3 hkt hkg hhd hfd hxr HIN
       generalize (g : Int) * 4096 + (k : Int) = H at *
       go_wp2_with fail
       refine HP.out.mono ?_
       rintro e w2 ⟨rfl, hv⟩
       obtain ⟨S2, A2, _, ho⟩ := A1.left hv
       clear hv ho
       go_wp2_with (first
        | (go_at_call 27; refine (HSp.out _).mono ?_; rintro e w3 ⟨rfl, hb⟩; have A3 := A2.below hb; clear hb)
        | (go_at_call 18; refine (HGt.out _ _ A3).mono ?_; rintro e w4 ⟨rfl, hv⟩; obtain ⟨S4, A4, _, ho⟩ := A3.left hv; clear hv ho A3 A2)
        | (rw [zeros3]; refine stEn rfl (.tmp 13) (.tmp 64) rfl rfl rfl (show EnAt tEn (w4.alloc (oEn tEn 0 0 0)) w4.heap.size 0 0 0 from blk_new w4 _) ?_; intro w5 h5 ho; have HE := Lib.hid (show ∃ S, KE R w w5 p S n (sp g (k + 1)) w4.heap.size g 0 k from ⟨S4, A4.below (Off.toBelow (trA (tr0 w4) (oEn tEn 0 0 0)) ho (fun j hj e => by omega) (Nat.le_refl _)), h5, fun h => by have := R.lt A4.P _ h; omega⟩); clear h5 ho A4))
       obtain ⟨S5, E5⟩ := HE.out
       refine (HPl.out _ _ E5.K).mono ?_
       rintro e w6 ⟨rfl, hv⟩
       obtain ⟨S6, E6⟩ := E5.left hv
       clear hv E5 HE
       go_wp2_with fail
       refine (HHa.out _ _ E6.K).mono ?_
       rintro e w7 ⟨rfl, hv⟩
       obtain ⟨S7, E7⟩ := E6.left hv
       clear hv E6
       have HK := Lib.hid (show ∃ S, KS R w w7 p S n (sp g (k + 1)) from ⟨S7, E7.K⟩)
       have c0 := E7.E.c0
       have c2 := E7.E.c2
       have hl := E7.E.lt
       clear E7
       generalize w4.heap.size = be at *
       go_wp2_with fail
       go_roundw
       case rel => exact ⟨k + 1, by omega, by go_num, HK⟩
       case measure => simp [intOf]; omega
     · obtain rfl : k = n := by omega
       obtain ⟨S1, A1⟩ := HK.out
       have ta : ∀ j, j < k → (sp g k j).tk = true := fun j hj => by unfold sp; rw [if_pos hj]
       have HCl := Lib.hid (HC.out.clear wr p S1 k (sp g k) (A1.vin n0 n2 (sp_ok g k k g0 (by omega) n2) (by decide)))
       rw [hds_all _ _ ta] at HCl
       clear ta
       go_wp2_with (go_at_call 21; refine HCl.out.mono ?_; rintro e w2 ⟨rfl, hv⟩; obtain ⟨S2, A2, _, ho⟩ := A1.left hv; have HK := Lib.hid (show ∃ S, KS R w w2 p S k (sp (g + 1) 0) from ⟨S2, R.congr A2.P fun i hi => sp_clear g k i hi, A2.own, A2.lo⟩); clear hv ho A2 A1)
       go_roundw
       case rel => exact ⟨g + 1, by omega, by omega, by go_num, HK⟩
       case measure => simp [intOf]; omega
  · obtain rfl : g = m + 1 := by omega
    have e1 : decide ((m : Int) + 1 ≤ wrap64 (1 + wrap64 ((IntKind.u64.wrap b).tmod 20))) = false := decide_eq_false (by rw [HM.out]; omega)
    obtain ⟨S1, A1⟩ := HK.out
    have tc : ∀ i, i < n → (sp (m + 1) 0 i).tk = false := fun i hi => by unfold sp; rw [if_neg (Nat.not_lt_zero i)]
    have HKn := Lib.hid (fun w' => poKnown HC.out w')
    have HLi := Lib.hid (fun (w' : World) (A : KS R w w' p S1 n (sp (m + 1) 0)) => HC.out.live w' p S1 n (sp (m + 1) 0) (A.vin n0 n2 (sp_ok (m + 1) 0 n g0 (by omega) n2) (by decide)))
    rw [hds_none _ _ tc] at HLi
    clear tc
    go_wp2_with fail
    refine (HKn.out _).mono ?_
    rintro e w2 ⟨rfl, hb⟩
    have A2 := A1.below hb
    clear hb A1
    go_wp2_with fail
    refine (HLi.out _ A2).mono ?_
    rintro e w3 ⟨rfl, hv⟩
    obtain ⟨S3, A3, _, ho⟩ := A2.left hv
    have HB := Lib.hid A3.lo
    clear hv ho A3 A2
    go_wp2_with fail
    go_ret
    exact ⟨rfl, HB.out⟩
theorem hds_le (t : Nat → Po) (n k : Nat) (hk : k < n) (hf : (t k).tk = false) : (hdsB t n).length < n := by
 induction n with
 | zero => omega
 | succ n ih =>
   unfold hdsB
   rw [List.length_append]
   by_cases e : k = n
   · subst e
     rw [hf, if_neg (by decide)]
     have := hdsB_len t k
     show _ + 0 < _
     omega
   · have := ih (by omega)
     split
     · show _ + 1 < _; omega
     · show _ + 0 < _; omega
theorem hds_upd (t : Nat → Po) (k : Nat) (c : Po) (n : Nat) : (hdsB (pupd t k c) n).length + (if k < n ∧ (t k).tk = true then 1 else 0) = (hdsB t n).length + (if k < n ∧ c.tk = true then 1 else 0) := by
 induction n with
 | zero => simp [hdsB]
 | succ n ih =>
   unfold hdsB
   rw [List.length_append, List.length_append]
   by_cases e : k = n
   · subst e
     rw [if_neg (fun h => Nat.lt_irrefl k h.1), if_neg (fun h => Nat.lt_irrefl k h.1)] at ih
     rw [pupd_at]
     have h1 : k < k + 1 := by omega
     cases h2 : (t k).tk <;> cases h3 : c.tk <;> simp [h1] <;> omega
   · rw [pupd_ne _ _ (fun h => e h.symm)]
     have h1 : (k < n + 1 ∧ (t k).tk = true) ↔ (k < n ∧ (t k).tk = true) := by constructor <;> (rintro ⟨a, b⟩; exact ⟨by omega, b⟩)
     have h2 : (k < n + 1 ∧ c.tk = true) ↔ (k < n ∧ c.tk = true) := by constructor <;> (rintro ⟨a, b⟩; exact ⟨by omega, b⟩)
     simp only [h1, h2]
     omega
theorem free_case (t : Nat → Po) (n : Nat) : (∀ j, j < n → (t j).tk = true) ∨ ∃ k, k < n ∧ (t k).tk = false ∧ ∀ j, j < k → (t j).tk = true := by
 induction n with
 | zero => exact .inl fun j hj => by omega
 | succ n ih =>
   rcases ih with h | ⟨k, h1, h2⟩
   · cases hn : (t n).tk
     · exact .inr ⟨n, by omega, hn, h⟩
     · exact .inl fun j hj => by
        by_cases e : j = n
        · rw [e]; exact hn
        · exact h j (by omega)
   · exact .inr ⟨k, by omega, h2⟩
def tld (n : Nat) (t : Nat → Po) (x : Int) : Prop := ∃ (k : Nat) (g : Int), k < n ∧ x = g * 4096 + k ∧ 1 ≤ g ∧ g ≤ (t k).g ∧ (g = (t k).g → (t k).tk = true)
def gon (n : Nat) (t : Nat → Po) (x : Int) : Prop := ∃ (k : Nat) (g : Int), k < n ∧ x = g * 4096 + k ∧ 1 ≤ g ∧ g < (t k).g
structure OnP (n : Nat) (t : Nat → Po) (L G : List Int) (b : Nat) : Prop where
 ok : ∀ i, i < n → (t i).ok b
 Lt : ∀ x, x ∈ L → tld n t x
 Gt : ∀ x, x ∈ G → gon n t x
 len : L.length = G.length + (hdsB t n).length
section
variable {n b : Nat} {t : Nat → Po} {L G : List Int}
theorem tld_u64 {x : Int} (ok : ∀ i, i < n → (t i).ok b) (hb : b < 1099511627776) (n1 : n ≤ 4096) (h : tld n t x) : u64r x := by
 obtain ⟨k, g, hk, rfl, h1, h2, _⟩ := h
 have := (ok k hk).g1
 exact ⟨by omega, by omega⟩
theorem gon_u64 {x : Int} (ok : ∀ i, i < n → (t i).ok b) (hb : b < 1099511627776) (n1 : n ≤ 4096) (h : gon n t x) : u64r x := by
 obtain ⟨k, g, hk, rfl, h1, h2⟩ := h
 have := (ok k hk).g1
 exact ⟨by omega, by omega⟩
theorem gon_none {x : Int} (n1 : n ≤ 4096) (h : gon n t x) : fnd n t x = none := by
 obtain ⟨k, g, hk, rfl, h1, h2⟩ := h
 have e1 : ((g * 4096 + (k : Int)) % 4096).toNat = k := by omega
 have e2 : (g * 4096 + (k : Int)) / 4096 = g := by omega
 unfold fnd
 rw [e1, e2, if_neg (fun h => by have := h.2.2; omega)]
theorem tld_new {x : Int} (n1 : n ≤ 4096) (h : tld n t x) {k : Nat} (hk : k < n) (hf : (t k).tk = false) : x ≠ hd (t k) k := by
 obtain ⟨k2, g, hk2, rfl, h1, h2, h3⟩ := h
 unfold hd
 intro e
 have e1 : k2 = k := by omega
 subst e1
 have e2 : g = (t k2).g := by omega
 rw [h3 e2] at hf
 cases hf
theorem OnP.put (P : OnP n t L G b) (n1 : n ≤ 4096) {k : Nat} (hk : k < n) (hf : (t k).tk = false) {d q o : Int} (hd3 : u64r d) (hq : u64r q) (ho : u64r o) : OnP n (pupd t k ((t k).put d q o)) (L ++ [hd (t k) k]) G b := by
 refine ⟨fun i hi => ?_, fun x hx => ?_, fun x hx => ?_, ?_⟩
 · unfold pupd
   split
   · rename_i e
     subst e
     exact ⟨(P.ok i hi).g0, (P.ok i hi).g1, hd3, hq, ho⟩
   · exact P.ok i hi
 · rcases List.mem_append.1 hx with h | h
   · obtain ⟨k2, g, hk2, e, h1, h2, h3⟩ := P.Lt x h
     refine ⟨k2, g, hk2, e, h1, ?_⟩
     unfold pupd
     split
     · rename_i e2
       subst e2
       exact ⟨h2, fun _ => rfl⟩
     · exact ⟨h2, h3⟩
   · simp only [List.mem_cons, List.not_mem_nil, or_false] at h
     refine ⟨k, (t k).g, hk, h, (P.ok k hk).g0, ?_⟩
     rw [pupd_at]
     exact ⟨Int.le_refl _, fun _ => rfl⟩
 · obtain ⟨k2, g, hk2, e, h1, h2⟩ := P.Gt x hx
   refine ⟨k2, g, hk2, e, h1, ?_⟩
   unfold pupd
   split
   · rename_i e2
     subst e2
     exact h2
   · exact h2
 · have h := hds_upd t k ((t k).put d q o) n
   rw [if_neg (fun h => by rw [hf] at h; cases h.2), if_pos ⟨hk, rfl⟩] at h
   rw [List.length_append, P.len]
   show _ + 1 = _
   omega
theorem OnP.drop (P : OnP n t L G b) (n1 : n ≤ 4096) {x : Int} (hx : x ∈ L) {k : Nat} (hf : fnd n t x = some k) : OnP n (pupd t k (t k).gone) L (G ++ [x]) (b + 1) := by
 obtain ⟨hk, hkt, hkg, hkx⟩ := fnd_some hf
 have g0 := (P.ok k hk).g0
 have g1 := (P.ok k hk).g1
 refine ⟨fun i hi => ?_, fun y hy => ?_, fun y hy => ?_, ?_⟩
 · unfold pupd
   split
   · exact ⟨by show 1 ≤ (t k).g + 1; omega, by show (t k).g + 1 ≤ _; omega, u0, u0, u0⟩
   · exact (P.ok i hi).more (by omega)
 · obtain ⟨k2, g, hk2, e, h1, h2, h3⟩ := P.Lt y hy
   refine ⟨k2, g, hk2, e, h1, ?_⟩
   unfold pupd
   split
   · rename_i e2
     subst e2
     exact ⟨by show g ≤ (t k2).g + 1; omega, fun h => by have h : g = (t k2).g + 1 := h; omega⟩
   · exact ⟨h2, h3⟩
 · rcases List.mem_append.1 hy with h | h
   · obtain ⟨k2, g, hk2, e, h1, h2⟩ := P.Gt y h
     refine ⟨k2, g, hk2, e, h1, ?_⟩
     unfold pupd
     split
     · rename_i e2
       subst e2
       show g < (t k2).g + 1
       omega
     · exact h2
   · simp only [List.mem_cons, List.not_mem_nil, or_false] at h
     subst h
     refine ⟨k, (t k).g, hk, by omega, g0, ?_⟩
     rw [pupd_at]
     show (t k).g < (t k).g + 1
     omega
 · have h := hds_upd t k (t k).gone n
   rw [if_pos ⟨hk, hkt⟩, if_neg (fun h => by cases h.2)] at h
   rw [List.length_append, P.len]
   show _ = _ + 1 + _
   omega
end
theorem UvAt.form {w : World} {B : Nat} {v : Value} {L : List Int} (h : UvAt w B v L) : ∃ y cap, v = .slice y L.length cap ∧ cap ≤ maxLen ∧ L.length ≤ cap ∧ (L = [] ∨ ∃ g, y = some ⟨g, 0, none⟩ ∧ B ≤ g ∧ g < w.heap.size ∧ ∀ i x, L[i]? = some x → w.cell? ⟨g, i, none⟩ = some (.int .u64 x)) := by
 obtain ⟨hl, ho⟩ := h
 rcases ho with ⟨h1, h2⟩ | ⟨g, cap, cur, rfl, hB, hg, hkc, hcm, hcs, htk⟩
 · exact ⟨none, 0, by rw [h1, h2], Nat.zero_le _, by omega, .inl (List.eq_nil_of_length_eq_zero h2)⟩
 · refine ⟨_, cap, rfl, hcm, hkc, .inr ⟨g, rfl, hB, lt_of_block hg, fun i x hi => ?_⟩⟩
   have hk : i < L.length := (List.getElem?_eq_some_iff.1 hi).1
   have h3 : (uvs L)[i]? = some (.int .u64 x) := by unfold uvs; rw [List.getElem?_map, hi]; rfl
   rw [← htk, List.getElem?_take, if_pos (by omega)] at h3
   rw [blk_cell hg]
   simpa using h3
theorem appendUvAt {ops : Array Oper} {rest : List Oper} {o : Oper} {a : Act} {w : World} {Q : Exit → Act → World → Prop} (hgd : o.guard = none) (s x : Operand) (ho : o.op = .call { callee := .builtin .append, args := #[s, x], argTypes := #[31, 31] })
 {B g : Nat} {v : Value} {L : List Int} {i : Int} (hs : a.eval s = v) (hO : UvAt w B v L) (hx : a.eval x = .slice (some ⟨g, 0, none⟩) 1 1) (hy : w.heap[g]? = some (oUv i)) (hk : L.length < 5000) (hB : B ≤ w.heap.size)
 (h : ∀ v' w', UvAt w' B v' (L ++ [i]) → Off (fun b => v.ownBlock = some b) w w' → (v'.ownBlock = v.ownBlock ∨ v'.ownBlock = some w.heap.size) → wpList Try.prog ops Q rest (a.put o.dst v') w') : wpList Try.prog ops Q (o :: rest) a w := by
 obtain ⟨i0, hi, hz0, hz1, hz2⟩ := info_parts infoUv
 refine wpList_append_own_at w hgd s x _ ho B 30 i0 _ 1 8 Try.underlying31 hi hz0 hz1 hz2 rfl (by decide) v L.length (uvs L) hs hO ⟨g, 0, none⟩ 1 1 [.int .u64 i] hx rfl (fun j u hu => ?_) (fun u hu => ?_) (by unfold maxLen; omega) (by omega) hB fun v' w' h3 h4 _ hat => ?_
 · rw [Addr.add_lit, Nat.zero_add, blk_cell hy, List.getElem?_toArray]
   exact hu
 · simp only [List.mem_cons, List.not_mem_nil, or_false] at hu
   rw [hu]
   rfl
 · refine h v' w' ?_ (Off.ofGrown h4 fun k e => e) hat
   unfold UvAt uvs
   rw [List.map_append, List.length_append]
   exact h3
structure OS (R : PoolR) (w0 w : World) (p : Nat) (S : Nat → Prop) (n : Nat) (t : Nat → Po) (vt : Value) (L : List Int) (vg : Value) (G : List Int) : Prop where
 K : KS R w0 w p S n t
 T : UvAt w w0.heap.size vt L
 Ts : ∀ b, vt.ownBlock = some b → ¬ S b
 U : UvAt w w0.heap.size vg G
 Us : ∀ b, vg.ownBlock = some b → ¬ S b
 TU : ∀ b, vt.ownBlock = some b → vg.ownBlock ≠ some b
section
variable {R : PoolR} {w0 w w' : World} {p : Nat} {S : Nat → Prop} {n : Nat} {t s : Nat → Po} {vt vg : Value} {L G : List Int}
theorem OS.below (A : OS R w0 w p S n t vt L vg G) (hb : Below w.heap.size w w') : OS R w0 w' p S n t vt L vg G := ⟨A.K.below hb, A.T.below hb, A.Ts, A.U.below hb, A.Us, A.TU⟩
theorem OS.left (A : OS R w0 w p S n t vt L vg G) (h : VLeft R w p S n s w') : ∃ S' : Nat → Prop, OS R w0 w' p S' n s vt L vg G := by
 obtain ⟨S2, h1, h2, h3⟩ := A.K.left h
 refine ⟨S2, h1, A.T.off h3 A.Ts, fun b hb hs => ?_, A.U.off h3 A.Us, fun b hb hs => ?_, A.TU⟩
 · rcases h2 b hs with h | h
   · exact A.Ts b hb h
   · have := (A.T.block hb).2; omega
 · rcases h2 b hs with h | h
   · exact A.Us b hb h
   · have := (A.U.block hb).2; omega
theorem OS.told (A : OS R w0 w p S n t vt L vg G) {v' : Value} {L2 : List Int} (hT : UvAt w' w0.heap.size v' L2) (ho : Off (fun b => vt.ownBlock = some b) w w') (hat : v'.ownBlock = vt.ownBlock ∨ v'.ownBlock = some w.heap.size) : OS R w0 w' p S n t v' L2 vg G := by
 refine ⟨⟨R.off A.K.P ho fun k hk e => A.Ts k e hk, A.K.own, Off.toBelow A.K.lo ho (fun j hj e => by have := (A.T.block e).1; omega) (Nat.le_refl _)⟩, hT, fun b hb hs => ?_, A.U.off ho (fun b hb e => A.TU b e hb), A.Us, fun b hb hs => ?_⟩
 · rcases hat with h | h
   · rw [h] at hb; exact A.Ts b hb hs
   · rw [h] at hb; cases hb; have := R.lt A.K.P _ hs; omega
 · rcases hat with h | h
   · rw [h] at hb; exact A.TU b hb hs
   · rw [h] at hb; cases hb; have := (A.U.block hs).2; omega
theorem OS.gone (A : OS R w0 w p S n t vt L vg G) {v' : Value} {G2 : List Int} (hT : UvAt w' w0.heap.size v' G2) (ho : Off (fun b => vg.ownBlock = some b) w w') (hat : v'.ownBlock = vg.ownBlock ∨ v'.ownBlock = some w.heap.size) : OS R w0 w' p S n t vt L v' G2 := by
 refine ⟨⟨R.off A.K.P ho fun k hk e => A.Us k e hk, A.K.own, Off.toBelow A.K.lo ho (fun j hj e => by have := (A.U.block e).1; omega) (Nat.le_refl _)⟩, A.T.off ho (fun b hb e => A.TU b hb e), A.Ts, hT, fun b hb hs => ?_, fun b hb hs => ?_⟩
 · rcases hat with h | h
   · rw [h] at hb; exact A.Us b hb hs
   · rw [h] at hb; cases hb; have := R.lt A.K.P _ hs; omega
 · rcases hat with h | h
   · rw [h] at hs; exact A.TU b hb hs
   · rw [h] at hs; cases hs; have := (A.T.block hb).2; omega
end
theorem UvAt.cell2 {w : World} {B : Nat} {y : Option Addr} {len c : Nat} {L : List Int} (h : UvAt w B (.slice y len c) L) (hl : L.length = len) {i : Nat} (hi : i < len) : ∃ g x, y = some ⟨g, 0, none⟩ ∧ c ≤ 2 ^ 63 - 1 ∧ len ≤ c ∧ g < w.heap.size ∧ L[i]? = some x ∧ w.cell? ⟨g, i, none⟩ = some (.int .u64 x) := by
 subst hl
 obtain ⟨y2, c2, e, h1, h2, h3⟩ := h.form
 cases e
 have hx := List.getElem?_eq_getElem hi
 rcases h3 with h3 | ⟨g, rfl, h4, h5, h6⟩
 · rw [h3] at hi; exact absurd hi (by simp)
 · exact ⟨g, _, rfl, h1, h2, h5, hx, h6 _ _ hx⟩
theorem OnP.more {n b b2 : Nat} {t : Nat → Po} {L G : List Int} (P : OnP n t L G b) (h : b ≤ b2) : OnP n t L G b2 := ⟨fun i hi => (P.ok i hi).more h, P.Lt, P.Gt, P.len⟩
def I64s (w : World) (y : Option Addr) (len cap : Nat) : Prop := len = 0 ∨ ∃ z off, ∃ zs : Nat → Int, y = some ⟨z, off, none⟩ ∧ len ≤ cap ∧ cap ≤ maxLen ∧ z < w.heap.size ∧ ∀ i, i < cap → w.cell? ⟨z, off + i, none⟩ = some (.int .i64 (zs i)) ∧ i64v (zs i)
theorem hds_mono (t : Nat → Po) (i k : Nat) (h : i ≤ k) : (hdsB t i).length ≤ (hdsB t k).length := by
 induction k with
 | zero => rw [show i = 0 by omega]; exact Nat.le_refl _
 | succ k ih =>
   by_cases e : i = k + 1
   · rw [e]; exact Nat.le_refl _
   · have := ih (by omega)
     show _ ≤ (hdsB t k ++ _).length
     rw [List.length_append]
     omega
theorem hds_step (t : Nat → Po) (i k : Nat) (h : i < k) (ht : (t i).tk = true) : (hdsB t i).length < (hdsB t k).length := by
 have := hds_mono t (i + 1) k h
 have e : (hdsB t (i + 1)).length = (hdsB t i).length + 1 := by
  show (hdsB t i ++ _).length = _
  rw [ht, if_pos rfl, List.length_append]
  rfl
 omega
theorem hds_at (t : Nat → Po) (n j : Nat) (hj : j < (hdsB t n).length) : ∃ k, k < n ∧ (t k).tk = true ∧ (hdsB t k).length = j ∧ (hdsB t n)[j]? = some (hd (t k) k) := by
 induction n with
 | zero => exact absurd hj (by simp [hdsB])
 | succ n ih =>
   by_cases h : j < (hdsB t n).length
   · obtain ⟨k, h1, h2, h3, h4⟩ := ih h
     refine ⟨k, by omega, h2, h3, ?_⟩
     show (hdsB t n ++ _)[j]? = _
     rw [List.getElem?_append_left h]
     exact h4
   · cases ht : (t n).tk
     · have e : (hdsB t (n + 1)).length = (hdsB t n).length := by
        show (hdsB t n ++ _).length = _
        rw [ht, if_neg (by decide), List.append_nil]
       omega
     · have e : (hdsB t (n + 1)).length = (hdsB t n).length + 1 := by
        show (hdsB t n ++ _).length = _
        rw [ht, if_pos rfl, List.length_append]
        rfl
       refine ⟨n, by omega, ht, by omega, ?_⟩
       show (hdsB t n ++ _)[j]? = _
       rw [ht, if_pos rfl, List.getElem?_append_right (by omega), show j - (hdsB t n).length = 0 by omega]
       rfl
def drp (t : Nat → Po) (j i : Nat) : Po := if (t i).tk = true ∧ (hdsB t i).length < j then (t i).gone else t i
theorem drp_zero (t : Nat → Po) : drp t 0 = t := by funext i; unfold drp; rw [if_neg (fun h => Nat.not_lt_zero _ h.2)]
theorem drp_all (t : Nat → Po) (n i : Nat) (hi : i < n) : drp t (hdsB t n).length i = clearT t i := by
 unfold drp clearT
 by_cases h : (t i).tk = true
 · rw [if_pos h, if_pos ⟨h, hds_step t i n hi h⟩]
 · rw [if_neg h, if_neg (fun x => h x.1)]
theorem drp_step {n b : Nat} {t : Nat → Po} (ok : ∀ i, i < n → (t i).ok b) (n1 : n ≤ 4096) {j k : Nat} (hk : k < n) (ht : (t k).tk = true) (hj : (hdsB t k).length = j) : fnd n (drp t j) (hd (t k) k) = some k ∧ dropT n (drp t j) (hd (t k) k) = drp t (j + 1) := by
 have e : drp t j k = t k := by unfold drp; rw [if_neg (fun h => by have := h.2; omega)]
 have hf : fnd n (drp t j) (hd (t k) k) = some k := by
  have := fnd_hd (t := drp t j) hk n1 (by rw [e]; exact ht) (by rw [e]; exact (ok k hk).g0)
  rw [e] at this
  exact this
 refine ⟨hf, ?_⟩
 unfold dropT
 rw [hf]
 funext i
 show pupd (drp t j) k (drp t j k).gone i = _
 rw [e]
 unfold pupd
 by_cases hi : i = k
 · subst hi
   rw [if_pos rfl]
   unfold drp
   rw [if_pos ⟨ht, by omega⟩]
 · rw [if_neg hi]
   unfold drp
   by_cases h : (t i).tk = true
   · have hne : (hdsB t i).length ≠ j := by
      rcases Nat.lt_or_gt_of_ne hi with h2 | h2
      · have := hds_step t i k h2 h; omega
      · have := hds_step t k i h2 ht; omega
     by_cases h3 : (hdsB t i).length < j
     · rw [if_pos ⟨h, h3⟩, if_pos ⟨h, by omega⟩]
     · rw [if_neg (fun x => h3 x.2), if_neg (fun x => by have := x.2; omega)]
   · rw [if_neg (fun x => h x.1), if_neg (fun x => h x.1)]
theorem drp_ok {n b : Nat} {t : Nat → Po} (ok : ∀ i, i < n → (t i).ok b) (j : Nat) : ∀ i, i < n → (drp t j i).ok (b + 1) := fun i hi => by
 have h := ok i hi
 have := h.g0
 have := h.g1
 unfold drp
 split
 · exact ⟨by show 1 ≤ (t i).g + 1; omega, by show (t i).g + 1 ≤ _; omega, u0, u0, u0⟩
 · exact h.more (by omega)
theorem clear_ok {n b : Nat} {t : Nat → Po} (ok : ∀ i, i < n → (t i).ok b) : ∀ i, i < n → (clearT t i).ok (b + 1) := fun i hi => by rw [← drp_all t n i hi]; exact drp_ok ok _ i hi
theorem put_ok {n b : Nat} {t : Nat → Po} (ok : ∀ i, i < n → (t i).ok b) (k : Nat) {d q o : Int} (hd3 : u64r d) (hq : u64r q) (ho : u64r o) : ∀ i, i < n → (pupd t k ((t k).put d q o) i).ok b := fun i hi => by
 unfold pupd
 split
 · rename_i e
   subst e
   exact ⟨(ok i hi).g0, (ok i hi).g1, hd3, hq, ho⟩
 · exact ok i hi
theorem set_ok {n b : Nat} {t : Nat → Po} (ok : ∀ i, i < n → (t i).ok b) (x : Int) {d q o : Int} (hd3 : u64r d) (hq : u64r q) (ho : u64r o) : ∀ i, i < n → (setT n t x d q o i).ok b := by
 unfold setT
 cases fnd n t x with
 | none => exact ok
 | some k => exact put_ok ok k hd3 hq ho
theorem drop_ok {n b : Nat} {t : Nat → Po} (ok : ∀ i, i < n → (t i).ok b) (x : Int) : ∀ i, i < n → (dropT n t x i).ok (b + 1) := by
 unfold dropT
 cases fnd n t x with
 | none => exact fun i hi => (ok i hi).more (by omega)
 | some k =>
   intro i hi
   unfold pupd
   dsimp only
   split
   · rename_i e
     subst e
     have := (ok i hi).g0
     have := (ok i hi).g1
     exact ⟨by show 1 ≤ (t i).g + 1; omega, by show (t i).g + 1 ≤ _; omega, u0, u0, u0⟩
   · exact (ok i hi).more (by omega)
theorem fndI_is (n : Nat) (t : Nat → Po) (x : Int) : decide (0 ≤ fndI n t x) = (fnd n t x).isSome := by
 unfold fndI
 cases fnd n t x with
 | none => rfl
 | some k => exact decide_eq_true (by show (0 : Int) ≤ k; omega)
structure Ac where
 K : Int
 d : Int
 q : Int
 o : Int
 h : Int
 f : Int
structure Ac.ok (a : Ac) : Prop where
 K : i64v a.K
 d : u64r a.d
 q : u64r a.q
 o : u64r a.o
 h : u64r a.h
 f : i64v a.f
def acl (a : Ac) : List Value := [.int .i64 a.K, .int .u64 a.d, .int .u64 a.q, .int .u64 a.o, .int .u64 a.h, .int .i64 a.f]
abbrev tAc : TypeId := 35
def oAc (a : Ac) : Obj := .cells (acl a).toArray tAc (0, 0)
def az : Ac := ⟨0, 0, 0, 0, 0, 0⟩
theorem iAc : (Try.prog.info? 35).map (·.size) = some 6 := by kernel_rfl
theorem acl_len (a : Ac) : (acl a).length = 6 := rfl
theorem acl_one (a : Ac) : ∀ x ∈ acl a, x.oneCell' = true := fun x hx => by
 unfold acl at hx
 simp only [List.mem_cons, List.not_mem_nil, or_false] at hx
 rcases hx with rfl | rfl | rfl | rfl | rfl | rfl <;> rfl
def RowAc (w : World) (y : Option Addr) (len cap : Nat) (zs : Nat → Ac) : Prop := len = 0 ∨ ∃ z off, y = some ⟨z, off, none⟩ ∧ len ≤ cap ∧ cap ≤ maxLen ∧ z < w.heap.size ∧ ∀ i, i < len → (zs i).ok ∧ ∀ j v, (acl (zs i))[j]? = some v → w.cell? ⟨z, off + i * 6 + j, none⟩ = some v
def InAc (w : World) (g o : Nat) (a : Ac) : Prop := ∃ cur t fr, w.heap[g]? = some (.cells cur t fr) ∧ PartAt cur o (acl a)
theorem inAc_of {w : World} {g o : Nat} {a : Ac} (h : ∀ j v, (acl a)[j]? = some v → w.cell? ⟨g, o + j, none⟩ = some v) : InAc w g o a := by
 have h0 := h 0 _ rfl
 have key : ∃ cur t fr, w.heap[g]? = some (.cells cur t fr) := by
  unfold World.cell? at h0
  cases hh : w.heap[g]? with
  | none => simp [hh] at h0
  | some ob =>
    cases ob with
    | cells cur t fr => exact ⟨cur, t, fr, rfl⟩
    | _ => simp [hh] at h0
 obtain ⟨cur, t, fr, hc⟩ := key
 refine ⟨cur, t, fr, hc, fun j v hv => ?_⟩
 have := h j v hv
 rw [cell_of_row w g (o + j) cur t fr hc] at this
 exact this
theorem InAc.below {w0 w : World} {g o : Nat} {a : Ac} (h : InAc w0 g o a) (hb : Below w0.heap.size w0 w) : InAc w g o a := by
 obtain ⟨cur, t, fr, h1, h2⟩ := h
 exact ⟨cur, t, fr, blk_below hb h1 (lt_of_block h1), h2⟩
section
variable {ops : Array Oper} {rest : List Oper} {o : Oper} {a : Act} {w : World} {Q : Exit → Act → World → Prop}
theorem ldAc (hgd : o.guard = none) (x : Operand) (ho : o.op = .load 35 x) {g off : Nat} (hx : a.eval x = .pointer (some ⟨g, off, none⟩)) {m : Ac} (hg : InAc w g off m)
 (h : wpList Try.prog ops Q rest (a.put o.dst (.agg (acl m).toArray)) w) : wpList Try.prog ops Q (o :: rest) a w := by
 obtain ⟨cur, t, fr, h1, h2⟩ := hg
 exact wpList_load_part hgd _ x ho g off hx _ (acl m) h1 Try.underlying35 rfl iAc h2 h
theorem stAc (hgd : o.guard = none) (x y : Operand) (ho : o.op = .store 35 x y) {g : Nat} (hx : a.eval x = .pointer (some ⟨g, 0, none⟩)) {m m0 : Ac} (hy : a.eval y = .agg (acl m).toArray) (hg : w.heap[g]? = some (oAc m0))
 (h : ∀ w', w'.heap[g]? = some (oAc m) → Off (· = g) w w' → wpList Try.prog ops Q rest (a.put o.dst undef) w') : wpList Try.prog ops Q (o :: rest) a w := by
 have hR : (w.setRow g (acl m).toArray).heap[g]? = some (oAc m) := row_set _ hg
 refine wpList_store_part hgd _ x y ho g 0 hx (acl m) hy hg iAc (show 0 + 6 ≤ 6 from Nat.le_refl 6) (acl_one _) ?_
 rw [spliced_all (acl m0).toArray (acl m) rfl]
 exact h _ hR ⟨rfl, rfl, rfl, by simp, fun k _ hs => setRow_other w g k _ hs⟩
end
theorem zeros6 : (#[.int .i64 0, .int .u64 0, .int .u64 0, .int .u64 0, .int .u64 0, .int .i64 0] : Array Value) = (acl az).toArray := rfl
theorem lt_of_get {w : World} {k : Nat} {o : Obj} (h : w.heap[k]? = some o) : k < w.heap.size := (Array.getElem?_eq_some_iff.1 h).1
structure PY (R : PoolR) (w0 w : World) (p : Nat) (S : Nat → Prop) (n : Nat) (tp : Nat → Po) (g cap : Nat) (tm : Nat → Po) (vt : Value) (L : List Int) (F : Nat → Obj → Prop) : Prop where
 K : KS R w0 w p S n tp
 M : RwPo w g n cap tm
 Mg : ¬ S g
 Ml : w0.heap.size ≤ g
 T : UvAt w w0.heap.size vt L
 Ts : ∀ b, vt.ownBlock = some b → ¬ S b
 F : ∀ k o, F k o → w.heap[k]? = some o ∧ ¬ S k ∧ vt.ownBlock ≠ some k ∧ w0.heap.size ≤ k
section
variable {R : PoolR} {w0 w w' : World} {p p2 : Nat} {S S2 : Nat → Prop} {n : Nat} {tp tm t2 : Nat → Po} {g cap g2 cap2 : Nat} {vt v' : Value} {L L2 : List Int} {F F2 : Nat → Obj → Prop}
theorem PY.below (A : PY R w0 w p S n tp g cap tm vt L F) (hb : Below w.heap.size w w') : PY R w0 w' p S n tp g cap tm vt L F :=
 ⟨A.K.below hb, A.M.below hb, A.Mg, A.Ml, A.T.below hb, A.Ts, fun k o h => ⟨blk_below hb (A.F k o h).1 (lt_of_get (A.F k o h).1), (A.F k o h).2⟩⟩
theorem PY.doc (A : PY R w0 w p S n tp g cap tm vt L F) (hb : Below w.heap.size w w') (hR : RwPo w' g2 n cap2 t2) (hg : g2 = g ∨ w.heap.size ≤ g2) : PY R w0 w' p S n tp g2 cap2 t2 vt L F := by
 have B := A.below hb
 refine ⟨B.K, hR, ?_, ?_, B.T, B.Ts, B.F⟩
 · rcases hg with rfl | h
   · exact A.Mg
   · intro hs; have := R.lt A.K.P _ hs; omega
 · rcases hg with rfl | h
   · exact A.Ml
   · exact Nat.le_trans A.K.lo.size h
theorem PY.left (A : PY R w0 w p S n tp g cap tm vt L F) (h : VLeft R w p S n t2 w') : ∃ S' : Nat → Prop, PY R w0 w' p S' n t2 g cap tm vt L F ∧ (∀ k, S' k → S k ∨ w.heap.size ≤ k) ∧ Off S w w' := by
 obtain ⟨S2, h1, h2, h3⟩ := A.K.left h
 refine ⟨S2, ⟨h1, A.M.off h3 A.Mg, fun hs => ?_, A.Ml, A.T.off h3 A.Ts, fun b hb hs => ?_, fun k o hf => ?_⟩, h2, h3⟩
 · rcases h2 g hs with h | h
   · exact A.Mg h
   · have := A.M.lt; omega
 · rcases h2 b hs with h | h
   · exact A.Ts b hb h
   · have := (A.T.block hb).2; omega
 · obtain ⟨f1, f2, f3, f4⟩ := A.F k o hf
   have hk := lt_of_get f1
   refine ⟨(h3.block k hk f2).trans f1, fun hs => ?_, f3, f4⟩
   rcases h2 k hs with h | h
   · exact f2 h
   · omega
theorem PY.told (A : PY R w0 w p S n tp g cap tm vt L F) (hT : UvAt w' w0.heap.size v' L2) (ho : Off (fun b => vt.ownBlock = some b) w w') (hat : v'.ownBlock = vt.ownBlock ∨ v'.ownBlock = some w.heap.size) (hM : RwPo w' g n cap tm) : PY R w0 w' p S n tp g cap tm v' L2 F := by
 refine ⟨⟨R.off A.K.P ho fun k hk e => A.Ts k e hk, A.K.own, Off.toBelow A.K.lo ho (fun j hj e => by have := (A.T.block e).1; omega) (Nat.le_refl _)⟩, hM, A.Mg, A.Ml, hT, fun b hb hs => ?_, fun k o hf => ?_⟩
 · rcases hat with h | h
   · rw [h] at hb; exact A.Ts b hb hs
   · rw [h] at hb; cases hb; have := R.lt A.K.P _ hs; omega
 · obtain ⟨f1, f2, f3, f4⟩ := A.F k o hf
   refine ⟨(ho.block k (lt_of_get f1) f3).trans f1, f2, fun e => ?_, f4⟩
   rcases hat with h | h
   · rw [h] at e; exact f3 e
   · rw [h] at e; cases e; have := lt_of_get f1; omega
theorem PY.tg (A : PY R w0 w p S n tp g cap tm vt L F) : ∀ b, vt.ownBlock = some b → b ≠ g := by
 intro b hb
 rcases A.T.2 with ⟨rfl, _⟩ | ⟨g3, c3, cur, rfl, _, h1, _⟩
 · cases hb
 · cases hb
   exact fun e => A.M.ne h1 (by decide) e.symm
theorem PY.fresh (A : PY R w0 w p S n tp g cap tm vt L F) (hb : Below w.heap.size w w') {x : Obj} (hx : w'.heap[w.heap.size]? = some x) : PY R w0 w' p S n tp g cap tm vt L (fun k o => F k o ∨ (k = w.heap.size ∧ o = x)) := by
 have B := A.below hb
 refine ⟨B.K, B.M, B.Mg, B.Ml, B.T, B.Ts, fun k o hf => ?_⟩
 rcases hf with hf | ⟨rfl, rfl⟩
 · exact B.F k o hf
 · exact ⟨hx, fun hs => by have := R.lt A.K.P _ hs; omega, fun e => by have := (A.T.block e).2; omega, A.K.lo.size⟩
theorem PY.less (A : PY R w0 w p S n tp g cap tm vt L F) (h : ∀ k o, F2 k o → F k o) : PY R w0 w p S n tp g cap tm vt L F2 := ⟨A.K, A.M, A.Mg, A.Ml, A.T, A.Ts, fun k o hf => A.F k o (h k o hf)⟩
theorem PY.pool (A : PY R w0 w p S n tp g cap tm vt L F) (h : R.At w p2 S2 n t2) (own : ∀ k, S2 k → w0.heap.size ≤ k) (far : ∀ k, S2 k → k ≠ g ∧ vt.ownBlock ≠ some k ∧ ∀ o, ¬ F k o) : PY R w0 w p2 S2 n t2 g cap tm vt L F :=
 ⟨⟨h, own, A.K.lo⟩, A.M, fun hs => (far g hs).1 rfl, A.Ml, A.T, fun b hb hs => (far b hs).2.1 hb, fun k o hf => ⟨(A.F k o hf).1, fun hs => (far k hs).2.2 o hf, (A.F k o hf).2.2⟩⟩
theorem PY.far {tc : Nat → Po} (A : PY R w0 w p S n tp g cap tm vt L F) (C : PY R w0 w p2 S2 n tc g cap tm vt L F) (hd : ∀ k, S k → ¬ S2 k) (ho : Off S2 w w') : PY R w0 w' p S n tp g cap tm vt L F :=
 ⟨⟨R.off A.K.P ho hd, A.K.own, Off.toBelow A.K.lo ho (fun j hj e => by have := C.K.own j e; omega) (Nat.le_refl _)⟩, A.M.off ho C.Mg, A.Mg, A.Ml, A.T.off ho C.Ts, A.Ts, fun k o hf => ⟨(ho.block k (lt_of_get (A.F k o hf).1) (C.F k o hf).2.1).trans (A.F k o hf).1, (A.F k o hf).2⟩⟩
end
end Go.Proofs.Ytggmllobcemhhaa.B
