/- Are a file and the document's the same? They are. -/
import Derived.Test.YtfhggmiaablcnaaAR
import Derived.Test.YtfhggmiaablcnaaOffs
import Derived.Test.YtfhggmiaablcnaaFileL
namespace Go.Proofs.Ytfhggmiaablcnaa.B
set_option linter.unusedVariables false
set_option linter.unusedSimpArgs false
open Go.ChangeShapes Go.WideShapes Go.RowKit Go.Sort Go.MapKept
/-- Registers at offsets that may be, rising. -/
structure Ris (L : List (Int × Rg)) : Prop where
  so : (L.map (·.1)).Pairwise (· < ·)
  al : ∀ p ∈ L, 0 ≤ p.1 ∧ p.1 < 4294967296 ∧ (p.1 % 4 != 0) = false
theorem Ris.nodup {L : List (Int × Rg)} (h : Ris L) : (L.map (·.1)).Nodup := h.so.imp fun h e => by omega
theorem keys_one {xs : List Int} {L : List (Int × Rg)} (h : Ris L) (hp : xs.Perm (L.map (·.1))) (hs : xs.Pairwise (· ≤ ·)) : xs = L.map (·.1) :=
  List.Perm.eq_of_pairwise (le := fun a b => a ≤ b) (fun a b _ _ h1 h2 => Int.le_antisymm h1 h2) hs (h.so.imp fun h => Int.le_of_lt h) hp
theorem keys_at {L : List (Int × Rg)} {k : Nat} {p : Int × Rg} (h : L[k]? = some p) : (L.map (·.1)).toArray[k]! = p.1 := by
  have : (L.map (·.1))[k]? = some p.1 := by rw [List.getElem?_map, h]; rfl
  simp [this]
set_option maxRecDepth 100000 in
set_option maxHeartbeats 3200000 in
theorem rAlike (hSort : SortSaid) (hNil : SortNil) {w : World} {f m B : Nat} {v : Value} {L : List (Int × Rg)} (hF : FileAt w f m L) (hO : OwnA w B v L) (hR : Ris L) (hl : L.length < 100000) :
    Calls Try.prog 17 #[.pointer (some ⟨f, 0, none⟩), v] w fun e w' => e = .returned (.bool true) ∧ Below w.heap.size w w' := by
  have C := Lib.hid (fOffsets hSort hNil hF hl)
  have HO := Lib.hid hO
  have HF := Lib.hid hF
  have HR := Lib.hid hR
  have hvl : (v = .slice none 0 0 ∧ L = []) ∨ ∃ g cap, v = .slice (some ⟨g, 0, none⟩) L.length cap ∧ L.length ≤ cap ∧ cap ≤ maxLen ∧ g < w.heap.size := by
    rcases hO.cases with h | ⟨g, cap, h1, _, h3, h4, h5, _⟩
    · exact .inl h
    · exact .inr ⟨g, cap, h1, h3, h4, h5⟩
  clear hO hF hR hSort hNil
  go_enter Try.func17, Try.ntmps17
  go_wp2_with fail
  refine C.out.mono ?_
  rintro e w1 ⟨u, xs, rfl, hS, hp, hso, hb⟩
  obtain rfl := keys_one HR.out hp hso
  clear hp hso C
  have hlen : (L.map (·.1)).length = L.length := by simp
  by_cases hL : L = []
  · subst hL
    have B1 := hb
    clear hb HO HF HR
    rcases hvl with ⟨rfl, _⟩ | ⟨g, cap, rfl, hnc, hcm, hg⟩
    all_goals
      rcases hS with ⟨rfl, _⟩ | ⟨g', cap', rfl, _, hnc', hcm', D⟩
      all_goals
        go_wp2_with fail
        refine wp_loop_rounds 1 ?_
        rw [rounds_succ]
        go_wp2_with fail
        go_ret
        exact ⟨rfl, B1⟩
  · have hpos : 0 < L.length := List.length_pos_iff.2 hL
    rcases hvl with ⟨_, h⟩ | ⟨g, cap, rfl, hnc, hcm, hg⟩
    · exact absurd h hL
    rcases hS with ⟨_, h⟩ | ⟨g', cap', rfl, _, hnc', hcm', D⟩
    · rw [h] at hlen; simp at hlen; omega
    rw [hlen] at hnc' ⊢
    unfold maxLen at hcm hcm'
    have HK := Lib.hid (fun k p (h : L[k]? = some p) => keys_at h)
    have hds : (L.map (·.1)).toArray.size = L.length := by simp
    generalize (L.map (·.1)).toArray = d at *
    have O1 := HO.out.below hb
    have F1 := HF.out.below hb
    clear HO HF hL hpos hlen
    go_wp2_with fail
    go_loopw [6] (fun i wr => ∃ k : Nat, k ≤ L.length ∧ i = .int .i64 k ∧ FileAt wr f m L ∧ OwnA wr B (.slice (some ⟨g, 0, none⟩) L.length cap) L ∧ DAt wr g' d ∧ Below w.heap.size w wr) (fun i wr => L.length - (intOf i).toNat)
    case atStart => exact ⟨0, by omega, rfl, F1, O1, D, hb⟩
    case round =>
      clear F1 O1 D hb
      obtain ⟨k, hk, rfl, F, O, D, hB⟩ := hrel
      by_cases hlt : k < L.length
      · obtain ⟨p, hp⟩ : ∃ p, L[k]? = some p := ⟨L[k], List.getElem?_eq_getElem hlt⟩
        have hkd : k < d.size := by omega
        have cd := D.c k hkd
        have hkp := HK.out k p hp
        rw [hkp] at cd
        obtain ⟨p0, p1, p2⟩ := HR.out.al p (List.mem_of_getElem? hp)
        have CL := Lib.hid (fLoad p.1 p.2 f m L wr p0 p2 F (List.mem_of_getElem? hp))
        have HO := Lib.hid O
        have HF := Lib.hid F
        have HD := Lib.hid D
        have HP := Lib.hid hp
        clear F O D hp hkp p2
        obtain ⟨po, ⟨pa, ps, pw, pc⟩⟩ := p
        simp only at p0 p1 CL cd
        go_wp2_with fail
        refine CL.out.mono ?_
        rintro e w6 ⟨rfl, hb6⟩
        have B6 := tr hB hb6
        have O6 := HO.out.below hb6
        have F6 := HF.out.below hb6
        have D6 := HD.out.below hb6
        have c0 := O6.cell HP.out 0 (by decide)
        have c1 := O6.cell HP.out 1 (by decide)
        simp only [al, List.getElem?_cons_zero, List.getElem?_cons_succ, Nat.add_zero] at c0 c1
        have cd6 := D6.c k hkd
        rw [HK.out k _ HP.out] at cd6
        simp only at cd6
        have hgl := (O6.block rfl).2
        have hgl' := D6.lt
        have hg := gcell
        have z1 : (po != po) = false := by simp
        have z2 : (pa != pa) = false := by simp
        have HB6 := Lib.hid B6
        have HO6 := Lib.hid O6
        have HF6 := Lib.hid F6
        have HD6 := Lib.hid D6
        clear cd hB hb6 B6 O6 F6 D6 HO HF HD CL
        go_wp2_with fail
        refine wp_region_quiet_below (by kernel_rfl) (by kernel_rfl) ?_
        repeat (go_big_quiet_step (fail))
        refine wpQuiet_nil ?_
        intro _ hw'
        obtain ⟨⟨dq, osq⟩, hw''⟩ := hw'
        subst hw''
        have hbr := below_regrown w6 dq osq
        have B7 := tr HB6.out hbr
        have O7 := HO6.out.below hbr
        have F7 := HF6.out.below hbr
        have D7 := HD6.out.below hbr
        clear c0 c1 cd6 hgl hgl' hg HB6 HO6 HF6 HD6
        go_wp2_with fail
        go_roundw
        case measure => simp [intOf]; omega
        case rel => exact ⟨k + 1, by omega, by go_num, F7, O7, D7, B7⟩
      · obtain rfl : k = L.length := by omega
        clear F O D
        go_wp2_with fail
        go_ret
        exact ⟨rfl, hB⟩
end Go.Proofs.Ytfhggmiaablcnaa.B
