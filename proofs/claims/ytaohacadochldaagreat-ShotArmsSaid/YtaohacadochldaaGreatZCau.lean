/- A part of the proof of a law of layer 12: au. -/
import Derived.Test.YtaohacadochldaaGreatZCap
import Derived.Test.YtaohacadochldaaGreatZCBLay
set_option linter.unusedVariables false
set_option linter.unusedSimpArgs false
set_option maxHeartbeats 12800000
set_option maxRecDepth 100000
namespace Go.Proofs.YtaohacadochldaaGreat.B
open Go.Proofs.Tryz
open List renaming getElem?_toArray -> y0q, getElem?_cons_zero -> y1q, getElem?_cons_succ -> y2q
open Go.ChangeShapes Go.WideShapes Go.RowKit Go.Sort
theorem aQE (hsort : aAn) (p bm : Nat) (rv : Value) (R : List (Int × Int)) (ks : List Int) (pv : Int -> Value) (Lp : Int -> List Su) (b s : Int) (xt : TypeId) (xv : Value) (w : World) (hB : eZ w p bm rv R ks pv Lp) (hn : R.length < 64) (hx : Su.wf ⟨b, s, xt, xv⟩) :
 Calls prog 182 #[.pointer (some ⟨p, 0, none⟩), .agg #[.int .u32 b, .int .u32 s, .iface xt xv]] w fun e w' => e = .returned (.tuple #[]) /\ aK0 p bm rv R ks pv Lp ⟨b, s, xt, xv⟩ w w' := by
 have hx' := hx
 obtain ⟨x0, ⟨x1, x1'⟩, x2⟩ := hx'
 simp only at x0 x1 x1' x2
 obtain ⟨u0, hu0⟩ : ∃ u0, b / 16777216 = u0 := ⟨_, rfl⟩
 obtain ⟨u1, hu1⟩ : ∃ u1, (b + (s - 1)) / 16777216 = u1 := ⟨_, rfl⟩
 have hu : 0 <= u0 /\ u0 <= u1 /\ u1 <= 255 := by omega
 obtain ⟨g0, g1, g2⟩ := hu
 have HP0 := Hd (fun w => by have := tA b w (by omega) (by omega); rw [hu0] at this; exact this)
 have HP1 := Hd (fun w => by have := tA (b + (s - 1)) w (by omega) (by omega); rw [hu1] at this; exact this)
 have HU0 := Hd hu0
 have HU1 := Hd hu1
 have HS := Hd hsort
 clear hu0 hu1 hsort
 go_enter func182, ntmps182
 go_wp2_with fail
 refine (HP1.out _).mono ?_
 rintro e w1 ⟨rfl, hb1⟩
 have hX := aC hb1 (aD w _) (by simp)
 have hl1 := lt_of_block hX
 have hc0 := aA hX 0
 simp only [y0q, y1q] at hc0
 have hbw1 := tr (aE (aH w) _) hb1
 clear hb1
 go_upto_region 2 with (fail)
 go_wp2_with fail
 refine (HP0.out _).mono ?_
 rintro e w2 ⟨rfl, hb2⟩
 have hX2 := aC hb2 ((aX _ _ hl1).trans hX) (by simp; omega)
 have hY2 := aC hb2 (aD w1 _) (by simp)
 have hbw2 := tr (aE hbw1 _) hb2
 have hl2 := lt_of_block hX2
 have hl3 := lt_of_block hY2
 clear hb2
 go_upto_region 3 with (fail)
 have hW0 := (aX w2 (.cells #[.int .u32 u0] 305) hl2).trans hX2
 have hW1 := (aX w2 (.cells #[.int .u32 u0] 305) hl3).trans hY2
 have hW2 := aD w2 (.cells #[.int .u32 u0] 305)
 have hbW := aE hbw2 (.cells #[.int .u32 u0] 305)
 clear hX hc0 hX2 hY2 hbw1 hbw2
 have hlast : w.heap.size < w1.heap.size := hl1
 generalize w2.alloc (.cells #[.int .u32 u0] 305) = W at *
 generalize w2.heap.size = at1 at *
 generalize w1.heap.size = last1 at *
 clear w1 w2
 have hBW := hB.ofBelow hbW
 have hAP := hB.apart
 have hbml := hB.map.lt
 have hpl := hB.ltp
 have hksl : ∀ v, v ∈ ks -> ∀ j, (pv v).ownBlock = some j -> j < w.heap.size := fun v hv j hj => ((hB.rows v hv).lt j hj).2
 have hlW0 := lt_of_block hW0
 have hlW1 := lt_of_block hW1
 have H0 : aAm W bm R ks pv Lp ⟨b, s, xt, xv⟩ u0 u0 at1 ks pv W := ⟨by rw [aCj]; exact hBW.pgs, by have := hB.kl; omega, fun u hu j hj => .inl ⟨u, hu, hj⟩, aF.refl _ _, hW2⟩
 have HW0 := Hd hW0
 have HW1 := Hd hW1
 have HBW := Hd hBW
 have HBW0 := Hd hB
 have HbW := Hd hbW
 have HKS := Hd hksl
 have HAP := Hd hAP
 clear hW0 hW1 hW2 hBW hB hbW hksl hAP
 go_loopw [5] (fun at_ wr => ∃ (k : Int) (ab : Nat) (ks' : List Int) (pv' : Int -> Value), at_ = .pointer (some ⟨ab, 0, none⟩) /\ u0 <= k /\ k <= u1 + 1 /\ aAm W bm R ks pv Lp ⟨b, s, xt, xv⟩ u0 k ab ks' pv' wr) (fun at_ wr => (u1 + 1 - aDR wr at_).toNat)
 case atStart => exact ⟨u0, at1, ks, pv, rfl, by omega, by omega, H0⟩
 case round =>
  clear H0
  obtain ⟨k, ab, ks', pv', rfl, k0, k1, hA⟩ := hrel
  have hold : ∀ j, j < W.heap.size -> w.heap.size <= j -> ¬ (j = bm \/ ∃ v, v ∈ ks /\ (pv v).ownBlock = some j) := by
   rintro j hj hj2 (h | ⟨v, hv, h⟩)
   . omega
   . have := HKS.out v hv j h; omega
  have hZ0 := hA.off.at HW0.out (hold _ hlW0 (Nat.le_refl _))
  have hZ1 := hA.off.at HW1.out (hold _ hlW1 (by omega))
  have hZP := hA.off.at HBW.out.cell (fun h => h.elim (fun h => HAP.out.pm h) (fun ⟨v, hv, h⟩ => HAP.out.sp v hv p h rfl))
  have hc0 := aA hZ0 0
  have hc1 := aA hZ0 1
  have hc2 := aA hZ0 2
  have hd0 := aA hZ1 0
  have he0 := aA hA.at_ 0
  have hcP := aA hZP 1
  simp only [y0q, y1q, y2q] at hc0 hc1 hc2 hd0 he0 hcP
  have hci : aDR wr (.pointer (some ⟨ab, 0, none⟩)) = k := aAx he0
  have hl0 := lt_of_block hZ0
  have hl1 := lt_of_block hZ1
  have hlp := lt_of_block hZP
  have hlab := lt_of_block hA.at_
  have HZ0 := Hd hZ0
  have HZP := Hd hZP
  clear hZ0 hZ1 hZP
  by_cases hle : k <= u1
  . obtain ⟨i0, hi, hz0, hz1, hz2⟩ := info_parts aGA
    have hMl : (ks'.map fun u => (u, pv' u)).length <= maxLen := by
     have := hA.kl
     rw [List.length_map]; unfold maxLen; omega
    obtain ⟨v0, st, W2, hE, hoE, hv0, hst⟩ := (hA.pg.map.kept (w' := (wr.alloc (.cells #[.int .u32 b, .int .u32 s, .iface xt xv] 269)).drew) (aX wr _ hA.pg.map.lt)).entry aAO aG3 underlying262 k ⟨by omega, by omega⟩ hMl aE5
    have hv : v0 = jH ks' pv' k := by
     unfold jH
     rcases hv0 with h | ⟨h, e⟩
     . obtain ⟨v, hv, he⟩ := List.mem_map.1 h
       obtain ⟨e1, e2⟩ := Prod.mk.inj he
       rw [e1] at hv e2
       rw [if_pos hv, e2]
     . rw [if_neg (fun hk => h (k, pv' k) (List.mem_map.2 ⟨k, hk, rfl⟩) rfl), e]
    have hrow := hA.pg.row k
    have hrn : ∀ j, v0.ownBlock = some j -> j < wr.heap.size /\ j ≠ bm := fun j hj => hA.pg.rowNm k (by rw [<- hv]; exact hj)
    rw [<- hv] at hrow
    have hLl : (lR Lp ⟨b, s, xt, xv⟩ u0 k k).length <= 64 := by
     have e : lR Lp ⟨b, s, xt, xv⟩ u0 k k = Lp k := by unfold lR; rw [if_neg (by omega)]
     rw [e]; have := HBW0.out.ll k; omega
    have hso : ∀ (w3 w4 : World) (v' : Value), W2.grownBy w3 v0.ownBlock -> w3.ownsRow 0 269 3 v' ((lR Lp ⟨b, s, xt, xv⟩ u0 k k).length + 1) ((lR Lp ⟨b, s, xt, xv⟩ u0 k k).flatMap Su.cells ++ [.int .u32 b, .int .u32 s, .iface xt xv]) -> (v'.ownBlock = v0.ownBlock \/ v'.ownBlock = some W2.heap.size) ->
     eA w4 ek lT bm (mZ k v' (ks'.map fun u => (u, pv' u))) -> aF (· = bm) w3 w4 -> tF bm ks' pv' (lR Lp ⟨b, s, xt, xv⟩ u0 k) k ⟨b, s, xt, xv⟩ wr w4 := by
     rw [hv]
     intro w3 w4 v' h23 hown hat hm h34
     exact aJN hA.pg rfl hoE h23 hown hat hm h34
    have hea : wr.heap[ab]? = some (.cells #[.int .u32 k] 305 (0, 0)) := hA.at_
    have hane : ¬ (ab = bm \/ (jH ks' pv' k).ownBlock = some ab) := by
     rintro (h | h)
     . obtain ⟨_, _, hb, _⟩ := hA.pg.map; rw [<- h, hea] at hb; cases hb
     . obtain ⟨c, hc⟩ := gB (hA.pg.row k) h; rw [hea] at hc; simp at hc
    unfold ek at hE
    have hnb : wr.heap.size ≠ bm := by have := hA.pg.map.lt; omega
    have hN := hoE.at (k := wr.heap.size) (aD wr (.cells #[.int .u32 b, .int .u32 s, .iface xt xv] 269)) hnb
    generalize hLk : lR Lp ⟨b, s, xt, xv⟩ u0 k k = Lk at hrow hLl hso
    have hownW : W2.ownsRow 0 269 3 v0 Lk.length (Lk.flatMap Su.cells) := iO hrow fun g hg => by
     rw [hoE.block g (by have := (hrn g hg).1; show g < (wr.alloc _).heap.size; simp; omega) (hrn g hg).2]
     exact aX wr _ (hrn g hg).1
    have hnews := aLL hN
    have hrest : ∀ v' w3, w3.ownsRow 0 269 3 v' (Lk.length + 1) (Lk.flatMap Su.cells ++ [.int .u32 b, .int .u32 s, .iface xt xv]) -> W2.grownBy w3 v0.ownBlock -> (v'.ownBlock = v0.ownBlock \/ v'.ownBlock = some W2.heap.size) ->
     ∃ w4, (Instr.entryStore 262 (.map (some bm)) (.int .i64 st) v').run prog w3 = .ok () w4 /\ tF bm ks' pv' (lR Lp ⟨b, s, xt, xv⟩ u0 k) k ⟨b, s, xt, xv⟩ wr w4 := by
     intro v' w3 hown3 hgr3 hat3
     have hb3 : w3.heap[bm]? = W2.heap[bm]? := hgr3.block bm (Nat.lt_of_lt_of_le (by have := hA.pg.map.lt; show bm < (wr.alloc _).heap.size; simp; omega) hoE.size) (fun e => (hrn bm e.symm).2 rfl)
     obtain ⟨w4, hr4, hm4, ho4⟩ := hst w3 v' hb3
     exact ⟨w4, hr4, hso w3 w4 v' hgr3 hown3 hat3 hm4 ho4⟩
    have HOW := Hd hownW
    have HN := Hd hnews
    have HI := Hd hi
    have HZ := Hd hz0
    have HZ1 := Hd hz1
    have HZ2 := Hd hz2
    have HR := Hd hrest
    have HA := Hd hA
    have HEA := Hd hea
    have HNE := Hd hane
    have HCI := Hd hci
    clear hrest hst hv0 hoE hN hownW hnews hMl hi hz0 hz1 hz2 hA hv hrow hrn hso hLk hea hane hci hold
    go_upto_region 5 with (fail)
    refine sG fun K5 hK5 => ?_
    go_cut [] from 28 to 39 (fun w' => tF bm ks' pv' (lR Lp ⟨b, s, xt, xv⟩ u0 k) k ⟨b, s, xt, xv⟩ wr w')
    case first =>
     go_region_law (refine fJ rfl (.tmp 33) (.tmp 35) 307 rfl 0 269 i0 (.agg #[.int .u32 0, .int .u32 0, .nilIface]) 3 24 underlying307 HI.out HZ.out HZ1.out HZ2.out rfl (by decide) v0 Lk.length (Lk.flatMap Su.cells) rfl HOW.out ⟨wr.heap.size, 0, none⟩ 1 1 [.int .u32 b, .int .u32 s, .iface xt xv] rfl rfl HN.out (aOY b s xt xv) (by unfold maxLen; omega) (by omega) (Nat.zero_le _) ?_; intro v' w3 hown3 hgr3 hnil3 hat3; obtain ⟨w4, hr4, hp4⟩ := HR.out v' w3 hown3 hgr3 hat3)
     all_goals
      go_wp2_with fail
      go_meet
      case rel => assumption
    case rest =>
     obtain ⟨pv'', hNx⟩ := aG9 HA.out k0 hcut
     have hec : wc.heap[ab]? = some (.cells #[.int .u32 k] 305 (0, 0)) := by obtain ⟨_, _, ho, _⟩ := hcut; exact ho.at HEA.out HNE.out
     have he1 := aA hec 0
     simp only [y0q, y1q] at he1
     have hcn := aAx (aA hNx.at_ 0)
     have hlc := lt_of_block hec
     have HNx := Hd hNx
     have HCN := Hd hcn
     refine hK5 _ _ ?_
     clear hE hcut hc0 hc1 hc2 hd0 he0 hcP hec hNx hcn HOW HN HI HZ HZ1 HZ2 HR hK5
     go_wp2_with fail
     go_roundw
     case rel => exact ⟨k + 1, wc.heap.size, aAA ks' k, pv'', rfl, by omega, by omega, HNx.out⟩
     case measure =>
      have h1 := HCI.out
      have h2 := HCN.out
      simp at h1 h2 ⊢
      rw [h1, h2]
      omega
  . obtain rfl : k = u1 + 1 := by omega
    have hregW := iO HBW.out.regs fun g hg => hA.off.block g (HBW.out.regs.lt g hg).2 (fun h => h.elim (HAP.out.rm g hg) (fun ⟨v, hv, h⟩ => HAP.out.rs v hv g h hg))
    go_upto_region 8 with (fail)
    have hp0 := aA HZP.out 0
    simp only [y0q, y1q, y2q] at hp0
    obtain ⟨i0, hi, hz0, hz1, hz2⟩ := info_parts aIh
    have hownV : ((wr.alloc (.cells #[.int .u32 b, .int .u32 s] 180)).drew).ownsRow 0 180 2 rv R.length (R.flatMap bQ) := hregW.alloc _
    have hnewsV := aLK (aD wr (.cells #[.int .u32 b, .int .u32 s] 180))
    have HI := Hd hi
    have HZ := Hd hz0
    have HZ1 := Hd hz1
    have HZ2 := Hd hz2
    have HOV := Hd hownV
    have HNV := Hd hnewsV
    have HA := Hd hA
    clear hownV hnewsV hi hz0 hz1 hz2 hA hregW hold he0 hd0 hcP hci
    refine sG fun K8 hK8 => ?_
    go_cut [] from 40 (fun w' => aB5 p bm rv R b s wr w')
    case first =>
     go_region_law (refine fJ rfl (.tmp 44) (.tmp 47) 263 rfl 0 180 i0 (.agg #[.int .u32 0, .int .u32 0]) 2 8 underlying263 HI.out HZ.out HZ1.out HZ2.out rfl (by decide) rv R.length (R.flatMap bQ) rfl HOV.out ⟨wr.heap.size, 0, none⟩ 1 1 [.int .u32 b, .int .u32 s] rfl rfl HNV.out (aP2 b s) (by unfold maxLen; omega) (by omega) (Nat.zero_le _) ?_; intro v' w3 hown3 hgr3 hnil3 hat3; obtain ⟨g3, cap3, rfl, hp03, hf03, hso3⟩ := aHL HZP.out HAP.out.rp hgr3 hown3 hat3)
     all_goals
      go_wp2_with fail
      go_meet
      case rel => assumption
    case rest =>
     obtain ⟨g3, cap3, hP3, hown3, ho3, hat3⟩ := hcut
     have hp3 := aA hP3 0
     simp only [y0q, y1q, y2q] at hp3
     have hlp3 := lt_of_block hP3
     have hlen : (R ++ [(b, s)]).length = R.length + 1 := by simp
     have hown4 : wc.ownsRow 0 180 2 (.slice (some ⟨g3, 0, none⟩) (R ++ [(b, s)]).length cap3) (R ++ [(b, s)]).length ((R ++ [(b, s)]).flatMap bQ) := by
      rw [hlen, List.flatMap_append]; simpa using hown3
     have hsort := HS.out (R ++ [(b, s)]) g3 cap3 wc hown4 (by rw [hlen]; omega)
     rw [hlen] at hsort
     have H3 := Hd hP3
     have HO3 := Hd ho3
     have HAT3 := Hd hat3
     refine hK8 _ _ ?_
     clear hP3 hown3 ho3 hat3 hown4 hlen hK8
     go_wp2_with fail
     refine hsort.mono ?_
     rintro e X ⟨rfl, R', hperm, hsorted, hown5, ho5⟩
     have HX := Hd (aJd (x := ⟨b, s, xt, xv⟩) HBW0.out HbW.out (by have := HA.out; rw [<- HU0.out] at this; exact this) HU1.out hx H3.out HO3.out HAT3.out hperm hsorted hown5 ho5)
     clear hperm hsorted hown5 ho5 hsort
     go_wp2_with fail
     go_end0
     exact ⟨rfl, HX.out⟩
end Go.Proofs.YtaohacadochldaaGreat.B
namespace Go.Proofs.YtaohacadochldaaGreat.B
open Go.Proofs.Tryz
open List renaming getElem?_toArray -> y0q, getElem?_cons_zero -> y1q, getElem?_cons_succ -> y2q
open Go.ChangeShapes Go.WideShapes Go.RowKit Go.Sort Go.Shelf
theorem yB {α : Type} [Inhabited α] (f : α -> List Value) (k : Nat) (h : ∀ x, (f x).length = k) (d : Array α) : (flatK f k d).toList = d.toList.flatMap f := by
 apply List.ext_getElem?
 intro t
 by_cases ht : t < d.size * k
 . have hk : 0 < k := by
    rcases Nat.eq_zero_or_pos k with h0 | h0
    . subst h0; simp at ht
    . exact h0
   have hq : t / k < d.size := Nat.div_lt_of_lt_mul (by rwa [Nat.mul_comm])
   have h1 := pW f k h d.toList (t / k) (t % k) d[t / k] (by simp [hq]) (Nat.mod_lt _ hk)
   have h2 := get_flatK f k d t ht
   have hlen : t < (flatK f k d).size := by rw [size_flatK]; exact ht
   rw [getElem!_pos _ t hlen] at h2
   rw [Array.getElem?_toList, Array.getElem?_eq_getElem hlen, h2, getElem!_pos d (t / k) hq]
   have e1 : t / k * k + t % k = t := by rw [Nat.mul_comm]; exact Nat.div_add_mod t k
   rw [e1] at h1
   rw [h1]
   have : t % k < (f d[t / k]).length := by rw [h]; exact Nat.mod_lt _ hk
   rw [getElem!_pos (f d[t / k]) (t % k) this, List.getElem?_eq_getElem this]
 . rw [List.getElem?_eq_none (by simp; omega), List.getElem?_eq_none (by rw [jF f k h]; simp; omega)]
theorem aEV {w : World} {g n : Nat} {os : Array Obj} {cur : Array Value} {e : TypeId} {fr : Nat × Nat} (d : Array Value) (hb : w.heap[g]? = some (.cells cur e fr)) :
 (grow (putRow id (Sort.ahead w n) g 0 d) os).heap[g]? = some (.cells (putCells id 0 d cur) e fr) := by
 have hg : g < w.heap.size := lt_of_block hb
 rw [heap_grow_old _ _ (by simpa using hg)]
 simp [putRow, mapBlock, Sort.ahead, Array.getElem?_modify, hb, onCells]
theorem aGw {S : Nat -> Prop} {w : World} {g n : Nat} {os : Array Obj} (d : Array Value) (hS : S g) : aF S w (grow (putRow id (Sort.ahead w n) g 0 d) os) := by
 refine ⟨rfl, rfl, rfl, by simp, fun k hk hne => ?_⟩
 rw [heap_grow_old _ _ (by simpa using hk)]
 have : g ≠ k := fun e => hne (by rw [<- e]; exact hS)
 simp [putRow, mapBlock, Sort.ahead, Array.getElem?_modify, this]
theorem aEx (cur : Array Value) (ts : Array Value) (h : ts.size <= cur.size) : (putCells id 0 ts cur).toList.take ts.size = ts.toList := by
 apply List.ext_getElem?
 intro j
 by_cases hj : j < ts.size
 . rw [List.getElem?_take_of_lt hj, Array.getElem?_toList]
   simp [putCells, hj, show j < cur.size by omega]
 . rw [List.getElem?_take_eq_none (by omega), List.getElem?_eq_none (by simp; omega)]
theorem aHR {α : Type} [Inhabited α] {f : α -> List Value} {k : Nat} (hf : ∀ x, (f x).length = k) {w : World} {base g cap n : Nat} {e : TypeId} {os : Array Obj} {L : List α} {d : Array α} (hd : d.size = L.length)
 (ho : w.ownsRow base e k (.slice (some ⟨g, 0, none⟩) L.length cap) L.length (L.flatMap f)) : (sortWorldK f k w g 0 n d os).ownsRow base e k (.slice (some ⟨g, 0, none⟩) L.length cap) L.length (d.toList.flatMap f) := by
 rcases ho.2 with ⟨h1, _⟩ | ⟨g', cap', cur, h1, h2, h3, h4, h5, h6, h7⟩
 . cases h1
 . obtain ⟨⟨rfl⟩, _, rfl⟩ : (Addr.mk g 0 none = Addr.mk g' 0 none) /\ True /\ cap = cap' := by simp at h1; exact ⟨by rw [h1.1], trivial, h1.2⟩
   refine ⟨by rw [jF f k hf]; simp [hd], .inr ⟨g, cap, _, rfl, h2, aEV _ h3, h4, h5, by simp [putCells, h6], ?_⟩⟩
   have hs : (flatK f k d).size = L.length * k := by rw [size_flatK, hd]
   rw [<- hs, aEx _ _ (by rw [hs, h6]; exact Nat.mul_le_mul_right _ h4), yB f k hf]
theorem aEW {α : Type} [Inhabited α] {f : α -> List Value} {k : Nat} (hf : ∀ x, (f x).length = k) {w : World} {base g cap : Nat} {e : TypeId} {L : List α} (ho : w.ownsRow base e k (.slice (some ⟨g, 0, none⟩) L.length cap) L.length (L.flatMap f)) :
 HoldsK f k w g 0 L.toArray := by
 intro j hj
 have hj' : j < L.length * k := by simpa using hj
 have h1 := ho.cellAt j hj'
 have h2 := ho.frozenAt j
 rw [Nat.zero_add, h1, h2]
 refine ⟨?_, rfl⟩
 rw [getElem!_pos _ j hj]
 have := yB f k hf L.toArray
 have hl : j < (L.flatMap f).length := by rw [jF f k hf]; exact hj'
 rw [List.getElem?_eq_getElem hl]
 simp only [id, Option.some.injEq]
 have h3 : (flatK f k L.toArray).toList[j]? = (L.flatMap f)[j]? := by rw [this]
 rw [List.getElem?_eq_getElem hl, Array.getElem?_toList, Array.getElem?_eq_getElem hj] at h3
 exact (Option.some.inj h3).symm
theorem aPE (x y : Int × Int) (W : World) : Calls prog 219 #[.agg #[.int .u32 x.1, .int .u32 x.2], .agg #[.int .u32 y.1, .int .u32 y.2]] W
 fun e w' => e = .returned (.int .i64 (sR x.1 y.1)) /\ ∃ q os', w' = grow (W.drewN q) os' := by
 go_enter func219, ntmps219
 go_wp2_with (go_at_call 220; refine (aH4 _ _ _).mono ?_; rintro e w' ⟨rfl, rfl⟩)
 go_ret
 exact ⟨rfl, 0, _, by rw [alloc_eq_grow, alloc_eq_grow, grow_grow]; rfl⟩
theorem aDj (x y : Int × Int) : ltOf (fun x y : Int × Int => sR x.1 y.1) x y = decide (x.1 < y.1) := by
 unfold ltOf sR
 by_cases h1 : x.1 < y.1
 . simp [h1]
 . by_cases h2 : y.1 < x.1 <;> simp [h1, h2]
theorem aM6 : SWO (ltOf fun x y : Int × Int => sR x.1 y.1) where
 irrefl x := by rw [aDj]; simp
 trans x y z h1 h2 := by rw [aDj] at *; simp at *; omega
 ntrans x y z h1 h2 := by rw [aDj] at *; simp at *; omega
theorem aPH (R : List (Int × Int)) (g cap : Nat) (w : World) (ho : w.ownsRow 0 180 2 (.slice (some ⟨g, 0, none⟩) R.length cap) R.length (R.flatMap bQ)) (hs : R.length < 4611686018427387904) :
 Calls prog 218 #[.slice (some ⟨g, 0, none⟩) R.length cap, .func (.func 219) #[] #[]] w
  fun e w' => e = .returned (.tuple #[]) /\ ∃ R' : List (Int × Int), R'.Perm R /\ R'.Pairwise (fun x y => x.1 <= y.1) /\ w'.ownsRow 0 180 2 (.slice (some ⟨g, 0, none⟩) R.length cap) R.length (R'.flatMap bQ) /\ aF (· = g) w w' := by
 have eg : ∀ args w, (callFunc 219 args).run prog w = .ok (.enter 219 args) w := enters_of func219 (by kernel_rfl) rfl
 have hcon := AnyQ.slices_SortFunc Tryz.sortReg 2 Tryz.isAgg180 Tryz.sizeOf180 bQ (fun _ => rfl) (fun x v hv => by simp [bQ] at hv; rcases hv with rfl | rfl <;> rfl) (fun x y => sR x.1 y.1) aM6
  219 #[] g 0 cap R.toArray w eg (fun _ _ _ _ x y => aPE x y _) (aEW (f := bQ) (k := 2) (fun _ => rfl) ho) (ho.lt g rfl).2 (by simpa using hs)
 change Calls prog 218 _ _ _ at hcon
 simp only [List.size_toArray] at hcon
 refine hcon.mono ?_
 rintro e w' ⟨rfl, d', n, os, hp, hsd, rfl⟩
 obtain ⟨p1, p2, p3⟩ := hp
 refine ⟨rfl, d'.toList, ?_, ?_, aHR (f := bQ) (k := 2) (fun _ => rfl) (by simpa using p1) ho, aGw _ rfl⟩
 . have : d'.extract 0 R.length = d' := by
    rw [show R.length = d'.size by simpa using p1.symm]; simp
   rw [this] at p3
   simpa using p3
 . rw [List.pairwise_iff_getElem]
   intro i j hi hj hij
   have := hsd i j (Nat.zero_le _) hij (by
    have : d'.size = R.length := by simpa using p1
    simp at hj; omega)
   rw [aDj] at this
   simp at hi hj
   rw [getElem!_pos d' i (by omega), getElem!_pos d' j (by omega)] at this
   simp at this
   simpa using this
theorem aNN (b s : Int) (B : Nat) (w : World) (b0 : 0 <= b) (b1 : b < 4294967296) (s0 : 0 <= s) (s1 : s < 4294967296) (hB : B < w.heap.size) (h0 : w.cell? ⟨B, 0, none⟩ = some (.int .u32 b)) (h1 : w.cell? ⟨B, 1, none⟩ = some (.int .u32 s))
 (x : Int × Int) (hx : (0 <= x.1 /\ x.1 < 4294967296) /\ 0 <= x.2 /\ x.2 < 4294967296) (W : World) (hb : Below w.heap.size w W) :
 Calls prog 215 #[.agg #[.int .u32 x.1, .int .u32 x.2], .pointer (some ⟨B, 0, none⟩)] W fun e w' => e = .returned (.bool (aBM b s x.1 x.2)) /\ Below w.heap.size w w' := by
 obtain ⟨c, t⟩ := x
 obtain ⟨⟨c0, c1⟩, t0, t1⟩ := hx
 simp only at c0 c1 t0 t1
 have hc0 : W.cell? ⟨B, 0, none⟩ = some (.int .u32 b) := (hb.cell (p := ⟨B, 0, none⟩) hB).trans h0
 have hc1 : W.cell? ⟨B, 1, none⟩ = some (.int .u32 s) := (hb.cell (p := ⟨B, 1, none⟩) hB).trans h1
 have hBW : B < W.heap.size := Nat.lt_of_lt_of_le hB hb.size
 have hne : B ≠ W.heap.size := by omega
 have HB := Hd hb
 clear h0 h1 hb
 go_enter func215, ntmps215
 go_wp2_with fail
 refine (aPG b s c t _ b0 b1 s0 s1 c0 c1 t0 t1).mono ?_
 rintro e w1 ⟨rfl, hb1⟩
 go_wp2_with fail
 go_ret
 exact ⟨rfl, (HB.out.alloc HB.out.size _).trans (hb1.mono (Nat.le_trans HB.out.size (by simp)))⟩
theorem aJy (F : Value) (w : World) :
 Calls prog 214 #[.slice none 0 0, F] w fun e w' => e = .returned (.bool false) /\ w = w' := by
 have h1 : Calls prog 230 #[.slice none 0 0, F] w fun e w' => e = .returned (.int .i64 (-1)) /\ w = w' := by
  go_enter func230, ntmps230
  go_wp2_with fail
  refine wp_loop_rounds 1 ?_
  rw [rounds_succ]
  exact aU
 go_enter func214, ntmps214
 go_wp2_with fail
 refine h1.mono ?_
 rintro e w1 ⟨rfl, rfl⟩
 exact aU
def lL (b s : Int) (R : List (Int × Int)) : Bool := R.any fun x => aBM b s x.1 x.2
abbrev U32 := { n : Int // 0 <= n /\ n < 4294967296 }
instance : Inhabited (U32 × U32) := ⟨⟨0, by omega⟩, ⟨0, by omega⟩⟩
def aN8 (x : U32 × U32) : List Value := bQ (x.1.1, x.2.1)
theorem aQG (b s : Int) (B : Nat) (R : List (Int × Int)) (g cap : Nat) (w : World) (b0 : 0 <= b) (b1 : b < 4294967296) (s0 : 0 <= s) (s1 : s < 4294967296) (hB : B < w.heap.size) (h0 : w.cell? ⟨B, 0, none⟩ = some (.int .u32 b)) (h1 : w.cell? ⟨B, 1, none⟩ = some (.int .u32 s))
 (hR : ∀ x ∈ R, (0 <= x.1 /\ x.1 < 4294967296) /\ 0 <= x.2 /\ x.2 < 4294967296) (hn : R.length <= 9223372036854775807)
 (ho : w.ownsRow 0 180 2 (.slice (some ⟨g, 0, none⟩) R.length cap) R.length (R.flatMap bQ)) :
 Calls prog 214 #[.slice (some ⟨g, 0, none⟩) R.length cap, .func (.func 215) #[] #[.pointer (some ⟨B, 0, none⟩)]] w
  fun e w' => e = .returned (.bool (lL b s R)) /\ Below w.heap.size w w' := by
 have eg : ∀ args w, (callFunc 215 args).run prog w = .ok (.enter 215 args) w := enters_of func215 (by kernel_rfl) rfl
 obtain ⟨U, hU⟩ : ∃ U : List (U32 × U32), U.map (fun x => (x.1.1, x.2.1)) = R := by
  refine ⟨R.pmap (fun x (hx : (0 <= x.1 /\ x.1 < 4294967296) /\ 0 <= x.2 /\ x.2 < 4294967296) => (⟨x.1, hx.1⟩, ⟨x.2, hx.2⟩)) hR, ?_⟩
  rw [List.map_pmap]
  simp
 have hl : U.length = R.length := by rw [<- hU]; simp
 have hcon := AnyQ.slices_ContainsFunc Tryz.anyReg 2 Tryz.isAgg180 Tryz.sizeOf180 aN8 (fun _ => rfl) (fun x => aBM b s x.1.1 x.2.1) 215 #[.pointer (some ⟨B, 0, none⟩)] eg g 0 R.length cap U w
  (fun W x hb => aNN b s B w b0 b1 s0 s1 hB h0 h1 (x.1.1, x.2.1) ⟨x.1.2, x.2.2⟩ W hb) (by omega) hn (ho.lt g rfl).2 (fun j hj i v hi => by
    have hjr : j < R.length := by omega
    have hi2 : i < 2 := by
     have := (List.getElem?_eq_some_iff.1 hi).1
     simpa [aN8, bQ] using this
    have := qI (f := bQ) (n := 2) (fun _ => rfl) ho rfl (k := j) (x := R[j]) (List.getElem?_eq_getElem hjr) i hi2
    rw [Nat.zero_add, this]
    rw [getElem!_pos U j hj] at hi
    have e1 : R[j] = (U[j].1.1, U[j].2.1) := by simp [<- hU]
    rw [e1]
    exact hi)
 change Calls prog 214 _ _ _ at hcon
 refine hcon.mono ?_
 rintro e w' ⟨rfl, hb⟩
 refine ⟨cU ?_, hb⟩
 unfold lL
 rw [<- hl, List.take_length, <- hU, List.any_map]
 rfl
theorem aHe : aAn := fun R g cap w ho hs => aPH R g cap w ho hs
theorem aPB (p bm : Nat) (rv : Value) (R : List (Int × Int)) (ks : List Int) (pv : Int -> Value) (Lp : Int -> List Su) (b s : Int) (v : Bool) (w : World) (hB : eZ w p bm rv R ks pv Lp) (hn : R.length < 64) (hR : ∀ x ∈ R, (0 <= x.1 /\ x.1 < 4294967296) /\ 0 <= x.2 /\ x.2 < 4294967296)
 (b0 : 0 <= b) (b1 : b < 4294967296) (s0 : 0 <= s) (s1 : s < 4294967296) (hv : lL b s R = v) :
 Calls prog 181 #[.pointer (some ⟨p, 0, none⟩), .agg #[.int .u32 b, .int .u32 s]] w fun e w' => e = .returned (.int .i64 (if v then 15 else 0)) /\ Below w.heap.size w w' := by
 have hmf : ∀ (fn : Fn) (first cap : Array Value) (w : World), (Instr.makeFunc fn first cap).run prog w = .ok (.func fn first cap) w := fun _ _ _ _ => rfl
 have hc := aA hB.cell 0
 simp only [y0q, y1q] at hc
 have hlt := hB.ltp
 rcases gH hB.regs with ⟨h1, h2⟩ | ⟨g, cap, h1, h2, h3, _⟩
 . subst h1
   have : R = [] := List.eq_nil_of_length_eq_zero h2
   subst this
   have : v = false := by rw [<- hv]; rfl
   subst this
   clear hB
   go_enter func181, ntmps181
   go_wp2_with fail
   refine (aJy _ _).mono ?_
   rintro e w1 ⟨rfl, rfl⟩
   go_wp2_with fail
   go_ret
   exact ⟨rfl, aE (aH w) _⟩
 . subst h1
   have hi : ¬ (64 : Int) <= (R.length : Int) := by omega
   have hreg := hB.regs.alloc (.cells #[.int .u32 b, .int .u32 s] 180)
   have hbx0 := aA (aD w (.cells #[.int .u32 b, .int .u32 s] 180)) 0
   have hbx1 := aA (aD w (.cells #[.int .u32 b, .int .u32 s] 180)) 1
   have hany := aQG b s w.heap.size R g cap (w.alloc (.cells #[.int .u32 b, .int .u32 s] 180)) b0 b1 s0 s1 (by simp) hbx0 hbx1 hR (by omega) hreg
   rw [hv] at hany
   have HR := Hd hR
   clear hB hreg hbx0 hbx1 hR hv
   cases v
   all_goals
    go_enter func181, ntmps181
    go_wp2_with fail
    refine hany.mono ?_
    rintro e w1 ⟨rfl, hb⟩
    go_wp2_with fail
    go_ret
    exact ⟨rfl, tr (aE (aH w) _) hb⟩
theorem aQD (w : World) :
 Calls prog 103 #[] w fun e w' => e = .returned (.pointer (some ⟨w.heap.size + 1, 0, none⟩)) /\ eZ w' (w.heap.size + 1) w.heap.size (.slice none 0 0) [] [] (fun _ => .slice none 0 0) (fun _ => []) /\ Below w.heap.size w w' := by
 have hmm := @run_makeMap prog
 go_enter func103, ntmps103
 go_wp2_with fail
 go_ret
 refine ⟨rfl, ⟨?_, World.ownsRow_nil _ _ _ _, ?_, fun _ h => (by cases h), fun _ _ => rfl, fun _ h => (by cases h), fun _ _ h => (by cases h), by simp, fun _ => by simp⟩, (((Below.refl _ _).alloc (Nat.le_refl _) _).alloc (by simp) _)⟩
 . exact bU w _ _
 . exact (rU w ek lT).kept (aX _ _ (by simp))
theorem aJU (p bm : Nat) (rv : Value) (R : List (Int × Int)) (ks : List Int) (pv : Int -> Value) (Lp : Int -> List Su) (b s : Int) (xt : TypeId) (xv : Value) (w : World) (hB : eZ w p bm rv R ks pv Lp) (hn : R.length < 64) (hx : Su.wf ⟨b, s, xt, xv⟩)
 (hR : ∀ x ∈ R, (0 <= x.1 /\ x.1 < 4294967296) /\ 0 <= x.2 /\ x.2 < 4294967296) (hm : lL b s R = false) (h1 : (b % 4 != 0) = false) (h2 : (s % 4 != 0) = false) :
 Calls prog 105 #[.pointer (some ⟨p, 0, none⟩), .agg #[.int .u32 b, .int .u32 s], .iface xt xv] w fun e w' => e = .returned (.int .i64 0) /\ aK0 p bm rv R ks pv Lp ⟨b, s, xt, xv⟩ w w' := by
 have hx' := hx
 obtain ⟨x0, ⟨x1, x1'⟩, x2⟩ := hx'
 simp only at x0 x1 x1' x2
 have h3 : (s == 0) = false := by simp; omega
 have HR := Hd hR
 have HM := Hd hm
 clear hR hm
 go_enter func105, ntmps105
 go_wp2_with fail
 refine (aNK b s _ x0 (by omega) (by omega) (by omega) h1 h2 h3 (by omega)).mono ?_
 rintro e w1 ⟨rfl, hb1⟩
 have hX := aC hb1 (aD w _) (by simp)
 have hx0 := aA hX 0
 have hx1 := aA hX 1
 simp only [y0q, y1q, y2q] at hx0 hx1
 have hbw := tr (aE (aH w) _) hb1
 have hl1 := lt_of_block hX
 have HX := Hd hX
 clear hX hb1
 go_wp2_with fail
 refine (aPB p bm rv R ks pv Lp b s false _ (hB.ofBelow hbw) hn HR.out x0 (by omega) (by omega) (by omega) HM.out).mono ?_
 rintro e w2 ⟨rfl, hb2⟩
 have hX2 := aC hb2 HX.out hl1
 have hy0 := aA hX2 0
 have hy1 := aA hX2 1
 simp only [y0q, y1q, y2q] at hy0 hy1
 have hbw2 := tr hbw hb2
 clear hX2 hb2
 simp only [Bool.false_eq_true, if_false]
 go_wp2_with fail
 refine (aQE aHe p bm rv R ks pv Lp b s xt xv _ (hB.ofBelow hbw2) hn hx).mono ?_
 rintro e w3 ⟨rfl, rv', R', ks', pv', hB', hp', hs', ho', hk'⟩
 have HB := Hd hB'
 have HP := Hd hp'
 have HS := Hd hs'
 have HO := Hd ho'
 have HK := Hd hk'
 clear hB' hp' hs' ho' hk'
 go_wp2_with fail
 go_ret
 exact ⟨rfl, rv', R', ks', pv', HB.out, HP.out, HS.out, (aF.ofBelow hbw2).trans (HO.out.mono fun _ _ h => h), fun k hk => (HK.out k hk).imp id fun h => Nat.le_trans hbw2.size h⟩
end Go.Proofs.YtaohacadochldaaGreat.B
