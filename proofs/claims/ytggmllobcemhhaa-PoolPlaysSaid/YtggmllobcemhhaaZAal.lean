/- Several texts in one: Layer 16's own pool: its block, its map, its two rows. What bits.Lo, Mask, inWord return, in the plain numbers of BPlain. .. -/
import Derived.Test.YtggmllobcemhhaaZAaa
import Derived.Test.YtggmllobcemhhaaZAad
import Derived.Test.YtggmllobcemhhaaZAak
import Derived.StillTail
import Derived.Deep.Quiet
import Derived.Lib.QuietBelow
namespace Go.Proofs.Ytggmllobcemhhaa.B
set_option linter.unusedVariables false
set_option linter.unusedSimpArgs false
set_option maxRecDepth 100000
open Go.ChangeShapes Go.WideShapes Go.RowKit Go.Sort Go.MapKept
abbrev tPl : TypeId := 69
def RwU (w : World) (g n c : Nat) (f : Nat → Int) : Prop := ∃ cur : Array Value, w.heap[g]? = some (.cells cur tUv (0, 0)) ∧ n ≤ c ∧ c ≤ maxLen ∧ cur.size = c ∧ ∀ i, i < n → cur[i]? = some (.int .u64 (f i))
section
variable {w w' : World} {g n c : Nat} {f : Nat → Int}
theorem RwU.lt (h : RwU w g n c f) : g < w.heap.size := by obtain ⟨_, h1, _⟩ := h; exact lt_of_block h1
theorem RwU.kept (h : RwU w g n c f) (e : w'.heap[g]? = w.heap[g]?) : RwU w' g n c f := by obtain ⟨cur, h1, h2⟩ := h; exact ⟨cur, e.trans h1, h2⟩
theorem RwU.le (h : RwU w g n c f) : n ≤ c ∧ c ≤ maxLen := by obtain ⟨_, _, h1, h2, _⟩ := h; exact ⟨h1, h2⟩
theorem RwU.cell (h : RwU w g n c f) {i : Nat} (hi : i < n) : w.cell? ⟨g, i, none⟩ = some (.int .u64 (f i)) := by obtain ⟨cur, h1, h2, h3, h4, h5⟩ := h; rw [blk_cell h1]; exact h5 i hi
theorem RwU.free (h : RwU w g n c f) (j : Nat) : w.frozen? ⟨g, j, none⟩ = false := by obtain ⟨cur, h1, _⟩ := h; exact blk_free h1 j
theorem RwU.set (h : RwU w g n c f) {i : Nat} (hi : i < n) (v : Int) : RwU (w.setCell ⟨g, i, none⟩ (.int .u64 v)) g n c (upd f i v) := by
 obtain ⟨cur, h1, h2, h3, h4, h5⟩ := h
 refine ⟨_, blk_set h1 i _, h2, h3, by rw [Array.size_setIfInBounds]; exact h4, fun j hj => ?_⟩
 rw [Array.getElem?_setIfInBounds]
 by_cases e : i = j
 · subst e; rw [if_pos rfl, if_pos (by omega), upd_at]
 · rw [if_neg e, upd_ne f _ (fun h => e h.symm)]; exact h5 j hj
theorem RwU.congr {f2 : Nat → Int} (h : RwU w g n c f) (e : ∀ i, i < n → f i = f2 i) : RwU w g n c f2 := by
 obtain ⟨cur, h1, h2, h3, h4, h5⟩ := h
 exact ⟨cur, h1, h2, h3, h4, fun i hi => by rw [h5 i hi, e i hi]⟩
end
structure PlB (w : World) (p m g gc f fc n : Nat) (M : List (Int × Value)) (G F : Nat → Int) : Prop where
 cell : w.heap[p]? = some (.cells #[.map (some m), .slice (some ⟨g, 0, none⟩) n gc, .slice (some ⟨f, 0, none⟩) (nwo n) fc] tPl (0, 0))
 map : mapP w sk ok64 m M
 gens : RwU w g n gc G
 free : RwU w f (nwo n) fc F
 pm : p ≠ m
 pg : p ≠ g
 pf : p ≠ f
 mg : m ≠ g
 mf : m ≠ f
 gf : g ≠ f
def own4 (p m g f k : Nat) : Prop := k = p ∨ k = m ∨ k = g ∨ k = f
section
variable {w w' : World} {p m g gc f fc n : Nat} {M : List (Int × Value)} {G F : Nat → Int}
theorem PlB.keep (h : PlB w p m g gc f fc n M G F) (e : ∀ k, own4 p m g f k → w'.heap[k]? = w.heap[k]?) : PlB w' p m g gc f fc n M G F :=
 ⟨(e p (.inl rfl)).trans h.cell, h.map.kept (e m (.inr (.inl rfl))), h.gens.kept (e g (.inr (.inr (.inl rfl)))), h.free.kept (e f (.inr (.inr (.inr rfl)))), h.pm, h.pg, h.pf, h.mg, h.mf, h.gf⟩
theorem PlB.lt (h : PlB w p m g gc f fc n M G F) : ∀ k, own4 p m g f k → k < w.heap.size := by
 rintro k (rfl | rfl | rfl | rfl)
 · exact lt_of_block h.cell
 · exact h.map.lt
 · exact h.gens.lt
 · exact h.free.lt
theorem PlB.below (h : PlB w p m g gc f fc n M G F) (hb : Below w.heap.size w w') : PlB w' p m g gc f fc n M G F := h.keep fun k hk => hb.block k (h.lt k hk)
theorem PlB.ltp (h : PlB w p m g gc f fc n M G F) : p < w.heap.size := lt_of_block h.cell
theorem PlB.c0 (h : PlB w p m g gc f fc n M G F) : w.cell? ⟨p, 0, none⟩ = some (.map (some m)) := by rw [blk_cell h.cell]; rfl
theorem PlB.c1 (h : PlB w p m g gc f fc n M G F) : w.cell? ⟨p, 1, none⟩ = some (.slice (some ⟨g, 0, none⟩) n gc) := by rw [blk_cell h.cell]; rfl
theorem PlB.c2 (h : PlB w p m g gc f fc n M G F) : w.cell? ⟨p, 2, none⟩ = some (.slice (some ⟨f, 0, none⟩) (nwo n) fc) := by rw [blk_cell h.cell]; rfl
theorem PlB.mapTo (h : PlB w p m g gc f fc n M G F) {M' : List (Int × Value)} (hm : mapP w' sk ok64 m M') (ho : Off (· = m) w w') : PlB w' p m g gc f fc n M' G F :=
 ⟨ho.at h.cell (fun e => h.pm e), hm, h.gens.kept (ho.block g h.gens.lt (fun e => h.mg e.symm)), h.free.kept (ho.block f h.free.lt (fun e => h.mf e.symm)), h.pm, h.pg, h.pf, h.mg, h.mf, h.gf⟩
theorem PlB.setG (h : PlB w p m g gc f fc n M G F) {i : Nat} (hi : i < n) (v : Int) : PlB (w.setCell ⟨g, i, none⟩ (.int .u64 v)) p m g gc f fc n M (upd G i v) F := by
 have ho := off_set w g i (.int .u64 v)
 exact ⟨ho.at h.cell (fun e => h.pg e), h.map.off ho (fun e => h.mg e), h.gens.set hi v, h.free.kept (ho.block f h.free.lt (fun e => h.gf e.symm)), h.pm, h.pg, h.pf, h.mg, h.mf, h.gf⟩
theorem PlB.setF (h : PlB w p m g gc f fc n M G F) {i : Nat} (hi : i < nwo n) (v : Int) : PlB (w.setCell ⟨f, i, none⟩ (.int .u64 v)) p m g gc f fc n M G (upd F i v) := by
 have ho := off_set w f i (.int .u64 v)
 exact ⟨ho.at h.cell (fun e => h.pf e), h.map.off ho (fun e => h.mf e), h.gens.kept (ho.block g h.gens.lt (fun e => h.gf e)), h.free.set hi v, h.pm, h.pg, h.pf, h.mg, h.mf, h.gf⟩
end
structure PlAt (w : World) (p m g gc f fc n : Nat) (t : Nat → Po) (F : Nat → Int) : Prop where
 B : PlB w p m g gc f fc n (entM t n) (fun i => (t i).g) F
 fw : FreeW n t F
theorem PlAt.congr {w : World} {p m g gc f fc n : Nat} {t s : Nat → Po} {F : Nat → Int} (h : PlAt w p m g gc f fc n t F) (e : ∀ i, i < n → t i = s i) : PlAt w p m g gc f fc n s F :=
 ⟨⟨h.B.cell, by rw [← entM_congr n e]; exact h.B.map, h.B.gens.congr fun i hi => by rw [e i hi], h.B.free, h.B.pm, h.B.pg, h.B.pf, h.B.mg, h.B.mf, h.B.gf⟩, h.fw.congr fun i hi => by rw [e i hi]⟩
def poolR : PoolR where
 At w p S n t := ∃ m g gc f fc F, PlAt w p m g gc f fc n t F ∧ S = own4 p m g f
 keep := by
  rintro w w' p S n t ⟨m, g, gc, f, fc, F, h, rfl⟩ hs e
  exact ⟨m, g, gc, f, fc, F, ⟨h.B.keep e, h.fw⟩, rfl⟩
 lt := by
  rintro w p S n t ⟨m, g, gc, f, fc, F, h, rfl⟩ k hk
  exact h.B.lt k hk
 congr := by
  rintro w p S n t s ⟨m, g, gc, f, fc, F, h, rfl⟩ e
  exact ⟨m, g, gc, f, fc, F, h.congr e, rfl⟩
section
variable {w w' : World} {p m g gc f fc n : Nat} {t s : Nat → Po} {F F2 : Nat → Int}
theorem PlAt.below (h : PlAt w p m g gc f fc n t F) (hb : Below w.heap.size w w') : PlAt w' p m g gc f fc n t F := ⟨h.B.below hb, h.fw⟩
theorem PlAt.at (h : PlAt w p m g gc f fc n t F) : poolR.At w p (own4 p m g f) n t := ⟨m, g, gc, f, fc, F, h, rfl⟩
theorem PlAt.left (h : PlAt w' p m g gc f fc n s F2) (ho : Off (own4 p m g f) w w') : VLeft poolR w p (own4 p m g f) n s w' := ⟨_, h.at, fun k hk => .inl hk, ho⟩
theorem PlAt.asked (h : PlAt w p m g gc f fc n t F) (hb : Below w.heap.size w w') : VLeft poolR w p (own4 p m g f) n t w' := (h.below hb).left (Off.ofBelow hb)
end
structure VAt (w : World) (p m g gc f fc n : Nat) (t : Nat → Po) (F : Nat → Int) : Prop where
 A : PlAt w p m g gc f fc n t F
 n0 : 1 ≤ n
 n1 : n ≤ 4096
 ok : ∀ i, i < n → (t i).ok 1099511627700
theorem VAt.below {w w' : World} {p m g gc f fc n : Nat} {t : Nat → Po} {F : Nat → Int} (V : VAt w p m g gc f fc n t F) (hb : Below w.heap.size w w') : VAt w' p m g gc f fc n t F := ⟨V.A.below hb, V.n0, V.n1, V.ok⟩
theorem VIn.at {w : World} {p : Nat} {S : Nat → Prop} {n : Nat} {t : Nat → Po} (V : VIn poolR w p S n t) : ∃ m g gc f fc F, VAt w p m g gc f fc n t F ∧ S = own4 p m g f := by
 obtain ⟨⟨m, g, gc, f, fc, F, h, e⟩, n0, n1, ok⟩ := V
 exact ⟨m, g, gc, f, fc, F, ⟨h, n0, n1, fun i hi => (ok i hi).more (by decide)⟩, e⟩
end Go.Proofs.Ytggmllobcemhhaa.B
namespace Go.Proofs.Ytggmllobcemhhaa.B
set_option linter.unusedVariables false
set_option linter.unusedSimpArgs false
open Go.ChangeShapes Go.WideShapes Go.RowKit
theorem Mask (n : Int) (w : World) (h0 : -9223372036854775808 ≤ n) (h1 : n < 9223372036854775808) :
 Calls Try.prog 31 #[.int .i64 n] w fun e w' => e = .returned (.int .u64 (mask n)) ∧ w = w' := by
 by_cases a : n < 0
 · go_enter Try.func31, Try.ntmps31
   go_wp2
   go_ret
   exact ⟨ret_int (by unfold mask; rw [if_pos a]), rfl⟩
 · by_cases b : 64 < n
   · go_enter Try.func31, Try.ntmps31
     go_wp2
     go_ret
     exact ⟨ret_int (wrap_mask_top n (by omega)), rfl⟩
   · go_enter Try.func31, Try.ntmps31
     go_wp2
     go_ret
     exact ⟨ret_int (wrap_mask n (by omega) (by omega)), rfl⟩
theorem Set (p n : Int) (b : Nat) (w : World) (h0 : 0 ≤ p) (h1 : p < 64) (h2 : 0 ≤ n) (h3 : n < 18446744073709551616) (hc : w.cell? ⟨b, 0, none⟩ = some (.int .u64 n)) :
 Calls Try.prog 43 #[.int .i64 p, .pointer (some ⟨b, 0, none⟩)] w fun e w' => e = .returned (.bool (bit n p.toNat)) ∧ w = w' := by
 go_enter Try.func43, Try.ntmps43
 go_wp2
 go_ret
 exact ⟨ret_bool (set_bit n p h2 h3), rfl⟩
theorem First (n f : Int) (w : World) (h0 : 0 ≤ n) (h1 : n < 18446744073709551616) (f0 : -9223372036854775808 ≤ f) (f1 : f < 9223372036854775808) :
 Calls Try.prog 39 #[.int .u64 n, .int .i64 f] w fun e w' => e = .returned (.int .i64 (first n f)) ∧ Below w.heap.size w w' := by
 have hb : Below w.heap.size w (w.alloc (.cells #[.int .u64 n] 30)) := (Below.refl _ _).alloc (Nat.le_refl _) _
 have hc : (w.alloc (.cells #[.int .u64 n] 30)).cell? ⟨w.heap.size, 0, none⟩ = some (.int .u64 n) := by simp [go_sem]
 by_cases a : f < 0
 all_goals
  go_enter Try.func39, Try.ntmps39
  go_wp2_with fail
  go_loop [6] (fun i => ∃ k : Nat, i = .int .i64 k ∧ f ≤ k ∧ ((k : Int) ≤ f ∨ k ≤ 64) ∧ noneTo n f k) (fun i => 64 - (intOf i).toNat)
  case atStart =>
   first
   | exact ⟨0, by go_num, by omega, by omega, noneTo_start _ _ _ (by omega)⟩
   | exact ⟨f.toNat, by rw [Int.toNat_of_nonneg (by omega)], by omega, by omega, noneTo_start _ _ _ (by omega)⟩
  case round =>
   obtain ⟨k, rfl, hf, hk, hn⟩ := hrel
   by_cases hlt : (k : Int) < 64
   · cases hbit : bit n k
     · have hn' := noneTo_next n f k hn hbit
       go_wp2_with (go_at_call 43; refine (Set (k : Int) n _ _ (by omega) (by omega) h0 h1 hc).mono ?_; rintro e w' ⟨rfl, rfl⟩; rw [Int.toNat_natCast, hbit])
       go_round
       case rel => exact ⟨k + 1, by go_num, by omega, by omega, hn'⟩
       case measure => simp [intOf]; omega
     · have he := Lib.hid (first_some n f k hn hf (by omega) hbit)
       go_wp2_with (go_at_call 43; refine (Set (k : Int) n _ _ (by omega) (by omega) h0 h1 hc).mono ?_; rintro e w' ⟨rfl, rfl⟩; rw [Int.toNat_natCast, hbit])
       go_ret
       exact ⟨ret_int he.out.symm, hb⟩
   · have he := Lib.hid (first_none n f k hn (by omega))
     go_wp2_with fail
     go_ret
     exact ⟨ret_int he.out.symm, hb⟩
end Go.Proofs.Ytggmllobcemhhaa.B
namespace Go.Proofs.Ytggmllobcemhhaa.B
set_option linter.unusedVariables false
set_option linter.unusedSimpArgs false
set_option maxRecDepth 100000
open Go.ChangeShapes Go.WideShapes Go.RowKit Go.Sort Go.MapKept
theorem low12 (x : Int) (h0 : 0 ≤ x) (h1 : x < 18446744073709551616) : bits BinOp.and IntKind.u64 x 4095 = x % 4096 := by
 rw [u64_and _ _ h0 h1 (by decide) (by decide), show (4095 : Int).toNat = 2 ^ 12 - 1 by decide, Nat.and_two_pow_sub_one_eq_mod]
 omega
theorem poolSplit (x : Int) (w : World) (hx : u64r x) : Calls Try.prog 27 #[.int .u64 x] w fun e w' => e = .returned (.tuple #[.int .u64 (x / 4096), .int .i64 (x % 4096)]) ∧ Below w.heap.size w w' := by
 obtain ⟨x0, x1⟩ := hx
 have hm : mask 12 = 4095 := by decide
 have hl := low12 x x0 x1
 go_enter Try.func27, Try.ntmps27
 go_wp2_with (go_at_call 31; refine (Mask 12 w (by decide) (by decide)).mono ?_; rintro e w1 ⟨rfl, rfl⟩; rw [hm])
 go_ret2
 exact ⟨rfl, tr0 _⟩
section
variable {w : World} {p m g gc f fc n : Nat} {t : Nat → Po} {F : Nat → Int}
theorem pRoom (V : VAt w p m g gc f fc n t F) : Calls Try.prog 29 #[.pointer (some ⟨p, 0, none⟩)] w fun e w' => e = .returned (.int .i64 n) ∧ w = w' := by
 have c1 := V.A.B.c1
 clear V
 go_enter Try.func29, Try.ntmps29
 go_wp2_with fail
 go_ret
 exact ⟨rfl, rfl⟩
theorem pLive (V : VAt w p m g gc f fc n t F) : Calls Try.prog 26 #[.pointer (some ⟨p, 0, none⟩)] w fun e w' => e = .returned (.int .i64 (hdsB t n).length) ∧ w = w' := by
 have c0 := V.A.B.c0
 have hM := Lib.hid V.A.B.map
 rw [← entM_len]
 clear V
 go_enter Try.func26, Try.ntmps26
 go_wp2_with (at_len; refine wpList_lenM rfl _ _ rfl Try.underlying66 rfl hM.out ?_)
 go_ret
 exact ⟨rfl, rfl⟩
theorem hd_code (a x : Int) (i : Nat) (h0 : 1 ≤ x) (h1 : x ≤ 1099511627700) (hi : i < 4096) : bits BinOp.or IntKind.u64 (x * 4096) i = x * 4096 + i := by
 rw [u64_or _ _ (by omega) (by omega) (by omega) (by omega)]
 have e := nat_join 12 (x.toNat * 4096) i (by omega) (by omega)
 rw [show (x * 4096).toNat = x.toNat * 4096 by omega, Int.toNat_natCast, e]
 omega
theorem pHandle (V : VAt w p m g gc f fc n t F) (a : Int) (ha : i64v a) : Calls Try.prog 25 #[.pointer (some ⟨p, 0, none⟩), .int .i64 a] w fun e w' => e = .returned (.int .u64 (hdlI n t a)) ∧ Below w.heap.size w w' := by
 have c0 := V.A.B.c0
 have c1 := V.A.B.c1
 have hM := Lib.hid V.A.B.map
 obtain ⟨a0, a1⟩ := ha
 have n1 := V.n1
 by_cases h : 0 ≤ a ∧ a < n ∧ (t a.toNat).tk = true
 · obtain ⟨i, rfl⟩ : ∃ i : Nat, a = (i : Int) := ⟨a.toNat, by omega⟩
   rw [Int.toNat_natCast] at h
   obtain ⟨h0, h2, h3⟩ := h
   have hi : i < n := by omega
   have hin := Lib.hid (show ((i : Int), Value.agg #[.int .u64 (t i).d, .int .u64 (t i).p, .int .u64 (t i).o]) ∈ entM t n from mem_entM t n i hi h3)
   have cg := V.A.B.gens.cell hi
   have ok := V.ok i hi
   have g0 := ok.g0
   have g1 : (t i).g ≤ 1099511627700 := ok.g1
   have hgl := V.A.B.gens.le
   have hC := hd_code 0 (t i).g i g0 g1 (by omega)
   have hltp := V.A.B.ltp
   have hltg := V.A.B.gens.lt
   unfold hdlI
   rw [if_pos ⟨by omega, by omega, by rw [Int.toNat_natCast]; exact h3⟩, Int.toNat_natCast]
   unfold hd
   clear V h3 ok
   generalize (t i).g = gi at *
   generalize (t i).d = di at *
   generalize (t i).p = qi at *
   generalize (t i).o = oi at *
   obtain ⟨gl0, gl1⟩ := hgl
   unfold maxLen at gl1
   go_enter Try.func25, Try.ntmps25
   go_wp2_with (at_lookup; refine wpList_hit_ok spotKey rfl _ _ _ rfl Try.underlying66 rfl hM.out (i : Int) _ rfl hin.out ?_)
   go_ret
   exact ⟨rfl, trA (tr0 _) _⟩
 · unfold hdlI
   rw [if_neg h]
   have hno := Lib.hid (entM_out t n (x := a) (fun i hi ht e => h ⟨by omega, by omega, by rw [← e, Int.toNat_natCast]; exact ht⟩))
   clear V h
   go_enter Try.func25, Try.ntmps25
   go_wp2_with (at_lookup; refine wpList_miss_ok spotKey rfl _ _ _ rfl Try.underlying66 rfl hM.out a (.agg #[.int .u64 0, .int .u64 0, .int .u64 0]) rfl hno.out ⟨a0, a1⟩ (by kernel_rfl) ?_)
   go_ret
   exact ⟨rfl, trA (tr0 _) _⟩
end
end Go.Proofs.Ytggmllobcemhhaa.B
namespace Go.Proofs.Ytggmllobcemhhaa.B
set_option linter.unusedVariables false
set_option linter.unusedSimpArgs false
open Go.RowKit Go.Sort
section
variable {P : Program} {ops : Array Oper} {md : Region.Mode} {C : World → Prop}
def headQ (P : Program) (md : Region.Mode) (ops : Array Oper) (C : World → Prop) (n : Nat) (L : Array Bool → Act → Prop) : Nat → Array Bool → Act → Prop
 | 0, done, a => L done a
 | f + 1, done, a => Region.ready md ops done ≠ [] ∧ ∀ i ∈ Region.ready md ops done, i < n ∧ qOp P ops C i (headQ P md ops C n L f (done.setIfInBounds i true)) a
theorem headQ_sound {n g : Nat} {L : Array Bool → Act → Prop} {Q' : Exit → Act → World → Prop} (hL : ∀ done a w, C w → L done a → wpAny P md ops Q' g done a w) (f : Nat) :
 ∀ (done : Array Bool) (a : Act) (w : World), C w → headQ P md ops C n L f done a → wpAny P md ops Q' (f + g) done a w := by
 induction f with
 | zero => intro done a w hw h; rw [Nat.zero_add]; exact hL _ _ _ hw h
 | succ f ih =>
   intro done a w hw ⟨h1, h2⟩
   rw [show f + 1 + g = (f + g) + 1 by omega]
   exact ⟨fun h0 => absurd h0 h1, fun i hi => wpOp_of_qOp hw (fun a' w' hw' h' => ih _ a' w' hw' h') (h2 i hi).2⟩
theorem headQ_first {n i : Nat} {oi : Oper} {v : Value} {L : Array Bool → Act → Prop} (hi : ops[i]? = some oi) (hsel : ∀ (j : Nat) (o : Oper) cs b, ops[j]? = some o → o.op ≠ .select cs b)
 (hs : Region.sinkB md ops n = true) (hc : Region.chainB md ops n = true) (hn : n < ops.size) (hin : i < n) (hdone : ∀ done a, L done a → ∀ j ∈ Region.ready md ops done, n ≤ j) (f : Nat) :
 ∀ (done : Array Bool) (a : Act), HeadInv md ops n done →
  (∀ j oj, ops[j]? = some oj → j ≠ i → done.getD j true = false → (∀ e ∈ oj.after, Region.binds md e = true → e.on ≠ i) → oi.apart ops oj = true) →
  i ∈ Region.ready md ops done → YieldsIn P ops C oi v a → headQ P md ops C n L f (done.setIfInBounds i true) (a.put oi.dst v) → headQ P md ops C n L (f + 1) done a := by
 have below : ∀ done : Array Bool, HeadInv md ops n done → i ∈ Region.ready md ops done → ∀ j ∈ Region.ready md ops done, j < n := fun done inv hr j hj => by
  rcases Nat.lt_or_ge j n with h | h
  · exact h
  · exact absurd hj (tail_waits hs hc hn inv _ i rfl hin (mem_ready.1 hr).1 j h)
 induction f with
 | zero =>
   intro done a inv _ hr hy H
   refine ⟨fun h => (by rw [h] at hr; cases hr), fun j hj => ⟨below done inv hr j hj, ?_⟩⟩
   by_cases e : j = i
   · subst e; exact hy.qOp hi H
   · have := hdone _ _ H j (ready_mono hj e)
     have := below done inv hr j hj
     omega
 | succ f ih =>
   intro done a inv hfree hr hy H
   have hun := (mem_ready.1 hr).1
   refine ⟨fun h => (by rw [h] at hr; cases hr), fun j hj => ⟨below done inv hr j hj, ?_⟩⟩
   by_cases e : j = i
   · subst e; exact hy.qOp hi H
   · obtain ⟨hjun, oj, hoj, hall⟩ := mem_ready.1 hj
     have hnot : ∀ e ∈ oj.after, Region.binds md e = true → e.on ≠ i := fun e he hb heq => by
      have h1 := hall e he hb
      rw [heq, getD_both hun] at h1
      cases h1
     have hstep := qOp_put hoj (hfree j oj hoj e hjun hnot) (fun cs b => hsel i oi cs b hi) (fun cs b => hsel j oj cs b hoj) hy (H.2 j (ready_mono hj e)).2
     refine qOp_mono (fun a' h3 => ih (done.setIfInBounds j true) a' (inv.set hj (below done inv hr j hj)) ?_ (ready_mono hr (Ne.symm e)) h3.1 ?_) hstep
     · intro k ok hk hki hku hno
       refine hfree k ok hk hki ?_ hno
       by_cases hjk : j = k
       · subst hjk; exact hjun
       · rwa [getD_set_ne true hjk] at hku
     · rw [Array.setIfInBounds_comm _ _ e]; exact h3.2
theorem headQ_lex {n g : Nat} {T : Act → Prop} (hsel : Region.noSelect ops = true) (hs : Region.sinkB md ops n = true) (hc : Region.chainB md ops n = true) (hn : n < ops.size) (l : List Oper) :
 ∀ (k : Nat) (done : Array Bool) (a : Act), (∀ j, j < l.length → l[j]? = ops[k + j]?) → k + l.length = n → HeadInv md ops n done →
  Region.lexHead md ops g l.length k done = true → wpQuiet P ops C T l a → headQ P md ops C n (fun done' a' => Region.seqB md ops g n done' = true ∧ T a') l.length done a := by
 induction l with
 | nil =>
   intro k done a _ hk _ hB h
   obtain rfl : k = n := by simpa using hk
   exact ⟨by simpa [Region.lexHead] using hB, h⟩
 | cons o l ih =>
   intro k done a hl hk inv hB h
   have h0 : ops[k]? = some o := by simpa using (hl 0 (by simp)).symm
   simp only [List.length_cons, Region.lexHead, Bool.and_eq_true] at hB
   obtain ⟨⟨hr, hf⟩, hB'⟩ := hB
   have hkl : k + (l.length + 1) = n := by simpa using hk
   have hr' : k ∈ Region.ready md ops done := by simpa using hr
   have hq : qOp P ops C k (wpQuiet P ops C T l) a := by unfold qOp; simp only [h0]; exact h
   obtain ⟨v, hy, hK⟩ := yieldsIn_of_qOp h0 hq
   refine headQ_first h0 (Region.noSelect_spec hsel) hs hc hn (by omega) (fun done' a' hL => seqB_ready hL.1) l.length done a inv (Region.free_spec h0 hf) hr' hy ?_
   exact ih (k + 1) _ _ (fun j hj => by have := hl (j + 1) (by simpa using hj); simpa [Nat.add_assoc, Nat.add_comm 1 j] using this) (by omega) (inv.set hr' (by omega)) hB' hK
theorem wp_region_quiet_tail {id : Nat} {Q : Exit → Act → World → Prop} {a : Act} {w : World} {l : List Oper} (n : Nat) (hm : P.follows .mixedOrders = true) (hB : Region.lexTailB .any l.toArray n = true)
 (hC : C { w with drawn := w.drawn + 1 }) (h : wpQuiet P l.toArray C (fun a' => ∀ w', C w' → wpList P l.toArray Q (l.drop n) a' w') (l.take n) a) : (Code.region id l.toArray true).wp P Q a w := by
 simp only [Region.lexTailB, Bool.and_eq_true, decide_eq_true_eq] at hB
 obtain ⟨⟨⟨⟨hsel, hn⟩, hs⟩, hc⟩, hlex⟩ := hB
 have hn' : n < l.length := by simpa using hn
 have htl : (l.take n).length = n := by simp; omega
 have hdl : (l.drop n).length = l.toArray.size - n := by simp
 have inv0 : HeadInv .any l.toArray n (Array.replicate l.toArray.size false) :=
  ⟨by simp, fun j oj _ hl => (by rw [getD_replicate_false] at hl; cases hl), fun t _ ht => getD_in (by simpa using ht) (getD_replicate_false _ _)⟩
 have H := headQ_lex (C := C) (md := .any) (g := l.toArray.size - n) hsel hs hc hn (l.take n) 0 _ a (fun j hj => by rw [htl] at hj; simp [hj]) (by simpa using htl) inv0 (by rw [htl]; exact hlex) h
 have key := headQ_sound (Q' := Q) (g := l.toArray.size - n) (fun done a' w' hw' hL => by
  have := wpAny_of_seq (md := .any) (Q' := Q) (l.drop n) n done a' w' (fun j => by simp [List.getElem?_drop]) (by rw [hdl]; exact hL.1) (hL.2 w' hw')
  rwa [hdl] at this) _ _ _ _ hC H
 rw [htl, show n + (l.toArray.size - n) = l.toArray.size by omega] at key
 exact wp_region_any hm key
end
theorem wp_region_tail_below {P : Program} {id : Nat} {Q : Exit → Act → World → Prop} {a : Act} {w : World} {l : List Oper} (n : Nat) (hm : P.follows .mixedOrders = true) (hB : Region.lexTailB .any l.toArray n = true)
 (h : wpQuiet P l.toArray (fun w' => ∃ p : Regrown, w' = grow (redrawn w p.d) p.os) (fun a' => ∀ w', (∃ p : Regrown, w' = grow (redrawn w p.d) p.os) → wpList P l.toArray Q (l.drop n) a' w') (l.take n) a) : (Code.region id l.toArray true).wp P Q a w :=
 wp_region_quiet_tail (C := fun w' => ∃ p : Regrown, w' = grow (redrawn w p.d) p.os) n hm hB ⟨⟨w.drawn + 1, #[]⟩, by rw [grow_empty]; rfl⟩ h
end Go.Proofs.Ytggmllobcemhhaa.B
namespace Go.Proofs.Ytggmllobcemhhaa.B
set_option linter.unusedVariables false
set_option linter.unusedSimpArgs false
set_option maxRecDepth 100000
open Go.ChangeShapes Go.WideShapes Go.RowKit Go.Sort Go.MapKept
abbrev tSp : TypeId := 71
theorem iSp : (Try.prog.info? 71).map (·.size) = some 1 := by kernel_rfl
section
variable {w : World} {p m g gc f fc n : Nat} {t : Nat → Po} {F : Nat → Int}
theorem fnd_at {x : Int} (hx : u64r x) {n : Nat} {t : Nat → Po} (ok : ∀ i, i < n → 1 ≤ (t i).g) : (x != 0 && x == hdlI n t (x % 4096)) = (fnd n t x).isSome := by
 obtain ⟨x0, x1⟩ := hx
 unfold hdlI fnd
 have e : (x % 4096).toNat = x.toNat % 4096 := by omega
 by_cases h : 0 ≤ x % 4096 ∧ x % 4096 < n ∧ (t (x % 4096).toNat).tk = true
 · obtain ⟨h0, h1, h2⟩ := h
   have hi : (x % 4096).toNat < n := by omega
   have g0 := ok _ hi
   rw [if_pos ⟨h0, h1, h2⟩]
   unfold hd
   by_cases hg : (t (x % 4096).toNat).g = x / 4096
   · rw [if_pos ⟨hi, h2, hg⟩]
     have : x ≠ 0 := by omega
     have h3 : x = (t (x % 4096).toNat).g * 4096 + ((x % 4096).toNat : Int) := by omega
     rw [← h3]
     simp [this]
   · rw [if_neg (fun h => hg h.2.2)]
     have h3 : x ≠ (t (x % 4096).toNat).g * 4096 + ((x % 4096).toNat : Int) := by omega
     rw [show (x == (t (x % 4096).toNat).g * 4096 + ((x % 4096).toNat : Int)) = false from beq_eq_false_iff_ne.2 h3, Bool.and_false]; rfl
 · rw [if_neg h, if_neg (fun k => h ⟨by omega, by omega, k.2.1⟩)]
   by_cases h3 : x = 0 <;> simp [h3]
theorem pFind (V : VAt w p m g gc f fc n t F) (x : Int) (hx : u64r x) : Calls Try.prog 34 #[.pointer (some ⟨p, 0, none⟩), .int .u64 x] w fun e w' => e = .returned (.tuple #[.agg #[.int .i64 (x % 4096)], .bool (fnd n t x).isSome]) ∧ Below w.heap.size w w' := by
 have hfi := fnd_at hx (n := n) (t := t) (fun i hi => (V.ok i hi).g0)
 have x0 := hx.1
 have x1 := hx.2
 have HB0 := Lib.hid (trA (tr0 w) (.cells #[.int .i64 0] tSp))
 have HX := Lib.hid (blk_new w (.cells #[.int .i64 0] tSp))
 have HV := Lib.hid V
 clear V
 rw [← hfi]
 clear hfi
 by_cases hz : x = 0
 · subst hz
   have hs := Lib.hid (fun w => poolSplit 0 w hx)
   clear hx
   go_enter Try.func34, Try.ntmps34
   go_wp2_with fail
   refine (hs.out _).mono ?_
   rintro e w1 ⟨rfl, hb1⟩
   have hX1 := blk_below hb1 HX.out (by simp)
   have HB1 := Lib.hid (tr HB0.out hb1)
   have hc0 := blk_free hX1 0
   have hl := lt_of_block hX1
   have d0 := blk_cell hX1 0
   simp only [List.getElem?_toArray, List.getElem?_cons_zero, List.getElem?_cons_succ] at d0
   have HX1 := Lib.hid hX1
   clear hX1 hb1 hs HX HB0 HV
   go_wp2_with fail
   have h1 := blk_set HX1.out 0 (.int .i64 0)
   refine bodyPost_ret (v := .tuple #[.agg #[.int .i64 0], .bool false]) ?_ rfl ⟨rfl, HB1.out.setCell (p := ⟨w.heap.size, 0, none⟩) (Nat.le_refl _) _⟩
   exact results_cell_slot rfl _ _ w.heap.size 0 _ [.int .i64 0] _ rfl rfl h1 Try.underlying71 rfl iSp (part_all _)
 · have hs := Lib.hid (fun w => poolSplit x w hx)
   have hne : (x != 0) = true := by simp [hz]
   have HN := Lib.hid hne
   clear hx hz
   rw [hne, Bool.true_and]
   go_enter Try.func34, Try.ntmps34
   go_wp2_with fail
   refine (hs.out _).mono ?_
   rintro e w1 ⟨rfl, hb1⟩
   have hX1 := Lib.hid (blk_below hb1 HX.out (by simp))
   have hB1 := Lib.hid (tr HB0.out hb1)
   have HV1 := Lib.hid (HV.out.below hB1.out)
   have hq := Lib.hid (show i64v (x % 4096) from ⟨by omega, by omega⟩)
   clear hs HX HB0 HV hb1
   go_wp2_with fail
   refine (pHandle HV1.out _ hq.out).mono ?_
   rintro e w2 ⟨rfl, hb2⟩
   have hX2 := blk_below hb2 hX1.out (lt_of_block hX1.out)
   have HB2 := Lib.hid (tr hB1.out hb2)
   have hc0 := blk_free hX2 0
   have hl := lt_of_block hX2
   have d0 := blk_cell hX2 0
   simp only [List.getElem?_toArray, List.getElem?_cons_zero, List.getElem?_cons_succ] at d0
   have HX2 := Lib.hid hX2
   clear hX2 hb2 hX1 hB1 HV1 hq
   go_wp2_with fail
   have h1 := blk_set HX2.out 0 (.int .i64 (x % 4096))
   refine bodyPost_ret (v := .tuple #[.agg #[.int .i64 (x % 4096)], .bool (x == hdlI n t (x % 4096))]) ?_ rfl ⟨rfl, HB2.out.setCell (p := ⟨w.heap.size, 0, none⟩) (Nat.le_refl _) _⟩
   exact results_cell_slot rfl _ _ w.heap.size 0 _ [.int .i64 (x % 4096)] _ rfl rfl h1 Try.underlying71 rfl iSp (part_all _)
theorem pTurn {M : List (Int × Value)} {G : Nat → Int} (H : PlB w p m g gc f fc n M G F) (hF : ∀ k, k < nwo n → 0 ≤ F k ∧ F k < 18446744073709551616) {i : Nat} (hi : i < n) (n1 : n ≤ 4096) : Calls Try.prog 33 #[.pointer (some ⟨p, 0, none⟩), .int .i64 i] w
 fun e w' => e = .returned (.tuple #[]) ∧ PlB w' p m g gc f fc n M G (upd F (i / 64) (bits BinOp.xor IntKind.u64 (F (i / 64)) (2 ^ (i % 64)))) ∧ Off (· = f) w w' := by
 have hk : i / 64 < nwo n := by unfold nwo; omega
 have HH := Lib.hid H
 have c2 := H.c2
 have hp := H.ltp
 have cF := H.free.cell hk
 have hfr := H.free.free (i / 64)
 have hlf := H.free.lt
 obtain ⟨l0, l1⟩ := H.free.le
 obtain ⟨f0, f1⟩ := hF _ hk
 unfold maxLen at l1
 clear H hF
 generalize hK : i / 64 = K at *
 generalize hS : i % 64 = S at *
 have s64 : S < 64 := by omega
 have hw : IntKind.u64.wrap ((2 : Int) ^ S) = 2 ^ S := by rw [IntKind.wrap_u64]; exact Int.emod_eq_of_lt (pow64 S s64).1 (pow64 S s64).2
 have e1 : (i : Int) / 64 = K := by omega
 have e2 : (i : Int) % 64 = S := by omega
 go_enter Try.func33, Try.ntmps33
 have hgc := gcell
 have hgf := gfrozen
 go_upto_region 0 with (fail)
 refine wp_region_tail_below 13 (by kernel_rfl) (by kernel_rfl) ?_
 simp only [List.take_succ_cons, List.take_zero, List.drop_succ_cons, List.drop_zero]
 repeat (go_big_quiet_step (fail))
 refine wpQuiet_nil ?_
 intro _ hw'
 obtain ⟨⟨dq, osq⟩, hw''⟩ := hw'
 subst hw''
 have hb := below_regrown w dq osq
 have H2 := Lib.hid ((HH.out.below hb).setF hk (bits BinOp.xor IntKind.u64 (F K) (2 ^ S)))
 have O2 := Lib.hid ((Off.ofBelow (S := (· = f)) hb).trans (off_set _ f K (.int .u64 (bits BinOp.xor IntKind.u64 (F K) (2 ^ S)))))
 go_wp2_with fail
 go_end0
 exact ⟨rfl, H2.out, O2.out⟩
theorem pLeast (V : VAt w p m g gc f fc n t F) {i : Nat} (hi : i < n) (hf : (t i).tk = false) (hl : ∀ j, j < i → (t j).tk = true) : Calls Try.prog 32 #[.pointer (some ⟨p, 0, none⟩)] w fun e w' => e = .returned (.int .i64 i) ∧ Below w.heap.size w w' := by
 obtain ⟨hz, hfi⟩ := V.A.fw.least hi hf hl
 have hb := V.A.fw.b
 have hzero := Lib.hid (fun k (hk : k < i / 64) => V.A.fw.zero (k := k) (by unfold nwo; omega) (fun j h0 h1 h2 => hl j (by omega)))
 have n1 := V.n1
 have HV := Lib.hid V.A.B
 have hnw : nwo n ≤ 64 := by unfold nwo; omega
 have hk : i / 64 < nwo n := by unfold nwo; omega
 have c2 := V.A.B.c2
 have hiK := Lib.hid (show (i : Int) = ((i / 64 : Nat) : Int) * 64 + ((i % 64 : Nat) : Int) by omega)
 generalize i / 64 = K at *
 generalize i % 64 = S at *
 clear hl hf V
 generalize hNN : nwo n = N at *
 have hNN := Lib.hid hNN
 go_enter Try.func32, Try.ntmps32
 go_wp2_with fail
 go_step3
 go_wp2_with fail
 go_step3
 go_wp2_with fail
 go_loopw [3, 11] (fun a i wr => ∃ (k : Nat), k ≤ K ∧ a = .int .i64 (-1) ∧ i = .int .i64 k ∧ wr = w) (fun a i wr => N - (intOf i).toNat)
 case atStart => exact ⟨0, Nat.zero_le _, rfl, rfl, rfl⟩
 case round =>
  obtain ⟨k, hkK, rfl, rfl, rfl⟩ := hrel
  have ck := HV.out.free.cell (i := k) (by rw [hNN.out]; omega)
  obtain ⟨l0, l1⟩ := HV.out.free.le
  rw [hNN.out] at l0
  unfold maxLen at l1
  have hlf := HV.out.free.lt
  by_cases hlt : k < K
  · rw [hzero.out k hlt] at ck
    have hkN : k < N := by omega
    go_wp2_with fail
    go_roundw
    case rel => exact ⟨k + 1, by omega, rfl, by go_num, by first | rfl | trivial⟩
    case measure => simp [intOf]; omega
  · obtain rfl : k = K := by omega
    obtain ⟨f0, f1⟩ := hb k hk
    have hz2 : (F k == 0) = false := by simp [hz]
    have hw : wrap64 ((k : Int) * 64 + S) = i := by have := hiK.out; unfold Go.RowKit.wrap64; omega
    go_wp2_with fail
    refine (First (F k) 0 _ f0 f1 (by decide) (by decide)).mono ?_
    rintro e w1 ⟨rfl, hb1⟩
    rw [hfi]
    go_wp2_with fail
    rw [Exit.noGoto_ret]
    go_ret
    exact ⟨by rw [← hw]; rfl, hb1⟩
theorem pLeastNo (V : VAt w p m g gc f fc n t F) (hl : ∀ j, j < n → (t j).tk = true) : Calls Try.prog 32 #[.pointer (some ⟨p, 0, none⟩)] w fun e w' => e = .returned (.int .i64 (-1)) ∧ Below w.heap.size w w' := by
 have hzero := Lib.hid (fun k (hk : k < nwo n) => V.A.fw.zero hk (fun j h0 h1 h2 => hl j h2))
 have n1 := V.n1
 have HV := Lib.hid V.A.B
 have hnw : nwo n ≤ 64 := by unfold nwo; omega
 have c2 := V.A.B.c2
 clear hl V
 generalize hNN : nwo n = N at *
 have hNN := Lib.hid hNN
 go_enter Try.func32, Try.ntmps32
 go_wp2_with fail
 go_step3
 go_wp2_with fail
 go_step3
 go_wp2_with fail
 go_loopw [3, 11] (fun a i wr => ∃ (k : Nat), k ≤ N ∧ a = .int .i64 (-1) ∧ i = .int .i64 k ∧ wr = w) (fun a i wr => N - (intOf i).toNat)
 case atStart => exact ⟨0, Nat.zero_le _, rfl, rfl, rfl⟩
 case round =>
  obtain ⟨k, hkN, rfl, rfl, rfl⟩ := hrel
  by_cases hlt : k < N
  · have ck := HV.out.free.cell (i := k) (by rw [hNN.out]; exact hlt)
    obtain ⟨l0, l1⟩ := HV.out.free.le
    rw [hNN.out] at l0
    unfold maxLen at l1
    have hlf := HV.out.free.lt
    rw [hzero.out k hlt] at ck
    go_wp2_with fail
    go_roundw
    case rel => exact ⟨k + 1, by omega, rfl, by go_num, by first | rfl | trivial⟩
    case measure => simp [intOf]; omega
  · obtain rfl : k = N := by omega
    go_wp2_with fail
    rw [Exit.noGoto_ret]
    go_ret
    exact ⟨rfl, tr0 _⟩
end
end Go.Proofs.Ytggmllobcemhhaa.B
