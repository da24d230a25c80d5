/- 'm[k] = f(m[k])' in one statement: the entry is found, then laid; append as a step of a region that draws its order. -/
import Derived.Test.YtfhggmiaablcnaaMap
import Derived.Deep.RegionLaw
import Derived.Maps.AppendAt
namespace Go.Proofs.Ytfhggmiaablcnaa.B
set_option linter.unusedVariables false
set_option linter.unusedSimpArgs false
open Go.ChangeShapes Go.WideShapes Go.RowKit Go.Sort Go.MapKept
open Go.ChangeMaps (setBlock modify_eq_set set_perm)
/-! 'm[k] = f(m[k])' in one statement: the entry is found, then laid. -/
section
variable {P : Program} {k : TypeId} {κ : Type} {ek : κ → Value} {ok : κ → Prop} {w : World} {b : Nat} {M : List (κ × Value)}
theorem mapP.entry [DecidableEq κ] (K : KeyE P k ek ok) (KL : WideMaps.KeyLaw P k) {t e : TypeId} (ht : P.underlying t = some (.map k e)) (h : mapP w ek ok b M) (x : κ) (hok : ok x) (hsz : M.length ≤ maxLen) {z : Value} (hz : ∀ u : World, (zeroValue e).run P u = .ok z u) :
    ∃ (v0 : Value) (st : Nat) (w2 : World), (Instr.mapEntry t (.map (some b)) (ek x)).run P w = .ok (.tuple #[v0, .int .i64 st]) w2 ∧ Off (· = b) w w2 ∧ ((x, v0) ∈ M ∨ (∀ p ∈ M, p.1 ≠ x) ∧ v0 = z) ∧
      ∀ (w3 : World) (val : Value), w3.heap[b]? = w2.heap[b]? → ∃ w4, (Instr.entryStore t (.map (some b)) (.int .i64 st) val).run P w3 = .ok () w4 ∧ mapP w4 ek ok b (putM x val M) ∧ Off (· = b) w3 w4 := by
  have hlt := h.lt
  have hup := fun v => h.update K ht x v hok
  obtain ⟨es, clock, hb, hS, h3, h4⟩ := h
  obtain ⟨l, hl⟩ := K.reads x hok
  have hlen : es.size = M.length := by have := h3.length_eq; simpa using this
  have F : WideElems.Fit (H := Unit) P k (fun _ => some (.nil, [])) es clock := ⟨by omega, hS, fun e he => by
    obtain ⟨l', hl'⟩ := es_reads K h3 h4 e he
    unfold WideElems.rd
    rw [hl']
    exact ⟨_, rfl⟩⟩
  obtain ⟨v0, st, es1, clock1, hrun, hv, hst⟩ := WideElems.entry_then_store KL ht hz hb F hl
  refine ⟨v0, st, _, hrun, off_setBlock w b _ rfl, ?_, fun w3 val hw3 => ?_⟩
  · rcases hv with ⟨e0, he0, hk0, rfl⟩ | ⟨hno, rfl⟩
    · left
      have : (e0.key, e0.val) ∈ M.map fun p => (ek p.1, p.2) := h3.mem_iff.1 (List.mem_map.2 ⟨e0, he0, rfl⟩)
      obtain ⟨p, hp, hq⟩ := List.mem_map.1 this
      have h1 := K.inj _ _ ((Prod.mk.inj hq).1.trans hk0)
      have h2 := (Prod.mk.inj hq).2
      rw [← h1, ← h2]; exact hp
    · right
      refine ⟨fun p hp e1 => ?_, rfl⟩
      have : (ek p.1, p.2) ∈ es.toList.map fun e => (e.key, e.val) := h3.mem_iff.2 (List.mem_map.2 ⟨p, hp, rfl⟩)
      obtain ⟨e2, he2, hq⟩ := List.mem_map.1 this
      exact hno e2 he2 (by rw [← e1]; exact (Prod.mk.inj hq).1)
  · rw [setBlock_self w b _ hlt] at hw3
    obtain ⟨es', clock', hr1, hr2⟩ := hst w3 val hw3
    obtain ⟨es2, clock2, hr3, hm⟩ := hup val
    rw [hr2] at hr3
    have he : (setBlock w b (.map es' clock')).heap[b]? = (setBlock w b (.map es2 clock2)).heap[b]? := by
      have := hr3
      simp only [Result.ok.injEq, true_and] at this
      rw [this]
    rw [setBlock_self w b _ hlt, setBlock_self w b _ hlt] at he
    refine ⟨_, hr1, hm.kept ?_, off_setBlock w3 b _ rfl⟩
    rw [setBlock_self w3 b _ (lt_of_block hw3), setBlock_self w b _ hlt]
    exact he
end
/-- append to a slice of the call's own, as one step of a region that draws. -/
theorem step_append_own {P : Program} {ops : Array Oper} {o : Oper} {a : Act} {w : World} {K : Act → World → Prop} {Q : Exit → Act → World → Prop} {E : Prop}
    (hg : o.guard = none) (s x : Operand) (t : TypeId) (hop : o.op = Op.call { callee := Callee.builtin Builtin.append, args := #[s, x], argTypes := #[t, t] })
    (base : Nat) (e : TypeId) (i : TypeInfo) (z : Value) (size bytes : Nat) (ht : P.underlying t = some (.slice e)) (hi : P.info? e = some i) (hz : i.zero = some z)
    (hsize : i.size = size) (hby : i.bytes = bytes) (hzs : z.cells.size = size) (hsz : 0 < size)
    (v : Value) (n : Nat) (xs : List Value) (hs : a.eval s = v) (hown : w.ownsRow base e size v n xs)
    (ad : Addr) (m c : Nat) (news : List Value) (hx : a.eval x = .slice (some ad) m c) (hl : news.length = m * size) (hnews : ∀ j u, news[j]? = some u → w.cell? (ad.add j) = some u) (h1 : ∀ u ∈ news, u.oneCell' = true)
    (h63 : n + m ≤ maxLen) (hbytes : (n + m) * bytes ≤ 140737488355328) (hbase : base ≤ w.heap.size)
    (hK : ∀ v' w', w'.ownsRow base e size v' (n + m) (xs ++ news) → w.grownBy w' v.ownBlock → (v' = .slice none 0 0 ↔ v = .slice none 0 0 ∧ m = 0) → (v'.ownBlock = v.ownBlock ∨ v'.ownBlock = some w.heap.size) → K (a.put o.dst v') w') :
    if Region.wanted o (yielded ops a.tmps) = true then Oper.wp P o a w K Q else E := by
  have hw : Region.wanted o (yielded ops a.tmps) = true := by simp [Region.wanted, hg]
  rw [if_pos hw]
  obtain ⟨v', w', hr, h2, h3, h4, h5⟩ := run_append_own_at (P := P) w base t o.type e i z size bytes ht hi hz hsize hby hzs hsz v n xs hown ad m c news hl hnews h1 h63 hbytes hbase
  unfold Oper.wp execOp
  simp only [hop, resolve, invoke, builtin, Sem.run_bind, Sem.run_pure, Result.andThen_ok, List.map_toArray, List.map_cons, List.map_nil, hs, hx, hr]
  exact hK _ _ h2 h3 h4 h5
end Go.Proofs.Ytfhggmiaablcnaa.B
