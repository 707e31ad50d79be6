/- PARTS: RI6. -/
import Derived.Test.YtkflkmmbakccoaaGreatDoorH25
import Derived.Deep.RegionLaw
import Derived.Deep.CutRange
import Derived.Maps.AppendAt

/- THE READER OF grafterref: an append inside a statement that leaves its order open; open nodes. -/
namespace Go.Proofs.YtkflkmmbakccoaaGreatDoor
open Go.RowKit Go.Maps

/-- append onto a row of one's own, as one step of a region that draws. -/
theorem step_append_own {P : Program} {ops : Array Oper} {o : Oper} {a : Act} {w : World} {K : Act → World → Prop} {Q : Exit → Act → World → Prop} {E : Prop}
    (hg : o.guard = none) (s x : Operand) (t : TypeId) (hop : o.op = Op.call { callee := Callee.builtin Builtin.append, args := #[s, x], argTypes := #[t, t] })
    (base : Nat) (e : TypeId) (i : TypeInfo) (z : Value) (size bytes : Nat) (h1 : P.underlying t = some (.slice e)) (h2 : P.info? e = some i) (h3 : i.zero = some z) (h4 : i.size = size) (h5 : i.bytes = bytes) (h6 : z.cells.size = size) (h7 : 0 < size)
    (v : Value) (n : Nat) (xs : List Value) (hs : a.eval s = v) (hown : w.ownsRow base e size v n xs)
    (ad : Addr) (m c : Nat) (news : List Value) (hx : a.eval x = .slice (some ad) m c) (hn : news.length = m * size) (hc : ∀ j u, news[j]? = some u → w.cell? (ad.add j) = some u) (h1c : ∀ u ∈ news, u.oneCell' = true)
    (b1 : n + m ≤ maxLen) (b2 : (n + m) * bytes ≤ 140737488355328) (hbase : base ≤ w.heap.size)
    (hK : ∀ v' w', w'.ownsRow base e size v' (n + m) (xs ++ news) → w.grownBy w' v.ownBlock → (v'.ownBlock = v.ownBlock ∨ v'.ownBlock = some w.heap.size) → K (a.put o.dst v') w') :
    if Region.wanted o (yielded ops a.tmps) = true then Oper.wp P o a w K Q else E := by
  have hw : Region.wanted o (yielded ops a.tmps) = true := by simp [Region.wanted, hg]
  rw [if_pos hw]
  obtain ⟨v', w', hrun, r1, r2, _, r4⟩ := run_append_own_at (P := P) w base t o.type e i z size bytes h1 h2 h3 h4 h5 h6 h7 v n xs hown ad m c news hn hc h1c b1 b2 hbase
  unfold Oper.wp
  simp [execOp, hop, resolve, invoke, builtin, hs, hx, hrun, Result.andThen]
  exact hK v' w' r1 r2 r4

theorem own_slice {w : World} {base e sz n : Nat} {v : Value} {xs : List Value} (h : w.ownsRow base e sz v n xs) : ∃ a n' c, v = .slice a n' c := by
  rcases h.2 with ⟨e, _⟩ | ⟨g, cap, cur, e, _⟩
  · exact ⟨_, _, _, e⟩
  · exact ⟨_, _, _, e⟩

theorem RMem.belowN {R : REnv} {K k an er pl nb cap : Nat} {mv : Value} {rows : List RRow} {names : List (ByteArray × Nat)} {w w' : World} (h : RMem R K k an er pl (.slice (some ⟨nb, 0, none⟩) rows.length cap) mv rows names w) {S : List Nat} (hS : ∀ x ∈ S, x ∈ rpub rows) (hb : But (nb :: S) w w') : Below R.base w w' :=
  hb.below h.base (fun x hx => by
    rcases List.mem_cons.1 hx with rfl | hx
    · exact (ownsRow_lt h.nodes (x := x) (by simp [own])).1
    · obtain ⟨_, _, _, _, hb⟩ := h.pub_block (hS x hx)
      exact hb)

theorem RMem.belowK {R : REnv} {K k an er pl nb cap i : Nat} {mv : Value} {rows : List RRow} {names : List (ByteArray × Nat)} {w w' : World} (h : RMem R K k an er pl (.slice (some ⟨nb, 0, none⟩) rows.length cap) mv rows names w) (hi : i < rows.length) (hb : But (nb :: own (rows[i]).kv) w w') : Below R.base w w' :=
  h.belowN (fun _ hx => mem_rpub.2 ⟨_, List.getElem_mem hi, .inl hx⟩) hb

theorem RMem.belowP {R : REnv} {K k an er pl nb cap i : Nat} {mv : Value} {rows : List RRow} {names : List (ByteArray × Nat)} {w w' : World} (h : RMem R K k an er pl (.slice (some ⟨nb, 0, none⟩) rows.length cap) mv rows names w) (hi : i < rows.length) (hb : But (nb :: own (rows[i]).pv) w w') : Below R.base w w' :=
  h.belowN (fun _ hx => mem_rpub.2 ⟨_, List.getElem_mem hi, .inr hx⟩) hb

theorem Over.put_self (ov : Over) (i : Nat) (p : Nat × NodeV) : ov.put i p i = some p := by simp [Over.put]
theorem Over.put_ne (ov : Over) {i j : Nat} (p : Nat × NodeV) (h : j ≠ i) : ov.put i p j = ov j := by simp [Over.put, h]

/-- An open node goes on. -/
theorem RSt.reopen {s : ByteArray} {ov : Over} {t : PS} {rows : List RRow} {names : List (ByteArray × Nat)} {an i : Nat} {p p' : Nat × NodeV} {r' : RRow} (h : RSt s (ov.put i p) t rows names an) (h1 : r'.kb = p'.1) (h2 : r'.n = p'.2) : RSt s (ov.put i p') t (rows.set i r') names an := by
  obtain ⟨hz, r0, hr0, _, _⟩ := h.opened i p (ov.put_self i p)
  have hi : i < rows.length := (List.getElem?_eq_some_iff.1 hr0).1
  refine ⟨by simpa using h.len, fun j hj ho => ?_, fun j q hq => ?_, h.names, h.an, h.wf⟩
  · have hne : j ≠ i := fun e => by rw [e, Over.put_self] at ho; cases ho
    rw [Over.put_ne ov p' hne] at ho
    have := h.shut j (by simpa using hj) (by rw [Over.put_ne ov p hne]; exact ho)
    rw [List.getElem_set, if_neg (fun e => hne e.symm)]
    exact this
  · by_cases hne : j = i
    · subst hne
      rw [Over.put_self] at hq
      cases hq
      exact ⟨hz, r', by simp [hi], h1, h2⟩
    · rw [Over.put_ne ov p' hne] at hq
      obtain ⟨a, r, hr, b, c⟩ := h.opened j q (by rw [Over.put_ne ov p hne]; exact hq)
      exact ⟨a, r, by rw [List.getElem?_set, if_neg (fun e => hne e.symm)]; exact hr, b, c⟩

/-- The row of an open node. -/
theorem RSt.rowAt {s : ByteArray} {ov : Over} {t : PS} {rows : List RRow} {names : List (ByteArray × Nat)} {an i : Nat} {p : Nat × NodeV} (h : RSt s (ov.put i p) t rows names an) : ∃ hi : i < rows.length, (rows[i]).kb = p.1 ∧ (rows[i]).n = p.2 := by
  obtain ⟨_, r0, hr0, h1, h2⟩ := h.opened i p (ov.put_self i p)
  obtain ⟨hi, e⟩ := List.getElem?_eq_some_iff.1 hr0
  exact ⟨hi, by rw [e]; exact h1, by rw [e]; exact h2⟩

theorem RBad.drop {R : REnv} {ov : Over} {t : PS} {er pl : Nat} {w : World} {i : Nat} {p : Nat × NodeV} (h : RBad R (ov.put i p) t er pl w) (hi : ov i = none) : RBad R ov t er pl w := by
  obtain ⟨he, K, k, an, nv, mv, rows, names, hM, h1, h2, h3, h4⟩ := h
  refine ⟨he, K, k, an, nv, mv, rows, names, hM, h1, fun j q hq => h2 j q ?_, h3, h4⟩
  rw [Over.put_ne ov p (fun e => by rw [e, hi] at hq; cases hq)]
  exact hq

/-- With an error told, an open node may hold anything. -/
theorem RSt.badSet {R : REnv} {ov : Over} {t : PS} {rows : List RRow} {names : List (ByteArray × Nat)} {K k er pl i : Nat} {nv mv : Value} {w : World} {p : Nat × NodeV} {r' : RRow} (hS : RSt R.s (ov.put i p) t rows names t.anchors) (hi : ov i = none) (hM : RMem R K k t.anchors er pl nv mv (rows.set i r') names w) (he : er ≠ 0) : RBad R ov t er pl w := by
  have h1 : RSt R.s (ov.put i (r'.kb, r'.n)) t (rows.set i r') names t.anchors := hS.reopen rfl rfl
  exact (h1.bad hM he).drop hi

/-- From a state ahead. -/
theorem RBad.from {R : REnv} {ov : Over} {t t1 : PS} {er pl : Nat} {w : World} (h : RBad R ov t1 er pl w) (h1 : t.nodes.length ≤ t1.nodes.length) (h2 : t1.names.length + t.anchors ≤ t1.anchors + t.names.length) : RBad R ov t er pl w := by
  obtain ⟨he, K, k, an, nv, mv, rows, names, hM, h3, h4, h5, h6⟩ := h
  exact ⟨he, K, k, an, nv, mv, rows, names, hM, by omega, h4, by omega, h6⟩

end Go.Proofs.YtkflkmmbakccoaaGreatDoor
