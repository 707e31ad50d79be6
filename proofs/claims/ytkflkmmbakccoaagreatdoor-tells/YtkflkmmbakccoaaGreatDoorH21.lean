/- PARTS: RI1, RI2. -/
import Derived.Test.YtkflkmmbakccoaaGreatDoorH20
import Derived.Test.YtkflkmmbakccoaaGreatDoorH6

/- THE READER OF grafterref IN MEMORY: what block holds what. -/
namespace Go.Proofs.YtkflkmmbakccoaaGreatDoor
open Go.RowKit Go.Maps

/-- A node as it lies in the Reader's list: its kind's byte stands beside what the plain node says. -/
structure RRow where
  kb : Nat
  n : NodeV
  kv : Value
  pv : Value

def RRow.cells (r : RRow) : List Value := [.int .u8 (r.kb : Int), .string r.n.text, r.kv, r.pv, .int .i64 (r.n.high : Int), .int .i64 (r.n.heavy : Int)]
def RRow.pub (r : RRow) : List Nat := own r.kv ++ own r.pv
def rpub (rows : List RRow) : List Nat := rows.flatMap RRow.pub

def RRowOk (w : World) (base : Nat) (r : RRow) : Prop :=
  w.ownsRow base 9 1 r.kv r.n.keys.length (r.n.keys.map Value.string) ∧ w.ownsRow base 3 1 r.pv r.n.parts.length (r.n.parts.map fun (i : Nat) => Value.int .i64 (i : Int))

theorem RRowOk.but {w w' : World} {base : Nat} {r : RRow} {S : List Nat} (h : RRowOk w base r) (hb : But S w w') (hS : ∀ x ∈ r.pub, x ∉ S) : RRowOk w' base r :=
  ⟨ownsRow_but h.1 hb (fun x hx => hS x (by simp [RRow.pub, hx])), ownsRow_but h.2 hb (fun x hx => hS x (by simp [RRow.pub, hx]))⟩

def nmCells (p : ByteArray × Nat) : List Value := [.string p.1, .int .i64 (p.2 : Int)]

/-- What stays the same while a text is read. -/
structure REnv where
  s : ByteArray
  B : Bud
  b : Nat
  base : Nat
  lv : Value
  L : List LineV

def rcells (R : REnv) (K k : Nat) (nv mv : Value) (an er pl : Nat) : Array Value :=
  #[.string R.s, R.lv, .int .i64 (K : Int), .int .i64 (k : Int), .int .i64 R.B.depth, .int .i64 R.B.nodes, .int .i64 R.B.anchors, .int .i64 R.B.weight, nv, mv, .int .i64 (an : Int), .int .i64 (er : Int), .int .i64 (pl : Int)]

/-- No two nodes' keys or parts lie in one block. -/
def Apart (rows : List RRow) : Prop := ∀ (i j : Nat) (r q : RRow) (x : Nat), rows[i]? = some r → rows[j]? = some q → i ≠ j → x ∈ r.pub → x ∈ q.pub → False

/-- The Reader, its lines, nodes and names, in memory. -/
structure RMem (R : REnv) (K k an er pl : Nat) (nv mv : Value) (rows : List RRow) (names : List (ByteArray × Nat)) (w : World) : Prop where
  rd : Blk w R.b (rcells R K k nv mv an er pl) 114
  lines : w.ownsRow R.base 158 3 R.lv R.L.length (R.L.flatMap LineV.cells)
  nodes : w.ownsRow R.base 109 6 nv rows.length (rows.flatMap RRow.cells)
  ok : ∀ r ∈ rows, RRowOk w R.base r
  names : w.ownsRow R.base 178 2 mv names.length (names.flatMap nmCells)
  apart : Apart rows
  base : R.base ≤ w.heap.size
  bb : R.base ≤ R.b

theorem RMem.rc {R : REnv} {K k an er pl : Nat} {nv mv : Value} {rows : List RRow} {names : List (ByteArray × Nat)} {w : World} (_h : RMem R K k an er pl nv mv rows names w) : RCell (rcells R K k nv mv an er pl) R.s R.lv K k er :=
  ⟨rfl, rfl, rfl, rfl, rfl, _, rfl⟩

theorem mem_rpub {rows : List RRow} {x : Nat} : x ∈ rpub rows ↔ ∃ r ∈ rows, x ∈ own r.kv ∨ x ∈ own r.pv := by
  simp [rpub, RRow.pub, List.mem_flatMap]

theorem RMem.pub_block {R : REnv} {K k an er pl : Nat} {nv mv : Value} {rows : List RRow} {names : List (ByteArray × Nat)} {w : World} (h : RMem R K k an er pl nv mv rows names w) {x : Nat} (hx : x ∈ rpub rows) : ∃ cs T, Blk w x cs T ∧ (T = 9 ∨ T = 3) ∧ R.base ≤ x := by
  obtain ⟨r, hr, hx | hx⟩ := mem_rpub.1 hx
  · obtain ⟨hb, cs, hc⟩ := ownsRow_lt (h.ok r hr).1 hx
    exact ⟨cs, _, hc, .inl rfl, hb⟩
  · obtain ⟨hb, cs, hc⟩ := ownsRow_lt (h.ok r hr).2 hx
    exact ⟨cs, _, hc, .inr rfl, hb⟩

/-- What is written are blocks of some types alone: what is of others stays. -/
theorem RMem.frameP {R : REnv} {K k an er pl : Nat} {nv mv : Value} {rows : List RRow} {names : List (ByteArray × Nat)} {w w' : World} {S : List Nat} (P : TypeId → Prop) (h : RMem R K k an er pl nv mv rows names w) (hb : But S w w') (hS : ∀ x ∈ S, ∃ cs T, Blk w x cs T ∧ P T) :
    (¬ P 114 → Blk w' R.b (rcells R K k nv mv an er pl) 114) ∧ (¬ P 158 → w'.ownsRow R.base 158 3 R.lv R.L.length (R.L.flatMap LineV.cells)) ∧
    (¬ P 109 → w'.ownsRow R.base 109 6 nv rows.length (rows.flatMap RRow.cells)) ∧ (¬ P 9 → ¬ P 3 → ∀ r ∈ rows, RRowOk w' R.base r) ∧
    (¬ P 178 → w'.ownsRow R.base 178 2 mv names.length (names.flatMap nmCells)) := by
  have key : ∀ x cs T, Blk w x cs T → ¬ P T → x ∉ S := fun x cs T hx hn hs => by
    obtain ⟨cs', T', h1, h2⟩ := hS x hs
    exact hn ((hx.inj h1).2 ▸ h2)
  refine ⟨fun hn => hb.blk h.rd (key _ _ _ h.rd hn), fun hn => ownsRow_but h.lines hb (fun x hx => ?_), fun hn => ownsRow_but h.nodes hb (fun x hx => ?_), fun h1 h2 r hr => ⟨ownsRow_but (h.ok r hr).1 hb (fun x hx => ?_), ownsRow_but (h.ok r hr).2 hb (fun x hx => ?_)⟩, fun hn => ownsRow_but h.names hb (fun x hx => ?_)⟩
  · obtain ⟨_, cs, hc⟩ := ownsRow_lt h.lines hx
    exact key _ _ _ hc hn
  · obtain ⟨_, cs, hc⟩ := ownsRow_lt h.nodes hx
    exact key _ _ _ hc hn
  · obtain ⟨_, cs, hc⟩ := ownsRow_lt (h.ok r hr).1 hx
    exact key _ _ _ hc h1
  · obtain ⟨_, cs, hc⟩ := ownsRow_lt (h.ok r hr).2 hx
    exact key _ _ _ hc h2
  · obtain ⟨_, cs, hc⟩ := ownsRow_lt h.names hx
    exact key _ _ _ hc hn

/-- The Reader's own cells have turned, but for its lists. -/
theorem RMem.turn {R : REnv} {K k an er pl K' k' an' er' pl' : Nat} {nv mv : Value} {rows : List RRow} {names : List (ByteArray × Nat)} {w w' : World} (h : RMem R K k an er pl nv mv rows names w) (hb : But [R.b] w w') (hp : Blk w' R.b (rcells R K' k' nv mv an' er' pl') 114) :
    RMem R K' k' an' er' pl' nv mv rows names w' := by
  obtain ⟨_, h2, h3, h4, h5⟩ := h.frameP (fun T => T = 114) hb (fun x hx => by have := List.mem_singleton.1 hx; subst this; exact ⟨_, _, h.rd, rfl⟩)
  exact ⟨hp, h2 (by decide), h3 (by decide), h4 (by decide) (by decide), h5 (by decide), h.apart, Nat.le_trans h.base hb.size, h.bb⟩

/-- Nothing of the Reader's is written. -/
theorem RMem.still {R : REnv} {K k an er pl : Nat} {nv mv : Value} {rows : List RRow} {names : List (ByteArray × Nat)} {w w' : World} (h : RMem R K k an er pl nv mv rows names w) (hb : But [] w w') : RMem R K k an er pl nv mv rows names w' := by
  obtain ⟨h1, h2, h3, h4, h5⟩ := h.frameP (fun _ => False) hb (fun x hx => by cases hx)
  exact ⟨h1 id, h2 id, h3 id, h4 id id, h5 id, h.apart, Nat.le_trans h.base hb.size, h.bb⟩

theorem rflat_at (rows : List RRow) (i j : Nat) (hi : i < rows.length) (hj : j < 6) : (rows.flatMap RRow.cells)[i * 6 + j]? = (rows[i]).cells[j]? := by
  induction rows generalizing i with
  | nil => simp at hi
  | cons r rows ih =>
    cases i with
    | zero =>
      simp only [List.flatMap_cons, Nat.zero_mul, Nat.zero_add, List.getElem_cons_zero]
      rw [List.getElem?_append_left (by simp [RRow.cells]; omega)]
    | succ i =>
      simp only [List.flatMap_cons, List.getElem_cons_succ]
      rw [List.getElem?_append_right (by simp [RRow.cells]; omega)]
      have e : (i + 1) * 6 + j - r.cells.length = i * 6 + j := by simp [RRow.cells]; omega
      rw [e]
      exact ih i (by simpa using hi)

theorem rflat_len (rows : List RRow) : (rows.flatMap RRow.cells).length = rows.length * 6 := by
  induction rows with
  | nil => rfl
  | cons r rows ih => simp only [List.flatMap_cons, List.length_append, ih, List.length_cons]; simp [RRow.cells]; omega

theorem rflat_ext {l : List Value} {rows : List RRow} (hl : l.length = rows.length * 6) (h : ∀ i j (hi : i < rows.length), j < 6 → l[i * 6 + j]? = (rows[i]).cells[j]?) : l = rows.flatMap RRow.cells := by
  apply List.ext_getElem?
  intro q
  by_cases hq : q < rows.length * 6
  · have e : q = q / 6 * 6 + q % 6 := by omega
    rw [e, h (q / 6) (q % 6) (by omega) (by omega), rflat_at rows _ _ (by omega) (by omega)]
  · rw [List.getElem?_eq_none (by omega), List.getElem?_eq_none (by rw [rflat_len]; omega)]

/-- The nodes' slice, and a node's cells. -/
theorem RMem.node {R : REnv} {K k an er pl : Nat} {nv mv : Value} {rows : List RRow} {names : List (ByteArray × Nat)} {w : World} (h : RMem R K k an er pl nv mv rows names w) (i : Nat) (hi : i < rows.length) :
    ∃ nb cap, nv = .slice (some ⟨nb, 0, none⟩) rows.length cap ∧ rows.length ≤ cap ∧ ∀ j, j < 6 → w.cell? ⟨nb, i * 6 + j, none⟩ = (rows[i]).cells[j]? ∧ w.frozen? ⟨nb, i * 6 + j, none⟩ = false := by
  rcases h.nodes.2 with ⟨_, h0⟩ | ⟨g, cap, cur, e, hb, hg, hc, hm, hs, ht⟩
  · omega
  · refine ⟨g, cap, e, hc, fun j hj => ⟨?_, Blk.free (cs := cur) (T := 109) hg _⟩⟩
    have h1 := rflat_at rows i j hi hj
    rw [← ht, List.getElem?_take, if_pos (by omega)] at h1
    rw [← h1]
    simp only [World.cell?, hg]
    simp

/-- One cell of one node is written. -/
theorem setOne_owns {w : World} {base nb cap : Nat} {rows : List RRow} {i j : Nat} {r : RRow} {v : Value} (h : w.ownsRow base 109 6 (.slice (some ⟨nb, 0, none⟩) rows.length cap) rows.length (rows.flatMap RRow.cells)) (hi : i < rows.length) (hj : j < 6)
    (hv : r.cells[j]? = some v) (ho : ∀ q, q < 6 → q ≠ j → r.cells[q]? = (rows[i]).cells[q]?) :
    (w.setCell ⟨nb, i * 6 + j, none⟩ v).ownsRow base 109 6 (.slice (some ⟨nb, 0, none⟩) rows.length cap) rows.length ((rows.set i r).flatMap RRow.cells) := by
  rcases h.2 with ⟨e, _⟩ | ⟨g, cap', cur, e, hb, hg, hc, hm, hs, ht⟩
  · simp at e
  · obtain ⟨rfl, rfl⟩ : nb = g ∧ cap = cap' := by simpa using e
    refine ⟨by rw [rflat_len]; simp, .inr ⟨nb, cap, cur.setIfInBounds (i * 6 + j) v, rfl, hb, Blk.set (w := w) (cs := cur) (T := 109) hg _ _, hc, hm, by simpa using hs, ?_⟩⟩
    apply rflat_ext
    · simp; omega
    · intro p q hp hq
      have hp' : p < rows.length := by simpa using hp
      rw [List.getElem?_take, if_pos (by omega), Array.getElem?_toList]
      simp only [Array.getElem?_setIfInBounds, List.getElem_set]
      have h1 := rflat_at rows p q hp' hq
      rw [← ht, List.getElem?_take, if_pos (by omega), Array.getElem?_toList] at h1
      by_cases hpi : i = p
      · subst hpi
        rw [if_pos rfl]
        by_cases hqj : q = j
        · subst hqj
          rw [if_pos rfl, if_pos (by omega), hv]
        · rw [if_neg (by omega), h1, ho q hq hqj]
      · rw [if_neg hpi, if_neg (by omega)]
        exact h1

end Go.Proofs.YtkflkmmbakccoaaGreatDoor

/- THE READER OF grafterref IN MEMORY: what the writing of a cell and the growing of a list leave. -/
namespace Go.Proofs.YtkflkmmbakccoaaGreatDoor
open Go.RowKit Go.Maps

theorem Apart.set {rows : List RRow} (h : Apart rows) {i : Nat} {r : RRow} (hi : i < rows.length) (hr : ∀ x ∈ r.pub, x ∈ (rows[i]).pub ∨ x ∉ rpub rows) : Apart (rows.set i r) := by
  have hii : rows[i]? = some rows[i] := List.getElem?_eq_getElem hi
  have key : ∀ p q x, p ≠ i → rows[p]? = some q → x ∈ r.pub → x ∈ q.pub → False := fun p q x hp hq hx hy => by
    rcases hr x hx with h1 | h1
    · exact h i p _ _ x hii hq (fun e => hp e.symm) h1 hy
    · exact h1 (mem_rpub.2 ⟨q, List.mem_of_getElem? hq, by simpa [RRow.pub] using hy⟩)
  intro a b ra rb x ha hb hab hx hy
  rw [List.getElem?_set] at ha hb
  by_cases hai : i = a
  · subst hai
    rw [if_pos rfl, if_pos hi] at ha
    cases ha
    rw [if_neg hab] at hb
    exact key b rb x (fun e => hab e.symm) hb hx hy
  · rw [if_neg hai] at ha
    by_cases hbi : i = b
    · subst hbi
      rw [if_pos rfl, if_pos hi] at hb
      cases hb
      exact key a ra x (fun e => hai e.symm) ha hy hx
    · rw [if_neg hbi] at hb
      exact h a b ra rb x ha hb hab hx hy

theorem Apart.push {rows : List RRow} (h : Apart rows) {r : RRow} (hr : r.pub = []) : Apart (rows ++ [r]) := by
  intro a b ra rb x ha hb hab hx hy
  have hlast : ∀ (a : Nat) (ra : RRow), (rows ++ [r])[a]? = some ra → rows[a]? = some ra ∨ ra.pub = [] := fun a ra ha => by
    rw [List.getElem?_append] at ha
    split at ha
    · exact .inl ha
    · right
      have := List.mem_of_getElem? ha
      rw [List.mem_singleton.1 this]; exact hr
  rcases hlast a ra ha with h1 | h1
  · rcases hlast b rb hb with h2 | h2
    · exact h a b ra rb x h1 h2 hab hx hy
    · rw [h2] at hy; cases hy
  · rw [h1] at hx; cases hx

/-- One cell of one node is written; its keys and parts stay. -/
theorem RMem.setNode {R : REnv} {K k an er pl nb cap : Nat} {mv : Value} {rows : List RRow} {names : List (ByteArray × Nat)} {w : World} (h : RMem R K k an er pl (.slice (some ⟨nb, 0, none⟩) rows.length cap) mv rows names w) {i j : Nat} {r : RRow} {v : Value} (hi : i < rows.length) (hj : j < 6)
    (hv : r.cells[j]? = some v) (ho : ∀ q, q < 6 → q ≠ j → r.cells[q]? = (rows[i]).cells[q]?) (hkv : r.kv = (rows[i]).kv) (hpv : r.pv = (rows[i]).pv) (hk : r.n.keys = (rows[i]).n.keys) (hp : r.n.parts = (rows[i]).n.parts) :
    RMem R K k an er pl (.slice (some ⟨nb, 0, none⟩) rows.length cap) mv (rows.set i r) names (w.setCell ⟨nb, i * 6 + j, none⟩ v) := by
  have hb : But [nb] w (w.setCell ⟨nb, i * 6 + j, none⟩ v) := (But.refl _ _).setCell (by simp) _
  obtain ⟨_, cs, hc⟩ := ownsRow_lt h.nodes (x := nb) (by simp [own])
  obtain ⟨h1, h2, _, h4, h5⟩ := h.frameP (fun T => T = 109) hb (fun x hx => by have := List.mem_singleton.1 hx; subst this; exact ⟨_, _, hc, rfl⟩)
  have hm : rows[i] ∈ rows := List.getElem_mem hi
  refine ⟨h1 (by decide), h2 (by decide), ?_, fun q hq => ?_, h5 (by decide), h.apart.set hi (fun x hx => .inl ?_), Nat.le_trans h.base hb.size, h.bb⟩
  · have := setOne_owns h.nodes hi hj hv ho
    simpa using this
  · rcases List.mem_or_eq_of_mem_set hq with hq | rfl
    · exact h4 (by decide) (by decide) q hq
    · have := h4 (by decide) (by decide) _ hm
      unfold RRowOk at this ⊢
      rw [hkv, hpv, hk, hp]; exact this
  · unfold RRow.pub at hx ⊢
    rw [hkv, hpv] at hx; exact hx

theorem newOwn {w : World} {v v' : Value} {o : Obj} (hloc : v'.ownBlock = v.ownBlock ∨ v'.ownBlock = some (w.alloc o).heap.size) : ∀ x ∈ own v', x ∈ own v ∨ w.heap.size ≤ x := by
  intro x hx
  rcases hloc with e | e
  · exact .inl (mem_own.2 (e ▸ mem_own.1 hx))
  · have := mem_own.1 hx
    rw [e] at this
    simp at this
    right; omega

theorem RMem.pub_lt {R : REnv} {K k an er pl : Nat} {nv mv : Value} {rows : List RRow} {names : List (ByteArray × Nat)} {w : World} (h : RMem R K k an er pl nv mv rows names w) {x : Nat} (hx : x ∈ rpub rows) : x < w.heap.size := by
  obtain ⟨cs, T, hc, _, _⟩ := h.pub_block hx
  exact hc.lt

def rblank : RRow := ⟨0, NodeV.blank, .slice none 0 0, .slice none 0 0⟩

/-- A node has begun. -/
theorem RMem.begun {R : REnv} {K k an er pl : Nat} {nv mv v' : Value} {rows : List RRow} {names : List (ByteArray × Nat)} {w w1 : World} {o : Obj} (h : RMem R K k an er pl nv mv rows names w)
    (hown : w1.ownsRow R.base 109 6 v' (rows.length + 1) (rows.flatMap RRow.cells ++ rblank.cells)) (hgrow : (w.alloc o).grownBy w1 nv.ownBlock) :
    Blk w1 R.b (rcells R K k nv mv an er pl) 114 ∧ RMem R K k an er pl v' mv (rows ++ [rblank]) names (w1.setCell ⟨R.b, 8, none⟩ v') ∧ But (R.b :: own nv) w (w1.setCell ⟨R.b, 8, none⟩ v') := by
  have hb1 : But (own nv) w w1 := ((alloc_but w o).mono (by simp)).trans (grown_but hgrow) (fun x hx => .inl hx)
  have hb2 : But (R.b :: own nv) w (w1.setCell ⟨R.b, 8, none⟩ v') := (hb1.mono (fun x hx => .inl (List.mem_cons_of_mem _ hx))).setCell (by simp) _
  have hN : ∀ x ∈ own nv, ∃ cs T, Blk w x cs T ∧ T = 109 := fun x hx => by
    obtain ⟨_, cs, hc⟩ := ownsRow_lt h.nodes hx
    exact ⟨cs, _, hc, rfl⟩
  have g1 := (h.frameP (fun T => T = 109) hb1 hN).1 (by decide)
  obtain ⟨_, h2, _, h4, h5⟩ := h.frameP (fun T => T = 109 ∨ T = 114) hb2 (fun x hx => by
    rcases List.mem_cons.1 hx with rfl | hx
    · exact ⟨_, _, h.rd, .inr rfl⟩
    · obtain ⟨cs, T, hc, hT⟩ := hN x hx
      exact ⟨cs, T, hc, .inl hT⟩)
  refine ⟨g1, ⟨?_, h2 (by decide), ?_, ?_, h5 (by decide), h.apart.push rfl, Nat.le_trans h.base hb2.size, h.bb⟩, hb2⟩
  · have := g1.set 8 v'
    simpa [rcells] using this
  · have := ownsRow_but (S := [R.b]) hown ((But.refl _ w1).setCell (by simp) v' (p := ⟨R.b, 8, none⟩)) (fun x hx hy => by
      obtain ⟨_, cs, hc⟩ := ownsRow_lt hown hx
      have := List.mem_singleton.1 hy
      subst this
      exact absurd (g1.inj hc).2 (by decide))
    simpa using this
  · intro r hr
    rcases List.mem_append.1 hr with hr | hr
    · exact h4 (by decide) (by decide) r hr
    · have := List.mem_singleton.1 hr
      subst this
      exact ⟨⟨rfl, .inl ⟨rfl, rfl⟩⟩, ⟨rfl, .inl ⟨rfl, rfl⟩⟩⟩

/-- A name is had. -/
theorem RMem.pushName {R : REnv} {K k an er pl : Nat} {nv mv v' : Value} {rows : List RRow} {names : List (ByteArray × Nat)} {w w1 : World} {o : Obj} {p : ByteArray × Nat} (h : RMem R K k an er pl nv mv rows names w)
    (hown : w1.ownsRow R.base 178 2 v' (names.length + 1) (names.flatMap nmCells ++ nmCells p)) (hgrow : (w.alloc o).grownBy w1 mv.ownBlock) :
    Blk w1 R.b (rcells R K k nv mv an er pl) 114 ∧ RMem R K k an er pl nv v' rows (names ++ [p]) (w1.setCell ⟨R.b, 9, none⟩ v') ∧ But (R.b :: own mv) w (w1.setCell ⟨R.b, 9, none⟩ v') := by
  have hb1 : But (own mv) w w1 := ((alloc_but w o).mono (by simp)).trans (grown_but hgrow) (fun x hx => .inl hx)
  have hb2 : But (R.b :: own mv) w (w1.setCell ⟨R.b, 9, none⟩ v') := (hb1.mono (fun x hx => .inl (List.mem_cons_of_mem _ hx))).setCell (by simp) _
  have hN : ∀ x ∈ own mv, ∃ cs T, Blk w x cs T ∧ T = 178 := fun x hx => by
    obtain ⟨_, cs, hc⟩ := ownsRow_lt h.names hx
    exact ⟨cs, _, hc, rfl⟩
  have g1 := (h.frameP (fun T => T = 178) hb1 hN).1 (by decide)
  obtain ⟨_, h2, h3, h4, _⟩ := h.frameP (fun T => T = 178 ∨ T = 114) hb2 (fun x hx => by
    rcases List.mem_cons.1 hx with rfl | hx
    · exact ⟨_, _, h.rd, .inr rfl⟩
    · obtain ⟨cs, T, hc, hT⟩ := hN x hx
      exact ⟨cs, T, hc, .inl hT⟩)
  refine ⟨g1, ⟨?_, h2 (by decide), h3 (by decide), h4 (by decide) (by decide), ?_, h.apart, Nat.le_trans h.base hb2.size, h.bb⟩, hb2⟩
  · have := g1.set 9 v'
    simpa [rcells] using this
  · have := ownsRow_but (S := [R.b]) hown ((But.refl _ w1).setCell (by simp) v' (p := ⟨R.b, 9, none⟩)) (fun x hx hy => by
      obtain ⟨_, cs, hc⟩ := ownsRow_lt hown hx
      have := List.mem_singleton.1 hy
      subst this
      exact absurd (g1.inj hc).2 (by decide))
    simpa using this

/-- One more key. -/
theorem RMem.pushKey {R : REnv} {K k an er pl nb cap : Nat} {mv v' : Value} {rows : List RRow} {names : List (ByteArray × Nat)} {w w1 : World} {o : Obj} {i : Nat} {x : ByteArray} (h : RMem R K k an er pl (.slice (some ⟨nb, 0, none⟩) rows.length cap) mv rows names w) (hi : i < rows.length)
    (hown : w1.ownsRow R.base 9 1 v' ((rows[i]).n.keys.length + 1) ((rows[i]).n.keys.map Value.string ++ [.string x])) (hgrow : (w.alloc o).grownBy w1 (rows[i]).kv.ownBlock) (hloc : v'.ownBlock = (rows[i]).kv.ownBlock ∨ v'.ownBlock = some (w.alloc o).heap.size) :
    Blk w1 R.b (rcells R K k (.slice (some ⟨nb, 0, none⟩) rows.length cap) mv an er pl) 114 ∧ (∃ cs, Blk w1 nb cs 109 ∧ i * 6 + 5 < cs.size) ∧ But (nb :: own (rows[i]).kv) w (w1.setCell ⟨nb, i * 6 + 2, none⟩ v') ∧
    RMem R K k an er pl (.slice (some ⟨nb, 0, none⟩) rows.length cap) mv (rows.set i ⟨(rows[i]).kb, { (rows[i]).n with keys := (rows[i]).n.keys ++ [x] }, v', (rows[i]).pv⟩) names (w1.setCell ⟨nb, i * 6 + 2, none⟩ v') := by
  have hm : rows[i] ∈ rows := List.getElem_mem hi
  have hb1 : But (own (rows[i]).kv) w w1 := ((alloc_but w o).mono (by simp)).trans (grown_but hgrow) (fun x hx => .inl hx)
  have hb2 : But (nb :: own (rows[i]).kv) w (w1.setCell ⟨nb, i * 6 + 2, none⟩ v') := (hb1.mono (fun x hx => .inl (List.mem_cons_of_mem _ hx))).setCell (by simp) _
  have hN : ∀ x ∈ own (rows[i]).kv, ∃ cs T, Blk w x cs T ∧ T = 9 := fun x hx => by
    obtain ⟨_, cs, hc⟩ := ownsRow_lt (h.ok _ hm).1 hx
    exact ⟨cs, _, hc, rfl⟩
  obtain ⟨_, ncs, hnc⟩ := ownsRow_lt h.nodes (x := nb) (by simp [own])
  obtain ⟨g1, _, g3, _, _⟩ := h.frameP (fun T => T = 9) hb1 hN
  have g1 := g1 (by decide)
  have g3 := g3 (by decide)
  obtain ⟨h1, h2, _, _, h5⟩ := h.frameP (fun T => T = 9 ∨ T = 109) hb2 (fun x hx => by
    rcases List.mem_cons.1 hx with rfl | hx
    · exact ⟨_, _, hnc, .inr rfl⟩
    · obtain ⟨cs, T, hc, hT⟩ := hN x hx
      exact ⟨cs, T, hc, .inl hT⟩)
  have hnb : ∀ q ∈ rows, ∀ y ∈ q.pub, y ≠ nb := fun q hq y hy e => by
    subst e
    obtain ⟨cs, T, hc, hT, _⟩ := h.pub_block (x := y) (mem_rpub.2 ⟨q, hq, by simpa [RRow.pub] using hy⟩)
    have := (hc.inj hnc).2
    rcases hT with rfl | rfl <;> exact absurd this (by decide)
  have hN1 : ∃ cs, Blk w1 nb cs 109 ∧ i * 6 + 5 < cs.size := by
    rcases g3.2 with ⟨e, _⟩ | ⟨g, cap', cur, e, hb, hg, hc, hm, hs, ht⟩
    · simp at e
    · obtain ⟨rfl, rfl⟩ : nb = g ∧ cap = cap' := by simpa using e
      exact ⟨cur, hg, by omega⟩
  refine ⟨g1, hN1, hb2, ⟨h1 (by decide), h2 (by decide), ?_, fun q hq => ?_, h5 (by decide), h.apart.set hi (fun y hy => ?_), Nat.le_trans h.base hb2.size, h.bb⟩⟩
  · have := setOne_owns (j := 2) (r := ⟨(rows[i]).kb, { (rows[i]).n with keys := (rows[i]).n.keys ++ [x] }, v', (rows[i]).pv⟩) (v := v') g3 hi (by omega) rfl (fun q hq hne => by
      match q, hq with
      | 0, _ => rfl
      | 1, _ => rfl
      | 2, _ => exact absurd rfl hne
      | 3, _ => rfl
      | 4, _ => rfl
      | 5, _ => rfl)
    simpa using this
  · obtain ⟨p, hp, hpe⟩ := List.getElem_of_mem hq
    have hpl : p < rows.length := by simpa using hp
    rw [List.getElem_set] at hpe
    by_cases hip : i = p
    · subst hip
      rw [if_pos rfl] at hpe
      subst hpe
      refine ⟨?_, ?_⟩
      · have := ownsRow_but (S := [nb]) hown ((But.refl _ w1).setCell (by simp) v' (p := ⟨nb, i * 6 + 2, none⟩)) (fun y hy hz => by
          obtain ⟨_, cs, hc⟩ := ownsRow_lt hown hy
          have := List.mem_singleton.1 hz
          subst this
          obtain ⟨cs1, hc1, _⟩ := hN1
          exact absurd (hc1.inj hc).2 (by decide))
        simpa using this
      · refine ownsRow_but (h.ok _ hm).2 hb2 (fun y hy hz => ?_)
        rcases List.mem_cons.1 hz with hz | hz
        · exact hnb _ hm y (by simp [RRow.pub, hy]) hz
        · obtain ⟨_, cs, hc⟩ := ownsRow_lt (h.ok _ hm).2 hy
          obtain ⟨cs', T', hc', hT'⟩ := hN y hz
          subst hT'
          exact absurd (hc.inj hc').2 (by decide)
    · rw [if_neg hip] at hpe
      subst hpe
      refine (h.ok _ (List.getElem_mem hpl)).but hb2 (fun y hy hz => ?_)
      rcases List.mem_cons.1 hz with hz | hz
      · exact hnb _ (List.getElem_mem hpl) y hy hz
      · exact h.apart p i _ _ y (List.getElem?_eq_getElem hpl) (List.getElem?_eq_getElem hi) (fun e => hip e.symm) hy (by simp [RRow.pub, hz])
  · rcases List.mem_append.1 hy with hy | hy
    · rcases newOwn hloc y hy with h1 | h1
      · exact .inl (by simp [RRow.pub, h1])
      · exact .inr (fun hc => by have := h.pub_lt hc; omega)
    · exact .inl (by simp only [RRow.pub, List.mem_append]; exact .inr hy)

/-- One more part. -/
theorem RMem.pushPart {R : REnv} {K k an er pl nb cap : Nat} {mv v' : Value} {rows : List RRow} {names : List (ByteArray × Nat)} {w w1 : World} {o : Obj} {i : Nat} {x : Nat} (h : RMem R K k an er pl (.slice (some ⟨nb, 0, none⟩) rows.length cap) mv rows names w) (hi : i < rows.length)
    (hown : w1.ownsRow R.base 3 1 v' ((rows[i]).n.parts.length + 1) (((rows[i]).n.parts.map fun (i : Nat) => Value.int .i64 (i : Int)) ++ [.int .i64 (x : Int)])) (hgrow : (w.alloc o).grownBy w1 (rows[i]).pv.ownBlock) (hloc : v'.ownBlock = (rows[i]).pv.ownBlock ∨ v'.ownBlock = some (w.alloc o).heap.size) :
    Blk w1 R.b (rcells R K k (.slice (some ⟨nb, 0, none⟩) rows.length cap) mv an er pl) 114 ∧ (∃ cs, Blk w1 nb cs 109 ∧ i * 6 + 5 < cs.size) ∧ But (nb :: own (rows[i]).pv) w (w1.setCell ⟨nb, i * 6 + 3, none⟩ v') ∧
    RMem R K k an er pl (.slice (some ⟨nb, 0, none⟩) rows.length cap) mv (rows.set i ⟨(rows[i]).kb, { (rows[i]).n with parts := (rows[i]).n.parts ++ [x] }, (rows[i]).kv, v'⟩) names (w1.setCell ⟨nb, i * 6 + 3, none⟩ v') := by
  have hm : rows[i] ∈ rows := List.getElem_mem hi
  have hb1 : But (own (rows[i]).pv) w w1 := ((alloc_but w o).mono (by simp)).trans (grown_but hgrow) (fun x hx => .inl hx)
  have hb2 : But (nb :: own (rows[i]).pv) w (w1.setCell ⟨nb, i * 6 + 3, none⟩ v') := (hb1.mono (fun x hx => .inl (List.mem_cons_of_mem _ hx))).setCell (by simp) _
  have hN : ∀ x ∈ own (rows[i]).pv, ∃ cs T, Blk w x cs T ∧ T = 3 := fun x hx => by
    obtain ⟨_, cs, hc⟩ := ownsRow_lt (h.ok _ hm).2 hx
    exact ⟨cs, _, hc, rfl⟩
  obtain ⟨_, ncs, hnc⟩ := ownsRow_lt h.nodes (x := nb) (by simp [own])
  obtain ⟨g1, _, g3, _, _⟩ := h.frameP (fun T => T = 3) hb1 hN
  have g1 := g1 (by decide)
  have g3 := g3 (by decide)
  obtain ⟨h1, h2, _, _, h5⟩ := h.frameP (fun T => T = 3 ∨ T = 109) hb2 (fun x hx => by
    rcases List.mem_cons.1 hx with rfl | hx
    · exact ⟨_, _, hnc, .inr rfl⟩
    · obtain ⟨cs, T, hc, hT⟩ := hN x hx
      exact ⟨cs, T, hc, .inl hT⟩)
  have hnb : ∀ q ∈ rows, ∀ y ∈ q.pub, y ≠ nb := fun q hq y hy e => by
    subst e
    obtain ⟨cs, T, hc, hT, _⟩ := h.pub_block (x := y) (mem_rpub.2 ⟨q, hq, by simpa [RRow.pub] using hy⟩)
    have := (hc.inj hnc).2
    rcases hT with rfl | rfl <;> exact absurd this (by decide)
  have hN1 : ∃ cs, Blk w1 nb cs 109 ∧ i * 6 + 5 < cs.size := by
    rcases g3.2 with ⟨e, _⟩ | ⟨g, cap', cur, e, hb, hg, hc, hm, hs, ht⟩
    · simp at e
    · obtain ⟨rfl, rfl⟩ : nb = g ∧ cap = cap' := by simpa using e
      exact ⟨cur, hg, by omega⟩
  refine ⟨g1, hN1, hb2, ⟨h1 (by decide), h2 (by decide), ?_, fun q hq => ?_, h5 (by decide), h.apart.set hi (fun y hy => ?_), Nat.le_trans h.base hb2.size, h.bb⟩⟩
  · have := setOne_owns (j := 3) (r := ⟨(rows[i]).kb, { (rows[i]).n with parts := (rows[i]).n.parts ++ [x] }, (rows[i]).kv, v'⟩) (v := v') g3 hi (by omega) rfl (fun q hq hne => by
      match q, hq with
      | 0, _ => rfl
      | 1, _ => rfl
      | 2, _ => rfl
      | 3, _ => exact absurd rfl hne
      | 4, _ => rfl
      | 5, _ => rfl)
    simpa using this
  · obtain ⟨p, hp, hpe⟩ := List.getElem_of_mem hq
    have hpl : p < rows.length := by simpa using hp
    rw [List.getElem_set] at hpe
    by_cases hip : i = p
    · subst hip
      rw [if_pos rfl] at hpe
      subst hpe
      refine ⟨?_, ?_⟩
      · refine ownsRow_but (h.ok _ hm).1 hb2 (fun y hy hz => ?_)
        rcases List.mem_cons.1 hz with hz | hz
        · exact hnb _ hm y (by simp [RRow.pub, hy]) hz
        · obtain ⟨_, cs, hc⟩ := ownsRow_lt (h.ok _ hm).1 hy
          obtain ⟨cs', T', hc', hT'⟩ := hN y hz
          subst hT'
          exact absurd (hc.inj hc').2 (by decide)
      · have := ownsRow_but (S := [nb]) hown ((But.refl _ w1).setCell (by simp) v' (p := ⟨nb, i * 6 + 3, none⟩)) (fun y hy hz => by
          obtain ⟨_, cs, hc⟩ := ownsRow_lt hown hy
          have := List.mem_singleton.1 hz
          subst this
          obtain ⟨cs1, hc1, _⟩ := hN1
          exact absurd (hc1.inj hc).2 (by decide))
        simpa using this
    · rw [if_neg hip] at hpe
      subst hpe
      refine (h.ok _ (List.getElem_mem hpl)).but hb2 (fun y hy hz => ?_)
      rcases List.mem_cons.1 hz with hz | hz
      · exact hnb _ (List.getElem_mem hpl) y hy hz
      · exact h.apart p i _ _ y (List.getElem?_eq_getElem hpl) (List.getElem?_eq_getElem hi) (fun e => hip e.symm) hy (by simp [RRow.pub, hz])
  · rcases List.mem_append.1 hy with hy | hy
    · exact .inl (by simp only [RRow.pub, List.mem_append]; exact .inl hy)
    · rcases newOwn hloc y hy with h1 | h1
      · exact .inl (by simp [RRow.pub, h1])
      · exact .inr (fun hc => by have := h.pub_lt hc; omega)

end Go.Proofs.YtkflkmmbakccoaaGreatDoor
