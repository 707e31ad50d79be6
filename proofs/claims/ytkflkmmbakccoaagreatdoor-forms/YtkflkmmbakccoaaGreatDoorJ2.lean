/- PARTS: Hp, Inv. -/
import Derived.WalkKit
import Derived.Deep.QuietTactic
import Derived.BigQuiet
import Derived.Test.YtkflkmmbakccoaaGreatDoorChecked
import Derived.Test.YtkflkmmbakccoaaGreatDoorJ1
import Derived.Maps.Own
import Derived.Maps.OwnOps
import Derived.Maps.OwnSet
import Derived.Maps.Views
import Derived.Maps.AppendAt
import Derived.StringKeys

/- THE HEAP: blocks of cells, whole; what a call may write ('But'). No program is named here. -/
namespace Go.Proofs.YtkflkmmbakccoaaGreatDoor
open Go.RowKit

theorem ret_bool {a b : Bool} (h : a = b) : Ending.returned (.bool a) = .returned (.bool b) := by rw [h]
theorem ret_int {k : IntKind} {a b : Int} (h : a = b) : Ending.returned (.int k a) = .returned (.int k b) := by rw [h]

/-- The world gets a name. -/
theorem name_world {P : Program} {c : Code} {Q : Exit → Act → World → Prop} {a : Act} {w : World} (h : ∀ W, Hid (W = w) → Code.wp P c Q a W) : Code.wp P c Q a w := h w rfl

/-- Block b is a row of cells, none of them frozen. -/
def Blk (w : World) (b : Nat) (cs : Array Value) (T : TypeId) : Prop := w.heap[b]? = some (.cells cs T (0, 0))

theorem Blk.cell {w : World} {b : Nat} {cs : Array Value} {T : TypeId} (h : Blk w b cs T) {i : Nat} {v : Value} (hi : cs[i]? = some v) : w.cell? ⟨b, i, none⟩ = some v := by
  unfold Blk at h
  simp [World.cell?, h, hi]

theorem Blk.free {w : World} {b : Nat} {cs : Array Value} {T : TypeId} (h : Blk w b cs T) (i : Nat) : w.frozen? ⟨b, i, none⟩ = false := by
  unfold Blk at h
  simp [World.frozen?, h]

theorem Blk.lt {w : World} {b : Nat} {cs : Array Value} {T : TypeId} (h : Blk w b cs T) : b < w.heap.size := by
  unfold Blk at h
  exact (Array.getElem?_eq_some_iff.1 h).1

theorem Blk.set {w : World} {b : Nat} {cs : Array Value} {T : TypeId} (h : Blk w b cs T) (i : Nat) (v : Value) : Blk (w.setCell ⟨b, i, none⟩ v) b (cs.setIfInBounds i v) T := by
  unfold Blk at *
  have hlt : b < w.heap.size := (Array.getElem?_eq_some_iff.1 h).1
  simp [World.setCell, Array.getElem?_modify, h]

theorem Blk.drewN {w : World} {b : Nat} {cs : Array Value} {T : TypeId} (h : Blk w b cs T) (n : Nat) : Blk (w.drewN n) b cs T := h
theorem Blk.drew {w : World} {b : Nat} {cs : Array Value} {T : TypeId} (h : Blk w b cs T) : Blk w.drew b cs T := h

theorem Blk.inj {w : World} {b : Nat} {cs cs' : Array Value} {T T' : TypeId} (h : Blk w b cs T) (h' : Blk w b cs' T') : cs = cs' ∧ T = T' := by
  unfold Blk at *
  rw [h] at h'
  simpa using h'

/-- What a call may write among the blocks that were there: those of S. -/
structure But (S : List Nat) (w w' : World) : Prop where
  os : w'.os = w.os
  tape : w'.tape = w.tape
  output : w'.output = w.output
  size : w.heap.size ≤ w'.heap.size
  block : ∀ k, k < w.heap.size → k ∉ S → w'.heap[k]? = w.heap[k]?

theorem But.refl (S : List Nat) (w : World) : But S w w := ⟨rfl, rfl, rfl, Nat.le_refl _, fun _ _ _ => rfl⟩

theorem But.drewN {S : List Nat} {w w' : World} (h : But S w w') (n : Nat) : But S w (w'.drewN n) := ⟨h.os, h.tape, h.output, h.size, h.block⟩
theorem But.drew {S : List Nat} {w w' : World} (h : But S w w') : But S w w'.drew := ⟨h.os, h.tape, h.output, h.size, h.block⟩

/-- Two steps: what the second may write was let go by the first, or is new. -/
theorem But.trans {S S' : List Nat} {a b c : World} (h : But S a b) (k : But S' b c) (hS : ∀ x ∈ S', x ∈ S ∨ a.heap.size ≤ x) : But S a c := by
  refine ⟨k.os.trans h.os, k.tape.trans h.tape, k.output.trans h.output, Nat.le_trans h.size k.size, fun i hi hn => ?_⟩
  rw [k.block i (Nat.lt_of_lt_of_le hi h.size) (fun hm => ?_), h.block i hi hn]
  rcases hS i hm with h1 | h1
  · exact hn h1
  · omega

theorem But.mono {S S' : List Nat} {w w' : World} (h : But S w w') (hS : ∀ x ∈ S, x ∈ S' ∨ w.heap.size ≤ x) : But S' w w' :=
  ⟨h.os, h.tape, h.output, h.size, fun i hi hn => h.block i hi (fun hm => by rcases hS i hm with h1 | h1; exact hn h1; omega)⟩

theorem But.setCell {S : List Nat} {a w : World} (h : But S a w) {p : Addr} (hp : p.block ∈ S ∨ a.heap.size ≤ p.block) (u : Value) : But S a (w.setCell p u) := by
  refine ⟨h.os, h.tape, h.output, by simpa [World.setCell] using h.size, fun i hi hn => ?_⟩
  rw [Below.heap_setCell _ _ _ _ (fun e => ?_), h.block i hi hn]
  rcases hp with h1 | h1
  · exact hn (e ▸ h1)
  · omega

theorem But.alloc {S : List Nat} {a w : World} (h : But S a w) (o : Obj) : But S a (w.alloc o) := by
  refine ⟨h.os, h.tape, h.output, by have := h.size; simp; omega, fun i hi hn => ?_⟩
  rw [Below.heap_alloc _ _ _ (Nat.lt_of_lt_of_le hi h.size), h.block i hi hn]

theorem But.blk {S : List Nat} {w w' : World} (h : But S w w') {b : Nat} {cs : Array Value} {T : TypeId} (hb : Blk w b cs T) (hn : b ∉ S) : Blk w' b cs T := by
  unfold Blk at *
  rw [h.block b (Array.getElem?_eq_some_iff.1 hb).1 hn, hb]

theorem But.below {w w' : World} {B : Nat} {S : List Nat} (h : But S w w') (hB : B ≤ w.heap.size) (hS : ∀ x ∈ S, B ≤ x) : Below B w w' :=
  ⟨h.os, h.tape, h.output, h.size, fun k hk => h.block k (by omega) (fun hm => by have := hS k hm; omega)⟩

end Go.Proofs.YtkflkmmbakccoaaGreatDoor

/- THE PARSER IN MEMORY: what block holds what, and what a call of it may turn. -/
namespace Go.Proofs.YtkflkmmbakccoaaGreatDoor
open Go.RowKit Go.Maps

/-- The block that a slice lies in. -/
def own : Value → List Nat
  | .slice (some a) _ _ => [a.block]
  | _ => []

theorem mem_own {v : Value} {x : Nat} : x ∈ own v ↔ v.ownBlock = some x := by
  unfold own Value.ownBlock
  split <;> simp [eq_comm]

theorem ownsRow_lt {w : World} {base e sz n : Nat} {v : Value} {xs : List Value} (h : w.ownsRow base e sz v n xs) {x : Nat} (hx : x ∈ own v) : base ≤ x ∧ ∃ cs, Blk w x cs e := by
  rcases h.2 with ⟨rfl, _⟩ | ⟨g, cap, cur, rfl, hb, hg, _⟩
  · cases hx
  · simp [own] at hx
    subst hx
    exact ⟨hb, cur, hg⟩

theorem ownsRow_but {w w' : World} {base e sz n : Nat} {v : Value} {xs : List Value} {S : List Nat} (h : w.ownsRow base e sz v n xs) (hb : But S w w') (hS : ∀ x ∈ own v, x ∉ S) : w'.ownsRow base e sz v n xs := by
  refine ⟨h.1, ?_⟩
  rcases h.2 with h2 | ⟨g, cap, cur, rfl, hB, hg, r⟩
  · exact .inl h2
  · exact .inr ⟨g, cap, cur, rfl, hB, hb.blk hg (hS g (by simp [own])), r⟩

/-- A node as it lies in memory. -/
structure Row where
  n : NodeV
  kv : Value
  pv : Value

def Row.cells (r : Row) : List Value := [.int .i64 (r.n.kind : Int), .string r.n.text, r.kv, r.pv, .int .i64 (r.n.high : Int), .int .i64 (r.n.heavy : Int)]
def Row.pub (r : Row) : List Nat := own r.kv ++ own r.pv
def pub (rows : List Row) : List Nat := rows.flatMap Row.pub

def RowOk (w : World) (base : Nat) (r : Row) : Prop :=
  w.ownsRow base 9 1 r.kv r.n.keys.length (r.n.keys.map Value.string) ∧ w.ownsRow base 3 1 r.pv r.n.parts.length (r.n.parts.map fun (i : Nat) => Value.int .i64 (i : Int))

theorem RowOk.but {w w' : World} {base : Nat} {r : Row} {S : List Nat} (h : RowOk w base r) (hb : But S w w') (hS : ∀ x ∈ r.pub, x ∉ S) : RowOk w' base r :=
  ⟨ownsRow_but h.1 hb (fun x hx => hS x (by simp [Row.pub, hx])), ownsRow_but h.2 hb (fun x hx => hS x (by simp [Row.pub, hx]))⟩

/-- What stays the same while a text is read. -/
structure Env where
  s : ByteArray
  B : Bud
  p : Nat
  g : Nat
  m : Nat
  base : Nat

structure EnvOk (E : Env) : Prop where
  s : E.s.size ≤ 1000
  d0 : 0 ≤ E.B.depth
  d : E.B.depth ≤ 20
  n0 : 0 ≤ E.B.nodes
  n : E.B.nodes ≤ 500
  a0 : 0 ≤ E.B.anchors
  a : E.B.anchors ≤ 100
  p : E.base ≤ E.p
  g : E.base ≤ E.g
  m : E.base ≤ E.m

def pcells (E : Env) (k ind : Nat) : Array Value :=
  #[.string E.s, .int .i64 (k : Int), .int .i64 E.B.depth, .int .i64 E.B.nodes, .int .i64 E.B.anchors, .int .i64 E.B.weight, .pointer (some ⟨E.g, 0, none⟩), .map (some E.m), .int .i64 (ind : Int), .int .i64 0, .int .i64 0]

/-- The map of names, as it is read. -/
structure NamesOk (D : DataW Unit) (names : List (ByteArray × Nat)) : Prop where
  isMap : IsMap D
  none : ∀ x, lookM names x = .none → Maps.has D (.string x.data.toList) = false
  some : ∀ x i, lookM names x = .some i → Maps.has D (.string x.data.toList) = true ∧ D.atKey (.string x.data.toList) (.lit (.int .i64 0)) = .lit (.int .i64 (i : Int))

/-- The parser, its graph and its names, in memory. -/
structure PInv (E : Env) (t : PS) (nv : Value) (rows : List Row) (w : World) : Prop where
  par : Blk w E.p (pcells E t.k t.ind) 90
  gr : Blk w E.g #[nv, .int .i64 (t.anchors : Int)] 82
  nodes : w.ownsRow E.base 79 6 nv rows.length (rows.flatMap Row.cells)
  same : t.nodes = rows.map Row.n
  rows : ∀ r ∈ rows, RowOk w E.base r
  map : ∃ D, w.ownsMap Tryz.prog 9 (plainElem Tryz.prog 3) E.m t.names.length D ∧ NamesOk D t.names
  wf : WF E.s t
  base : E.base ≤ w.heap.size

def foot (E : Env) (nv : Value) (rows : List Row) : List Nat := E.p :: E.g :: E.m :: (own nv ++ pub rows)

theorem PInv.pg {E : Env} {t : PS} {nv : Value} {rows : List Row} {w : World} (h : PInv E t nv rows w) : E.p ≠ E.g := fun e => by
  have := h.par
  rw [e] at this
  exact absurd (this.inj h.gr).2 (by decide)

theorem ownsMap_block {H : Type} {w : World} {P : Program} {k : TypeId} {R : Value → Option (DataW H × List MemPlace)} {b n : Nat} {D : DataW H} (h : w.ownsMap P k R b n D) : ∃ es clock, w.heap[b]? = some (.map es clock) := by
  obtain ⟨es, clock, h1, _⟩ := h
  exact ⟨es, clock, h1⟩

theorem Blk.not_map {w : World} {b : Nat} {cs : Array Value} {T : TypeId} {H : Type} {P : Program} {k : TypeId} {R : Value → Option (DataW H × List MemPlace)} {n : Nat} {D : DataW H} (h : Blk w b cs T) (hm : w.ownsMap P k R b n D) : False := by
  obtain ⟨es, clock, h1⟩ := ownsMap_block hm
  unfold Blk at h
  rw [h] at h1
  simp at h1

theorem ownsMap_but {H : Type} {w w' : World} {P : Program} {k : TypeId} {R : Value → Option (DataW H × List MemPlace)} {b n : Nat} {D : DataW H} {S : List Nat} (h : w.ownsMap P k R b n D) (hb : But S w w') (hS : b ∉ S) : w'.ownsMap P k R b n D := by
  obtain ⟨es, clock, h1, h2⟩ := h
  exact ⟨es, clock, by rw [hb.block b (Array.getElem?_eq_some_iff.1 h1).1 hS]; exact h1, h2⟩

theorem PInv.foot_lt {E : Env} {t : PS} {nv : Value} {rows : List Row} {w : World} (h : PInv E t nv rows w) {x : Nat} (hx : x ∈ foot E nv rows) : x < w.heap.size := by
  simp only [foot, List.mem_cons, List.mem_append, pub, List.mem_flatMap, Row.pub] at hx
  rcases hx with rfl | rfl | rfl | hx | ⟨r, hr, hx | hx⟩
  · exact h.par.lt
  · exact h.gr.lt
  · obtain ⟨D, h1, _⟩ := h.map
    obtain ⟨es, clock, h2⟩ := ownsMap_block h1
    exact (Array.getElem?_eq_some_iff.1 h2).1
  · obtain ⟨_, cs, hc⟩ := ownsRow_lt h.nodes hx
    exact hc.lt
  · obtain ⟨_, cs, hc⟩ := ownsRow_lt (h.rows r hr).1 hx
    exact hc.lt
  · obtain ⟨_, cs, hc⟩ := ownsRow_lt (h.rows r hr).2 hx
    exact hc.lt

/-- Whatever else is written, the parser stays as it is. -/
theorem PInv.frame {E : Env} {t : PS} {nv : Value} {rows : List Row} {w w' : World} {S : List Nat} (h : PInv E t nv rows w) (hb : But S w w') (hS : ∀ x ∈ S, x ∉ foot E nv rows) : PInv E t nv rows w' := by
  have hn : ∀ x ∈ foot E nv rows, x ∉ S := fun x hx hs => hS x hs hx
  refine ⟨hb.blk h.par (hn _ (by simp [foot])), hb.blk h.gr (hn _ (by simp [foot])), ownsRow_but h.nodes hb (fun x hx => hn x (by simp [foot, hx])), h.same, fun r hr => (h.rows r hr).but hb (fun x hx => hn x ?_), ?_, h.wf, Nat.le_trans h.base hb.size⟩
  · simp only [foot, List.mem_cons, List.mem_append, pub, List.mem_flatMap]
    exact .inr (.inr (.inr (.inr ⟨r, hr, hx⟩)))
  · obtain ⟨D, h1, h2⟩ := h.map
    exact ⟨D, ownsMap_but h1 hb (hn _ (by simp [foot])), h2⟩

/-- The classes of blocks: the parser's own is none of the others. -/
theorem PInv.p_not {E : Env} {t : PS} {nv : Value} {rows : List Row} {w : World} (h : PInv E t nv rows w) : E.p ∉ E.g :: E.m :: (own nv ++ pub rows) := by
  intro hx
  simp only [List.mem_cons, List.mem_append, pub, List.mem_flatMap, Row.pub] at hx
  rcases hx with hx | hx | hx | ⟨r, hr, hx | hx⟩
  · exact h.pg hx
  · obtain ⟨D, h1, _⟩ := h.map
    rw [← hx] at h1
    exact h.par.not_map h1
  · obtain ⟨_, cs, hc⟩ := ownsRow_lt h.nodes hx
    exact absurd (h.par.inj hc).2 (by decide)
  · obtain ⟨_, cs, hc⟩ := ownsRow_lt (h.rows r hr).1 hx
    exact absurd (h.par.inj hc).2 (by decide)
  · obtain ⟨_, cs, hc⟩ := ownsRow_lt (h.rows r hr).2 hx
    exact absurd (h.par.inj hc).2 (by decide)

/-- The parser has moved on in the text. -/
theorem PInv.move {E : Env} {t : PS} {nv : Value} {rows : List Row} {w w' : World} (h : PInv E t nv rows w) {k ind : Nat} (hk : k ≤ E.s.size) (hb : But [E.p] w w') (hp : Blk w' E.p (pcells E k ind) 90) :
    PInv E { t with k := k, ind := ind } nv rows w' := by
  have hn : ∀ x ∈ E.g :: E.m :: (own nv ++ pub rows), x ∉ [E.p] := fun x hx hs => h.p_not (by have := List.mem_singleton.1 hs; exact this ▸ hx)
  refine ⟨hp, hb.blk h.gr (hn _ (by simp)), ownsRow_but h.nodes hb (fun x hx => hn x (by simp [hx])), h.same, fun r hr => (h.rows r hr).but hb (fun x hx => hn x ?_), ?_, ⟨hk, h.wf.nodes, h.wf.anchors, h.wf.names, h.wf.named, h.wf.heavy, h.wf.high⟩, Nat.le_trans h.base hb.size⟩
  · simp only [List.mem_cons, List.mem_append, pub, List.mem_flatMap]
    exact .inr (.inr (.inr ⟨r, hr, hx⟩))
  · obtain ⟨D, h1, h2⟩ := h.map
    exact ⟨D, ownsMap_but h1 hb (hn _ (by simp)), h2⟩

/-- All went well: the parser stands at t' now. -/
def Good (E : Env) (nv : Value) (rows : List Row) (w : World) (t' : PS) (w' : World) : Prop :=
  ∃ nv' rows', PInv E t' nv' rows' w' ∧ But (E.p :: E.g :: E.m :: own nv) w w' ∧ (∀ x ∈ own nv', x ∈ own nv ∨ w.heap.size ≤ x) ∧ (∀ x ∈ pub rows', x ∈ pub rows ∨ w.heap.size ≤ x)

/-- A fault was found. -/
def Bad (E : Env) (nv : Value) (w : World) (er pl : Nat) (w' : World) : Prop :=
  But (E.p :: E.g :: E.m :: own nv) w w' ∧ w'.cell? ⟨E.p, 9, none⟩ = some (.int .i64 (er : Int)) ∧ w'.cell? ⟨E.p, 10, none⟩ = some (.int .i64 (pl : Int)) ∧ er ≠ 0

/-- What a method of the parser leaves. -/
def Post {α : Type} (E : Env) (nv : Value) (rows : List Row) (w : World) (okv : α → Value) (badv : Value) (r : Res α) (e : Ending) (w' : World) : Prop :=
  match r with
  | .ok a t' => e = .returned (okv a) ∧ Good E nv rows w t' w'
  | .bad er pl => e = .returned badv ∧ Bad E nv w er pl w'

theorem Good.of_move {E : Env} {t : PS} {nv : Value} {rows : List Row} {w w' : World} (h : PInv E t nv rows w) {k ind : Nat} (hk : k ≤ E.s.size) (hb : But [E.p] w w') (hp : Blk w' E.p (pcells E k ind) 90) :
    Good E nv rows w { t with k := k, ind := ind } w' :=
  ⟨nv, rows, h.move hk hb hp, hb.mono (by simp), fun _ hx => .inl hx, fun _ hx => .inl hx⟩

/-- First what is let go is the same or new, then a second step. -/
theorem Good.trans {E : Env} {nv nv1 : Value} {rows rows1 : List Row} {w w1 w2 : World} {t2 : PS} (hb : But (E.p :: E.g :: E.m :: own nv) w w1) (ho : ∀ x ∈ own nv1, x ∈ own nv ∨ w.heap.size ≤ x) (hp : ∀ x ∈ pub rows1, x ∈ pub rows ∨ w.heap.size ≤ x)
    (h : Good E nv1 rows1 w1 t2 w2) : Good E nv rows w t2 w2 := by
  obtain ⟨nv2, rows2, hI, hb2, ho2, hp2⟩ := h
  refine ⟨nv2, rows2, hI, hb.trans hb2 (fun x hx => ?_), fun x hx => ?_, fun x hx => ?_⟩
  · simp only [List.mem_cons] at hx ⊢
    rcases hx with hx | hx | hx | hx
    · exact .inl (.inl hx)
    · exact .inl (.inr (.inl hx))
    · exact .inl (.inr (.inr (.inl hx)))
    · rcases ho x hx with h1 | h1
      · exact .inl (.inr (.inr (.inr h1)))
      · exact .inr h1
  · rcases ho2 x hx with h1 | h1
    · exact ho x h1
    · exact .inr (Nat.le_trans hb.size h1)
  · rcases hp2 x hx with h1 | h1
    · exact hp x h1
    · exact .inr (Nat.le_trans hb.size h1)

theorem Bad.trans {E : Env} {nv nv1 : Value} {w w1 w2 : World} {er pl : Nat} (hb : But (E.p :: E.g :: E.m :: own nv) w w1) (ho : ∀ x ∈ own nv1, x ∈ own nv ∨ w.heap.size ≤ x) (h : Bad E nv1 w1 er pl w2) : Bad E nv w er pl w2 := by
  obtain ⟨hb2, h9, h10⟩ := h
  refine ⟨hb.trans hb2 (fun x hx => ?_), h9, h10⟩
  simp only [List.mem_cons] at hx ⊢
  rcases hx with hx | hx | hx | hx
  · exact .inl (.inl hx)
  · exact .inl (.inr (.inl hx))
  · exact .inl (.inr (.inr (.inl hx)))
  · rcases ho x hx with h1 | h1
    · exact .inl (.inr (.inr (.inr h1)))
    · exact .inr h1

theorem Post.trans {α : Type} {E : Env} {nv nv1 : Value} {rows rows1 : List Row} {w w1 w2 : World} {okv : α → Value} {badv : Value} {r : Res α} {e : Ending} (hb : But (E.p :: E.g :: E.m :: own nv) w w1) (ho : ∀ x ∈ own nv1, x ∈ own nv ∨ w.heap.size ≤ x)
    (hp : ∀ x ∈ pub rows1, x ∈ pub rows ∨ w.heap.size ≤ x) (h : Post E nv1 rows1 w1 okv badv r e w2) : Post E nv rows w okv badv r e w2 := by
  cases r with
  | ok a t => exact ⟨h.1, Good.trans hb ho hp h.2⟩
  | bad er pl => exact ⟨h.1, Bad.trans hb ho h.2⟩

/-- Behind a step that only moved on in the text. -/
theorem Post.moved {α : Type} {E : Env} {nv : Value} {rows : List Row} {w w1 w2 : World} {okv : α → Value} {badv : Value} {r : Res α} {e : Ending} (hb : But [E.p] w w1) (h : Post E nv rows w1 okv badv r e w2) : Post E nv rows w okv badv r e w2 :=
  Post.trans (hb.mono (by simp)) (fun _ hx => .inl hx) (fun _ hx => .inl hx) h

end Go.Proofs.YtkflkmmbakccoaaGreatDoor
