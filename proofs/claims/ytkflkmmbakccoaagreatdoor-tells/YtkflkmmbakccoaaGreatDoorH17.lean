/- PARTS: Mod7. -/
import Derived.Test.YtkflkmmbakccoaaGreatDoorH16

/- THE PLAIN FUNCTIONS: a graph is gone through; how a node is told. No program is named here. -/
namespace Go.Proofs.YtkflkmmbakccoaaGreatDoor

/-- Where a node stands: in which node, at which of its parts; or where a walk sets out. -/
abbrev PlaceV := Option (Nat × Nat)

section
variable {σ : Type} (nodes : List NodeV) (first again : Nat → PlaceV → σ → Option σ) (fin : Nat → σ → Option σ)

/-- The parts of a node, one behind the other. -/
def partsGo (go : Nat → PlaceV → List Nat × σ → Option (List Nat × σ)) (id : Nat) : List Nat → Nat → List Nat × σ → Option (List Nat × σ)
  | [], _, st => some st
  | p :: ps, i, st => (go p (some (id, i)) st).bind (partsGo go id ps (i + 1))

/-- A walk: what is done with each node when it is come to first, again, and at its end. -/
def comeS : Nat → Nat → PlaceV → List Nat × σ → Option (List Nat × σ)
  | 0, _, _, _ => none
  | f + 1, id, pl, st =>
    if id ∈ st.1 then (again id pl st.2).map (fun s => (st.1, s))
    else (first id pl st.2).bind fun s1 => (partsGo (comeS f) id (nodeAt nodes id).parts 0 (id :: st.1, s1)).bind fun r => (fin id r.2).map fun s2 => (r.1, s2)
end

/-- Every node has ended and is whole. -/
structure Whole (nodes : List NodeV) : Prop where
  all : ∀ i, i < nodes.length → highOf nodes i ≠ 0
  ok : AllOk nodes
  len : nodes.length ≤ 500
  high : ∀ i, highOf nodes i ≤ 100
  heavy : ∀ i, heavyOf nodes i ≤ 1000000000001

theorem Whole.node {nodes : List NodeV} (h : Whole nodes) {i : Nat} (hi : i < nodes.length) : NodeOk nodes (nodeAt nodes i) := h.ok i (h.all i hi)

theorem Whole.part {nodes : List NodeV} (h : Whole nodes) {i p : Nat} (hi : i < nodes.length) (hp : p ∈ (nodeAt nodes i).parts) : p < nodes.length ∧ highOf nodes p < highOf nodes i :=
  ⟨highOf_lt ((h.node hi).parts p hp), (h.node hi).lower hp⟩

/-! ### which nodes are come to again -/
def nFirst (_ : Nat) (_ : PlaceV) (s : List Nat) : Option (List Nat) := some s
def nAgain (id : Nat) (_ : PlaceV) (s : List Nat) : Option (List Nat) := some (id :: s)
def nFin (_ : Nat) (s : List Nat) : Option (List Nat) := some s

def agP (go : Nat → List Nat → List Nat × List Nat) : List Nat → List Nat × List Nat → List Nat × List Nat
  | [], st => st
  | p :: ps, st => agP go ps ((go p st.1).1, (go p st.1).2 ++ st.2)

/-- Which nodes have been come to behind a walk; and which of them again in it. -/
def agM (nodes : List NodeV) : Nat → Nat → List Nat → List Nat × List Nat
  | 0, _, met => (met, [])
  | f + 1, id, met => if id ∈ met then (met, [id]) else agP (agM nodes f) (nodeAt nodes id).parts (id :: met, [])

theorem agP_app (go : Nat → List Nat → List Nat × List Nat) (ps : List Nat) (m l : List Nat) : agP go ps (m, l) = ((agP go ps (m, [])).1, (agP go ps (m, [])).2 ++ l) := by
  induction ps generalizing m l with
  | nil => simp [agP]
  | cons p ps ih =>
    simp only [agP, List.append_nil]
    rw [ih _ ((go p m).2 ++ l), ih _ (go p m).2]
    simp

theorem names_come {nodes : List NodeV} (hW : Whole nodes) (f : Nat) : ∀ id pl met ag, id < nodes.length → highOf nodes id < f → comeS nodes nFirst nAgain nFin f id pl (met, ag) = some ((agM nodes f id met).1, (agM nodes f id met).2 ++ ag) := by
  induction f with
  | zero => intro id pl met ag _ h; omega
  | succ f ih =>
    intro id pl met ag hid hf
    unfold comeS agM
    by_cases hm : id ∈ met
    · simp [hm, nAgain]
    · simp only [hm, if_false, nFirst, Option.bind_some]
      have key : ∀ ps i m l, (∀ p ∈ ps, p < nodes.length ∧ highOf nodes p < f) → partsGo (comeS nodes nFirst nAgain nFin f) id ps i (m, l) = some (agP (agM nodes f) ps (m, l)) := by
        intro ps
        induction ps with
        | nil => intro i m l _; rfl
        | cons p ps ihp =>
          intro i m l hp
          obtain ⟨h1, h2⟩ := hp p (List.mem_cons_self ..)
          simp only [partsGo, agP]
          rw [ih p _ m l h1 h2]
          exact ihp (i + 1) _ _ (fun q hq => hp q (List.mem_cons_of_mem _ hq))
      rw [key _ 0 (id :: met) ag (fun p hp => by have := hW.part hid hp; exact ⟨this.1, by omega⟩)]
      rw [agP_app]
      simp [nFin]

/-! ### how a node is told -/

/-- May it be written as it is? -/
def isWordB (x : ByteArray) : Bool := decide (1 ≤ x.size) && decide (x.size ≤ 12) && x.data.toList.all (fun b => isWB (b.toNat : Int))

/-- A text as it is written. -/
def textL (x : ByteArray) : List UInt8 := if isWordB x then x.data.toList else 34 :: (x.data.toList ++ [34])

/-- A number in digits. -/
def decL (u : Nat) : List UInt8 := if _h : u < 10 then [UInt8.ofNat (48 + u)] else decL (u / 10) ++ [UInt8.ofNat (48 + u % 10)]
termination_by u
decreasing_by omega

/-- The number in a node's name: how many ahead of it have one. -/
def rankOf (again : List Nat) (id : Nat) : Nat := ((List.range id).filter (fun j => decide (j ∈ again))).length

def leadL (nodes : List NodeV) : PlaceV → List UInt8
  | none => []
  | some (p, i) => (if 0 < i then [44, 32] else []) ++ (if (nodeAt nodes p).kind = 2 then textL ((nodeAt nodes p).keys.getD i ByteArray.empty) ++ [58, 32] else [])
def nameL (sign : UInt8) (ag : List Nat) (id : Nat) : List UInt8 := sign :: 110 :: decL (rankOf ag id)
def openL (nodes : List NodeV) (id : Nat) : List UInt8 := if (nodeAt nodes id).kind = 0 then textL (nodeAt nodes id).text else if (nodeAt nodes id).kind = 1 then [91] else if (nodeAt nodes id).kind = 2 then [123] else []
def shutL (nodes : List NodeV) (id : Nat) : List UInt8 := if (nodeAt nodes id).kind = 1 then [93] else if (nodeAt nodes id).kind = 2 then [125] else []
def headL (ag : List Nat) (id : Nat) : List UInt8 := if id ∈ ag then nameL 38 ag id ++ [32] else []

def capL (l : List UInt8) : Option (List UInt8) := if l.length ≤ 900000000 then some l else none
def tFirst (nodes : List NodeV) (ag : List Nat) (id : Nat) (pl : PlaceV) (out : List UInt8) : Option (List UInt8) := capL (out ++ leadL nodes pl ++ headL ag id ++ openL nodes id)
def tAgain (nodes : List NodeV) (ag : List Nat) (id : Nat) (pl : PlaceV) (out : List UInt8) : Option (List UInt8) := if id ∈ ag then capL (out ++ leadL nodes pl ++ nameL 42 ag id) else none
def tFin (nodes : List NodeV) (id : Nat) (out : List UInt8) : Option (List UInt8) := capL (out ++ shutL nodes id)

def tellP (nodes : List NodeV) (go : Nat → List Nat → List UInt8 × List Nat) (id : Nat) : List Nat → Nat → List UInt8 × List Nat → List UInt8 × List Nat
  | [], _, st => st
  | p :: ps, i, st => tellP nodes go id ps (i + 1) (st.1 ++ leadL nodes (some (id, i)) ++ (go p st.2).1, (go p st.2).2)

/-- A node told in one line; which nodes have been told. -/
def tellM (nodes : List NodeV) (ag : List Nat) : Nat → Nat → List Nat → List UInt8 × List Nat
  | 0, _, met => ([], met)
  | f + 1, id, met =>
    if id ∈ met then (nameL 42 ag id, met)
    else
      let r := tellP nodes (tellM nodes ag f) id (nodeAt nodes id).parts 0 (headL ag id ++ openL nodes id, id :: met)
      (r.1 ++ shutL nodes id, r.2)

/-- The plain form of a node. -/
def plainM (nodes : List NodeV) (k : Nat) : List UInt8 := (tellM nodes (agM nodes 101 k []).2 101 k []).1

theorem tellP_app (nodes : List NodeV) (go : Nat → List Nat → List UInt8 × List Nat) (id : Nat) (ps : List Nat) (i : Nat) (l : List UInt8) (m : List Nat) : tellP nodes go id ps i (l, m) = (l ++ (tellP nodes go id ps i ([], m)).1, (tellP nodes go id ps i ([], m)).2) := by
  induction ps generalizing i l m with
  | nil => simp [tellP]
  | cons p ps ih =>
    simp only [tellP, List.nil_append]
    rw [ih, ih (i + 1) (leadL nodes (some (id, i)) ++ _)]
    simp

theorem tell_met (nodes : List NodeV) (ag : List Nat) (f : Nat) : ∀ id met, (tellM nodes ag f id met).2 = (agM nodes f id met).1 := by
  induction f with
  | zero => intro id met; rfl
  | succ f ih =>
    intro id met
    unfold tellM agM
    by_cases hm : id ∈ met
    · simp [hm]
    · simp only [hm, if_false]
      have key : ∀ ps i l m l', (tellP nodes (tellM nodes ag f) id ps i (l, m)).2 = (agP (agM nodes f) ps (m, l')).1 := by
        intro ps
        induction ps with
        | nil => intro i l m l'; rfl
        | cons p ps ihp =>
          intro i l m l'
          simp only [tellP, agP]
          rw [ihp, ih]
      exact key _ _ _ _ _

/-! ### lengths -/
theorem decL_len (u : Nat) : (decL u).length ≤ u + 1 := by
  induction u using Nat.strongRecOn with
  | _ u ih =>
    rw [decL]
    split
    · simp
    · have := ih (u / 10) (by omega)
      simp
      omega

theorem rankOf_le (ag : List Nat) (id : Nat) : rankOf ag id ≤ id := by
  have := List.length_filter_le (fun j => decide (j ∈ ag)) (List.range id)
  simpa [rankOf] using this

theorem textL_len {x : ByteArray} (h : TokOk x) : (textL x).length ≤ 22 := by
  have h1 : x.data.toList.length ≤ 20 := h.1
  unfold textL
  split
  · omega
  · simp at h1 ⊢; omega

theorem getD_tok {l : List ByteArray} (h : ∀ x ∈ l, TokOk x) (i : Nat) : TokOk (l.getD i ByteArray.empty) := by
  rw [List.getD_eq_getElem?_getD]
  cases hl : l[i]? with
  | none => exact tokOk_empty
  | some x => exact h x (List.mem_of_getElem? hl)

theorem leadL_len {nodes : List NodeV} (hW : Whole nodes) {p i : Nat} (hp : p < nodes.length) : (leadL nodes (some (p, i))).length ≤ 26 := by
  have := textL_len (getD_tok (hW.node hp).words i)
  unfold leadL
  rw [List.length_append]
  have h1 : (if 0 < i then ([44, 32] : List UInt8) else []).length ≤ 2 := by split <;> simp
  have h2 : (if (nodeAt nodes p).kind = 2 then textL ((nodeAt nodes p).keys.getD i ByteArray.empty) ++ [58, 32] else []).length ≤ 24 := by
    split
    · simp at this ⊢; omega
    · simp
  omega

theorem nameL_len (sign : UInt8) (ag : List Nat) {id n : Nat} (h : id ≤ n) : (nameL sign ag id).length ≤ n + 3 := by
  have h1 := decL_len (rankOf ag id)
  have h2 := rankOf_le ag id
  simp [nameL]
  omega

theorem openL_len {nodes : List NodeV} (hW : Whole nodes) {id : Nat} (hid : id < nodes.length) : (openL nodes id).length ≤ 22 := by
  have := textL_len (hW.node hid).text
  unfold openL
  split
  · exact this
  · split
    · simp
    · split <;> simp

theorem shutL_len (nodes : List NodeV) (id : Nat) : (shutL nodes id).length ≤ 1 := by
  unfold shutL
  split
  · simp
  · split <;> simp

theorem headL_len (ag : List Nat) {id n : Nat} (h : id ≤ n) : (headL ag id).length ≤ n + 4 := by
  have := nameL_len 38 ag h
  unfold headL
  split
  · simp; omega
  · simp

theorem nodup_lt_length : ∀ (n : Nat) (l : List Nat), l.Nodup → (∀ x ∈ l, x < n) → l.length ≤ n
  | 0, l, _, h => by
    cases l with
    | nil => simp
    | cons x l => exact absurd (h x (List.mem_cons_self ..)) (by omega)
  | n + 1, l, hn, h => by
    have h1 := nodup_lt_length n (l.filter (fun x => decide (x ≠ n))) (hn.filter _) (fun x hx => by
      have := List.mem_filter.1 hx
      have h2 := h x this.1
      have h3 : x ≠ n := by simpa using this.2
      omega)
    have h2 : l.length ≤ (l.filter (fun x => decide (x ≠ n))).length + 1 := by
      clear h1 h
      induction l with
      | nil => simp
      | cons x l ih =>
        rw [List.nodup_cons] at hn
        by_cases e : x = n
        · subst e
          have : l.filter (fun y => decide (y ≠ x)) = l := List.filter_eq_self.2 (fun y hy => by
            have : y ≠ x := fun e => hn.1 (e ▸ hy)
            simp [this])
          rw [List.filter_cons_of_neg (by simp), this]
          simp
        · have := ih hn.2
          rw [List.filter_cons_of_pos (by simp [e])]
          simp only [List.length_cons]; omega
    omega

/-- What is come to: no node twice, all of them there are. -/
theorem agM_met {nodes : List NodeV} (hW : Whole nodes) (f : Nat) : ∀ id met, id < nodes.length → met.Nodup → (∀ x ∈ met, x < nodes.length) →
    (agM nodes f id met).1.Nodup ∧ (∀ x ∈ (agM nodes f id met).1, x < nodes.length) ∧ met.length ≤ (agM nodes f id met).1.length ∧ (∀ x ∈ met, x ∈ (agM nodes f id met).1) ∧ (∀ x ∈ (agM nodes f id met).2, x < nodes.length) := by
  induction f with
  | zero => intro id met _ h1 h2; exact ⟨h1, h2, Nat.le_refl _, fun x hx => hx, fun x hx => by cases hx⟩
  | succ f ih =>
    intro id met hid h1 h2
    unfold agM
    by_cases hm : id ∈ met
    · simp only [hm, if_true]
      exact ⟨h1, h2, Nat.le_refl _, fun x hx => hx, fun x hx => by rw [List.mem_singleton.1 hx]; exact hid⟩
    · simp only [hm, if_false]
      have key : ∀ ps m l, (∀ p ∈ ps, p < nodes.length) → m.Nodup → (∀ x ∈ m, x < nodes.length) → (∀ x ∈ l, x < nodes.length) →
          (agP (agM nodes f) ps (m, l)).1.Nodup ∧ (∀ x ∈ (agP (agM nodes f) ps (m, l)).1, x < nodes.length) ∧ m.length ≤ (agP (agM nodes f) ps (m, l)).1.length ∧ (∀ x ∈ m, x ∈ (agP (agM nodes f) ps (m, l)).1) ∧ (∀ x ∈ (agP (agM nodes f) ps (m, l)).2, x < nodes.length) := by
        intro ps
        induction ps with
        | nil => intro m l _ a b c; exact ⟨a, b, Nat.le_refl _, fun x hx => hx, c⟩
        | cons p ps ihp =>
          intro m l hp a b c
          simp only [agP]
          obtain ⟨a1, b1, c1, d1, e1⟩ := ih p m (hp p (List.mem_cons_self ..)) a b
          obtain ⟨a2, b2, c2, d2, e2⟩ := ihp _ ((agM nodes f p m).2 ++ l) (fun q hq => hp q (List.mem_cons_of_mem _ hq)) a1 b1 (fun x hx => by
            rcases List.mem_append.1 hx with hx | hx
            · exact e1 x hx
            · exact c x hx)
          exact ⟨a2, b2, by omega, fun x hx => d2 x (d1 x hx), e2⟩
      obtain ⟨a, b, c, d, e⟩ := key (nodeAt nodes id).parts (id :: met) [] (fun p hp => (hW.part hid hp).1) (List.nodup_cons.2 ⟨hm, h1⟩) (fun x hx => by
        rcases List.mem_cons.1 hx with rfl | hx
        · exact hid
        · exact h2 x hx) (fun x hx => by cases hx)
      exact ⟨a, b, by simp at c; omega, fun x hx => d x (List.mem_cons_of_mem _ hx), e⟩

/-- How long what is told can be. -/
theorem tell_len {nodes : List NodeV} (hW : Whole nodes) (ag : List Nat) (f : Nat) : ∀ id met, id < nodes.length → met.Nodup → (∀ x ∈ met, x < nodes.length) →
    (tellM nodes ag f id met).1.length + 26 + 600000 * met.length ≤ 600 + 600000 * (agM nodes f id met).1.length := by
  induction f with
  | zero => intro id met _ _ _; simp [tellM, agM]
  | succ f ih =>
    intro id met hid h1 h2
    have hl := hW.len
    unfold tellM agM
    by_cases hm : id ∈ met
    · simp only [hm, if_true]
      have := nameL_len 42 ag (id := id) (n := 500) (by omega)
      omega
    · simp only [hm, if_false]
      have key : ∀ ps i l m l', (∀ p ∈ ps, p < nodes.length) → m.Nodup → (∀ x ∈ m, x < nodes.length) →
          (tellP nodes (tellM nodes ag f) id ps i (l, m)).1.length + 600000 * m.length ≤ l.length + 600 * ps.length + 600000 * (agP (agM nodes f) ps (m, l')).1.length := by
        intro ps
        induction ps with
        | nil => intro i l m l' _ _ _; simp [tellP, agP]
        | cons p ps ihp =>
          intro i l m l' hp a b
          simp only [tellP, agP]
          have hp0 := hp p (List.mem_cons_self ..)
          obtain ⟨a1, b1, _⟩ := agM_met hW f p m hp0 a b
          have t1 := ih p m hp0 a b
          have t2 := leadL_len hW (i := i) hid
          have t3 := ihp (i + 1) (l ++ leadL nodes (some (id, i)) ++ (tellM nodes ag f p m).1) (tellM nodes ag f p m).2 ((agM nodes f p m).2 ++ l') (fun q hq => hp q (List.mem_cons_of_mem _ hq)) (by rw [tell_met]; exact a1) (by rw [tell_met]; exact b1)
          rw [tell_met] at t3
          rw [tell_met]
          simp only [List.length_append, List.length_cons] at t3 ⊢
          omega
      have k := key (nodeAt nodes id).parts 0 (headL ag id ++ openL nodes id) (id :: met) [] (fun p hp => (hW.part hid hp).1) (List.nodup_cons.2 ⟨hm, h1⟩) (fun x hx => by
        rcases List.mem_cons.1 hx with rfl | hx
        · exact hid
        · exact h2 x hx)
      have k1 := (hW.node hid).len
      have k2 := headL_len ag (id := id) (n := 500) (by omega)
      have k3 := openL_len hW hid
      have k4 := shutL_len nodes id
      simp only [List.length_append, List.length_cons] at k ⊢
      omega

theorem capL_ok {l : List UInt8} (h : l.length ≤ 900000000) : capL l = some l := by simp [capL, h]

/-- The walk that tells comes to what 'tellM' says. -/
theorem tell_come {nodes : List NodeV} (hW : Whole nodes) (ag : List Nat) (f : Nat) : ∀ id pl met out, id < nodes.length → highOf nodes id < f → (∀ x ∈ (agM nodes f id met).2, x ∈ ag) → out.length + (leadL nodes pl).length + (tellM nodes ag f id met).1.length ≤ 900000000 →
    comeS nodes (tFirst nodes ag) (tAgain nodes ag) (tFin nodes) f id pl (met, out) = some ((agM nodes f id met).1, out ++ leadL nodes pl ++ (tellM nodes ag f id met).1) := by
  induction f with
  | zero => intro id pl met out _ h; omega
  | succ f ih =>
    intro id pl met out hid hf hag hlen
    unfold comeS
    unfold agM at hag ⊢
    unfold tellM at hlen ⊢
    by_cases hm : id ∈ met
    · simp only [hm, if_true] at hag hlen ⊢
      have h1 : id ∈ ag := hag id (by simp)
      have e1 : tAgain nodes ag id pl out = some (out ++ leadL nodes pl ++ nameL 42 ag id) := by
        unfold tAgain
        rw [if_pos h1, capL_ok (by simp at hlen ⊢; omega)]
      rw [e1]
      rfl
    · simp only [hm, if_false] at hag hlen ⊢
      have key : ∀ ps i l m, (∀ p ∈ ps, p < nodes.length ∧ highOf nodes p < f) → (∀ x ∈ (agP (agM nodes f) ps (m, [])).2, x ∈ ag) → (tellP nodes (tellM nodes ag f) id ps i (l, m)).1.length ≤ 900000000 →
          partsGo (comeS nodes (tFirst nodes ag) (tAgain nodes ag) (tFin nodes) f) id ps i (m, l) = some ((agP (agM nodes f) ps (m, [])).1, (tellP nodes (tellM nodes ag f) id ps i (l, m)).1) := by
        intro ps
        induction ps with
        | nil => intro i l m _ _ _; rfl
        | cons p ps ihp =>
          intro i l m hp ha hl
          obtain ⟨h1, h2⟩ := hp p (List.mem_cons_self ..)
          simp only [agP, List.append_nil] at ha ⊢
          simp only [tellP] at hl ⊢
          simp only [partsGo]
          rw [agP_app] at ha
          have hlq : (l ++ leadL nodes (some (id, i)) ++ (tellM nodes ag f p m).1).length ≤ 900000000 := by
            rw [tellP_app] at hl
            simp only [List.length_append] at hl ⊢
            omega
          rw [ih p _ m l h1 h2 (fun x hx => ha x (by simp [hx])) (by simp only [List.length_append] at hlq; omega)]
          simp only [Option.bind_some]
          rw [tell_met] at hl ⊢
          rw [ihp (i + 1) _ _ (fun q hq => hp q (List.mem_cons_of_mem _ hq)) (fun x hx => ha x (by simp [hx])) hl]
          rw [agP_app _ _ _ (agM nodes f p m).2]
      have hl0 : (out ++ leadL nodes pl ++ headL ag id ++ openL nodes id).length ≤ 900000000 := by
        rw [tellP_app] at hlen
        simp only [List.length_append] at hlen ⊢
        omega
      have e0 : tellP nodes (tellM nodes ag f) id (nodeAt nodes id).parts 0 (out ++ leadL nodes pl ++ headL ag id ++ openL nodes id, id :: met) = (out ++ leadL nodes pl ++ (tellP nodes (tellM nodes ag f) id (nodeAt nodes id).parts 0 (headL ag id ++ openL nodes id, id :: met)).1, (tellP nodes (tellM nodes ag f) id (nodeAt nodes id).parts 0 (headL ag id ++ openL nodes id, id :: met)).2) := by
        rw [tellP_app, tellP_app _ _ _ _ _ (headL ag id ++ openL nodes id)]
        simp
      have e1 : tFirst nodes ag id pl out = some (out ++ leadL nodes pl ++ headL ag id ++ openL nodes id) := capL_ok hl0
      rw [e1]
      simp only [Option.bind_some]
      rw [key _ 0 _ (id :: met) (fun p hp => by have := hW.part hid hp; exact ⟨this.1, by omega⟩) hag (by
        rw [e0]
        simp only [List.length_append] at hlen ⊢
        omega)]
      rw [e0]
      simp only [Option.bind_some]
      have e2 : tFin nodes id (out ++ leadL nodes pl ++ (tellP nodes (tellM nodes ag f) id (nodeAt nodes id).parts 0 (headL ag id ++ openL nodes id, id :: met)).1) = some (out ++ leadL nodes pl ++ (tellP nodes (tellM nodes ag f) id (nodeAt nodes id).parts 0 (headL ag id ++ openL nodes id, id :: met)).1 ++ shutL nodes id) := capL_ok (by simp only [List.length_append] at hlen ⊢; omega)
      rw [e2]
      simp

/-- The two walks of the plain form. -/
theorem plain_come {nodes : List NodeV} (hW : Whole nodes) {k : Nat} (hk : k < nodes.length) :
    comeS nodes nFirst nAgain nFin 101 k none ([], []) = some ((agM nodes 101 k []).1, (agM nodes 101 k []).2) ∧
    comeS nodes (tFirst nodes (agM nodes 101 k []).2) (tAgain nodes (agM nodes 101 k []).2) (tFin nodes) 101 k none ([], []) = some ((agM nodes 101 k []).1, plainM nodes k) ∧ (plainM nodes k).length ≤ 400000000 := by
  have hh := hW.high k
  obtain ⟨a, b, _⟩ := agM_met hW 101 k [] hk (by simp) (fun x hx => by cases hx)
  have hn := nodup_lt_length nodes.length _ a b
  have hl := tell_len hW (agM nodes 101 k []).2 101 k [] hk (by simp) (fun x hx => by cases hx)
  have hN := hW.len
  have hlen : (plainM nodes k).length ≤ 400000000 := by unfold plainM; simp at hl; omega
  refine ⟨?_, ?_, hlen⟩
  · rw [names_come hW 101 k none [] [] hk (by omega)]; simp
  · rw [tell_come hW _ 101 k none [] [] hk (by omega) (fun x hx => hx) (by unfold plainM at hlen; simp [leadL]; omega)]
    simp [leadL, plainM]

end Go.Proofs.YtkflkmmbakccoaaGreatDoor
