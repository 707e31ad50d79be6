/- PARTS: Mod7, Mod9, Mod10, Mod11. -/
import Derived.Test.YtkflkmmbakccoaaGreatDoorI12

/- THE PLAIN FUNCTIONS: a graph is gone through; how a node is told. No program is named here. -/
namespace Go.Proofs.YtkflkmmbakccoaaGreatDoor

/-- Where a node stands: in which node, at which of its parts; or where a walk sets out. -/
abbrev PlaceV := Option (Nat × Nat)

section
variable {σ : Type} (nodes : List NodeV) (first again : Nat → PlaceV → σ → Option σ) (fin : Nat → σ → Option σ)

/-- The parts of a node, one behind the other. -/
def partsGo (go : Nat → PlaceV → List Nat × σ → Option (List Nat × σ)) (id : Nat) : List Nat → Nat → List Nat × σ → Option (List Nat × σ)
  | [], _, st => some st
  | p :: ps, i, st => (go p (some (id, i)) st).bind (partsGo go id ps (i + 1))

/-- A walk: what is done with each node when it is come to first, again, and at its end. -/
def comeS : Nat → Nat → PlaceV → List Nat × σ → Option (List Nat × σ)
  | 0, _, _, _ => none
  | f + 1, id, pl, st =>
    if id ∈ st.1 then (again id pl st.2).map (fun s => (st.1, s))
    else (first id pl st.2).bind fun s1 => (partsGo (comeS f) id (nodeAt nodes id).parts 0 (id :: st.1, s1)).bind fun r => (fin id r.2).map fun s2 => (r.1, s2)
end

/-- Every node has ended and is whole. -/
structure Whole (nodes : List NodeV) : Prop where
  all : ∀ i, i < nodes.length → highOf nodes i ≠ 0
  ok : AllOk nodes
  len : nodes.length ≤ 500
  high : ∀ i, highOf nodes i ≤ 100
  heavy : ∀ i, heavyOf nodes i ≤ 1000000000001

theorem Whole.node {nodes : List NodeV} (h : Whole nodes) {i : Nat} (hi : i < nodes.length) : NodeOk nodes (nodeAt nodes i) := h.ok i (h.all i hi)

theorem Whole.part {nodes : List NodeV} (h : Whole nodes) {i p : Nat} (hi : i < nodes.length) (hp : p ∈ (nodeAt nodes i).parts) : p < nodes.length ∧ highOf nodes p < highOf nodes i :=
  ⟨highOf_lt ((h.node hi).parts p hp), (h.node hi).lower hp⟩

/-! ### which nodes are come to again -/
def nFirst (_ : Nat) (_ : PlaceV) (s : List Nat) : Option (List Nat) := some s
def nAgain (id : Nat) (_ : PlaceV) (s : List Nat) : Option (List Nat) := some (id :: s)
def nFin (_ : Nat) (s : List Nat) : Option (List Nat) := some s

def agP (go : Nat → List Nat → List Nat × List Nat) : List Nat → List Nat × List Nat → List Nat × List Nat
  | [], st => st
  | p :: ps, st => agP go ps ((go p st.1).1, (go p st.1).2 ++ st.2)

/-- Which nodes have been come to behind a walk; and which of them again in it. -/
def agM (nodes : List NodeV) : Nat → Nat → List Nat → List Nat × List Nat
  | 0, _, met => (met, [])
  | f + 1, id, met => if id ∈ met then (met, [id]) else agP (agM nodes f) (nodeAt nodes id).parts (id :: met, [])

theorem agP_app (go : Nat → List Nat → List Nat × List Nat) (ps : List Nat) (m l : List Nat) : agP go ps (m, l) = ((agP go ps (m, [])).1, (agP go ps (m, [])).2 ++ l) := by
  induction ps generalizing m l with
  | nil => simp [agP]
  | cons p ps ih =>
    simp only [agP, List.append_nil]
    rw [ih _ ((go p m).2 ++ l), ih _ (go p m).2]
    simp

theorem names_come {nodes : List NodeV} (hW : Whole nodes) (f : Nat) : ∀ id pl met ag, id < nodes.length → highOf nodes id < f → comeS nodes nFirst nAgain nFin f id pl (met, ag) = some ((agM nodes f id met).1, (agM nodes f id met).2 ++ ag) := by
  induction f with
  | zero => intro id pl met ag _ h; omega
  | succ f ih =>
    intro id pl met ag hid hf
    unfold comeS agM
    by_cases hm : id ∈ met
    · simp [hm, nAgain]
    · simp only [hm, if_false, nFirst, Option.bind_some]
      have key : ∀ ps i m l, (∀ p ∈ ps, p < nodes.length ∧ highOf nodes p < f) → partsGo (comeS nodes nFirst nAgain nFin f) id ps i (m, l) = some (agP (agM nodes f) ps (m, l)) := by
        intro ps
        induction ps with
        | nil => intro i m l _; rfl
        | cons p ps ihp =>
          intro i m l hp
          obtain ⟨h1, h2⟩ := hp p (List.mem_cons_self ..)
          simp only [partsGo, agP]
          rw [ih p _ m l h1 h2]
          exact ihp (i + 1) _ _ (fun q hq => hp q (List.mem_cons_of_mem _ hq))
      rw [key _ 0 (id :: met) ag (fun p hp => by have := hW.part hid hp; exact ⟨this.1, by omega⟩)]
      rw [agP_app]
      simp [nFin]

/-! ### how a node is told -/

/-- May it be written as it is? -/
def isWordB (x : ByteArray) : Bool := decide (1 ≤ x.size) && decide (x.size ≤ 12) && x.data.toList.all (fun b => isWB (b.toNat : Int))

/-- A text as it is written. -/
def textL (x : ByteArray) : List UInt8 := if isWordB x then x.data.toList else 34 :: (x.data.toList ++ [34])

/-- A number in digits. -/
def decL (u : Nat) : List UInt8 := if _h : u < 10 then [UInt8.ofNat (48 + u)] else decL (u / 10) ++ [UInt8.ofNat (48 + u % 10)]
termination_by u
decreasing_by omega

/-- The number in a node's name: how many ahead of it have one. -/
def rankOf (again : List Nat) (id : Nat) : Nat := ((List.range id).filter (fun j => decide (j ∈ again))).length

def leadL (nodes : List NodeV) : PlaceV → List UInt8
  | none => []
  | some (p, i) => (if 0 < i then [44, 32] else []) ++ (if (nodeAt nodes p).kind = 2 then textL ((nodeAt nodes p).keys.getD i ByteArray.empty) ++ [58, 32] else [])
def nameL (sign : UInt8) (ag : List Nat) (id : Nat) : List UInt8 := sign :: 110 :: decL (rankOf ag id)
def openL (nodes : List NodeV) (id : Nat) : List UInt8 := if (nodeAt nodes id).kind = 0 then textL (nodeAt nodes id).text else if (nodeAt nodes id).kind = 1 then [91] else if (nodeAt nodes id).kind = 2 then [123] else []
def shutL (nodes : List NodeV) (id : Nat) : List UInt8 := if (nodeAt nodes id).kind = 1 then [93] else if (nodeAt nodes id).kind = 2 then [125] else []
def headL (ag : List Nat) (id : Nat) : List UInt8 := if id ∈ ag then nameL 38 ag id ++ [32] else []

def capL (l : List UInt8) : Option (List UInt8) := if l.length ≤ 900000000 then some l else none
def tFirst (nodes : List NodeV) (ag : List Nat) (id : Nat) (pl : PlaceV) (out : List UInt8) : Option (List UInt8) := capL (out ++ leadL nodes pl ++ headL ag id ++ openL nodes id)
def tAgain (nodes : List NodeV) (ag : List Nat) (id : Nat) (pl : PlaceV) (out : List UInt8) : Option (List UInt8) := if id ∈ ag then capL (out ++ leadL nodes pl ++ nameL 42 ag id) else none
def tFin (nodes : List NodeV) (id : Nat) (out : List UInt8) : Option (List UInt8) := capL (out ++ shutL nodes id)

def tellP (nodes : List NodeV) (go : Nat → List Nat → List UInt8 × List Nat) (id : Nat) : List Nat → Nat → List UInt8 × List Nat → List UInt8 × List Nat
  | [], _, st => st
  | p :: ps, i, st => tellP nodes go id ps (i + 1) (st.1 ++ leadL nodes (some (id, i)) ++ (go p st.2).1, (go p st.2).2)

/-- A node told in one line; which nodes have been told. -/
def tellM (nodes : List NodeV) (ag : List Nat) : Nat → Nat → List Nat → List UInt8 × List Nat
  | 0, _, met => ([], met)
  | f + 1, id, met =>
    if id ∈ met then (nameL 42 ag id, met)
    else
      let r := tellP nodes (tellM nodes ag f) id (nodeAt nodes id).parts 0 (headL ag id ++ openL nodes id, id :: met)
      (r.1 ++ shutL nodes id, r.2)

/-- The plain form of a node. -/
def plainM (nodes : List NodeV) (k : Nat) : List UInt8 := (tellM nodes (agM nodes 101 k []).2 101 k []).1

theorem tellP_app (nodes : List NodeV) (go : Nat → List Nat → List UInt8 × List Nat) (id : Nat) (ps : List Nat) (i : Nat) (l : List UInt8) (m : List Nat) : tellP nodes go id ps i (l, m) = (l ++ (tellP nodes go id ps i ([], m)).1, (tellP nodes go id ps i ([], m)).2) := by
  induction ps generalizing i l m with
  | nil => simp [tellP]
  | cons p ps ih =>
    simp only [tellP, List.nil_append]
    rw [ih, ih (i + 1) (leadL nodes (some (id, i)) ++ _)]
    simp

theorem tell_met (nodes : List NodeV) (ag : List Nat) (f : Nat) : ∀ id met, (tellM nodes ag f id met).2 = (agM nodes f id met).1 := by
  induction f with
  | zero => intro id met; rfl
  | succ f ih =>
    intro id met
    unfold tellM agM
    by_cases hm : id ∈ met
    · simp [hm]
    · simp only [hm, if_false]
      have key : ∀ ps i l m l', (tellP nodes (tellM nodes ag f) id ps i (l, m)).2 = (agP (agM nodes f) ps (m, l')).1 := by
        intro ps
        induction ps with
        | nil => intro i l m l'; rfl
        | cons p ps ihp =>
          intro i l m l'
          simp only [tellP, agP]
          rw [ihp, ih]
      exact key _ _ _ _ _

/-! ### lengths -/
theorem decL_len (u : Nat) : (decL u).length ≤ u + 1 := by
  induction u using Nat.strongRecOn with
  | _ u ih =>
    rw [decL]
    split
    · simp
    · have := ih (u / 10) (by omega)
      simp
      omega

theorem rankOf_le (ag : List Nat) (id : Nat) : rankOf ag id ≤ id := by
  have := List.length_filter_le (fun j => decide (j ∈ ag)) (List.range id)
  simpa [rankOf] using this

theorem textL_len {x : ByteArray} (h : TokOk x) : (textL x).length ≤ 22 := by
  have h1 : x.data.toList.length ≤ 20 := h.1
  unfold textL
  split
  · omega
  · simp at h1 ⊢; omega

theorem getD_tok {l : List ByteArray} (h : ∀ x ∈ l, TokOk x) (i : Nat) : TokOk (l.getD i ByteArray.empty) := by
  rw [List.getD_eq_getElem?_getD]
  cases hl : l[i]? with
  | none => exact tokOk_empty
  | some x => exact h x (List.mem_of_getElem? hl)

theorem leadL_len {nodes : List NodeV} (hW : Whole nodes) {p i : Nat} (hp : p < nodes.length) : (leadL nodes (some (p, i))).length ≤ 26 := by
  have := textL_len (getD_tok (hW.node hp).words i)
  unfold leadL
  rw [List.length_append]
  have h1 : (if 0 < i then ([44, 32] : List UInt8) else []).length ≤ 2 := by split <;> simp
  have h2 : (if (nodeAt nodes p).kind = 2 then textL ((nodeAt nodes p).keys.getD i ByteArray.empty) ++ [58, 32] else []).length ≤ 24 := by
    split
    · simp at this ⊢; omega
    · simp
  omega

theorem nameL_len (sign : UInt8) (ag : List Nat) {id n : Nat} (h : id ≤ n) : (nameL sign ag id).length ≤ n + 3 := by
  have h1 := decL_len (rankOf ag id)
  have h2 := rankOf_le ag id
  simp [nameL]
  omega

theorem openL_len {nodes : List NodeV} (hW : Whole nodes) {id : Nat} (hid : id < nodes.length) : (openL nodes id).length ≤ 22 := by
  have := textL_len (hW.node hid).text
  unfold openL
  split
  · exact this
  · split
    · simp
    · split <;> simp

theorem shutL_len (nodes : List NodeV) (id : Nat) : (shutL nodes id).length ≤ 1 := by
  unfold shutL
  split
  · simp
  · split <;> simp

theorem headL_len (ag : List Nat) {id n : Nat} (h : id ≤ n) : (headL ag id).length ≤ n + 4 := by
  have := nameL_len 38 ag h
  unfold headL
  split
  · simp; omega
  · simp

theorem nodup_lt_length : ∀ (n : Nat) (l : List Nat), l.Nodup → (∀ x ∈ l, x < n) → l.length ≤ n
  | 0, l, _, h => by
    cases l with
    | nil => simp
    | cons x l => exact absurd (h x (List.mem_cons_self ..)) (by omega)
  | n + 1, l, hn, h => by
    have h1 := nodup_lt_length n (l.filter (fun x => decide (x ≠ n))) (hn.filter _) (fun x hx => by
      have := List.mem_filter.1 hx
      have h2 := h x this.1
      have h3 : x ≠ n := by simpa using this.2
      omega)
    have h2 : l.length ≤ (l.filter (fun x => decide (x ≠ n))).length + 1 := by
      clear h1 h
      induction l with
      | nil => simp
      | cons x l ih =>
        rw [List.nodup_cons] at hn
        by_cases e : x = n
        · subst e
          have : l.filter (fun y => decide (y ≠ x)) = l := List.filter_eq_self.2 (fun y hy => by
            have : y ≠ x := fun e => hn.1 (e ▸ hy)
            simp [this])
          rw [List.filter_cons_of_neg (by simp), this]
          simp
        · have := ih hn.2
          rw [List.filter_cons_of_pos (by simp [e])]
          simp only [List.length_cons]; omega
    omega

/-- What is come to: no node twice, all of them there are. -/
theorem agM_met {nodes : List NodeV} (hW : Whole nodes) (f : Nat) : ∀ id met, id < nodes.length → met.Nodup → (∀ x ∈ met, x < nodes.length) →
    (agM nodes f id met).1.Nodup ∧ (∀ x ∈ (agM nodes f id met).1, x < nodes.length) ∧ met.length ≤ (agM nodes f id met).1.length ∧ (∀ x ∈ met, x ∈ (agM nodes f id met).1) ∧ (∀ x ∈ (agM nodes f id met).2, x < nodes.length) := by
  induction f with
  | zero => intro id met _ h1 h2; exact ⟨h1, h2, Nat.le_refl _, fun x hx => hx, fun x hx => by cases hx⟩
  | succ f ih =>
    intro id met hid h1 h2
    unfold agM
    by_cases hm : id ∈ met
    · simp only [hm, if_true]
      exact ⟨h1, h2, Nat.le_refl _, fun x hx => hx, fun x hx => by rw [List.mem_singleton.1 hx]; exact hid⟩
    · simp only [hm, if_false]
      have key : ∀ ps m l, (∀ p ∈ ps, p < nodes.length) → m.Nodup → (∀ x ∈ m, x < nodes.length) → (∀ x ∈ l, x < nodes.length) →
          (agP (agM nodes f) ps (m, l)).1.Nodup ∧ (∀ x ∈ (agP (agM nodes f) ps (m, l)).1, x < nodes.length) ∧ m.length ≤ (agP (agM nodes f) ps (m, l)).1.length ∧ (∀ x ∈ m, x ∈ (agP (agM nodes f) ps (m, l)).1) ∧ (∀ x ∈ (agP (agM nodes f) ps (m, l)).2, x < nodes.length) := by
        intro ps
        induction ps with
        | nil => intro m l _ a b c; exact ⟨a, b, Nat.le_refl _, fun x hx => hx, c⟩
        | cons p ps ihp =>
          intro m l hp a b c
          simp only [agP]
          obtain ⟨a1, b1, c1, d1, e1⟩ := ih p m (hp p (List.mem_cons_self ..)) a b
          obtain ⟨a2, b2, c2, d2, e2⟩ := ihp _ ((agM nodes f p m).2 ++ l) (fun q hq => hp q (List.mem_cons_of_mem _ hq)) a1 b1 (fun x hx => by
            rcases List.mem_append.1 hx with hx | hx
            · exact e1 x hx
            · exact c x hx)
          exact ⟨a2, b2, by omega, fun x hx => d2 x (d1 x hx), e2⟩
      obtain ⟨a, b, c, d, e⟩ := key (nodeAt nodes id).parts (id :: met) [] (fun p hp => (hW.part hid hp).1) (List.nodup_cons.2 ⟨hm, h1⟩) (fun x hx => by
        rcases List.mem_cons.1 hx with rfl | hx
        · exact hid
        · exact h2 x hx) (fun x hx => by cases hx)
      exact ⟨a, b, by simp at c; omega, fun x hx => d x (List.mem_cons_of_mem _ hx), e⟩

/-- How long what is told can be. -/
theorem tell_len {nodes : List NodeV} (hW : Whole nodes) (ag : List Nat) (f : Nat) : ∀ id met, id < nodes.length → met.Nodup → (∀ x ∈ met, x < nodes.length) →
    (tellM nodes ag f id met).1.length + 26 + 600000 * met.length ≤ 600 + 600000 * (agM nodes f id met).1.length := by
  induction f with
  | zero => intro id met _ _ _; simp [tellM, agM]
  | succ f ih =>
    intro id met hid h1 h2
    have hl := hW.len
    unfold tellM agM
    by_cases hm : id ∈ met
    · simp only [hm, if_true]
      have := nameL_len 42 ag (id := id) (n := 500) (by omega)
      omega
    · simp only [hm, if_false]
      have key : ∀ ps i l m l', (∀ p ∈ ps, p < nodes.length) → m.Nodup → (∀ x ∈ m, x < nodes.length) →
          (tellP nodes (tellM nodes ag f) id ps i (l, m)).1.length + 600000 * m.length ≤ l.length + 600 * ps.length + 600000 * (agP (agM nodes f) ps (m, l')).1.length := by
        intro ps
        induction ps with
        | nil => intro i l m l' _ _ _; simp [tellP, agP]
        | cons p ps ihp =>
          intro i l m l' hp a b
          simp only [tellP, agP]
          have hp0 := hp p (List.mem_cons_self ..)
          obtain ⟨a1, b1, _⟩ := agM_met hW f p m hp0 a b
          have t1 := ih p m hp0 a b
          have t2 := leadL_len hW (i := i) hid
          have t3 := ihp (i + 1) (l ++ leadL nodes (some (id, i)) ++ (tellM nodes ag f p m).1) (tellM nodes ag f p m).2 ((agM nodes f p m).2 ++ l') (fun q hq => hp q (List.mem_cons_of_mem _ hq)) (by rw [tell_met]; exact a1) (by rw [tell_met]; exact b1)
          rw [tell_met] at t3
          rw [tell_met]
          simp only [List.length_append, List.length_cons] at t3 ⊢
          omega
      have k := key (nodeAt nodes id).parts 0 (headL ag id ++ openL nodes id) (id :: met) [] (fun p hp => (hW.part hid hp).1) (List.nodup_cons.2 ⟨hm, h1⟩) (fun x hx => by
        rcases List.mem_cons.1 hx with rfl | hx
        · exact hid
        · exact h2 x hx)
      have k1 := (hW.node hid).len
      have k2 := headL_len ag (id := id) (n := 500) (by omega)
      have k3 := openL_len hW hid
      have k4 := shutL_len nodes id
      simp only [List.length_append, List.length_cons] at k ⊢
      omega

theorem capL_ok {l : List UInt8} (h : l.length ≤ 900000000) : capL l = some l := by simp [capL, h]

/-- The walk that tells comes to what 'tellM' says. -/
theorem tell_come {nodes : List NodeV} (hW : Whole nodes) (ag : List Nat) (f : Nat) : ∀ id pl met out, id < nodes.length → highOf nodes id < f → (∀ x ∈ (agM nodes f id met).2, x ∈ ag) → out.length + (leadL nodes pl).length + (tellM nodes ag f id met).1.length ≤ 900000000 →
    comeS nodes (tFirst nodes ag) (tAgain nodes ag) (tFin nodes) f id pl (met, out) = some ((agM nodes f id met).1, out ++ leadL nodes pl ++ (tellM nodes ag f id met).1) := by
  induction f with
  | zero => intro id pl met out _ h; omega
  | succ f ih =>
    intro id pl met out hid hf hag hlen
    unfold comeS
    unfold agM at hag ⊢
    unfold tellM at hlen ⊢
    by_cases hm : id ∈ met
    · simp only [hm, if_true] at hag hlen ⊢
      have h1 : id ∈ ag := hag id (by simp)
      have e1 : tAgain nodes ag id pl out = some (out ++ leadL nodes pl ++ nameL 42 ag id) := by
        unfold tAgain
        rw [if_pos h1, capL_ok (by simp at hlen ⊢; omega)]
      rw [e1]
      rfl
    · simp only [hm, if_false] at hag hlen ⊢
      have key : ∀ ps i l m, (∀ p ∈ ps, p < nodes.length ∧ highOf nodes p < f) → (∀ x ∈ (agP (agM nodes f) ps (m, [])).2, x ∈ ag) → (tellP nodes (tellM nodes ag f) id ps i (l, m)).1.length ≤ 900000000 →
          partsGo (comeS nodes (tFirst nodes ag) (tAgain nodes ag) (tFin nodes) f) id ps i (m, l) = some ((agP (agM nodes f) ps (m, [])).1, (tellP nodes (tellM nodes ag f) id ps i (l, m)).1) := by
        intro ps
        induction ps with
        | nil => intro i l m _ _ _; rfl
        | cons p ps ihp =>
          intro i l m hp ha hl
          obtain ⟨h1, h2⟩ := hp p (List.mem_cons_self ..)
          simp only [agP, List.append_nil] at ha ⊢
          simp only [tellP] at hl ⊢
          simp only [partsGo]
          rw [agP_app] at ha
          have hlq : (l ++ leadL nodes (some (id, i)) ++ (tellM nodes ag f p m).1).length ≤ 900000000 := by
            rw [tellP_app] at hl
            simp only [List.length_append] at hl ⊢
            omega
          rw [ih p _ m l h1 h2 (fun x hx => ha x (by simp [hx])) (by simp only [List.length_append] at hlq; omega)]
          simp only [Option.bind_some]
          rw [tell_met] at hl ⊢
          rw [ihp (i + 1) _ _ (fun q hq => hp q (List.mem_cons_of_mem _ hq)) (fun x hx => ha x (by simp [hx])) hl]
          rw [agP_app _ _ _ (agM nodes f p m).2]
      have hl0 : (out ++ leadL nodes pl ++ headL ag id ++ openL nodes id).length ≤ 900000000 := by
        rw [tellP_app] at hlen
        simp only [List.length_append] at hlen ⊢
        omega
      have e0 : tellP nodes (tellM nodes ag f) id (nodeAt nodes id).parts 0 (out ++ leadL nodes pl ++ headL ag id ++ openL nodes id, id :: met) = (out ++ leadL nodes pl ++ (tellP nodes (tellM nodes ag f) id (nodeAt nodes id).parts 0 (headL ag id ++ openL nodes id, id :: met)).1, (tellP nodes (tellM nodes ag f) id (nodeAt nodes id).parts 0 (headL ag id ++ openL nodes id, id :: met)).2) := by
        rw [tellP_app, tellP_app _ _ _ _ _ (headL ag id ++ openL nodes id)]
        simp
      have e1 : tFirst nodes ag id pl out = some (out ++ leadL nodes pl ++ headL ag id ++ openL nodes id) := capL_ok hl0
      rw [e1]
      simp only [Option.bind_some]
      rw [key _ 0 _ (id :: met) (fun p hp => by have := hW.part hid hp; exact ⟨this.1, by omega⟩) hag (by
        rw [e0]
        simp only [List.length_append] at hlen ⊢
        omega)]
      rw [e0]
      simp only [Option.bind_some]
      have e2 : tFin nodes id (out ++ leadL nodes pl ++ (tellP nodes (tellM nodes ag f) id (nodeAt nodes id).parts 0 (headL ag id ++ openL nodes id, id :: met)).1) = some (out ++ leadL nodes pl ++ (tellP nodes (tellM nodes ag f) id (nodeAt nodes id).parts 0 (headL ag id ++ openL nodes id, id :: met)).1 ++ shutL nodes id) := capL_ok (by simp only [List.length_append] at hlen ⊢; omega)
      rw [e2]
      simp

/-- The two walks of the plain form. -/
theorem plain_come {nodes : List NodeV} (hW : Whole nodes) {k : Nat} (hk : k < nodes.length) :
    comeS nodes nFirst nAgain nFin 101 k none ([], []) = some ((agM nodes 101 k []).1, (agM nodes 101 k []).2) ∧
    comeS nodes (tFirst nodes (agM nodes 101 k []).2) (tAgain nodes (agM nodes 101 k []).2) (tFin nodes) 101 k none ([], []) = some ((agM nodes 101 k []).1, plainM nodes k) ∧ (plainM nodes k).length ≤ 400000000 := by
  have hh := hW.high k
  obtain ⟨a, b, _⟩ := agM_met hW 101 k [] hk (by simp) (fun x hx => by cases hx)
  have hn := nodup_lt_length nodes.length _ a b
  have hl := tell_len hW (agM nodes 101 k []).2 101 k [] hk (by simp) (fun x hx => by cases hx)
  have hN := hW.len
  have hlen : (plainM nodes k).length ≤ 400000000 := by unfold plainM; simp at hl; omega
  refine ⟨?_, ?_, hlen⟩
  · rw [names_come hW 101 k none [] [] hk (by omega)]; simp
  · rw [tell_come hW _ 101 k none [] [] hk (by omega) (fun x hx => hx) (by unfold plainM at hlen; simp [leadL]; omega)]
    simp [leadL, plainM]

end Go.Proofs.YtkflkmmbakccoaaGreatDoor

/- THE PLAIN FUNCTIONS: how a node is unfolded; what stands at a path. No program is named here. -/
namespace Go.Proofs.YtkflkmmbakccoaaGreatDoor

def unfP (nodes : List NodeV) (go : Nat → List UInt8) (id : Nat) : List Nat → Nat → List UInt8
  | [], _ => []
  | p :: ps, i => leadL nodes (some (id, i)) ++ go p ++ unfP nodes go id ps (i + 1)

/-- A node as if each place in it had a node of its own. -/
def unfM (nodes : List NodeV) : Nat → Nat → List UInt8
  | 0, _ => []
  | f + 1, id => openL nodes id ++ unfP nodes (unfM nodes f) id (nodeAt nodes id).parts 0 ++ shutL nodes id

theorem unfP_congr (nodes : List NodeV) (g g' : Nat → List UInt8) (id : Nat) (ps : List Nat) (i : Nat) (h : ∀ p ∈ ps, g p = g' p) : unfP nodes g id ps i = unfP nodes g' id ps i := by
  induction ps generalizing i with
  | nil => rfl
  | cons p ps ih =>
    simp only [unfP]
    rw [h p (List.mem_cons_self ..), ih (i + 1) (fun q hq => h q (List.mem_cons_of_mem _ hq))]

theorem unfM_fuel {nodes : List NodeV} (hW : Whole nodes) (f : Nat) : ∀ g id, id < nodes.length → highOf nodes id < f → highOf nodes id < g → unfM nodes f id = unfM nodes g id := by
  induction f with
  | zero => intro g id _ h; omega
  | succ f ih =>
    intro g id hid hf hg
    cases g with
    | zero => omega
    | succ g =>
      unfold unfM
      rw [unfP_congr nodes (unfM nodes f) (unfM nodes g) id _ 0 (fun p hp => by
        have := hW.part hid hp
        exact ih g p this.1 (by omega) (by omega))]

/-- A node unfolded. -/
def unfoldL (nodes : List NodeV) (id : Nat) : List UInt8 := unfM nodes 101 id

theorem unfoldL_eq {nodes : List NodeV} (hW : Whole nodes) {id : Nat} (hid : id < nodes.length) : unfoldL nodes id = openL nodes id ++ unfP nodes (unfoldL nodes) id (nodeAt nodes id).parts 0 ++ shutL nodes id := by
  have hh := hW.high id
  unfold unfoldL
  conv => lhs; unfold unfM
  rw [unfP_congr nodes (unfM nodes 100) (unfM nodes 101) id _ 0 (fun p hp => by
    have := hW.part hid hp
    exact unfM_fuel hW 100 101 p this.1 (by omega) (by omega))]

/-- What is told of a node is not empty. -/
theorem openL_ne {nodes : List NodeV} (hW : Whole nodes) {k : Nat} (hk : k < nodes.length) : openL nodes k ≠ [] := by
  have h := (hW.node hk).kind
  unfold openL
  by_cases h0 : (nodeAt nodes k).kind = 0
  · rw [if_pos h0]
    unfold textL
    split
    · rename_i hw
      unfold isWordB at hw
      simp only [Bool.and_eq_true, decide_eq_true_eq] at hw
      intro e
      have : (nodeAt nodes k).text.size = 0 := by
        show (nodeAt nodes k).text.data.size = 0
        rw [← Array.length_toList, e]; rfl
      omega
    · simp
  · rw [if_neg h0]
    by_cases h1 : (nodeAt nodes k).kind = 1
    · rw [if_pos h1]; simp
    · rw [if_neg h1, if_pos (by omega)]; simp

theorem unfoldL_ne {nodes : List NodeV} (hW : Whole nodes) {k : Nat} (hk : k < nodes.length) : unfoldL nodes k ≠ [] := by
  rw [unfoldL_eq hW hk]
  intro h
  have := openL_ne hW hk
  simp at h
  exact this h.1

/-! ### the walk that unfolds: pieces are copied -/
abbrev UnfS := List UInt8 × List (Nat × (Nat × Nat))

def lookP (pcs : List (Nat × (Nat × Nat))) (id : Nat) : Nat × Nat := ((pcs.find? (fun p => decide (p.1 = id))).map (·.2)).getD (0, 0)

theorem lookP_same (pcs : List (Nat × (Nat × Nat))) (id : Nat) (p : Nat × Nat) : lookP ((id, p) :: pcs) id = p := by simp [lookP]
theorem lookP_other (pcs : List (Nat × (Nat × Nat))) {id x : Nat} (p : Nat × Nat) (h : x ≠ id) : lookP ((id, p) :: pcs) x = lookP pcs x := by
  have : decide (id = x) = false := by simpa using fun e => h e.symm
  simp [lookP, this]

def uFirst (nodes : List NodeV) (id : Nat) (pl : PlaceV) (s : UnfS) : Option UnfS :=
  (capL (s.1 ++ leadL nodes pl ++ openL nodes id)).map fun o => (o, (id, ((s.1 ++ leadL nodes pl).length, 0)) :: s.2)
def uAgain (nodes : List NodeV) (most : Int) (id : Nat) (pl : PlaceV) (s : UnfS) : Option UnfS :=
  if most < (s.1.length : Int) then some s
  else if (lookP s.2 id).1 < (lookP s.2 id).2 ∧ (lookP s.2 id).2 ≤ (s.1 ++ leadL nodes pl).length then
    (capL (s.1 ++ leadL nodes pl ++ ((s.1 ++ leadL nodes pl).drop (lookP s.2 id).1).take ((lookP s.2 id).2 - (lookP s.2 id).1))).map fun o => (o, s.2)
  else none
def uFin (nodes : List NodeV) (id : Nat) (s : UnfS) : Option UnfS :=
  (capL (s.1 ++ shutL nodes id)).map fun o => (o, (id, ((lookP s.2 id).1, (s.1 ++ shutL nodes id).length)) :: s.2)

/-- What has been written is the true line, or both are too long. -/
def RR (most : Int) (out T : List UInt8) : Prop := out = T ∨ (most < (out.length : Int) ∧ most < (T.length : Int))

theorem RR.app {most : Int} {out T : List UInt8} (h : RR most out T) (l : List UInt8) : RR most (out ++ l) (T ++ l) := by
  rcases h with rfl | ⟨h1, h2⟩
  · exact .inl rfl
  · exact .inr ⟨by simp; omega, by simp; omega⟩

theorem RR.eq {most : Int} {out T : List UInt8} (h : RR most out T) (hl : (out.length : Int) ≤ most) : out = T := by
  rcases h with h | ⟨h1, _⟩
  · exact h
  · omega

/-- The pieces of the nodes that have ended, while the line is not too long. -/
def Ex (nodes : List NodeV) (most : Int) (O met : List Nat) (s : UnfS) : Prop :=
  (s.1.length : Int) ≤ most → ∀ x ∈ met, x ∉ O → (lookP s.2 x).1 ≤ (lookP s.2 x).2 ∧ (lookP s.2 x).2 ≤ s.1.length ∧ (s.1.drop (lookP s.2 x).1).take ((lookP s.2 x).2 - (lookP s.2 x).1) = unfoldL nodes x

theorem slice_app (l m : List UInt8) {a b : Nat} (h1 : a ≤ b) (h2 : b ≤ l.length) : ((l ++ m).drop a).take (b - a) = (l.drop a).take (b - a) := by
  rw [List.drop_append_of_le_length (by omega), List.take_append_of_le_length (by simp; omega)]

theorem Ex.grow {nodes : List NodeV} {most : Int} {O met : List Nat} {s : UnfS} (h : Ex nodes most O met s) (l : List UInt8) : Ex nodes most O met (s.1 ++ l, s.2) := by
  intro hl x hx hO
  simp only [List.length_append] at hl
  obtain ⟨a, b, c⟩ := h (by omega) x hx hO
  refine ⟨a, by simp; omega, ?_⟩
  simp only
  rw [slice_app _ _ a b]
  exact c

theorem uf_come {nodes : List NodeV} (hW : Whole nodes) (most : Int) (hm : most ≤ 20000) (f : Nat) : ∀ id pl met (s : UnfS) T O, id < nodes.length → highOf nodes id < f → met.Nodup → (∀ x ∈ met, x < nodes.length) → (∀ x ∈ O, highOf nodes id < highOf nodes x) → (∀ p i, pl = some (p, i) → p < nodes.length) →
    RR most s.1 T → Ex nodes most O met s → s.1.length + 30000 ≤ 200000 + 60 * met.length →
    ∃ s' : UnfS, comeS nodes (uFirst nodes) (uAgain nodes most) (uFin nodes) f id pl (met, s) = some ((agM nodes f id met).1, s') ∧ RR most s'.1 (T ++ leadL nodes pl ++ unfoldL nodes id) ∧ Ex nodes most O (agM nodes f id met).1 s' ∧ s'.1.length + 60 * met.length ≤ max s.1.length 50000 + 60 * (agM nodes f id met).1.length ∧ s.1.length ≤ s'.1.length ∧ ∀ x ∈ met, lookP s'.2 x = lookP s.2 x := by
  induction f with
  | zero => intro id pl met s T O _ h; omega
  | succ f ih =>
    intro id pl met s T O hid hf hn hlt hO hpl hR hE hL
    have hN := hW.len
    have hml := nodup_lt_length nodes.length met hn hlt
    have hld : (leadL nodes pl).length ≤ 26 := by
      cases pl with
      | none => simp [leadL]
      | some q => exact leadL_len hW (hpl q.1 q.2 rfl)
    unfold comeS agM
    by_cases hmem : id ∈ met
    · simp only [hmem, if_true]
      by_cases hov : most < (s.1.length : Int)
      · have e1 : uAgain nodes most id pl s = some s := by unfold uAgain; rw [if_pos hov]
        refine ⟨s, by rw [e1]; rfl, ?_, hE, by omega, Nat.le_refl _, fun _ _ => rfl⟩
        right
        refine ⟨hov, ?_⟩
        rcases hR with h | ⟨_, h⟩
        · rw [← h]; simp; omega
        · simp; omega
      · have hidO : id ∉ O := fun h => absurd (hO id h) (Nat.lt_irrefl _)
        obtain ⟨a, b, c⟩ := hE (by omega) id hmem hidO
        have hT := hR.eq (by omega)
        have e1 : uAgain nodes most id pl s = some (s.1 ++ leadL nodes pl ++ unfoldL nodes id, s.2) := by
          unfold uAgain
          have ha : (lookP s.2 id).1 < (lookP s.2 id).2 := by
            have hne := unfoldL_ne hW hid
            rcases Nat.lt_or_ge (lookP s.2 id).1 (lookP s.2 id).2 with h | h
            · exact h
            · rw [Nat.sub_eq_zero_of_le h] at c
              exact absurd (by rw [← c]; simp) hne
          rw [if_neg hov, if_pos ⟨ha, by simp; omega⟩, slice_app _ _ a b, c, capL_ok]
          · rfl
          · have hc : (unfoldL nodes id).length ≤ s.1.length := by rw [← c]; simp; omega
            simp; omega
        have hc : (unfoldL nodes id).length ≤ s.1.length := by rw [← c]; simp; omega
        refine ⟨(s.1 ++ leadL nodes pl ++ unfoldL nodes id, s.2), by rw [e1]; rfl, ?_, ?_, ?_, by simp only [List.length_append]; omega, fun _ _ => rfl⟩
        · left; rw [hT]
        · have := hE.grow (leadL nodes pl ++ unfoldL nodes id)
          rw [← List.append_assoc] at this
          exact this
        · simp only [List.length_append]; omega
    · simp only [hmem, if_false]
      have hop := openL_len hW hid
      have hsh := shutL_len nodes id
      have e1 : uFirst nodes id pl s = some (s.1 ++ leadL nodes pl ++ openL nodes id, (id, ((s.1 ++ leadL nodes pl).length, 0)) :: s.2) := by
        unfold uFirst
        rw [capL_ok (by simp; omega)]
        rfl
      have key : ∀ ps i m (u : UnfS) U, (∀ p ∈ ps, p < nodes.length ∧ highOf nodes p < f ∧ highOf nodes p < highOf nodes id) → m.Nodup → (∀ x ∈ m, x < nodes.length) → RR most u.1 U → Ex nodes most (id :: O) m u → u.1.length + 30000 ≤ 200000 + 60 * m.length →
          ∃ u' : UnfS, partsGo (comeS nodes (uFirst nodes) (uAgain nodes most) (uFin nodes) f) id ps i (m, u) = some ((agP (agM nodes f) ps (m, [])).1, u') ∧ RR most u'.1 (U ++ unfP nodes (unfoldL nodes) id ps i) ∧ Ex nodes most (id :: O) (agP (agM nodes f) ps (m, [])).1 u' ∧ u'.1.length + 60 * m.length ≤ max u.1.length 50000 + 60 * (agP (agM nodes f) ps (m, [])).1.length ∧ u.1.length ≤ u'.1.length ∧ ∀ x ∈ m, lookP u'.2 x = lookP u.2 x := by
        intro ps
        induction ps with
        | nil => intro i m u U _ _ _ hR hE hL; exact ⟨u, rfl, by simpa [unfP] using hR, hE, by simp only [agP]; omega, Nat.le_refl _, fun _ _ => rfl⟩
        | cons p ps ihp =>
          intro i m u U hp hn hlt hR hE hL
          obtain ⟨h1, h2, h3⟩ := hp p (List.mem_cons_self ..)
          obtain ⟨a1, b1, _, d1, _⟩ := agM_met hW f p m h1 hn hlt
          obtain ⟨u1, r1, r2, r3, r4, r5, r6⟩ := ih p (some (id, i)) m u U (id :: O) h1 h2 hn hlt (fun x hx => by
            rcases List.mem_cons.1 hx with rfl | hx
            · exact h3
            · have := hO x hx; omega) (fun q j e => by cases e; exact hid) hR hE hL
          obtain ⟨u2, q1, q2, q3, q4, q5, q6⟩ := ihp (i + 1) _ u1 _ (fun q hq => hp q (List.mem_cons_of_mem _ hq)) a1 b1 r2 r3 (by omega)
          simp only [partsGo, agP, List.append_nil]
          rw [agP_app _ _ _ (agM nodes f p m).2]
          refine ⟨u2, by rw [r1]; exact q1, ?_, q3, by simp only; omega, by omega, fun x hx => (q6 x (d1 x hx)).trans (r6 x hx)⟩
          simp only [unfP]
          simpa [List.append_assoc] using q2
      have hn1 : (id :: met).Nodup := List.nodup_cons.2 ⟨hmem, hn⟩
      have hlt1 : ∀ x ∈ id :: met, x < nodes.length := fun x hx => by
        rcases List.mem_cons.1 hx with rfl | hx
        · exact hid
        · exact hlt x hx
      have hne : ∀ x ∈ met, x ≠ id := fun x hx e => hmem (e ▸ hx)
      obtain ⟨u, r1, r2, r3, r4, r5, r6⟩ := key (nodeAt nodes id).parts 0 (id :: met) (s.1 ++ leadL nodes pl ++ openL nodes id, (id, ((s.1 ++ leadL nodes pl).length, 0)) :: s.2) (T ++ leadL nodes pl ++ openL nodes id)
        (fun p hp => by have := hW.part hid hp; exact ⟨this.1, by omega, this.2⟩) hn1 hlt1 ((hR.app _).app _) (by
          intro hl x hx hxO
          simp only [List.mem_cons, not_or] at hxO
          have hxm : x ∈ met := by
            rcases List.mem_cons.1 hx with h | h
            · exact absurd h hxO.1
            · exact h
          have := (hE.grow (leadL nodes pl ++ openL nodes id)) (by simpa [List.append_assoc] using hl) x hxm hxO.2
          simp only [lookP_other _ _ hxO.1]
          rw [← List.append_assoc] at this
          exact this) (by simp; omega)
      have hm2 : (agP (agM nodes f) (nodeAt nodes id).parts (id :: met, [])).1.length ≤ 500 := by
        have := agM_met hW (f + 1) id met hid hn hlt
        unfold agM at this
        simp only [hmem, if_false] at this
        have := nodup_lt_length nodes.length _ this.1 this.2.1
        omega
      have e3 : uFin nodes id u = some (u.1 ++ shutL nodes id, (id, ((lookP u.2 id).1, (u.1 ++ shutL nodes id).length)) :: u.2) := by
        unfold uFin
        rw [capL_ok (by simp only [List.length_append, List.length_cons] at r4 ⊢; omega)]
        rfl
      have hstart : (lookP u.2 id).1 = (s.1 ++ leadL nodes pl).length := by rw [r6 id (List.mem_cons_self ..), lookP_same]
      simp only [List.length_append] at r5
      have r4' := r4
      simp only [List.length_append, List.length_cons] at r4'
      refine ⟨(u.1 ++ shutL nodes id, (id, ((lookP u.2 id).1, (u.1 ++ shutL nodes id).length)) :: u.2), ?_, ?_, ?_, ?_, ?_, ?_⟩
      · rw [e1]
        simp only [Option.bind_some]
        rw [r1]
        simp only [Option.bind_some]
        rw [e3]
        rfl
      · rw [unfoldL_eq hW hid]
        have := r2.app (shutL nodes id)
        simpa [List.append_assoc] using this
      · intro hl x hx hxO
        simp only at hl ⊢
        simp only [List.length_append] at hl
        by_cases hxi : x = id
        · subst hxi
          rw [lookP_same]
          simp only
          rw [hstart]
          have hu := r2.eq (by omega)
          have hs := hR.eq (by omega)
          refine ⟨by simp only [List.length_append]; omega, Nat.le_refl _, ?_⟩
          rw [unfoldL_eq hW hid, hu, hs]
          have e4 : T ++ leadL nodes pl ++ openL nodes x ++ unfP nodes (unfoldL nodes) x (nodeAt nodes x).parts 0 ++ shutL nodes x = (T ++ leadL nodes pl) ++ (openL nodes x ++ unfP nodes (unfoldL nodes) x (nodeAt nodes x).parts 0 ++ shutL nodes x) := by simp [List.append_assoc]
          rw [e4, List.drop_left, List.take_of_length_le (by simp [List.length_append]; omega)]
        · rw [lookP_other _ _ hxi]
          have := (r3.grow (shutL nodes id)) (by simpa using hl) x hx (by simp only [List.mem_cons, not_or]; exact ⟨hxi, hxO⟩)
          exact this
      · simp only [List.length_append, List.length_cons] at r4 ⊢
        omega
      · simp only [List.length_append]; omega
      · intro x hx
        rw [lookP_other _ _ (hne x hx), r6 x (List.mem_cons_of_mem _ hx), lookP_other _ _ (hne x hx)]

/-- What the walk that unfolds comes to. -/
theorem unfold_come {nodes : List NodeV} (hW : Whole nodes) (most : Int) (hm : most ≤ 20000) {k : Nat} (hk : k < nodes.length) :
    ∃ met' s', comeS nodes (uFirst nodes) (uAgain nodes most) (uFin nodes) 101 k none ([], ([], [])) = some (met', s') ∧ RR most s'.1 (unfoldL nodes k) ∧ s'.1.length ≤ 1000000 := by
  have hh := hW.high k
  have hN := hW.len
  obtain ⟨s', r1, r2, r3, r4, _⟩ := uf_come hW most hm 101 k none [] ([], []) [] [] hk (by omega) (by simp) (fun x hx => by cases hx) (fun x hx => by cases hx) (fun p i e => by cases e) (.inl rfl) (fun _ x hx => by cases hx) (by simp)
  obtain ⟨a, b, _⟩ := agM_met hW 101 k [] hk (by simp) (fun x hx => by cases hx)
  have := nodup_lt_length nodes.length _ a b
  refine ⟨_, s', r1, by simpa [leadL] using r2, ?_⟩
  simp at r4
  omega

/-! ### grafterref's way to write a node -/
def wrP (nodes : List NodeV) (go : Nat → List Bool → Int → List UInt8 × List Bool) (id : Nat) (most : Int) : List Nat → Nat → List UInt8 × List Bool → List UInt8 × List Bool
  | [], _, st => st
  | p :: ps, i, st =>
    if (st.1.length : Int) ≤ most then
      wrP nodes go id most ps (i + 1) (st.1 ++ leadL nodes (some (id, i)) ++ (go p st.2 (most - ((st.1 ++ leadL nodes (some (id, i))).length : Int))).1, (go p st.2 (most - ((st.1 ++ leadL nodes (some (id, i))).length : Int))).2)
    else st

/-- The name ahead of a node, by its number. -/
def preL (nm : Int) : List UInt8 := if 0 ≤ nm then 38 :: 110 :: (decL nm.toNat ++ [32]) else []
def toldSet (told : List Bool) (k : Nat) (nm : Int) : List Bool := if 0 ≤ nm then told.set k true else told

def wrM (nodes : List NodeV) (names : List Int) : Nat → Nat → List Bool → Int → List UInt8 × List Bool
  | 0, _, told, _ => ([], told)
  | f + 1, k, told, most =>
    if 0 ≤ names.getD k (-1) ∧ told.getD k false = true then (42 :: 110 :: decL (names.getD k (-1)).toNat, told)
    else if (nodeAt nodes k).kind = 0 then (preL (names.getD k (-1)) ++ textL (nodeAt nodes k).text, toldSet told k (names.getD k (-1)))
    else
      let r := wrP nodes (wrM nodes names f) k most (nodeAt nodes k).parts 0 (preL (names.getD k (-1)) ++ (if (nodeAt nodes k).kind = 2 then [123] else [91]), toldSet told k (names.getD k (-1)))
      (r.1 ++ (if (nodeAt nodes k).kind = 2 then [125] else [93]), r.2)

theorem open_kind {nodes : List NodeV} {k : Nat} (h : (nodeAt nodes k).kind ≤ 2) (h0 : (nodeAt nodes k).kind ≠ 0) : openL nodes k = (if (nodeAt nodes k).kind = 2 then [123] else [91]) ∧ shutL nodes k = (if (nodeAt nodes k).kind = 2 then [125] else [93]) := by
  have : (nodeAt nodes k).kind = 1 ∨ (nodeAt nodes k).kind = 2 := by omega
  rcases this with e | e <;> simp [openL, shutL, e]

theorem wr_unfold {nodes : List NodeV} (hW : Whole nodes) {names : List Int} (hnm : ∀ k, names.getD k (-1) = -1) (f : Nat) : ∀ k told most, k < nodes.length → highOf nodes k < f → RR most (wrM nodes names f k told most).1 (unfoldL nodes k) ∧ (wrM nodes names f k told most).2 = told := by
  induction f with
  | zero => intro k told most _ h; omega
  | succ f ih =>
    intro k told most hk hf
    unfold wrM
    rw [hnm k, if_neg (by omega)]
    have hpre : preL (-1) = [] := by simp [preL]
    have hts : toldSet told k (-1) = told := by simp [toldSet]
    rw [hpre, hts, unfoldL_eq hW hk]
    have hnode := hW.node hk
    by_cases h0 : (nodeAt nodes k).kind = 0
    · rw [if_pos h0]
      refine ⟨.inl ?_, rfl⟩
      simp [openL, shutL, h0, hnode.none h0, unfP]
    · rw [if_neg h0]
      obtain ⟨ho, hs⟩ := open_kind hnode.kind h0
      have key : ∀ ps i u U, (∀ p ∈ ps, p < nodes.length ∧ highOf nodes p < f) → RR most u U → RR most (wrP nodes (wrM nodes names f) k most ps i (u, told)).1 (U ++ unfP nodes (unfoldL nodes) k ps i) ∧ (wrP nodes (wrM nodes names f) k most ps i (u, told)).2 = told := by
        intro ps
        induction ps with
        | nil => intro i u U _ hR; exact ⟨by simpa [unfP, wrP] using hR, rfl⟩
        | cons p ps ihp =>
          intro i u U hp hR
          obtain ⟨h1, h2⟩ := hp p (List.mem_cons_self ..)
          simp only [wrP, unfP]
          by_cases hl : (u.length : Int) ≤ most
          · rw [if_pos hl]
            have hu := hR.eq hl
            obtain ⟨a, b⟩ := ih p told (most - ((u ++ leadL nodes (some (k, i))).length : Int)) h1 h2
            rw [b]
            have hR1 : RR most (u ++ leadL nodes (some (k, i)) ++ (wrM nodes names f p told (most - ((u ++ leadL nodes (some (k, i))).length : Int))).1) (U ++ leadL nodes (some (k, i)) ++ unfoldL nodes p) := by
              subst hu
              rcases a with a | ⟨a1, a2⟩
              · rw [a]; exact .inl rfl
              · right
                simp only [List.length_append] at a1 a2 ⊢
                omega
            have := ihp (i + 1) _ _ (fun q hq => hp q (List.mem_cons_of_mem _ hq)) hR1
            simpa [List.append_assoc] using this
          · rw [if_neg hl]
            refine ⟨.inr ⟨by simp only; omega, ?_⟩, rfl⟩
            rcases hR with h | ⟨_, h⟩
            · rw [← h]; simp; omega
            · simp; omega
      obtain ⟨a, b⟩ := key (nodeAt nodes k).parts 0 (openL nodes k) (openL nodes k) (fun p hp => by have := hW.part hk hp; exact ⟨this.1, by omega⟩) (.inl rfl)
      simp only [List.nil_append]
      rw [← ho, ← hs]
      exact ⟨a.app _, b⟩

/-- Which nodes have been told by name. -/
def TK (ag met : List Nat) (n : Nat) (told : List Bool) : Prop := told.length = n ∧ ∀ x, x < n → told.getD x false = decide (x ∈ met ∧ x ∈ ag)

theorem wr_plain {nodes : List NodeV} (hW : Whole nodes) {names : List Int} (ag : List Nat) (hnm : ∀ k, k < nodes.length → names.getD k (-1) = if k ∈ ag then (rankOf ag k : Int) else -1) (f : Nat) : ∀ k told most met, k < nodes.length → highOf nodes k < f → TK ag met nodes.length told → (∀ x ∈ met, x < nodes.length) → (∀ x ∈ (agM nodes f k met).2, x ∈ ag) → ((tellM nodes ag f k met).1.length : Int) ≤ most →
    (wrM nodes names f k told most).1 = (tellM nodes ag f k met).1 ∧ TK ag (agM nodes f k met).1 nodes.length (wrM nodes names f k told most).2 := by
  induction f with
  | zero => intro k told most met _ h; omega
  | succ f ih =>
    intro k told most met hk hf hT hml hag hlen
    have hTk := hT.2 k hk
    unfold wrM
    unfold tellM at hlen ⊢
    unfold agM at hag ⊢
    rw [hnm k hk]
    by_cases hm : k ∈ met
    · simp only [hm, if_true] at hag hlen ⊢
      have h1 : k ∈ ag := hag k (by simp)
      rw [if_pos h1, if_pos ⟨by omega, by rw [hTk]; simp [hm, h1]⟩]
      exact ⟨by simp [nameL], hT⟩
    · simp only [hm, if_false] at hag hlen ⊢
      have hno : ¬ (0 ≤ (if k ∈ ag then (rankOf ag k : Int) else -1) ∧ told.getD k false = true) := by
        rw [hTk]; simp [hm]
      rw [if_neg hno]
      have hpre : preL (if k ∈ ag then (rankOf ag k : Int) else -1) = headL ag k := by
        by_cases h : k ∈ ag <;> simp [preL, headL, nameL, h]
      have hT1 : TK ag (k :: met) nodes.length (toldSet told k (if k ∈ ag then (rankOf ag k : Int) else -1)) := by
        by_cases h : k ∈ ag
        · rw [if_pos h]
          unfold toldSet
          rw [if_pos (by omega)]
          refine ⟨by simpa using hT.1, fun x hx => ?_⟩
          rw [List.getD_eq_getElem?_getD, List.getElem?_set]
          by_cases e : k = x
          · subst e
            simp [hT.1, hk, h]
          · rw [if_neg e, ← List.getD_eq_getElem?_getD, hT.2 x hx]
            have : x ≠ k := fun h => e h.symm
            simp [this]
        · rw [if_neg h]
          unfold toldSet
          rw [if_neg (by omega)]
          refine ⟨hT.1, fun x hx => ?_⟩
          rw [hT.2 x hx]
          by_cases e : x = k
          · subst e; simp [h]
          · simp [e]
      rw [hpre]
      have hnode := hW.node hk
      by_cases h0 : (nodeAt nodes k).kind = 0
      · rw [if_pos h0]
        simp only [hnode.none h0, tellP, agP]
        exact ⟨by simp [openL, shutL, h0], hT1⟩
      · rw [if_neg h0]
        obtain ⟨ho, hs⟩ := open_kind hnode.kind h0
        have key : ∀ ps i u m tl, (∀ p ∈ ps, p < nodes.length ∧ highOf nodes p < f) → TK ag m nodes.length tl → (∀ x ∈ m, x < nodes.length) → (∀ x ∈ (agP (agM nodes f) ps (m, [])).2, x ∈ ag) → ((tellP nodes (tellM nodes ag f) k ps i (u, m)).1.length : Int) ≤ most →
            (wrP nodes (wrM nodes names f) k most ps i (u, tl)).1 = (tellP nodes (tellM nodes ag f) k ps i (u, m)).1 ∧ TK ag (agP (agM nodes f) ps (m, [])).1 nodes.length (wrP nodes (wrM nodes names f) k most ps i (u, tl)).2 := by
          intro ps
          induction ps with
          | nil => intro i u m tl _ hT _ _ _; exact ⟨rfl, hT⟩
          | cons p ps ihp =>
            intro i u m tl hp hT hml ha hl
            obtain ⟨h1, h2⟩ := hp p (List.mem_cons_self ..)
            simp only [agP, List.append_nil] at ha ⊢
            simp only [tellP] at hl ⊢
            simp only [wrP]
            rw [agP_app] at ha
            have hl2 := hl
            rw [tellP_app] at hl2
            simp only [List.length_append] at hl2
            rw [if_pos (by omega)]
            obtain ⟨a, b⟩ := ih p tl (most - ((u ++ leadL nodes (some (k, i))).length : Int)) m h1 h2 hT hml (fun x hx => ha x (by simp [hx])) (by simp only [List.length_append]; omega)
            rw [a]
            rw [tell_met] at hl ⊢
            have hml1 : ∀ x ∈ (agM nodes f p m).1, x < nodes.length := by
              have hgo : ∀ g id m, id < nodes.length → (∀ x ∈ m, x < nodes.length) → ∀ x ∈ (agM nodes g id m).1, x < nodes.length := by
                intro g
                induction g with
                | zero => intro id m _ h x hx; exact h x hx
                | succ g ihg =>
                  intro id m hid h
                  unfold agM
                  by_cases hh : id ∈ m
                  · simp only [hh, if_true]; exact h
                  · simp only [hh, if_false]
                    have kk : ∀ ps m l, (∀ p ∈ ps, p < nodes.length) → (∀ x ∈ m, x < nodes.length) → ∀ x ∈ (agP (agM nodes g) ps (m, l)).1, x < nodes.length := by
                      intro ps
                      induction ps with
                      | nil => intro m l _ h x hx; exact h x hx
                      | cons p ps ihps =>
                        intro m l hp h
                        simp only [agP]
                        exact ihps _ _ (fun q hq => hp q (List.mem_cons_of_mem _ hq)) (ihg p m (hp p (List.mem_cons_self ..)) h)
                    exact kk _ _ _ (fun p hp => (hW.part hid hp).1) (fun x hx => by
                      rcases List.mem_cons.1 hx with rfl | hx
                      · exact hid
                      · exact h x hx)
              exact hgo f p m h1 hml
            obtain ⟨c, d⟩ := ihp (i + 1) _ _ _ (fun q hq => hp q (List.mem_cons_of_mem _ hq)) b hml1 (fun x hx => ha x (by simp [hx])) hl
            rw [agP_app _ _ _ (agM nodes f p m).2]
            exact ⟨c, d⟩
        obtain ⟨a, b⟩ := key (nodeAt nodes k).parts 0 (headL ag k ++ openL nodes k) (k :: met) _ (fun p hp => by have := hW.part hk hp; exact ⟨this.1, by omega⟩) hT1 (fun x hx => by
          rcases List.mem_cons.1 hx with rfl | hx
          · exact hk
          · exact hml x hx) hag (by simp only [List.length_append] at hlen; omega)
        simp only
        rw [← ho, ← hs, a]
        exact ⟨rfl, b⟩

/-! ### what stands at a path -/
def findM (n : NodeV) (x : ByteArray) : Option Nat :=
  if n.kind = 1 then (List.range n.parts.length).find? (fun j => decide (decL j = x.data.toList))
  else if n.kind = 2 then n.keys.findIdx? (fun y => decide (y = x)) else none

def getM (nodes : List NodeV) : List ByteArray → Nat → Option Nat
  | [], k => some k
  | x :: xs, k => (findM (nodeAt nodes k) x).bind fun j => getM nodes xs ((nodeAt nodes k).parts.getD j 0)

def valL (l : List UInt8) : Nat := l.foldl (fun a c => a * 10 + (c.toNat - 48)) 0

theorem valL_decL (u : Nat) : valL (decL u) = u := by
  induction u using Nat.strongRecOn with
  | _ u ih =>
    rw [decL]
    split
    · simp [valL]; omega
    · have := ih (u / 10) (by omega)
      unfold valL at this ⊢
      rw [List.foldl_append, this]
      simp
      omega

theorem decL_inj {a b : Nat} (h : decL a = decL b) : a = b := by rw [← valL_decL a, ← valL_decL b, h]

end Go.Proofs.YtkflkmmbakccoaaGreatDoor

/- THE PLAIN FUNCTIONS: names, in the order of the nodes. No program is named here. -/
namespace Go.Proofs.YtkflkmmbakccoaaGreatDoor

/-- The nodes that have a name, in their order. -/
def namesL (ag : List Nat) (n : Nat) : List Nat := (List.range n).filter (fun j => decide (j ∈ ag))

theorem namesL_mem {ag : List Nat} {n x : Nat} : x ∈ namesL ag n ↔ x < n ∧ x ∈ ag := by simp [namesL]

theorem namesL_lt (ag : List Nat) (n : Nat) : (namesL ag n).Pairwise (fun a b => a < b) := List.Pairwise.filter _ List.pairwise_lt_range

theorem namesL_nodup (ag : List Nat) (n : Nat) : (namesL ag n).Nodup := (namesL_lt ag n).imp (fun h => Nat.ne_of_lt h)

theorem namesL_rank (ag : List Nat) : ∀ (n k x : Nat), (namesL ag n)[k]? = some x → rankOf ag x = k
  | 0, k, x, h => by simp [namesL] at h
  | n + 1, k, x, h => by
    unfold namesL at h
    rw [List.range_succ, List.filter_append] at h
    by_cases hk : k < ((List.range n).filter (fun j => decide (j ∈ ag))).length
    · rw [List.getElem?_append_left hk] at h
      exact namesL_rank ag n k x h
    · rw [List.getElem?_append_right (by omega)] at h
      by_cases hn : n ∈ ag
      · rw [List.filter_cons_of_pos (by simpa using hn)] at h
        cases hj : k - ((List.range n).filter (fun j => decide (j ∈ ag))).length with
        | zero =>
          rw [hj] at h
          simp at h
          subst h
          unfold rankOf
          omega
        | succ j =>
          rw [hj] at h
          simp at h
      · rw [List.filter_cons_of_neg (by simpa using hn)] at h
        simp at h

theorem rankOf_lt {ag : List Nat} {x y : Nat} (hx : x ∈ ag) (h : x < y) : rankOf ag x < rankOf ag y := by
  unfold rankOf
  obtain ⟨d, rfl⟩ : ∃ d, y = x + 1 + d := ⟨y - (x + 1), by omega⟩
  induction d with
  | zero =>
    rw [Nat.add_zero, List.range_succ, List.filter_append, List.filter_cons_of_pos (by simpa using hx)]
    simp
  | succ d ih =>
    have := ih (by omega)
    rw [← Nat.add_assoc, List.range_succ, List.filter_append]
    simp only [List.length_append]
    omega

theorem rankOf_inj {ag : List Nat} {x y : Nat} (hx : x ∈ ag) (hy : y ∈ ag) (h : rankOf ag x = rankOf ag y) : x = y := by
  rcases Nat.lt_trichotomy x y with h1 | h1 | h1
  · have := rankOf_lt hx h1; omega
  · exact h1
  · have := rankOf_lt hy h1; omega

theorem plainM_ne {nodes : List NodeV} (hW : Whole nodes) {k : Nat} (hk : k < nodes.length) : plainM nodes k ≠ [] := by
  unfold plainM tellM
  simp only [List.not_mem_nil, if_false]
  intro e
  rw [tellP_app] at e
  simp only [List.append_eq_nil_iff] at e
  exact openL_ne hW hk e.1.1.2

end Go.Proofs.YtkflkmmbakccoaaGreatDoor

/- THE PLAIN FUNCTIONS: how long what grafterref writes can be. No program is named here. -/
namespace Go.Proofs.YtkflkmmbakccoaaGreatDoor

theorem wrP_mono (nodes : List NodeV) (go : Nat → List Bool → Int → List UInt8 × List Bool) (id : Nat) (most : Int) (ps : List Nat) : ∀ (i : Nat) (st : List UInt8 × List Bool), st.1.length ≤ (wrP nodes go id most ps i st).1.length := by
  induction ps with
  | nil => intro i st; exact Nat.le_refl _
  | cons p ps ih =>
    intro i st
    simp only [wrP]
    split
    · refine Nat.le_trans ?_ (ih _ _)
      simp only [List.length_append]
      omega
    · exact Nat.le_refl _

theorem wrP_go (nodes : List NodeV) (go : Nat → List Bool → Int → List UInt8 × List Bool) (id : Nat) (most : Int) (ps : List Nat) (k : Nat) (hk : k < ps.length) (st : List UInt8 × List Bool) (hl : (st.1.length : Int) ≤ most) :
    wrP nodes go id most (ps.drop k) k st = wrP nodes go id most (ps.drop (k + 1)) (k + 1) (st.1 ++ leadL nodes (some (id, k)) ++ (go ps[k] st.2 (most - ((st.1 ++ leadL nodes (some (id, k))).length : Int))).1, (go ps[k] st.2 (most - ((st.1 ++ leadL nodes (some (id, k))).length : Int))).2) := by
  rw [List.drop_eq_getElem_cons hk]
  simp only [wrP]
  rw [if_pos hl]

theorem wrP_stop (nodes : List NodeV) (go : Nat → List Bool → Int → List UInt8 × List Bool) (id : Nat) (most : Int) (ps : List Nat) (k : Nat) (st : List UInt8 × List Bool) (hl : ¬ (k < ps.length ∧ (st.1.length : Int) ≤ most)) : wrP nodes go id most (ps.drop k) k st = st := by
  by_cases hk : k < ps.length
  · rw [List.drop_eq_getElem_cons hk]
    simp only [wrP]
    rw [if_neg (fun h => hl ⟨hk, h⟩)]
  · rw [List.drop_eq_nil_of_le (by omega)]
    rfl

theorem preL_len {nm : Int} (h : nm ≤ 1000) : (preL nm).length ≤ 1004 := by
  unfold preL
  split
  · have := decL_len nm.toNat
    simp
    omega
  · simp

theorem wr_len {nodes : List NodeV} (hW : Whole nodes) {names : List Int} (hn : ∀ k, names.getD k (-1) ≤ 1000) (f : Nat) : ∀ k told most, k < nodes.length → highOf nodes k < f → ((wrM nodes names f k told most).1.length : Int) ≤ max most 0 + 2000 * f := by
  induction f with
  | zero => intro k told most _ h; omega
  | succ f ih =>
    intro k told most hk hf
    have hnm := hn k
    unfold wrM
    split
    · have := decL_len (names.getD k (-1)).toNat
      simp only [List.length_cons]
      omega
    · have hp := preL_len hnm
      split
      · have := textL_len (hW.node hk).text
        simp only [List.length_append]
        omega
      · have key : ∀ ps i u tl, (∀ p ∈ ps, p < nodes.length ∧ highOf nodes p < f) → (u.length : Int) ≤ max most 0 + 1006 + 2000 * f → ((wrP nodes (wrM nodes names f) k most ps i (u, tl)).1.length : Int) ≤ max most 0 + 1006 + 2000 * f := by
          intro ps
          induction ps with
          | nil => intro i u tl _ h; exact h
          | cons p ps ihp =>
            intro i u tl hpp hu
            obtain ⟨h1, h2⟩ := hpp p (List.mem_cons_self ..)
            simp only [wrP]
            split
            · rename_i hl
              refine ihp _ _ _ (fun q hq => hpp q (List.mem_cons_of_mem _ hq)) ?_
              have t1 := ih p tl (most - ((u ++ leadL nodes (some (k, i))).length : Int)) h1 h2
              have t2 := leadL_len hW (i := i) hk
              simp only [List.length_append] at t1 ⊢
              omega
            · exact hu
        have hop : (if (nodeAt nodes k).kind = 2 then ([123] : List UInt8) else [91]).length = 1 := by split <;> rfl
        have hcl : (if (nodeAt nodes k).kind = 2 then ([125] : List UInt8) else [93]).length = 1 := by split <;> rfl
        have := key (nodeAt nodes k).parts 0 (preL (names.getD k (-1)) ++ (if (nodeAt nodes k).kind = 2 then [123] else [91])) (toldSet told k (names.getD k (-1))) (fun p hp => by have := hW.part hk hp; exact ⟨this.1, by omega⟩) (by
          simp only [List.length_append]
          omega)
        simp only [List.length_append]
        omega

theorem wr_told (nodes : List NodeV) (names : List Int) (f : Nat) : ∀ k told most, (wrM nodes names f k told most).2.length = told.length := by
  induction f with
  | zero => intro k told most; rfl
  | succ f ih =>
    intro k told most
    have hts : ∀ nm, (toldSet told k nm).length = told.length := fun nm => by unfold toldSet; split <;> simp
    unfold wrM
    split
    · rfl
    · split
      · exact hts _
      · have key : ∀ ps i u tl, (wrP nodes (wrM nodes names f) k most ps i (u, tl)).2.length = tl.length := by
          intro ps
          induction ps with
          | nil => intro i u tl; rfl
          | cons p ps ihp =>
            intro i u tl
            simp only [wrP]
            split
            · rw [ihp, ih]
            · rfl
        simp only
        rw [key, hts]

theorem wrM_told {nodes : List NodeV} {names : List Int} {f k : Nat} {told : List Bool} {most : Int} (h : 0 ≤ names.getD k (-1) ∧ told.getD k false = true) : wrM nodes names (f + 1) k told most = (42 :: 110 :: decL (names.getD k (-1)).toNat, told) := by
  unfold wrM; rw [if_pos h]
theorem wrM_text {nodes : List NodeV} {names : List Int} {f k : Nat} {told : List Bool} {most : Int} (h : ¬ (0 ≤ names.getD k (-1) ∧ told.getD k false = true)) (h0 : (nodeAt nodes k).kind = 0) : wrM nodes names (f + 1) k told most = (preL (names.getD k (-1)) ++ textL (nodeAt nodes k).text, toldSet told k (names.getD k (-1))) := by
  unfold wrM; rw [if_neg h, if_pos h0]
theorem wrM_in {nodes : List NodeV} {names : List Int} {f k : Nat} {told : List Bool} {most : Int} (h : ¬ (0 ≤ names.getD k (-1) ∧ told.getD k false = true)) (op cl : UInt8) (h0 : ((nodeAt nodes k).kind = 1 ∧ op = 91 ∧ cl = 93) ∨ ((nodeAt nodes k).kind = 2 ∧ op = 123 ∧ cl = 125)) :
    wrM nodes names (f + 1) k told most = ((wrP nodes (wrM nodes names f) k most (nodeAt nodes k).parts 0 (preL (names.getD k (-1)) ++ [op], toldSet told k (names.getD k (-1)))).1 ++ [cl], (wrP nodes (wrM nodes names f) k most (nodeAt nodes k).parts 0 (preL (names.getD k (-1)) ++ [op], toldSet told k (names.getD k (-1)))).2) := by
  rcases h0 with ⟨h0, rfl, rfl⟩ | ⟨h0, rfl, rfl⟩
  · unfold wrM; rw [if_neg h, if_neg (by omega)]; simp [h0]
  · unfold wrM; rw [if_neg h, if_neg (by omega)]; simp [h0]

theorem leadL_list {nodes : List NodeV} {p i : Nat} (h : (nodeAt nodes p).kind = 1) : leadL nodes (some (p, i)) = if 0 < i then [44, 32] else [] := by
  unfold leadL; simp [h]
theorem leadL_map {nodes : List NodeV} {p i : Nat} (h : (nodeAt nodes p).kind = 2) : leadL nodes (some (p, i)) = (if 0 < i then [44, 32] else []) ++ (textL ((nodeAt nodes p).keys.getD i ByteArray.empty) ++ [58, 32]) := by
  unfold leadL; simp [h]

end Go.Proofs.YtkflkmmbakccoaaGreatDoor
