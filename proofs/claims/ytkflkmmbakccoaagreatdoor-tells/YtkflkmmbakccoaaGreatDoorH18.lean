/- PARTS: Mod9, Mod10, Mod11, Mod12. -/
import Derived.Test.YtkflkmmbakccoaaGreatDoorH17

/- THE PLAIN FUNCTIONS: how a node is unfolded; what stands at a path. No program is named here. -/
namespace Go.Proofs.YtkflkmmbakccoaaGreatDoor

def unfP (nodes : List NodeV) (go : Nat → List UInt8) (id : Nat) : List Nat → Nat → List UInt8
  | [], _ => []
  | p :: ps, i => leadL nodes (some (id, i)) ++ go p ++ unfP nodes go id ps (i + 1)

/-- A node as if each place in it had a node of its own. -/
def unfM (nodes : List NodeV) : Nat → Nat → List UInt8
  | 0, _ => []
  | f + 1, id => openL nodes id ++ unfP nodes (unfM nodes f) id (nodeAt nodes id).parts 0 ++ shutL nodes id

theorem unfP_congr (nodes : List NodeV) (g g' : Nat → List UInt8) (id : Nat) (ps : List Nat) (i : Nat) (h : ∀ p ∈ ps, g p = g' p) : unfP nodes g id ps i = unfP nodes g' id ps i := by
  induction ps generalizing i with
  | nil => rfl
  | cons p ps ih =>
    simp only [unfP]
    rw [h p (List.mem_cons_self ..), ih (i + 1) (fun q hq => h q (List.mem_cons_of_mem _ hq))]

theorem unfM_fuel {nodes : List NodeV} (hW : Whole nodes) (f : Nat) : ∀ g id, id < nodes.length → highOf nodes id < f → highOf nodes id < g → unfM nodes f id = unfM nodes g id := by
  induction f with
  | zero => intro g id _ h; omega
  | succ f ih =>
    intro g id hid hf hg
    cases g with
    | zero => omega
    | succ g =>
      unfold unfM
      rw [unfP_congr nodes (unfM nodes f) (unfM nodes g) id _ 0 (fun p hp => by
        have := hW.part hid hp
        exact ih g p this.1 (by omega) (by omega))]

/-- A node unfolded. -/
def unfoldL (nodes : List NodeV) (id : Nat) : List UInt8 := unfM nodes 101 id

theorem unfoldL_eq {nodes : List NodeV} (hW : Whole nodes) {id : Nat} (hid : id < nodes.length) : unfoldL nodes id = openL nodes id ++ unfP nodes (unfoldL nodes) id (nodeAt nodes id).parts 0 ++ shutL nodes id := by
  have hh := hW.high id
  unfold unfoldL
  conv => lhs; unfold unfM
  rw [unfP_congr nodes (unfM nodes 100) (unfM nodes 101) id _ 0 (fun p hp => by
    have := hW.part hid hp
    exact unfM_fuel hW 100 101 p this.1 (by omega) (by omega))]

/-! ### the walk that unfolds: pieces are copied -/
abbrev UnfS := List UInt8 × List (Nat × (Nat × Nat))

def lookP (pcs : List (Nat × (Nat × Nat))) (id : Nat) : Nat × Nat := ((pcs.find? (fun p => decide (p.1 = id))).map (·.2)).getD (0, 0)

theorem lookP_same (pcs : List (Nat × (Nat × Nat))) (id : Nat) (p : Nat × Nat) : lookP ((id, p) :: pcs) id = p := by simp [lookP]
theorem lookP_other (pcs : List (Nat × (Nat × Nat))) {id x : Nat} (p : Nat × Nat) (h : x ≠ id) : lookP ((id, p) :: pcs) x = lookP pcs x := by
  have : decide (id = x) = false := by simpa using fun e => h e.symm
  simp [lookP, this]

def uFirst (nodes : List NodeV) (id : Nat) (pl : PlaceV) (s : UnfS) : Option UnfS :=
  (capL (s.1 ++ leadL nodes pl ++ openL nodes id)).map fun o => (o, (id, ((s.1 ++ leadL nodes pl).length, 0)) :: s.2)
def uAgain (nodes : List NodeV) (most : Int) (id : Nat) (pl : PlaceV) (s : UnfS) : Option UnfS :=
  if most < (s.1.length : Int) then some s
  else if (lookP s.2 id).1 ≤ (lookP s.2 id).2 ∧ (lookP s.2 id).2 ≤ (s.1 ++ leadL nodes pl).length then
    (capL (s.1 ++ leadL nodes pl ++ ((s.1 ++ leadL nodes pl).drop (lookP s.2 id).1).take ((lookP s.2 id).2 - (lookP s.2 id).1))).map fun o => (o, s.2)
  else none
def uFin (nodes : List NodeV) (id : Nat) (s : UnfS) : Option UnfS :=
  (capL (s.1 ++ shutL nodes id)).map fun o => (o, (id, ((lookP s.2 id).1, (s.1 ++ shutL nodes id).length)) :: s.2)

/-- What has been written is the true line, or both are too long. -/
def RR (most : Int) (out T : List UInt8) : Prop := out = T ∨ (most < (out.length : Int) ∧ most < (T.length : Int))

theorem RR.app {most : Int} {out T : List UInt8} (h : RR most out T) (l : List UInt8) : RR most (out ++ l) (T ++ l) := by
  rcases h with rfl | ⟨h1, h2⟩
  · exact .inl rfl
  · exact .inr ⟨by simp; omega, by simp; omega⟩

theorem RR.eq {most : Int} {out T : List UInt8} (h : RR most out T) (hl : (out.length : Int) ≤ most) : out = T := by
  rcases h with h | ⟨h1, _⟩
  · exact h
  · omega

/-- The pieces of the nodes that have ended, while the line is not too long. -/
def Ex (nodes : List NodeV) (most : Int) (O met : List Nat) (s : UnfS) : Prop :=
  (s.1.length : Int) ≤ most → ∀ x ∈ met, x ∉ O → (lookP s.2 x).1 ≤ (lookP s.2 x).2 ∧ (lookP s.2 x).2 ≤ s.1.length ∧ (s.1.drop (lookP s.2 x).1).take ((lookP s.2 x).2 - (lookP s.2 x).1) = unfoldL nodes x

theorem slice_app (l m : List UInt8) {a b : Nat} (h1 : a ≤ b) (h2 : b ≤ l.length) : ((l ++ m).drop a).take (b - a) = (l.drop a).take (b - a) := by
  rw [List.drop_append_of_le_length (by omega), List.take_append_of_le_length (by simp; omega)]

theorem Ex.grow {nodes : List NodeV} {most : Int} {O met : List Nat} {s : UnfS} (h : Ex nodes most O met s) (l : List UInt8) : Ex nodes most O met (s.1 ++ l, s.2) := by
  intro hl x hx hO
  simp only [List.length_append] at hl
  obtain ⟨a, b, c⟩ := h (by omega) x hx hO
  refine ⟨a, by simp; omega, ?_⟩
  simp only
  rw [slice_app _ _ a b]
  exact c

theorem uf_come {nodes : List NodeV} (hW : Whole nodes) (most : Int) (hm : most ≤ 20000) (f : Nat) : ∀ id pl met (s : UnfS) T O, id < nodes.length → highOf nodes id < f → met.Nodup → (∀ x ∈ met, x < nodes.length) → (∀ x ∈ O, highOf nodes id < highOf nodes x) → (∀ p i, pl = some (p, i) → p < nodes.length) →
    RR most s.1 T → Ex nodes most O met s → s.1.length + 30000 ≤ 200000 + 60 * met.length →
    ∃ s' : UnfS, comeS nodes (uFirst nodes) (uAgain nodes most) (uFin nodes) f id pl (met, s) = some ((agM nodes f id met).1, s') ∧ RR most s'.1 (T ++ leadL nodes pl ++ unfoldL nodes id) ∧ Ex nodes most O (agM nodes f id met).1 s' ∧ s'.1.length + 60 * met.length ≤ max s.1.length 50000 + 60 * (agM nodes f id met).1.length ∧ s.1.length ≤ s'.1.length ∧ ∀ x ∈ met, lookP s'.2 x = lookP s.2 x := by
  induction f with
  | zero => intro id pl met s T O _ h; omega
  | succ f ih =>
    intro id pl met s T O hid hf hn hlt hO hpl hR hE hL
    have hN := hW.len
    have hml := nodup_lt_length nodes.length met hn hlt
    have hld : (leadL nodes pl).length ≤ 26 := by
      cases pl with
      | none => simp [leadL]
      | some q => exact leadL_len hW (hpl q.1 q.2 rfl)
    unfold comeS agM
    by_cases hmem : id ∈ met
    · simp only [hmem, if_true]
      by_cases hov : most < (s.1.length : Int)
      · have e1 : uAgain nodes most id pl s = some s := by unfold uAgain; rw [if_pos hov]
        refine ⟨s, by rw [e1]; rfl, ?_, hE, by omega, Nat.le_refl _, fun _ _ => rfl⟩
        right
        refine ⟨hov, ?_⟩
        rcases hR with h | ⟨_, h⟩
        · rw [← h]; simp; omega
        · simp; omega
      · have hidO : id ∉ O := fun h => absurd (hO id h) (Nat.lt_irrefl _)
        obtain ⟨a, b, c⟩ := hE (by omega) id hmem hidO
        have hT := hR.eq (by omega)
        have e1 : uAgain nodes most id pl s = some (s.1 ++ leadL nodes pl ++ unfoldL nodes id, s.2) := by
          unfold uAgain
          rw [if_neg hov, if_pos ⟨a, by simp; omega⟩, slice_app _ _ a b, c, capL_ok]
          · rfl
          · have hc : (unfoldL nodes id).length ≤ s.1.length := by rw [← c]; simp; omega
            simp; omega
        have hc : (unfoldL nodes id).length ≤ s.1.length := by rw [← c]; simp; omega
        refine ⟨(s.1 ++ leadL nodes pl ++ unfoldL nodes id, s.2), by rw [e1]; rfl, ?_, ?_, ?_, by simp only [List.length_append]; omega, fun _ _ => rfl⟩
        · left; rw [hT]
        · have := hE.grow (leadL nodes pl ++ unfoldL nodes id)
          rw [← List.append_assoc] at this
          exact this
        · simp only [List.length_append]; omega
    · simp only [hmem, if_false]
      have hop := openL_len hW hid
      have hsh := shutL_len nodes id
      have e1 : uFirst nodes id pl s = some (s.1 ++ leadL nodes pl ++ openL nodes id, (id, ((s.1 ++ leadL nodes pl).length, 0)) :: s.2) := by
        unfold uFirst
        rw [capL_ok (by simp; omega)]
        rfl
      have key : ∀ ps i m (u : UnfS) U, (∀ p ∈ ps, p < nodes.length ∧ highOf nodes p < f ∧ highOf nodes p < highOf nodes id) → m.Nodup → (∀ x ∈ m, x < nodes.length) → RR most u.1 U → Ex nodes most (id :: O) m u → u.1.length + 30000 ≤ 200000 + 60 * m.length →
          ∃ u' : UnfS, partsGo (comeS nodes (uFirst nodes) (uAgain nodes most) (uFin nodes) f) id ps i (m, u) = some ((agP (agM nodes f) ps (m, [])).1, u') ∧ RR most u'.1 (U ++ unfP nodes (unfoldL nodes) id ps i) ∧ Ex nodes most (id :: O) (agP (agM nodes f) ps (m, [])).1 u' ∧ u'.1.length + 60 * m.length ≤ max u.1.length 50000 + 60 * (agP (agM nodes f) ps (m, [])).1.length ∧ u.1.length ≤ u'.1.length ∧ ∀ x ∈ m, lookP u'.2 x = lookP u.2 x := by
        intro ps
        induction ps with
        | nil => intro i m u U _ _ _ hR hE hL; exact ⟨u, rfl, by simpa [unfP] using hR, hE, by simp only [agP]; omega, Nat.le_refl _, fun _ _ => rfl⟩
        | cons p ps ihp =>
          intro i m u U hp hn hlt hR hE hL
          obtain ⟨h1, h2, h3⟩ := hp p (List.mem_cons_self ..)
          obtain ⟨a1, b1, _, d1, _⟩ := agM_met hW f p m h1 hn hlt
          obtain ⟨u1, r1, r2, r3, r4, r5, r6⟩ := ih p (some (id, i)) m u U (id :: O) h1 h2 hn hlt (fun x hx => by
            rcases List.mem_cons.1 hx with rfl | hx
            · exact h3
            · have := hO x hx; omega) (fun q j e => by cases e; exact hid) hR hE hL
          obtain ⟨u2, q1, q2, q3, q4, q5, q6⟩ := ihp (i + 1) _ u1 _ (fun q hq => hp q (List.mem_cons_of_mem _ hq)) a1 b1 r2 r3 (by omega)
          simp only [partsGo, agP, List.append_nil]
          rw [agP_app _ _ _ (agM nodes f p m).2]
          refine ⟨u2, by rw [r1]; exact q1, ?_, q3, by simp only; omega, by omega, fun x hx => (q6 x (d1 x hx)).trans (r6 x hx)⟩
          simp only [unfP]
          simpa [List.append_assoc] using q2
      have hn1 : (id :: met).Nodup := List.nodup_cons.2 ⟨hmem, hn⟩
      have hlt1 : ∀ x ∈ id :: met, x < nodes.length := fun x hx => by
        rcases List.mem_cons.1 hx with rfl | hx
        · exact hid
        · exact hlt x hx
      have hne : ∀ x ∈ met, x ≠ id := fun x hx e => hmem (e ▸ hx)
      obtain ⟨u, r1, r2, r3, r4, r5, r6⟩ := key (nodeAt nodes id).parts 0 (id :: met) (s.1 ++ leadL nodes pl ++ openL nodes id, (id, ((s.1 ++ leadL nodes pl).length, 0)) :: s.2) (T ++ leadL nodes pl ++ openL nodes id)
        (fun p hp => by have := hW.part hid hp; exact ⟨this.1, by omega, this.2⟩) hn1 hlt1 ((hR.app _).app _) (by
          intro hl x hx hxO
          simp only [List.mem_cons, not_or] at hxO
          have hxm : x ∈ met := by
            rcases List.mem_cons.1 hx with h | h
            · exact absurd h hxO.1
            · exact h
          have := (hE.grow (leadL nodes pl ++ openL nodes id)) (by simpa [List.append_assoc] using hl) x hxm hxO.2
          simp only [lookP_other _ _ hxO.1]
          rw [← List.append_assoc] at this
          exact this) (by simp; omega)
      have hm2 : (agP (agM nodes f) (nodeAt nodes id).parts (id :: met, [])).1.length ≤ 500 := by
        have := agM_met hW (f + 1) id met hid hn hlt
        unfold agM at this
        simp only [hmem, if_false] at this
        have := nodup_lt_length nodes.length _ this.1 this.2.1
        omega
      have e3 : uFin nodes id u = some (u.1 ++ shutL nodes id, (id, ((lookP u.2 id).1, (u.1 ++ shutL nodes id).length)) :: u.2) := by
        unfold uFin
        rw [capL_ok (by simp only [List.length_append, List.length_cons] at r4 ⊢; omega)]
        rfl
      have hstart : (lookP u.2 id).1 = (s.1 ++ leadL nodes pl).length := by rw [r6 id (List.mem_cons_self ..), lookP_same]
      simp only [List.length_append] at r5
      have r4' := r4
      simp only [List.length_append, List.length_cons] at r4'
      refine ⟨(u.1 ++ shutL nodes id, (id, ((lookP u.2 id).1, (u.1 ++ shutL nodes id).length)) :: u.2), ?_, ?_, ?_, ?_, ?_, ?_⟩
      · rw [e1]
        simp only [Option.bind_some]
        rw [r1]
        simp only [Option.bind_some]
        rw [e3]
        rfl
      · rw [unfoldL_eq hW hid]
        have := r2.app (shutL nodes id)
        simpa [List.append_assoc] using this
      · intro hl x hx hxO
        simp only at hl ⊢
        simp only [List.length_append] at hl
        by_cases hxi : x = id
        · subst hxi
          rw [lookP_same]
          simp only
          rw [hstart]
          have hu := r2.eq (by omega)
          have hs := hR.eq (by omega)
          refine ⟨by simp only [List.length_append]; omega, Nat.le_refl _, ?_⟩
          rw [unfoldL_eq hW hid, hu, hs]
          have e4 : T ++ leadL nodes pl ++ openL nodes x ++ unfP nodes (unfoldL nodes) x (nodeAt nodes x).parts 0 ++ shutL nodes x = (T ++ leadL nodes pl) ++ (openL nodes x ++ unfP nodes (unfoldL nodes) x (nodeAt nodes x).parts 0 ++ shutL nodes x) := by simp [List.append_assoc]
          rw [e4, List.drop_left, List.take_of_length_le (by simp [List.length_append]; omega)]
        · rw [lookP_other _ _ hxi]
          have := (r3.grow (shutL nodes id)) (by simpa using hl) x hx (by simp only [List.mem_cons, not_or]; exact ⟨hxi, hxO⟩)
          exact this
      · simp only [List.length_append, List.length_cons] at r4 ⊢
        omega
      · simp only [List.length_append]; omega
      · intro x hx
        rw [lookP_other _ _ (hne x hx), r6 x (List.mem_cons_of_mem _ hx), lookP_other _ _ (hne x hx)]

/-- What the walk that unfolds comes to. -/
theorem unfold_come {nodes : List NodeV} (hW : Whole nodes) (most : Int) (hm : most ≤ 20000) {k : Nat} (hk : k < nodes.length) :
    ∃ met' s', comeS nodes (uFirst nodes) (uAgain nodes most) (uFin nodes) 101 k none ([], ([], [])) = some (met', s') ∧ RR most s'.1 (unfoldL nodes k) ∧ s'.1.length ≤ 1000000 := by
  have hh := hW.high k
  have hN := hW.len
  obtain ⟨s', r1, r2, r3, r4, _⟩ := uf_come hW most hm 101 k none [] ([], []) [] [] hk (by omega) (by simp) (fun x hx => by cases hx) (fun x hx => by cases hx) (fun p i e => by cases e) (.inl rfl) (fun _ x hx => by cases hx) (by simp)
  obtain ⟨a, b, _⟩ := agM_met hW 101 k [] hk (by simp) (fun x hx => by cases hx)
  have := nodup_lt_length nodes.length _ a b
  refine ⟨_, s', r1, by simpa [leadL] using r2, ?_⟩
  simp at r4
  omega

/-! ### grafterref's way to write a node -/
def wrP (nodes : List NodeV) (go : Nat → List Bool → Int → List UInt8 × List Bool) (id : Nat) (most : Int) : List Nat → Nat → List UInt8 × List Bool → List UInt8 × List Bool
  | [], _, st => st
  | p :: ps, i, st =>
    if (st.1.length : Int) ≤ most then
      wrP nodes go id most ps (i + 1) (st.1 ++ leadL nodes (some (id, i)) ++ (go p st.2 (most - ((st.1 ++ leadL nodes (some (id, i))).length : Int))).1, (go p st.2 (most - ((st.1 ++ leadL nodes (some (id, i))).length : Int))).2)
    else st

/-- The name ahead of a node, by its number. -/
def preL (nm : Int) : List UInt8 := if 0 ≤ nm then 38 :: 110 :: (decL nm.toNat ++ [32]) else []
def toldSet (told : List Bool) (k : Nat) (nm : Int) : List Bool := if 0 ≤ nm then told.set k true else told

def wrM (nodes : List NodeV) (names : List Int) : Nat → Nat → List Bool → Int → List UInt8 × List Bool
  | 0, _, told, _ => ([], told)
  | f + 1, k, told, most =>
    if 0 ≤ names.getD k (-1) ∧ told.getD k false = true then (42 :: 110 :: decL (names.getD k (-1)).toNat, told)
    else if (nodeAt nodes k).kind = 0 then (preL (names.getD k (-1)) ++ textL (nodeAt nodes k).text, toldSet told k (names.getD k (-1)))
    else
      let r := wrP nodes (wrM nodes names f) k most (nodeAt nodes k).parts 0 (preL (names.getD k (-1)) ++ (if (nodeAt nodes k).kind = 2 then [123] else [91]), toldSet told k (names.getD k (-1)))
      (r.1 ++ (if (nodeAt nodes k).kind = 2 then [125] else [93]), r.2)

theorem open_kind {nodes : List NodeV} {k : Nat} (h : (nodeAt nodes k).kind ≤ 2) (h0 : (nodeAt nodes k).kind ≠ 0) : openL nodes k = (if (nodeAt nodes k).kind = 2 then [123] else [91]) ∧ shutL nodes k = (if (nodeAt nodes k).kind = 2 then [125] else [93]) := by
  have : (nodeAt nodes k).kind = 1 ∨ (nodeAt nodes k).kind = 2 := by omega
  rcases this with e | e <;> simp [openL, shutL, e]

theorem wr_unfold {nodes : List NodeV} (hW : Whole nodes) {names : List Int} (hnm : ∀ k, names.getD k (-1) = -1) (f : Nat) : ∀ k told most, k < nodes.length → highOf nodes k < f → RR most (wrM nodes names f k told most).1 (unfoldL nodes k) ∧ (wrM nodes names f k told most).2 = told := by
  induction f with
  | zero => intro k told most _ h; omega
  | succ f ih =>
    intro k told most hk hf
    unfold wrM
    rw [hnm k, if_neg (by omega)]
    have hpre : preL (-1) = [] := by simp [preL]
    have hts : toldSet told k (-1) = told := by simp [toldSet]
    rw [hpre, hts, unfoldL_eq hW hk]
    have hnode := hW.node hk
    by_cases h0 : (nodeAt nodes k).kind = 0
    · rw [if_pos h0]
      refine ⟨.inl ?_, rfl⟩
      simp [openL, shutL, h0, hnode.none h0, unfP]
    · rw [if_neg h0]
      obtain ⟨ho, hs⟩ := open_kind hnode.kind h0
      have key : ∀ ps i u U, (∀ p ∈ ps, p < nodes.length ∧ highOf nodes p < f) → RR most u U → RR most (wrP nodes (wrM nodes names f) k most ps i (u, told)).1 (U ++ unfP nodes (unfoldL nodes) k ps i) ∧ (wrP nodes (wrM nodes names f) k most ps i (u, told)).2 = told := by
        intro ps
        induction ps with
        | nil => intro i u U _ hR; exact ⟨by simpa [unfP, wrP] using hR, rfl⟩
        | cons p ps ihp =>
          intro i u U hp hR
          obtain ⟨h1, h2⟩ := hp p (List.mem_cons_self ..)
          simp only [wrP, unfP]
          by_cases hl : (u.length : Int) ≤ most
          · rw [if_pos hl]
            have hu := hR.eq hl
            obtain ⟨a, b⟩ := ih p told (most - ((u ++ leadL nodes (some (k, i))).length : Int)) h1 h2
            rw [b]
            have hR1 : RR most (u ++ leadL nodes (some (k, i)) ++ (wrM nodes names f p told (most - ((u ++ leadL nodes (some (k, i))).length : Int))).1) (U ++ leadL nodes (some (k, i)) ++ unfoldL nodes p) := by
              subst hu
              rcases a with a | ⟨a1, a2⟩
              · rw [a]; exact .inl rfl
              · right
                simp only [List.length_append] at a1 a2 ⊢
                omega
            have := ihp (i + 1) _ _ (fun q hq => hp q (List.mem_cons_of_mem _ hq)) hR1
            simpa [List.append_assoc] using this
          · rw [if_neg hl]
            refine ⟨.inr ⟨by simp only; omega, ?_⟩, rfl⟩
            rcases hR with h | ⟨_, h⟩
            · rw [← h]; simp; omega
            · simp; omega
      obtain ⟨a, b⟩ := key (nodeAt nodes k).parts 0 (openL nodes k) (openL nodes k) (fun p hp => by have := hW.part hk hp; exact ⟨this.1, by omega⟩) (.inl rfl)
      simp only [List.nil_append]
      rw [← ho, ← hs]
      exact ⟨a.app _, b⟩

/-- Which nodes have been told by name. -/
def TK (ag met : List Nat) (n : Nat) (told : List Bool) : Prop := told.length = n ∧ ∀ x, x < n → told.getD x false = decide (x ∈ met ∧ x ∈ ag)

theorem wr_plain {nodes : List NodeV} (hW : Whole nodes) {names : List Int} (ag : List Nat) (hnm : ∀ k, k < nodes.length → names.getD k (-1) = if k ∈ ag then (rankOf ag k : Int) else -1) (f : Nat) : ∀ k told most met, k < nodes.length → highOf nodes k < f → TK ag met nodes.length told → (∀ x ∈ met, x < nodes.length) → (∀ x ∈ (agM nodes f k met).2, x ∈ ag) → ((tellM nodes ag f k met).1.length : Int) ≤ most →
    (wrM nodes names f k told most).1 = (tellM nodes ag f k met).1 ∧ TK ag (agM nodes f k met).1 nodes.length (wrM nodes names f k told most).2 := by
  induction f with
  | zero => intro k told most met _ h; omega
  | succ f ih =>
    intro k told most met hk hf hT hml hag hlen
    have hTk := hT.2 k hk
    unfold wrM
    unfold tellM at hlen ⊢
    unfold agM at hag ⊢
    rw [hnm k hk]
    by_cases hm : k ∈ met
    · simp only [hm, if_true] at hag hlen ⊢
      have h1 : k ∈ ag := hag k (by simp)
      rw [if_pos h1, if_pos ⟨by omega, by rw [hTk]; simp [hm, h1]⟩]
      exact ⟨by simp [nameL], hT⟩
    · simp only [hm, if_false] at hag hlen ⊢
      have hno : ¬ (0 ≤ (if k ∈ ag then (rankOf ag k : Int) else -1) ∧ told.getD k false = true) := by
        rw [hTk]; simp [hm]
      rw [if_neg hno]
      have hpre : preL (if k ∈ ag then (rankOf ag k : Int) else -1) = headL ag k := by
        by_cases h : k ∈ ag <;> simp [preL, headL, nameL, h]
      have hT1 : TK ag (k :: met) nodes.length (toldSet told k (if k ∈ ag then (rankOf ag k : Int) else -1)) := by
        by_cases h : k ∈ ag
        · rw [if_pos h]
          unfold toldSet
          rw [if_pos (by omega)]
          refine ⟨by simpa using hT.1, fun x hx => ?_⟩
          rw [List.getD_eq_getElem?_getD, List.getElem?_set]
          by_cases e : k = x
          · subst e
            simp [hT.1, hk, h]
          · rw [if_neg e, ← List.getD_eq_getElem?_getD, hT.2 x hx]
            have : x ≠ k := fun h => e h.symm
            simp [this]
        · rw [if_neg h]
          unfold toldSet
          rw [if_neg (by omega)]
          refine ⟨hT.1, fun x hx => ?_⟩
          rw [hT.2 x hx]
          by_cases e : x = k
          · subst e; simp [h]
          · simp [e]
      rw [hpre]
      have hnode := hW.node hk
      by_cases h0 : (nodeAt nodes k).kind = 0
      · rw [if_pos h0]
        simp only [hnode.none h0, tellP, agP]
        exact ⟨by simp [openL, shutL, h0], hT1⟩
      · rw [if_neg h0]
        obtain ⟨ho, hs⟩ := open_kind hnode.kind h0
        have key : ∀ ps i u m tl, (∀ p ∈ ps, p < nodes.length ∧ highOf nodes p < f) → TK ag m nodes.length tl → (∀ x ∈ m, x < nodes.length) → (∀ x ∈ (agP (agM nodes f) ps (m, [])).2, x ∈ ag) → ((tellP nodes (tellM nodes ag f) k ps i (u, m)).1.length : Int) ≤ most →
            (wrP nodes (wrM nodes names f) k most ps i (u, tl)).1 = (tellP nodes (tellM nodes ag f) k ps i (u, m)).1 ∧ TK ag (agP (agM nodes f) ps (m, [])).1 nodes.length (wrP nodes (wrM nodes names f) k most ps i (u, tl)).2 := by
          intro ps
          induction ps with
          | nil => intro i u m tl _ hT _ _ _; exact ⟨rfl, hT⟩
          | cons p ps ihp =>
            intro i u m tl hp hT hml ha hl
            obtain ⟨h1, h2⟩ := hp p (List.mem_cons_self ..)
            simp only [agP, List.append_nil] at ha ⊢
            simp only [tellP] at hl ⊢
            simp only [wrP]
            rw [agP_app] at ha
            have hl2 := hl
            rw [tellP_app] at hl2
            simp only [List.length_append] at hl2
            rw [if_pos (by omega)]
            obtain ⟨a, b⟩ := ih p tl (most - ((u ++ leadL nodes (some (k, i))).length : Int)) m h1 h2 hT hml (fun x hx => ha x (by simp [hx])) (by simp only [List.length_append]; omega)
            rw [a]
            rw [tell_met] at hl ⊢
            have hml1 : ∀ x ∈ (agM nodes f p m).1, x < nodes.length := by
              have hgo : ∀ g id m, id < nodes.length → (∀ x ∈ m, x < nodes.length) → ∀ x ∈ (agM nodes g id m).1, x < nodes.length := by
                intro g
                induction g with
                | zero => intro id m _ h x hx; exact h x hx
                | succ g ihg =>
                  intro id m hid h
                  unfold agM
                  by_cases hh : id ∈ m
                  · simp only [hh, if_true]; exact h
                  · simp only [hh, if_false]
                    have kk : ∀ ps m l, (∀ p ∈ ps, p < nodes.length) → (∀ x ∈ m, x < nodes.length) → ∀ x ∈ (agP (agM nodes g) ps (m, l)).1, x < nodes.length := by
                      intro ps
                      induction ps with
                      | nil => intro m l _ h x hx; exact h x hx
                      | cons p ps ihps =>
                        intro m l hp h
                        simp only [agP]
                        exact ihps _ _ (fun q hq => hp q (List.mem_cons_of_mem _ hq)) (ihg p m (hp p (List.mem_cons_self ..)) h)
                    exact kk _ _ _ (fun p hp => (hW.part hid hp).1) (fun x hx => by
                      rcases List.mem_cons.1 hx with rfl | hx
                      · exact hid
                      · exact h x hx)
              exact hgo f p m h1 hml
            obtain ⟨c, d⟩ := ihp (i + 1) _ _ _ (fun q hq => hp q (List.mem_cons_of_mem _ hq)) b hml1 (fun x hx => ha x (by simp [hx])) hl
            rw [agP_app _ _ _ (agM nodes f p m).2]
            exact ⟨c, d⟩
        obtain ⟨a, b⟩ := key (nodeAt nodes k).parts 0 (headL ag k ++ openL nodes k) (k :: met) _ (fun p hp => by have := hW.part hk hp; exact ⟨this.1, by omega⟩) hT1 (fun x hx => by
          rcases List.mem_cons.1 hx with rfl | hx
          · exact hk
          · exact hml x hx) hag (by simp only [List.length_append] at hlen; omega)
        simp only
        rw [← ho, ← hs, a]
        exact ⟨rfl, b⟩

/-! ### what stands at a path -/
def findM (n : NodeV) (x : ByteArray) : Option Nat :=
  if n.kind = 1 then (List.range n.parts.length).find? (fun j => decide (decL j = x.data.toList))
  else if n.kind = 2 then n.keys.findIdx? (fun y => decide (y = x)) else none

def getM (nodes : List NodeV) : List ByteArray → Nat → Option Nat
  | [], k => some k
  | x :: xs, k => (findM (nodeAt nodes k) x).bind fun j => getM nodes xs ((nodeAt nodes k).parts.getD j 0)

def valL (l : List UInt8) : Nat := l.foldl (fun a c => a * 10 + (c.toNat - 48)) 0

theorem valL_decL (u : Nat) : valL (decL u) = u := by
  induction u using Nat.strongRecOn with
  | _ u ih =>
    rw [decL]
    split
    · simp [valL]; omega
    · have := ih (u / 10) (by omega)
      unfold valL at this ⊢
      rw [List.foldl_append, this]
      simp
      omega

theorem decL_inj {a b : Nat} (h : decL a = decL b) : a = b := by rw [← valL_decL a, ← valL_decL b, h]

end Go.Proofs.YtkflkmmbakccoaaGreatDoor

/- THE PLAIN FUNCTIONS: names, in the order of the nodes. No program is named here. -/
namespace Go.Proofs.YtkflkmmbakccoaaGreatDoor

/-- The nodes that have a name, in their order. -/
def namesL (ag : List Nat) (n : Nat) : List Nat := (List.range n).filter (fun j => decide (j ∈ ag))

theorem namesL_mem {ag : List Nat} {n x : Nat} : x ∈ namesL ag n ↔ x < n ∧ x ∈ ag := by simp [namesL]

theorem namesL_lt (ag : List Nat) (n : Nat) : (namesL ag n).Pairwise (fun a b => a < b) := List.Pairwise.filter _ List.pairwise_lt_range

theorem namesL_nodup (ag : List Nat) (n : Nat) : (namesL ag n).Nodup := (namesL_lt ag n).imp (fun h => Nat.ne_of_lt h)

theorem namesL_rank (ag : List Nat) : ∀ (n k x : Nat), (namesL ag n)[k]? = some x → rankOf ag x = k
  | 0, k, x, h => by simp [namesL] at h
  | n + 1, k, x, h => by
    unfold namesL at h
    rw [List.range_succ, List.filter_append] at h
    by_cases hk : k < ((List.range n).filter (fun j => decide (j ∈ ag))).length
    · rw [List.getElem?_append_left hk] at h
      exact namesL_rank ag n k x h
    · rw [List.getElem?_append_right (by omega)] at h
      by_cases hn : n ∈ ag
      · rw [List.filter_cons_of_pos (by simpa using hn)] at h
        cases hj : k - ((List.range n).filter (fun j => decide (j ∈ ag))).length with
        | zero =>
          rw [hj] at h
          simp at h
          subst h
          unfold rankOf
          omega
        | succ j =>
          rw [hj] at h
          simp at h
      · rw [List.filter_cons_of_neg (by simpa using hn)] at h
        simp at h

theorem rankOf_lt {ag : List Nat} {x y : Nat} (hx : x ∈ ag) (h : x < y) : rankOf ag x < rankOf ag y := by
  unfold rankOf
  obtain ⟨d, rfl⟩ : ∃ d, y = x + 1 + d := ⟨y - (x + 1), by omega⟩
  induction d with
  | zero =>
    rw [Nat.add_zero, List.range_succ, List.filter_append, List.filter_cons_of_pos (by simpa using hx)]
    simp
  | succ d ih =>
    have := ih (by omega)
    rw [← Nat.add_assoc, List.range_succ, List.filter_append]
    simp only [List.length_append]
    omega

theorem rankOf_inj {ag : List Nat} {x y : Nat} (hx : x ∈ ag) (hy : y ∈ ag) (h : rankOf ag x = rankOf ag y) : x = y := by
  rcases Nat.lt_trichotomy x y with h1 | h1 | h1
  · have := rankOf_lt hx h1; omega
  · exact h1
  · have := rankOf_lt hy h1; omega

/-- What is told of a node is not empty. -/
theorem openL_ne {nodes : List NodeV} (hW : Whole nodes) {k : Nat} (hk : k < nodes.length) : openL nodes k ≠ [] := by
  have h := (hW.node hk).kind
  unfold openL
  by_cases h0 : (nodeAt nodes k).kind = 0
  · rw [if_pos h0]
    unfold textL
    split
    · rename_i hw
      unfold isWordB at hw
      simp only [Bool.and_eq_true, decide_eq_true_eq] at hw
      intro e
      have : (nodeAt nodes k).text.size = 0 := by
        show (nodeAt nodes k).text.data.size = 0
        rw [← Array.length_toList, e]; rfl
      omega
    · simp
  · rw [if_neg h0]
    by_cases h1 : (nodeAt nodes k).kind = 1
    · rw [if_pos h1]; simp
    · rw [if_neg h1, if_pos (by omega)]; simp

theorem plainM_ne {nodes : List NodeV} (hW : Whole nodes) {k : Nat} (hk : k < nodes.length) : plainM nodes k ≠ [] := by
  unfold plainM tellM
  simp only [List.not_mem_nil, if_false]
  intro e
  rw [tellP_app] at e
  simp only [List.append_eq_nil_iff] at e
  exact openL_ne hW hk e.1.1.2

end Go.Proofs.YtkflkmmbakccoaaGreatDoor

/- THE PLAIN FUNCTIONS: how long what grafterref writes can be. No program is named here. -/
namespace Go.Proofs.YtkflkmmbakccoaaGreatDoor

theorem wrP_mono (nodes : List NodeV) (go : Nat → List Bool → Int → List UInt8 × List Bool) (id : Nat) (most : Int) (ps : List Nat) : ∀ (i : Nat) (st : List UInt8 × List Bool), st.1.length ≤ (wrP nodes go id most ps i st).1.length := by
  induction ps with
  | nil => intro i st; exact Nat.le_refl _
  | cons p ps ih =>
    intro i st
    simp only [wrP]
    split
    · refine Nat.le_trans ?_ (ih _ _)
      simp only [List.length_append]
      omega
    · exact Nat.le_refl _

theorem wrP_go (nodes : List NodeV) (go : Nat → List Bool → Int → List UInt8 × List Bool) (id : Nat) (most : Int) (ps : List Nat) (k : Nat) (hk : k < ps.length) (st : List UInt8 × List Bool) (hl : (st.1.length : Int) ≤ most) :
    wrP nodes go id most (ps.drop k) k st = wrP nodes go id most (ps.drop (k + 1)) (k + 1) (st.1 ++ leadL nodes (some (id, k)) ++ (go ps[k] st.2 (most - ((st.1 ++ leadL nodes (some (id, k))).length : Int))).1, (go ps[k] st.2 (most - ((st.1 ++ leadL nodes (some (id, k))).length : Int))).2) := by
  rw [List.drop_eq_getElem_cons hk]
  simp only [wrP]
  rw [if_pos hl]

theorem wrP_stop (nodes : List NodeV) (go : Nat → List Bool → Int → List UInt8 × List Bool) (id : Nat) (most : Int) (ps : List Nat) (k : Nat) (st : List UInt8 × List Bool) (hl : ¬ (k < ps.length ∧ (st.1.length : Int) ≤ most)) : wrP nodes go id most (ps.drop k) k st = st := by
  by_cases hk : k < ps.length
  · rw [List.drop_eq_getElem_cons hk]
    simp only [wrP]
    rw [if_neg (fun h => hl ⟨hk, h⟩)]
  · rw [List.drop_eq_nil_of_le (by omega)]
    rfl

theorem preL_len {nm : Int} (h : nm ≤ 1000) : (preL nm).length ≤ 1004 := by
  unfold preL
  split
  · have := decL_len nm.toNat
    simp
    omega
  · simp

theorem wr_len {nodes : List NodeV} (hW : Whole nodes) {names : List Int} (hn : ∀ k, names.getD k (-1) ≤ 1000) (f : Nat) : ∀ k told most, k < nodes.length → highOf nodes k < f → ((wrM nodes names f k told most).1.length : Int) ≤ max most 0 + 2000 * f := by
  induction f with
  | zero => intro k told most _ h; omega
  | succ f ih =>
    intro k told most hk hf
    have hnm := hn k
    unfold wrM
    split
    · have := decL_len (names.getD k (-1)).toNat
      simp only [List.length_cons]
      omega
    · have hp := preL_len hnm
      split
      · have := textL_len (hW.node hk).text
        simp only [List.length_append]
        omega
      · have key : ∀ ps i u tl, (∀ p ∈ ps, p < nodes.length ∧ highOf nodes p < f) → (u.length : Int) ≤ max most 0 + 1006 + 2000 * f → ((wrP nodes (wrM nodes names f) k most ps i (u, tl)).1.length : Int) ≤ max most 0 + 1006 + 2000 * f := by
          intro ps
          induction ps with
          | nil => intro i u tl _ h; exact h
          | cons p ps ihp =>
            intro i u tl hpp hu
            obtain ⟨h1, h2⟩ := hpp p (List.mem_cons_self ..)
            simp only [wrP]
            split
            · rename_i hl
              refine ihp _ _ _ (fun q hq => hpp q (List.mem_cons_of_mem _ hq)) ?_
              have t1 := ih p tl (most - ((u ++ leadL nodes (some (k, i))).length : Int)) h1 h2
              have t2 := leadL_len hW (i := i) hk
              simp only [List.length_append] at t1 ⊢
              omega
            · exact hu
        have hop : (if (nodeAt nodes k).kind = 2 then ([123] : List UInt8) else [91]).length = 1 := by split <;> rfl
        have hcl : (if (nodeAt nodes k).kind = 2 then ([125] : List UInt8) else [93]).length = 1 := by split <;> rfl
        have := key (nodeAt nodes k).parts 0 (preL (names.getD k (-1)) ++ (if (nodeAt nodes k).kind = 2 then [123] else [91])) (toldSet told k (names.getD k (-1))) (fun p hp => by have := hW.part hk hp; exact ⟨this.1, by omega⟩) (by
          simp only [List.length_append]
          omega)
        simp only [List.length_append]
        omega

theorem wr_told (nodes : List NodeV) (names : List Int) (f : Nat) : ∀ k told most, (wrM nodes names f k told most).2.length = told.length := by
  induction f with
  | zero => intro k told most; rfl
  | succ f ih =>
    intro k told most
    have hts : ∀ nm, (toldSet told k nm).length = told.length := fun nm => by unfold toldSet; split <;> simp
    unfold wrM
    split
    · rfl
    · split
      · exact hts _
      · have key : ∀ ps i u tl, (wrP nodes (wrM nodes names f) k most ps i (u, tl)).2.length = tl.length := by
          intro ps
          induction ps with
          | nil => intro i u tl; rfl
          | cons p ps ihp =>
            intro i u tl
            simp only [wrP]
            split
            · rw [ihp, ih]
            · rfl
        simp only
        rw [key, hts]

theorem wrM_told {nodes : List NodeV} {names : List Int} {f k : Nat} {told : List Bool} {most : Int} (h : 0 ≤ names.getD k (-1) ∧ told.getD k false = true) : wrM nodes names (f + 1) k told most = (42 :: 110 :: decL (names.getD k (-1)).toNat, told) := by
  unfold wrM; rw [if_pos h]
theorem wrM_text {nodes : List NodeV} {names : List Int} {f k : Nat} {told : List Bool} {most : Int} (h : ¬ (0 ≤ names.getD k (-1) ∧ told.getD k false = true)) (h0 : (nodeAt nodes k).kind = 0) : wrM nodes names (f + 1) k told most = (preL (names.getD k (-1)) ++ textL (nodeAt nodes k).text, toldSet told k (names.getD k (-1))) := by
  unfold wrM; rw [if_neg h, if_pos h0]
theorem wrM_in {nodes : List NodeV} {names : List Int} {f k : Nat} {told : List Bool} {most : Int} (h : ¬ (0 ≤ names.getD k (-1) ∧ told.getD k false = true)) (op cl : UInt8) (h0 : ((nodeAt nodes k).kind = 1 ∧ op = 91 ∧ cl = 93) ∨ ((nodeAt nodes k).kind = 2 ∧ op = 123 ∧ cl = 125)) :
    wrM nodes names (f + 1) k told most = ((wrP nodes (wrM nodes names f) k most (nodeAt nodes k).parts 0 (preL (names.getD k (-1)) ++ [op], toldSet told k (names.getD k (-1)))).1 ++ [cl], (wrP nodes (wrM nodes names f) k most (nodeAt nodes k).parts 0 (preL (names.getD k (-1)) ++ [op], toldSet told k (names.getD k (-1)))).2) := by
  rcases h0 with ⟨h0, rfl, rfl⟩ | ⟨h0, rfl, rfl⟩
  · unfold wrM; rw [if_neg h, if_neg (by omega)]; simp [h0]
  · unfold wrM; rw [if_neg h, if_neg (by omega)]; simp [h0]

theorem leadL_list {nodes : List NodeV} {p i : Nat} (h : (nodeAt nodes p).kind = 1) : leadL nodes (some (p, i)) = if 0 < i then [44, 32] else [] := by
  unfold leadL; simp [h]
theorem leadL_map {nodes : List NodeV} {p i : Nat} (h : (nodeAt nodes p).kind = 2) : leadL nodes (some (p, i)) = (if 0 < i then [44, 32] else []) ++ (textL ((nodeAt nodes p).keys.getD i ByteArray.empty) ++ [58, 32]) := by
  unfold leadL; simp [h]

end Go.Proofs.YtkflkmmbakccoaaGreatDoor

/- THE PLAIN FUNCTIONS: what stands at a path, as grafterref looks for it. No program is named here. -/
namespace Go.Proofs.YtkflkmmbakccoaaGreatDoor

/-- The j-th part of a node stands under x. -/
def hitB (n : NodeV) (x : ByteArray) (j : Nat) : Bool := (decide (n.kind = 1) && decide (decL j = x.data.toList)) || (decide (n.kind = 2) && decide (n.keys[j]? = some x))

/-- The last of the first m parts that stands under x. -/
def lastM (n : NodeV) (x : ByteArray) : Nat → Option Nat
  | 0 => none
  | j + 1 => if hitB n x j then some j else lastM n x j

theorem lastM_some (n : NodeV) (x : ByteArray) : ∀ m j, lastM n x m = some j → j < m ∧ hitB n x j = true
  | 0, j, h => by cases h
  | m + 1, j, h => by
    unfold lastM at h
    split at h
    · rename_i h1
      injection h with h
      subst h
      exact ⟨by omega, h1⟩
    · have := lastM_some n x m j h
      exact ⟨by omega, this.2⟩

theorem lastM_none (n : NodeV) (x : ByteArray) : ∀ m, lastM n x m = none → ∀ j, j < m → hitB n x j = false
  | 0, _, j, hj => by omega
  | m + 1, h, j, hj => by
    unfold lastM at h
    split at h
    · cases h
    · rename_i h1
      by_cases e : j = m
      · subst e; simpa using h1
      · exact lastM_none n x m h j (by omega)

theorem last_find {nodes : List NodeV} {n : NodeV} (hn : NodeOk nodes n) (x : ByteArray) : lastM n x n.parts.length = findM n x := by
  unfold findM
  by_cases h1 : n.kind = 1
  · rw [if_pos h1]
    have hb : ∀ j, hitB n x j = decide (decL j = x.data.toList) := fun j => by simp [hitB, h1]
    cases hl : lastM n x n.parts.length with
    | none =>
      symm
      rw [List.find?_eq_none]
      intro j hj
      have := lastM_none n x _ hl j (List.mem_range.1 hj)
      rw [hb] at this
      simpa using this
    | some j =>
      obtain ⟨a, b⟩ := lastM_some n x _ j hl
      rw [hb] at b
      have b' : decL j = x.data.toList := by simpa using b
      cases hf : (List.range n.parts.length).find? (fun j => decide (decL j = x.data.toList)) with
      | none =>
        have := List.find?_eq_none.1 hf j (List.mem_range.2 a)
        simp [b'] at this
      | some q =>
        have hq := List.find?_some hf
        have hq' : decL q = x.data.toList := by simpa using hq
        rw [decL_inj (b'.trans hq'.symm)]
  · rw [if_neg h1]
    by_cases h2 : n.kind = 2
    · rw [if_pos h2]
      have hkl := hn.keys
      rw [if_pos h2] at hkl
      have hb : ∀ j, hitB n x j = decide (n.keys[j]? = some x) := fun j => by simp [hitB, h2]
      cases hl : lastM n x n.parts.length with
      | none =>
        symm
        rw [List.findIdx?_eq_none_iff]
        intro y hy
        obtain ⟨i, hi, rfl⟩ := List.mem_iff_getElem.1 hy
        have := lastM_none n x _ hl i (by omega)
        rw [hb] at this
        simpa [hi] using this
      | some j =>
        obtain ⟨a, b⟩ := lastM_some n x _ j hl
        rw [hb] at b
        have b' : n.keys[j]? = some x := by simpa using b
        cases hf : n.keys.findIdx? (fun y => decide (y = x)) with
        | none =>
          have := List.findIdx?_eq_none_iff.1 hf x (List.mem_of_getElem? b')
          simp at this
        | some q =>
          obtain ⟨hq, hq', _⟩ := List.findIdx?_eq_some_iff_getElem.1 hf
          have hq2 : n.keys[q]? = some x := by rw [List.getElem?_eq_getElem hq]; simpa using hq'
          rw [(List.getElem?_inj (by omega) hn.apart).1 (b'.trans hq2.symm)]
    · rw [if_neg h2]
      have h0 : n.kind = 0 := by have := hn.kind; omega
      rw [hn.none h0]
      rfl

/-- The number that goes on: -1, or the part's. -/
def nextI (n : NodeV) : Option Nat → Int
  | none => -1
  | some q => (n.parts.getD q 0 : Nat)

end Go.Proofs.YtkflkmmbakccoaaGreatDoor
