/- PARTS: Mod3, Mod4, Mod5, Mod6. -/
import Derived.Test.YtkflkmmbakccoaaGreatDoorH1

/- THE PLAIN FUNCTIONS: what holds of each state that the reading comes to. No program is named here. -/
namespace Go.Proofs.YtkflkmmbakccoaaGreatDoor

theorem Res.bind_ok_iff {α β : Type} {r : Res α} {f : α → PS → Res β} {b : β} {t' : PS} (h : r.bind f = .ok b t') : ∃ a t1, r = .ok a t1 ∧ f a t1 = .ok b t' := by
  cases r with
  | ok a t => exact ⟨a, t, rfl, h⟩
  | bad e p => cases h

theorem skipBl_ge (s : ByteArray) (k : Nat) : k ≤ skipBl s k := by
  rw [skipBl]; split
  · split
    · have := skipBl_ge s (k + 1); omega
    · omega
  · omega
termination_by s.size - k

theorem wEnd_le (s : ByteArray) (k : Nat) (h : k ≤ s.size) : wEnd s k ≤ s.size := by
  rw [wEnd]; split
  · split
    · exact wEnd_le s (k + 1) (by omega)
    · exact h
  · exact h
termination_by s.size - k

theorem qEnd_le (s : ByteArray) (k : Nat) (h : k ≤ s.size) : qEnd s k ≤ s.size := by
  rw [qEnd]; split
  · split
    · exact h
    · exact qEnd_le s (k + 1) (by omega)
  · exact h
termination_by s.size - k

theorem nlGo_le (s : ByteArray) (a k : Nat) (h : k ≤ s.size) : k ≤ (nlGo s a k).2 ∧ (nlGo s a k).2 ≤ s.size := by
  rw [nlGo]; split
  · split
    · have := nlGo_le s (k + 1) (k + 1) (by omega); omega
    · split
      · have := nlGo_le s a (k + 1) (by omega); omega
      · simp; omega
  · simp; omega
termination_by s.size - k

theorem kindAt_lt {s : ByteArray} {q : Nat} (h : kindAt s q ≠ 0) : q < s.size := by
  by_cases hq : q < s.size
  · exact hq
  · rw [kindAt, if_neg hq] at h; exact absurd rfl h

theorem rdWord_le (s : ByteArray) (k : Nat) (h : k ≤ s.size) : k ≤ (rdWord s k).2.2 ∧ (rdWord s k).2.2 ≤ s.size := by
  have h1 := wEnd_ge s k
  have h2 := wEnd_le s k h
  rw [rdWord]; split
  · simp; omega
  · exact ⟨h1, h2⟩

theorem rdStr_le (s : ByteArray) (k : Nat) (h : k ≤ s.size) : k ≤ (rdStr s k).2.2 ∧ (rdStr s k).2.2 ≤ s.size := by
  have h1 := qEnd_ge s k
  have h2 := qEnd_le s k h
  rw [rdStr]; split
  · simp; omega
  · split
    · rename_i hb
      have : qEnd s k < s.size := by
        by_cases hq : qEnd s k < s.size
        · exact hq
        · rw [byteAt_ge s _ hq] at hb; omega
      simp; omega
    · exact ⟨h1, h2⟩

theorem rdAny_le (s : ByteArray) (k : Nat) (h : k ≤ s.size) : k ≤ (rdAny s k).2.2 ∧ (rdAny s k).2.2 ≤ s.size := by
  rw [rdAny]; split
  · have hk : kindAt s k ≠ 0 := by omega
    have := kindAt_lt hk
    have := rdStr_le s (k + 1) (by omega); omega
  · exact rdWord_le s k h

section
variable (s : ByteArray)

/-- A state that the reading may come to. -/
structure WF (t : PS) : Prop where
  k : t.k ≤ s.size
  nodes : t.nodes.length ≤ 500
  anchors : t.anchors ≤ 100
  names : t.names.length ≤ t.anchors
  named : ∀ p ∈ t.names, highOf t.nodes p.2 ≠ 0
  heavy : ∀ i, heavyOf t.nodes i ≤ 1000000000001
  high : ∀ i, highOf t.nodes i ≤ 100

/-- From one state to a later one; of the nodes that were there none has turned but x. -/
structure Step (x : Option Nat) (t t' : PS) : Prop where
  k : t.k ≤ t'.k
  len : t.nodes.length ≤ t'.nodes.length
  keep : ∀ i, i < t.nodes.length → x ≠ some i → t'.nodes[i]? = t.nodes[i]?
  nm : t'.names.length + t.anchors ≤ t'.anchors + t.names.length
  wf : WF s t'
end

theorem Step.refl {s : ByteArray} {t : PS} (x : Option Nat) (h : WF s t) : Step s x t t := ⟨Nat.le_refl _, Nat.le_refl _, fun _ _ _ => rfl, by omega, h⟩

theorem Step.trans {s : ByteArray} {x y : Option Nat} {t u v : PS} (h : Step s x t u) (k : Step s y u v) (hy : ∀ j, y = some j → x = some j ∨ t.nodes.length ≤ j) : Step s x t v :=
  ⟨Nat.le_trans h.k k.k, Nat.le_trans h.len k.len, fun i hi hx => (k.keep i (Nat.lt_of_lt_of_le hi h.len) (fun e => by rcases hy i e with h1 | h1; exact hx h1; omega)).trans (h.keep i hi hx), by have := h.nm; have := k.nm; omega, k.wf⟩

/-- Two steps, of which the second turns none of the nodes that were there. -/
theorem Step.andThen {s : ByteArray} {x : Option Nat} {t u v : PS} (h : Step s x t u) (k : Step s none u v) : Step s x t v := h.trans k (fun j e => by cases e)

theorem Step.weak {s : ByteArray} {x : Option Nat} {t u : PS} (h : Step s none t u) : Step s x t u := ⟨h.k, h.len, fun i hi _ => h.keep i hi (by simp), h.nm, h.wf⟩

theorem Step.highKeep {s : ByteArray} {x : Option Nat} {t u : PS} (h : Step s x t u) {i : Nat} (hi : i < t.nodes.length) (hx : x ≠ some i) : highOf u.nodes i = highOf t.nodes i := by
  simp only [highOf, List.getD, h.keep i hi hx]

theorem WF.move {s : ByteArray} {t : PS} (h : WF s t) {k : Nat} (hk : k ≤ s.size) : WF s { t with k := k } := ⟨hk, h.nodes, h.anchors, h.names, h.named, h.heavy, h.high⟩

theorem Step.move {s : ByteArray} {t : PS} (h : WF s t) {k : Nat} (h1 : t.k ≤ k) (hk : k ≤ s.size) : Step s none t { t with k := k } :=
  ⟨h1, Nat.le_refl _, fun _ _ _ => rfl, by simp; omega, h.move hk⟩

theorem WF.skipTo {s : ByteArray} {t : PS} (h : WF s t) : WF s { t with k := skipBl s t.k } := h.move (skipBl_le s t.k h.k)

theorem Step.skipTo {s : ByteArray} {t : PS} (h : WF s t) : Step s none t { t with k := skipBl s t.k } := Step.move h (skipBl_ge s t.k) (skipBl_le s t.k h.k)

theorem highOf_ge (nodes : List NodeV) (i : Nat) (h : nodes.length ≤ i) : highOf nodes i = 0 := by
  simp [highOf, List.getD, List.getElem?_eq_none h, NodeV.blank]
theorem highOf_lt {nodes : List NodeV} {i : Nat} (h : highOf nodes i ≠ 0) : i < nodes.length := by
  by_cases hi : i < nodes.length
  · exact hi
  · exact absurd (highOf_ge nodes i (by omega)) h
theorem highOf_app (nodes : List NodeV) (n : NodeV) (i : Nat) (h : i < nodes.length) : highOf (nodes ++ [n]) i = highOf nodes i := by
  simp [highOf, List.getD, List.getElem?_append_left h]
theorem heavyOf_app (nodes : List NodeV) (i : Nat) : heavyOf (nodes ++ [NodeV.blank]) i = heavyOf nodes i := by
  simp only [heavyOf, List.getD, List.getElem?_append]
  split
  · rfl
  · rename_i h
    rw [List.getElem?_eq_none (by omega : nodes.length ≤ i)]
    cases hj : i - nodes.length with
    | zero => rfl
    | succ n => simp

theorem highOf_appB (nodes : List NodeV) (i : Nat) : highOf (nodes ++ [NodeV.blank]) i = highOf nodes i := by
  simp only [highOf, List.getD, List.getElem?_append]
  split
  · rfl
  · rename_i h
    rw [List.getElem?_eq_none (by omega : nodes.length ≤ i)]
    cases hj : i - nodes.length with
    | zero => rfl
    | succ n => simp

theorem beginM_ok {s : ByteArray} {B : Bud} {lv : Int} {t t' : PS} {id : Nat} (hB : B.nodes ≤ 500) (hw : WF s t) (h : beginM B lv t = .ok id t') :
    lv ≤ B.depth ∧ id = t.nodes.length ∧ t' = { t with nodes := t.nodes ++ [NodeV.blank] } ∧ highOf t'.nodes id = 0 ∧ id < t'.nodes.length ∧ Step s none t t' := by
  unfold beginM at h
  split at h
  · cases h
  · split at h
    · cases h
    · rename_i h1 h2
      cases h
      refine ⟨by omega, rfl, rfl, ?_, by simp, ?_⟩
      · simp [highOf, List.getD, NodeV.blank]
      · refine ⟨Nat.le_refl _, by simp, fun i hi _ => List.getElem?_append_left hi, by simp; omega, ⟨hw.k, by simp; omega, hw.anchors, hw.names, fun p hp => ?_, fun i => ?_, fun i => ?_⟩⟩
        · rw [highOf_app _ _ _ (highOf_lt (hw.named p hp))]; exact hw.named p hp
        · show heavyOf (t.nodes ++ [NodeV.blank]) i ≤ _
          rw [heavyOf_app]; exact hw.heavy i
        · show highOf (t.nodes ++ [NodeV.blank]) i ≤ _
          rw [highOf_appB]; exact hw.high i

theorem readM_ok {s : ByteArray} {t t' : PS} {x : ByteArray} (hw : WF s t) (h : readM s t = .ok x t') : Step s none t t' ∧ t' = { t with k := (rdAny s (skipBl s t.k)).2.2 } ∧ x = (rdAny s (skipBl s t.k)).1 := by
  unfold readM at h
  split at h
  · cases h
    have h1 := skipBl_le s t.k hw.k
    have h2 := skipBl_ge s t.k
    have h3 := rdAny_le s _ h1
    exact ⟨Step.move hw (by omega) h3.2, rfl, rfl⟩
  · cases h

theorem wordM_ok {s : ByteArray} {t t' : PS} {x : ByteArray} (hw : WF s t) (h : wordM s t = .ok x t') : Step s none t t' := by
  unfold wordM at h
  split at h
  · exact (Step.skipTo hw).andThen (readM_ok hw.skipTo h).1
  · cases h

theorem expectM_ok {s : ByteArray} {t t' : PS} {kd : Int} {x : Unit} (hkd : kd ≠ 0) (hw : WF s t) (h : expectM s kd t = .ok x t') : Step s none t t' ∧ t.k < t'.k := by
  unfold expectM at h
  split at h
  · rename_i hk
    cases h
    have h2 := skipBl_ge s t.k
    have h3 := kindAt_lt (s := s) (q := skipBl s t.k) (by omega)
    exact ⟨Step.move hw (by omega) (by omega), by simp; omega⟩
  · cases h

theorem keyM_ok {s : ByteArray} {t t' : PS} {ks ks' : List ByteArray} (hw : WF s t) (h : keyM s ks t = .ok ks' t') : Step s none t t' ∧ t.k < t'.k := by
  unfold keyM at h
  split at h
  · obtain ⟨x, t1, h1, h2⟩ := Res.bind_ok_iff h
    have s1 := (readM_ok hw.skipTo h1).1
    split at h2
    · cases h2
    · obtain ⟨_, t2, h3, h4⟩ := Res.bind_ok_iff h2
      have s2 := expectM_ok (by omega) s1.wf h3
      cases h4
      exact ⟨((Step.skipTo hw).andThen s1).andThen s2.1, by have := (Step.skipTo hw).k; have := s1.k; have := s2.2; simp at *; omega⟩
  · cases h

theorem lookM_mem {names : List (ByteArray × Nat)} {x : ByteArray} {i : Nat} (h : lookM names x = some i) : ∃ p ∈ names, p.2 = i := by
  unfold lookM at h
  obtain ⟨p, hp, rfl⟩ := Option.map_eq_some_iff.1 h
  exact ⟨p, List.mem_of_find?_eq_some hp, rfl⟩

theorem aliasM_ok {s : ByteArray} {B : Bud} {lv : Int} {t t' : PS} {id : Nat} (hw : WF s t) (hk : t.k < s.size) (h : aliasM s B lv t = .ok id t') :
    Step s none t t' ∧ highOf t'.nodes id ≠ 0 ∧ (highOf t'.nodes id : Int) + lv ≤ B.depth + 1 := by
  unfold aliasM at h
  obtain ⟨x, t1, h1, h2⟩ := Res.bind_ok_iff h
  have s0 : Step s none t { t with k := t.k + 1 } := Step.move hw (by omega) (by omega)
  have s1 := wordM_ok s0.wf h1
  split at h2
  · cases h2
  · rename_i i hi
    split at h2
    · cases h2
    · cases h2
      obtain ⟨p, hp, rfl⟩ := lookM_mem hi
      exact ⟨s0.andThen s1, s1.wf.named p hp, by omega⟩

theorem foldl_min_le (f : Nat → Nat) (l : List Nat) (a c : Nat) (h : a ≤ c) : l.foldl (fun a i => min (a + f i) c) a ≤ c := by
  induction l generalizing a with
  | nil => exact h
  | cons x l ih => exact ih _ (Nat.min_le_right _ _)

theorem foldl_max_le (f : Nat → Nat) (l : List Nat) (a : Nat) (c : Int) (h : (a : Int) ≤ c) (hl : ∀ x ∈ l, (f x : Int) ≤ c) : ((l.foldl (fun a i => max a (f i)) a : Nat) : Int) ≤ c := by
  induction l generalizing a with
  | nil => exact h
  | cons x l ih =>
    refine ih _ ?_ (fun y hy => hl y (List.mem_cons_of_mem _ hy))
    have := hl x (List.mem_cons_self ..)
    show ((max a (f x) : Nat) : Int) ≤ c
    omega

theorem highOf_set (nodes : List NodeV) (i j : Nat) (n : NodeV) (h : i < nodes.length) : highOf (nodes.set i n) j = if j = i then n.high else highOf nodes j := by
  simp only [highOf, List.getD, List.getElem?_set]
  by_cases hij : i = j
  · subst hij; simp [h]
  · rw [if_neg hij, if_neg (by omega)]
theorem heavyOf_set (nodes : List NodeV) (i j : Nat) (n : NodeV) (h : i < nodes.length) : heavyOf (nodes.set i n) j = if j = i then n.heavy else heavyOf nodes j := by
  simp only [heavyOf, List.getD, List.getElem?_set]
  by_cases hij : i = j
  · subst hij; simp [h]
  · rw [if_neg hij, if_neg (by omega)]

/-- A node's end. -/
theorem endM_step {s : ByteArray} {B : Bud} {lv : Int} {t : PS} {id : Nat} {n : NodeV} (hw : WF s t) (hid : id < t.nodes.length) (h0 : 0 ≤ lv) (hD : B.depth ≤ 20) (hlv : lv ≤ B.depth)
    (hp : ∀ x ∈ n.parts, (highOf t.nodes x : Int) + lv ≤ B.depth) : Step s (some id) t (endM id n t) ∧ highOf (endM id n t).nodes id ≠ 0 ∧ (highOf (endM id n t).nodes id : Int) + lv ≤ B.depth + 1 := by
  have hh : highOf (endM id n t).nodes id = (measured t.nodes n).high := by
    show highOf (t.nodes.set id (measured t.nodes n)) id = _
    rw [highOf_set _ _ _ _ hid, if_pos rfl]
  have hm : (measured t.nodes n).high ≠ 0 := by simp [measured]
  have hb : ((measured t.nodes n).high : Int) + lv ≤ B.depth + 1 := by
    have := foldl_max_le (highOf t.nodes) n.parts 0 (B.depth - lv) (by omega) (fun x hx => by have := hp x hx; omega)
    simp only [measured]
    omega
  refine ⟨⟨Nat.le_refl _, by simp [endM], fun i hi hx => ?_, by simp [endM]; omega, ⟨hw.k, by simpa [endM] using hw.nodes, hw.anchors, hw.names, fun p hp => ?_, fun i => ?_, fun i => ?_⟩⟩, by rw [hh]; exact hm, by rw [hh]; exact hb⟩
  · show (t.nodes.set id _)[i]? = _
    rw [List.getElem?_set_ne (fun e => hx (by rw [e]))]
  · show highOf (t.nodes.set id _) p.2 ≠ 0
    rw [highOf_set _ _ _ _ hid]
    split
    · exact hm
    · exact hw.named p hp
  · show heavyOf (t.nodes.set id _) i ≤ _
    rw [heavyOf_set _ _ _ _ hid]
    split
    · exact foldl_min_le _ _ _ _ (by omega)
    · exact hw.heavy i
  · show highOf (t.nodes.set id _) i ≤ _
    rw [highOf_set _ _ _ _ hid]
    split
    · omega
    · exact hw.high i

/-- What a reader of a node that has begun must do. -/
def ValOk (s : ByteArray) (B : Bud) (id : Nat) (lv : Int) (val : PS → Res Unit) : Prop :=
  ∀ t t' u, WF s t → id < t.nodes.length → 0 ≤ lv → lv ≤ B.depth → val t = .ok u t' → Step s (some id) t t' ∧ highOf t'.nodes id ≠ 0 ∧ (highOf t'.nodes id : Int) + lv ≤ B.depth + 1

/-- What a reader of a node must do. -/
def FlowOk (s : ByteArray) (B : Bud) (lv : Int) (fl : PS → Res Nat) : Prop :=
  ∀ t t' id, WF s t → 0 ≤ lv → fl t = .ok id t' → Step s none t t' ∧ highOf t'.nodes id ≠ 0 ∧ (highOf t'.nodes id : Int) + lv ≤ B.depth + 1

theorem namedM_ok {s : ByteArray} {B : Bud} {lv : Int} {rest : Nat → PS → Res Unit} {t t' : PS} {id : Nat} (hN : B.nodes ≤ 500) (hA : B.anchors ≤ 100) (hr : ∀ id, ValOk s B id lv (rest id)) (hw : WF s t) (h0 : 0 ≤ lv) (hk : t.k < s.size)
    (h : namedM s B lv rest t = .ok id t') : Step s none t t' ∧ highOf t'.nodes id ≠ 0 ∧ (highOf t'.nodes id : Int) + lv ≤ B.depth + 1 := by
  unfold namedM at h
  obtain ⟨id1, t1, h1, h2⟩ := Res.bind_ok_iff h
  obtain ⟨hlv, rfl, rfl, hz, hid, s1⟩ := beginM_ok hN hw h1
  split at h2
  · cases h2
  · rename_i ha
    obtain ⟨x, t2, h3, h4⟩ := Res.bind_ok_iff h2
    have w2 : WF s { t with nodes := t.nodes ++ [NodeV.blank], anchors := t.anchors + 1, k := t.k + 1 } :=
      ⟨by simp; omega, s1.wf.nodes, by simp at ha ⊢; omega, by have := hw.names; simp; omega, s1.wf.named, s1.wf.heavy, s1.wf.high⟩
    have s2 := wordM_ok w2 h3
    obtain ⟨_, t3, h5, h6⟩ := Res.bind_ok_iff h4
    have hid2 : t.nodes.length < t2.nodes.length := Nat.lt_of_lt_of_le hid s2.len
    obtain ⟨s3, n3, b3⟩ := hr _ t2 t3 _ s2.wf hid2 h0 hlv h5
    cases h6
    have hl := s2.len
    simp at hl
    refine ⟨⟨?_, ?_, fun i hi hx => ?_, ?_, ⟨s3.wf.k, s3.wf.nodes, s3.wf.anchors, ?_, ?_, s3.wf.heavy, s3.wf.high⟩⟩, n3, b3⟩
    · have := s2.k; have := s3.k; simp at *; omega
    · have := s2.len; have := s3.len; simp at *; omega
    · rw [s3.keep i (by omega) (by simp; omega), s2.keep i (by simp; omega) (by simp)]
      exact List.getElem?_append_left hi
    · have := s2.nm; have := s3.nm; simp at *; omega
    · have := s2.nm; have := s3.nm; have := hw.names; simp at *; omega
    · intro p hp
      rcases List.mem_cons.1 hp with rfl | hp
      · exact n3
      · exact s3.wf.named p hp

theorem flowS_ok {s : ByteArray} {B : Bud} {val : Nat → Int → PS → Res Unit} {lv : Int} (hN : B.nodes ≤ 500) (hA : B.anchors ≤ 100) (hv : ∀ id lv, ValOk s B id lv (val id lv)) : FlowOk s B lv (flowS s B val lv) := by
  intro t t' id hw h0 h
  unfold flowS at h
  simp only at h
  have s0 := Step.skipTo hw
  split at h
  · rename_i hk
    obtain ⟨a, b, c⟩ := aliasM_ok s0.wf (kindAt_lt (by simp only; omega)) h
    exact ⟨s0.andThen a, b, c⟩
  · split at h
    · rename_i hk
      obtain ⟨a, b, c⟩ := namedM_ok hN hA (fun id => hv id lv) s0.wf h0 (kindAt_lt (by simp only; omega)) h
      exact ⟨s0.andThen a, b, c⟩
    · split at h
      · obtain ⟨id1, t1, h1, h2⟩ := Res.bind_ok_iff h
        obtain ⟨hlv, rfl, _, hz, hid, s1⟩ := beginM_ok hN s0.wf h1
        obtain ⟨_, t2, h3, h4⟩ := Res.bind_ok_iff h2
        obtain ⟨s2, n2, b2⟩ := hv _ lv t1 t2 _ s1.wf hid h0 hlv h3
        cases h4
        exact ⟨(s0.andThen s1).trans s2 (fun j e => by cases e; right; exact Nat.le_refl _), n2, b2⟩
      · cases h

theorem inLoop_ok {s : ByteArray} {B : Bud} {lv : Int} {fl : PS → Res Nat} {isMap : Bool} {closing : Int} (hc : closing ≠ 0) (h0 : 0 ≤ lv) (hf : FlowOk s B (lv + 1) fl) (n : Nat) :
    ∀ keys parts t r t', WF s t → (∀ x ∈ parts, highOf t.nodes x ≠ 0 ∧ (highOf t.nodes x : Int) + lv ≤ B.depth) → inLoop s fl isMap closing n keys parts t = .ok r t' →
      Step s none t t' ∧ t.k < t'.k ∧ ∀ x ∈ r.2, highOf t'.nodes x ≠ 0 ∧ (highOf t'.nodes x : Int) + lv ≤ B.depth := by
  induction n with
  | zero => intro keys parts t r t' _ _ h; cases h
  | succ n ih =>
    intro keys parts t r t' hw hp h
    unfold inLoop at h
    obtain ⟨keys1, t1, h1, h2⟩ := Res.bind_ok_iff h
    have s1 : Step s none t t1 := by
      cases isMap with
      | false => cases h1; exact Step.refl _ hw
      | true => exact (keyM_ok hw h1).1
    obtain ⟨x, t2, h3, h4⟩ := Res.bind_ok_iff h2
    obtain ⟨s2, n2, b2⟩ := hf t1 t2 x s1.wf (by omega) h3
    have s12 := s1.andThen s2
    have hp2 : ∀ y ∈ parts ++ [x], highOf t2.nodes y ≠ 0 ∧ (highOf t2.nodes y : Int) + lv ≤ B.depth := by
      intro y hy
      rcases List.mem_append.1 hy with hy | hy
      · obtain ⟨a, b⟩ := hp y hy
        rw [s12.highKeep (highOf_lt a) (by simp)]; exact ⟨a, b⟩
      · have := List.mem_singleton.1 hy
        subst this
        exact ⟨n2, by omega⟩
    have s3 := Step.skipTo s2.wf
    split at h4
    · rename_i h6
      have hl := kindAt_lt (s := s) (q := skipBl s t2.k) (by omega)
      have s4 : Step s none t2 { t2 with k := skipBl s t2.k + 1 } := Step.move s2.wf (by have := s3.k; simp at this; omega) (by omega)
      obtain ⟨a, b, c⟩ := ih _ _ _ r t' s4.wf hp2 h4
      exact ⟨(s12.andThen s4).andThen a, by have := s12.k; have := s3.k; simp at this b; omega, c⟩
    · obtain ⟨_, t3, h5, h6⟩ := Res.bind_ok_iff h4
      have s5 := expectM_ok hc s3.wf h5
      cases h6
      refine ⟨(s12.andThen s3).andThen s5.1, by have := s12.k; have := s3.k; have := s5.2; simp at *; omega, fun y hy => ?_⟩
      obtain ⟨a, b⟩ := hp2 y hy
      have e := (s3.andThen s5.1).highKeep (i := y) (highOf_lt a) (by simp)
      rw [e]; exact ⟨a, b⟩

theorem bracketsM_ok {s : ByteArray} {B : Bud} {lv : Int} {fl : PS → Res Nat} {isMap : Bool} {closing : Int} (hc : closing ≠ 0) (h0 : 0 ≤ lv) (hf : FlowOk s B (lv + 1) fl) {t t' : PS} {r : List ByteArray × List Nat} (hw : WF s t) (hk : t.k < s.size)
    (h : bracketsM s fl isMap closing t = .ok r t') : Step s none t t' ∧ ∀ x ∈ r.2, highOf t'.nodes x ≠ 0 ∧ (highOf t'.nodes x : Int) + lv ≤ B.depth := by
  unfold bracketsM at h
  simp only at h
  have s0 : Step s none t { t with k := t.k + 1 } := Step.move hw (by omega) (by omega)
  have s1 := s0.andThen (Step.skipTo s0.wf)
  split at h
  · rename_i hk1
    cases h
    have hl := kindAt_lt (s := s) (q := skipBl s (t.k + 1)) (by omega)
    exact ⟨Step.move hw (by have := s1.k; simp at this; omega) (by omega), fun x hx => by cases hx⟩
  · obtain ⟨a, _, c⟩ := inLoop_ok hc h0 hf _ _ _ _ r t' s1.wf (fun x hx => by cases hx) h
    exact ⟨s1.andThen a, c⟩

theorem valueS_ok {s : ByteArray} {B : Bud} {fl : Int → PS → Res Nat} {id : Nat} {lv : Int} (hD : B.depth ≤ 20) (hf : ∀ lv, FlowOk s B lv (fl lv)) : ValOk s B id lv (valueS s fl id lv) := by
  intro t t' u hw hid h0 hlv h
  unfold valueS at h
  simp only at h
  have s0 := Step.skipTo hw
  split at h
  · obtain ⟨x, t1, h1, h2⟩ := Res.bind_ok_iff h
    have s1 := (readM_ok s0.wf h1).1
    cases h2
    obtain ⟨a, b, c⟩ := endM_step (B := B) (lv := lv) (n := { NodeV.blank with text := x }) s1.wf (Nat.lt_of_lt_of_le hid (s0.andThen s1).len) h0 hD hlv (fun x hx => by cases hx)
    exact ⟨((s0.andThen s1).weak).trans a (fun j e => .inl e), b, c⟩
  · split at h
    · rename_i hk
      obtain ⟨r, t1, h1, h2⟩ := Res.bind_ok_iff h
      obtain ⟨s1, hp⟩ := bracketsM_ok (by omega) h0 (hf (lv + 1)) s0.wf (kindAt_lt (by simp only; omega)) h1
      cases h2
      obtain ⟨a, b, c⟩ := endM_step (B := B) (lv := lv) (n := { NodeV.blank with kind := 1, keys := r.1, parts := r.2 }) s1.wf (Nat.lt_of_lt_of_le hid (s0.andThen s1).len) h0 hD hlv (fun x hx => (hp x hx).2)
      exact ⟨((s0.andThen s1).weak).trans a (fun j e => .inl e), b, c⟩
    · split at h
      · rename_i hk
        obtain ⟨r, t1, h1, h2⟩ := Res.bind_ok_iff h
        obtain ⟨s1, hp⟩ := bracketsM_ok (by omega) h0 (hf (lv + 1)) s0.wf (kindAt_lt (by simp only; omega)) h1
        cases h2
        obtain ⟨a, b, c⟩ := endM_step (B := B) (lv := lv) (n := { NodeV.blank with kind := 2, keys := r.1, parts := r.2 }) s1.wf (Nat.lt_of_lt_of_le hid (s0.andThen s1).len) h0 hD hlv (fun x hx => (hp x hx).2)
        exact ⟨((s0.andThen s1).weak).trans a (fun j e => .inl e), b, c⟩
      · cases h

theorem flowM_ok {s : ByteArray} {B : Bud} (hD : B.depth ≤ 20) (hN : B.nodes ≤ 500) (hA : B.anchors ≤ 100) (f : Nat) : ∀ lv, FlowOk s B lv (flowM s B f lv) := by
  induction f with
  | zero => intro lv; exact flowS_ok hN hA (fun _ _ t t' u _ _ _ _ h => by cases h)
  | succ f ih => intro lv; exact flowS_ok hN hA (fun id lv => valueS_ok hD ih)

theorem valueM_ok {s : ByteArray} {B : Bud} (hD : B.depth ≤ 20) (hN : B.nodes ≤ 500) (hA : B.anchors ≤ 100) (f : Nat) (id : Nat) (lv : Int) : ValOk s B id lv (valueM s B f id lv) := valueS_ok hD (flowM_ok hD hN hA f)

theorem nextM_step {s : ByteArray} {t : PS} (hw : WF s t) : Step s none t (nextM s t) := by
  have h := nlGo_le s t.k t.k hw.k
  exact ⟨h.1, Nat.le_refl _, fun _ _ _ => rfl, by simp [nextM]; omega, ⟨h.2, hw.nodes, hw.anchors, hw.names, hw.named, hw.heavy, hw.high⟩⟩

theorem endLineM_ok {s : ByteArray} {t t' : PS} {u : Unit} (hw : WF s t) (h : endLineM s t = .ok u t') : Step s none t t' := by
  unfold endLineM at h
  split at h
  · cases h
    exact (Step.skipTo hw).andThen (nextM_step hw.skipTo)
  · cases h

theorem goBelowM_ok {s : ByteArray} {t t' : PS} {d : Nat} {u : Unit} (hw : WF s t) (h : goBelowM s d t = .ok u t') : Step s none t t' := by
  unfold goBelowM at h
  simp only at h
  split at h
  · cases h
    exact (nextM_step hw).andThen (Step.skipTo (nextM_step hw).wf)
  · cases h

theorem namedItemS_ok {s : ByteArray} {B : Bud} (hD : B.depth ≤ 20) (hN : B.nodes ≤ 500) (hA : B.anchors ≤ 100) {blk : Nat → Nat → PS → Res Unit} {d id : Nat} (hb : ∀ (id d : Nat), ValOk s B id ((d : Int) + 1) (blk id d)) : ValOk s B id (d + 2) (namedItemS s B blk d id) := by
  intro t t' u hw hid h0 hlv h
  unfold namedItemS at h
  simp only at h
  have s0 := Step.skipTo hw
  split at h
  · obtain ⟨_, t1, h1, h2⟩ := Res.bind_ok_iff h
    have s1 := s0.andThen (goBelowM_ok s0.wf h1)
    obtain ⟨a, b, c⟩ := hb id (d + 1) t1 t' u s1.wf (Nat.lt_of_lt_of_le hid s1.len) (by omega) (by push_cast; omega) h2
    exact ⟨s1.weak.trans a (fun j e => .inl e), b, by push_cast at c; omega⟩
  · obtain ⟨_, t1, h1, h2⟩ := Res.bind_ok_iff h
    obtain ⟨a, b, c⟩ := valueM_ok hD hN hA 21 id (d + 2) _ t1 _ s0.wf (Nat.lt_of_lt_of_le hid s0.len) h0 hlv h1
    have s2 := endLineM_ok a.wf h2
    have e := s2.highKeep (i := id) (Nat.lt_of_lt_of_le (Nat.lt_of_lt_of_le hid s0.len) a.len) (by simp)
    rw [e]
    exact ⟨(s0.weak.trans a (fun j e => .inl e)).andThen s2, b, c⟩

theorem itemS_ok {s : ByteArray} {B : Bud} (hD : B.depth ≤ 20) (hN : B.nodes ≤ 500) (hA : B.anchors ≤ 100) {blk : Nat → Nat → PS → Res Unit} {d : Nat} (hb : ∀ (id d : Nat), ValOk s B id ((d : Int) + 1) (blk id d)) : FlowOk s B (d + 2) (itemS s B blk d) := by
  intro t t' id hw h0 h
  unfold itemS at h
  simp only at h
  have s0 := Step.skipTo hw
  split at h
  · obtain ⟨_, t1, h1, h2⟩ := Res.bind_ok_iff h
    have s1 := s0.andThen (goBelowM_ok s0.wf h1)
    obtain ⟨id1, t2, h3, h4⟩ := Res.bind_ok_iff h2
    obtain ⟨hlv, rfl, _, hz, hid, s2⟩ := beginM_ok hN s1.wf h3
    obtain ⟨_, t3, h5, h6⟩ := Res.bind_ok_iff h4
    obtain ⟨a, b, c⟩ := hb _ (d + 1) t2 t3 _ s2.wf hid (by omega) (by push_cast; omega) h5
    cases h6
    exact ⟨(s1.andThen s2).trans a (fun j e => by cases e; right; exact s1.len), b, by push_cast at c; omega⟩
  · split at h
    · rename_i hk
      obtain ⟨a, b, c⟩ := namedM_ok hN hA (fun id => namedItemS_ok hD hN hA hb) s0.wf h0 (kindAt_lt (by simp only; omega)) h
      exact ⟨s0.andThen a, b, c⟩
    · obtain ⟨id1, t1, h1, h2⟩ := Res.bind_ok_iff h
      obtain ⟨a, b, c⟩ := flowM_ok hD hN hA 21 _ _ _ _ s0.wf h0 h1
      obtain ⟨_, t2, h3, h4⟩ := Res.bind_ok_iff h2
      have s2 := endLineM_ok a.wf h3
      cases h4
      have e := s2.highKeep (highOf_lt b) (by simp)
      rw [e]
      exact ⟨(s0.andThen a).andThen s2, b, c⟩

theorem blockLoop_ok {s : ByteArray} {B : Bud} {it : PS → Res Nat} {id d : Nat} {isMap : Bool} (hD : B.depth ≤ 20) (hi : FlowOk s B (d + 2) it) (hlv : (d : Int) + 1 ≤ B.depth) (n : Nat) :
    ∀ keys parts t t' u, WF s t → id < t.nodes.length → (∀ x ∈ parts, highOf t.nodes x ≠ 0 ∧ (highOf t.nodes x : Int) + (d + 1) ≤ B.depth) → blockLoop s it id d isMap n keys parts t = .ok u t' →
      Step s (some id) t t' ∧ highOf t'.nodes id ≠ 0 ∧ (highOf t'.nodes id : Int) + (d + 1) ≤ B.depth + 1 := by
  induction n with
  | zero => intro keys parts t t' u _ _ _ h; cases h
  | succ n ih =>
    intro keys parts t t' u hw hid hp h
    unfold blockLoop at h
    obtain ⟨keys1, t1, h1, h2⟩ := Res.bind_ok_iff h
    have s1 : Step s none t t1 := by
      cases isMap with
      | true => exact (keyM_ok hw h1).1
      | false =>
        obtain ⟨_, t3, h3, h4⟩ := Res.bind_ok_iff h1
        cases h4
        exact (expectM_ok (by omega) hw h3).1
    obtain ⟨x, t2, h3, h4⟩ := Res.bind_ok_iff h2
    obtain ⟨s2, n2, b2⟩ := hi t1 t2 x s1.wf (by omega) h3
    have s3 := (s1.andThen s2).andThen (Step.skipTo s2.wf)
    have hp2 : ∀ y ∈ parts ++ [x], highOf t2.nodes y ≠ 0 ∧ (highOf t2.nodes y : Int) + (d + 1) ≤ B.depth := by
      intro y hy
      rcases List.mem_append.1 hy with hy | hy
      · obtain ⟨a, b⟩ := hp y hy
        rw [(s1.andThen s2).highKeep (highOf_lt a) (by simp)]; exact ⟨a, b⟩
      · have := List.mem_singleton.1 hy
        subst this
        exact ⟨n2, by omega⟩
    simp only at h4
    split at h4
    · cases h4
      obtain ⟨a, b, c⟩ := endM_step (B := B) (lv := d + 1) (n := { NodeV.blank with kind := if isMap then 2 else 1, keys := keys1, parts := parts ++ [x] }) s3.wf (Nat.lt_of_lt_of_le hid s3.len) (by omega) hD hlv (fun y hy => (hp2 y hy).2)
      exact ⟨s3.weak.trans a (fun j e => .inl e), b, c⟩
    · split at h4
      · cases h4
      · obtain ⟨a, b, c⟩ := ih _ _ _ t' u s3.wf (Nat.lt_of_lt_of_le hid s3.len) hp2 h4
        exact ⟨s3.weak.trans a (fun j e => .inl e), b, c⟩

theorem blockM_ok {s : ByteArray} {B : Bud} (hD : B.depth ≤ 20) (hN : B.nodes ≤ 500) (hA : B.anchors ≤ 100) (f : Nat) : ∀ (id d : Nat), ValOk s B id ((d : Int) + 1) (blockM s B f id d) := by
  induction f with
  | zero => intro id d t t' u _ _ _ _ h; cases h
  | succ f ih =>
    intro id d t t' u hw hid h0 hlv h
    unfold blockM at h
    have s0 := Step.skipTo hw
    obtain ⟨a, b, c⟩ := blockLoop_ok hD (itemS_ok hD hN hA ih) hlv _ _ _ _ t' u s0.wf (Nat.lt_of_lt_of_le hid s0.len) (fun x hx => by cases hx) h
    exact ⟨s0.weak.trans a (fun j e => .inl e), b, c⟩

end Go.Proofs.YtkflkmmbakccoaaGreatDoor

/- THE PLAIN FUNCTIONS: how many keys and parts there are at most. No program is named here. -/
namespace Go.Proofs.YtkflkmmbakccoaaGreatDoor

theorem keyM_len {s : ByteArray} {t t' : PS} {ks ks' : List ByteArray} (h : keyM s ks t = .ok ks' t') : ks'.length = ks.length + 1 := by
  unfold keyM at h
  split at h
  · obtain ⟨x, t1, h1, h2⟩ := Res.bind_ok_iff h
    split at h2
    · cases h2
    · obtain ⟨_, t2, h3, h4⟩ := Res.bind_ok_iff h2
      cases h4
      simp
  · cases h

theorem inLoop_len {s : ByteArray} {B : Bud} {lv : Int} {fl : PS → Res Nat} {isMap : Bool} {closing : Int} (hc : closing ≠ 0) (h0 : 0 ≤ lv) (hf : FlowOk s B (lv + 1) fl) (n : Nat) :
    ∀ keys parts t r t', WF s t → keys.length ≤ t.k → parts.length ≤ t.k → inLoop s fl isMap closing n keys parts t = .ok r t' → r.1.length ≤ t'.k ∧ r.2.length ≤ t'.k := by
  induction n with
  | zero => intro keys parts t r t' _ _ _ h; cases h
  | succ n ih =>
    intro keys parts t r t' hw hk hp h
    unfold inLoop at h
    obtain ⟨keys1, t1, h1, h2⟩ := Res.bind_ok_iff h
    have s1 : Step s none t t1 ∧ keys1.length ≤ t1.k := by
      cases isMap with
      | false => cases h1; exact ⟨Step.refl _ hw, hk⟩
      | true => have a := keyM_ok hw h1; have b := keyM_len h1; exact ⟨a.1, by omega⟩
    obtain ⟨x, t2, h3, h4⟩ := Res.bind_ok_iff h2
    obtain ⟨s2, n2, b2⟩ := hf t1 t2 x s1.1.wf (by omega) h3
    have s3 := Step.skipTo s2.wf
    have k1 := s1.1.k
    have k2 := s2.k
    have k3 := s3.k
    simp only at k3
    split at h4
    · rename_i h6
      have hl := kindAt_lt (s := s) (q := skipBl s t2.k) (by omega)
      have s4 : Step s none t2 { t2 with k := skipBl s t2.k + 1 } := Step.move s2.wf (by omega) (by omega)
      exact ih _ _ _ r t' s4.wf (by simp only; omega) (by simp; omega) h4
    · obtain ⟨_, t3, h5, h6⟩ := Res.bind_ok_iff h4
      have s5 := expectM_ok hc s3.wf h5
      have k5 := s5.2
      simp only at k5
      cases h6
      exact ⟨by simp only; omega, by simp; omega⟩

theorem bracketsM_len {s : ByteArray} {B : Bud} {lv : Int} {fl : PS → Res Nat} {isMap : Bool} {closing : Int} (hc : closing ≠ 0) (h0 : 0 ≤ lv) (hf : FlowOk s B (lv + 1) fl) {t t' : PS} {r : List ByteArray × List Nat} (hw : WF s t) (hk : t.k < s.size)
    (h : bracketsM s fl isMap closing t = .ok r t') : r.1.length ≤ t'.k ∧ r.2.length ≤ t'.k := by
  unfold bracketsM at h
  simp only at h
  have s0 : Step s none t { t with k := t.k + 1 } := Step.move hw (by omega) (by omega)
  have s1 := s0.andThen (Step.skipTo s0.wf)
  split at h
  · cases h; simp
  · exact inLoop_len hc h0 hf _ _ _ _ r t' s1.wf (by simp) (by simp) h

end Go.Proofs.YtkflkmmbakccoaaGreatDoor

/- THE PLAIN FUNCTIONS: blanks are passed once. No program is named here. -/
namespace Go.Proofs.YtkflkmmbakccoaaGreatDoor

theorem skipBl_idem (s : ByteArray) (k : Nat) : skipBl s (skipBl s k) = skipBl s k := by
  by_cases h : k < s.size
  · by_cases hb : byteAt s k = 32
    · rw [skipBl_blank s k h hb]
      exact skipBl_idem s (k + 1)
    · rw [skipBl_stop s k h hb, skipBl_stop s k h hb]
  · rw [skipBl_end s k h, skipBl_end s k h]
termination_by s.size - k

end Go.Proofs.YtkflkmmbakccoaaGreatDoor

/- THE PLAIN FUNCTIONS: the lines of a text. No program is named here. -/
namespace Go.Proofs.YtkflkmmbakccoaaGreatDoor

/-- Where a line ends: at a newline, or at the text's end. -/
def lEnd (s : ByteArray) (k : Nat) : Nat := if h : k < s.size then (if byteAt s k = 10 then k else lEnd s (k + 1)) else k
termination_by s.size - k

theorem lEnd_ge (s : ByteArray) (k : Nat) : k ≤ lEnd s k := by
  rw [lEnd]; split
  · split
    · omega
    · have := lEnd_ge s (k + 1); omega
  · omega
termination_by s.size - k

theorem lEnd_le (s : ByteArray) (k : Nat) (h : k ≤ s.size) : lEnd s k ≤ s.size := by
  rw [lEnd]; split
  · split
    · exact h
    · exact lEnd_le s (k + 1) (by omega)
  · exact h
termination_by s.size - k

theorem lEnd_go (s : ByteArray) (k : Nat) (h : k < s.size) (hb : byteAt s k ≠ 10) : lEnd s k = lEnd s (k + 1) := by
  rw [lEnd]; simp [h, hb]
theorem lEnd_stop (s : ByteArray) (k : Nat) (h : k < s.size) (hb : byteAt s k = 10) : lEnd s k = k := by
  rw [lEnd]; simp [h, hb]
theorem lEnd_end (s : ByteArray) (k : Nat) (h : ¬ k < s.size) : lEnd s k = k := by
  rw [lEnd]; simp [h]

/-- A line's end is a newline or the text's end. -/
theorem lEnd_is (s : ByteArray) (k : Nat) : lEnd s k < s.size → byteAt s (lEnd s k) = 10 := by
  by_cases h : k < s.size
  · by_cases hb : byteAt s k = 10
    · rw [lEnd_stop s k h hb]; exact fun _ => hb
    · rw [lEnd_go s k h hb]; exact lEnd_is s (k + 1)
  · rw [lEnd_end s k h]; exact fun hc => absurd hc h
termination_by s.size - k

/-- A line that says something: how far it stands in, where it begins behind the blanks, where it ends. -/
structure LineV where
  ind : Nat
  at' : Nat
  en : Nat

/-- The lines from a place on (the beginning of a line, or the end of one). -/
def linesFrom (s : ByteArray) (k : Nat) : List LineV :=
  if _h : (nlGo s k k).2 < s.size ∧ k < lEnd s (nlGo s k k).2 ∧ k ≤ s.size then ⟨(nlGo s k k).1, (nlGo s k k).2, lEnd s (nlGo s k k).2⟩ :: linesFrom s (lEnd s (nlGo s k k).2) else []
termination_by s.size + 1 - k
decreasing_by
  have := lEnd_le s (nlGo s k k).2 (by omega)
  omega

/-- What nlGo stops at is neither a blank nor a newline. -/
theorem nlGo_at (s : ByteArray) (a k : Nat) (h : (nlGo s a k).2 < s.size) : byteAt s (nlGo s a k).2 ≠ 10 ∧ byteAt s (nlGo s a k).2 ≠ 32 := by
  by_cases hk : k < s.size
  · by_cases hb : byteAt s k = 10
    · rw [nlGo_nl s a k hk hb] at h ⊢; exact nlGo_at s (k + 1) (k + 1) h
    · by_cases hb' : byteAt s k = 32
      · rw [nlGo_bl s a k hk hb'] at h ⊢; exact nlGo_at s a (k + 1) h
      · rw [nlGo_stop s a k hk hb hb']; exact ⟨hb, hb'⟩
  · rw [nlGo_end s a k hk] at h; exact absurd h hk
termination_by s.size - k

theorem linesFrom_cons (s : ByteArray) (k : Nat) (hk : k ≤ s.size) (h : (nlGo s k k).2 < s.size) :
    linesFrom s k = ⟨(nlGo s k k).1, (nlGo s k k).2, lEnd s (nlGo s k k).2⟩ :: linesFrom s (lEnd s (nlGo s k k).2) := by
  conv => lhs; rw [linesFrom]
  have h1 := nlGo_at s k k h
  have h2 := (nlGo_le s k k hk).1
  have h3 := lEnd_ge s ((nlGo s k k).2 + 1)
  rw [dif_pos ⟨h, by rw [lEnd_go s _ h h1.1]; omega, hk⟩]

theorem linesFrom_nil (s : ByteArray) (k : Nat) (h : ¬ (nlGo s k k).2 < s.size) : linesFrom s k = [] := by
  rw [linesFrom, dif_neg (fun c => h c.1)]

theorem linesFrom_nl (s : ByteArray) (k : Nat) (h : k < s.size) (hb : byteAt s k = 10) : linesFrom s k = linesFrom s (k + 1) := by
  have e := nlGo_nl s k k h hb
  by_cases hn : (nlGo s k k).2 < s.size
  · rw [linesFrom_cons s k (by omega) hn, linesFrom_cons s (k + 1) (by omega) (by rw [← e]; exact hn), e]
  · rw [linesFrom_nil s k hn, linesFrom_nil s (k + 1) (by rw [← e]; exact hn)]

/-- Blanks up to k: a line that has begun at a. -/
theorem nlGo_from (s : ByteArray) (a k : Nat) (h : a ≤ k) (hk : k ≤ s.size) (hb : ∀ j, a ≤ j → j < k → byteAt s j = 32) (b : Nat) : nlGo s b a = nlGo s b k := by
  by_cases e : a = k
  · rw [e]
  · rw [nlGo_bl s b a (by omega) (hb a (Nat.le_refl _) (by omega))]
    exact nlGo_from s (a + 1) k (by omega) hk (fun j hj => hb j (by omega)) b
termination_by k - a

theorem lEnd_from (s : ByteArray) (a k : Nat) (h : a ≤ k) (hk : k ≤ s.size) (hb : ∀ j, a ≤ j → j < k → byteAt s j ≠ 10) : lEnd s a = lEnd s k := by
  by_cases e : a = k
  · rw [e]
  · rw [lEnd_go s a (by omega) (hb a (Nat.le_refl _) (by omega))]
    exact lEnd_from s (a + 1) k (by omega) hk (fun j hj => hb j (by omega))
termination_by k - a

/-- One line of the loop over a text: it begins at a, ends at i (a newline, or the text's end); its first byte that is no blank stands at k. -/
theorem lines_line (s : ByteArray) (a k i : Nat) (hak : a ≤ k) (hki : k < i) (hi : i ≤ s.size) (hb : ∀ j, a ≤ j → j < k → byteAt s j = 32) (hk : byteAt s k ≠ 32) (hn : ∀ j, a ≤ j → j < i → byteAt s j ≠ 10) (he : i < s.size → byteAt s i = 10) :
    linesFrom s a = ⟨k - a, k, i⟩ :: linesFrom s (i + 1) := by
  have e1 : nlGo s a a = (k - a, k) := by
    rw [nlGo_from s a k hak (by omega) hb a, nlGo_stop s a k (by omega) (hn k hak hki) hk]
  have e2 : lEnd s k = i := by
    rw [lEnd_from s k i (by omega) hi (fun j hj hji => hn j (by omega) hji)]
    by_cases hlt : i < s.size
    · exact lEnd_stop s i hlt (he hlt)
    · exact lEnd_end s i hlt
  rw [linesFrom_cons s a (by omega) (by rw [e1]; simp only; omega), e1]
  simp only [e2]
  congr 1
  by_cases hlt : i < s.size
  · exact linesFrom_nl s i hlt (he hlt)
  · have hi' : i = s.size := by omega
    rw [linesFrom_nil s i (by rw [nlGo_end s i i (by omega)]; simp only; omega), linesFrom_nil s (i + 1) (by rw [nlGo_end s (i + 1) (i + 1) (by omega)]; simp only; omega)]

/-- A line of blanks alone. -/
theorem lines_blank (s : ByteArray) (a i : Nat) (hai : a ≤ i) (hi : i ≤ s.size) (hb : ∀ j, a ≤ j → j < i → byteAt s j = 32) (he : i < s.size → byteAt s i = 10) : linesFrom s a = linesFrom s (i + 1) := by
  have e1 : nlGo s a a = nlGo s a i := nlGo_from s a i hai hi hb a
  by_cases hlt : i < s.size
  · have e2 : nlGo s a a = nlGo s (i + 1) (i + 1) := by rw [e1, nlGo_nl s a i hlt (he hlt)]
    by_cases hn : (nlGo s a a).2 < s.size
    · rw [linesFrom_cons s a (by omega) hn, linesFrom_cons s (i + 1) (by omega) (by rw [← e2]; exact hn), e2]
    · rw [linesFrom_nil s a hn, linesFrom_nil s (i + 1) (by rw [← e2]; exact hn)]
  · rw [linesFrom_nil s a (by rw [e1, nlGo_end s a i hlt]; exact hlt), linesFrom_nil s (i + 1) (by rw [nlGo_end s (i + 1) (i + 1) (by omega)]; simp only; omega)]

end Go.Proofs.YtkflkmmbakccoaaGreatDoor
