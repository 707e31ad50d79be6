/- PARTS: Mod14, Mod6. -/
import Derived.Test.YtkflkmmbakccoaaGreatDoorJ13
import Derived.Test.YtkflkmmbakccoaaGreatDoorJ8

/- THE PLAIN FUNCTIONS: what a text that is let in does under another budget: it is let in, the same, or refused for that of which too little is given. No program is named here. -/
namespace Go.Proofs.YtkflkmmbakccoaaGreatDoor

/-- Under another budget: the same, where depth D, the nodes and the anchors are given; or refused for one of them. -/
def Fall (B' : Bud) (D : Int) (t' : PS) {α : Type} (a : α) (r : Res α) : Prop :=
  (r = .ok a t' ∧ D ≤ B'.depth ∧ (t'.nodes.length : Int) ≤ B'.nodes ∧ (t'.anchors : Int) ≤ B'.anchors) ∨ (∃ p, r = .bad 4 p ∧ B'.depth < D) ∨ (∃ p, r = .bad 5 p ∧ B'.nodes < (t'.nodes.length : Int)) ∨ (∃ p, r = .bad 6 p ∧ B'.anchors < (t'.anchors : Int))

theorem Fall.bind {B' : Bud} {D1 D : Int} {t1 t' : PS} {α β : Type} {a : α} {b : β} {r : Res α} {f : α → PS → Res β} (h : Fall B' D1 t1 a r) (hD : D1 ≤ D) (hn : t1.nodes.length ≤ t'.nodes.length) (ha : t1.anchors ≤ t'.anchors)
    (hf : D1 ≤ B'.depth → (t1.nodes.length : Int) ≤ B'.nodes → (t1.anchors : Int) ≤ B'.anchors → Fall B' D t' b (f a t1)) : Fall B' D t' b (r.bind f) := by
  rcases h with ⟨rfl, h1, h2, h3⟩ | ⟨p, rfl, h1⟩ | ⟨p, rfl, h1⟩ | ⟨p, rfl, h1⟩
  · exact hf h1 h2 h3
  · exact .inr (.inl ⟨p, rfl, by omega⟩)
  · exact .inr (.inr (.inl ⟨p, rfl, by omega⟩))
  · exact .inr (.inr (.inr ⟨p, rfl, by omega⟩))

/-- The nodes and the anchors are the same. -/
def Same (t t' : PS) : Prop := t'.nodes = t.nodes ∧ t'.anchors = t.anchors

theorem Same.trans {t u v : PS} (h : Same t u) (k : Same u v) : Same t v := ⟨k.1.trans h.1, k.2.trans h.2⟩

theorem readM_same {s : ByteArray} {t t' : PS} {x : ByteArray} (h : readM s t = .ok x t') : Same t t' := by
  unfold readM at h
  split at h
  · cases h; exact ⟨rfl, rfl⟩
  · cases h
theorem wordM_same {s : ByteArray} {t t' : PS} {x : ByteArray} (h : wordM s t = .ok x t') : Same t t' := by
  unfold wordM at h
  split at h
  · have e := readM_same h
    exact ⟨e.1, e.2⟩
  · cases h
theorem expectM_same {s : ByteArray} {t t' : PS} {kd : Int} {x : Unit} (h : expectM s kd t = .ok x t') : Same t t' := by
  unfold expectM at h
  split at h
  · cases h; exact ⟨rfl, rfl⟩
  · cases h
theorem keyM_same {s : ByteArray} {t t' : PS} {ks ks' : List ByteArray} (h : keyM s ks t = .ok ks' t') : Same t t' := by
  unfold keyM at h
  split at h
  · obtain ⟨x, t1, h1, h2⟩ := Res.bind_ok_iff h
    split at h2
    · cases h2
    · obtain ⟨_, t2, h3, h4⟩ := Res.bind_ok_iff h2
      cases h4
      have a := readM_same h1
      have b := expectM_same h3
      exact ⟨b.1.trans a.1, b.2.trans a.2⟩
  · cases h
theorem endLineM_same {s : ByteArray} {t t' : PS} {u : Unit} (h : endLineM s t = .ok u t') : Same t t' := by
  unfold endLineM at h
  split at h
  · cases h; exact ⟨rfl, rfl⟩
  · cases h
theorem goBelowM_same {s : ByteArray} {t t' : PS} {d : Nat} {u : Unit} (h : goBelowM s d t = .ok u t') : Same t t' := by
  unfold goBelowM at h
  simp only at h
  split at h
  · cases h; exact ⟨rfl, rfl⟩
  · cases h

/-- The greatest height of some nodes. -/
def hiMax (nodes : List NodeV) (parts : List Nat) : Nat := parts.foldl (fun a i => max a (highOf nodes i)) 0

theorem foldl_max_up (f : Nat → Nat) (l : List Nat) (a : Nat) : a ≤ l.foldl (fun a i => max a (f i)) a ∧ ∀ x ∈ l, f x ≤ l.foldl (fun a i => max a (f i)) a := by
  induction l generalizing a with
  | nil => exact ⟨Nat.le_refl _, fun x hx => by cases hx⟩
  | cons y l ih =>
    obtain ⟨h1, h2⟩ := ih (max a (f y))
    simp only [List.foldl_cons]
    refine ⟨by omega, fun x hx => ?_⟩
    rcases List.mem_cons.1 hx with rfl | hx
    · omega
    · exact h2 x hx

theorem hiMax_ge {nodes : List NodeV} {parts : List Nat} {x : Nat} (h : x ∈ parts) : highOf nodes x ≤ hiMax nodes parts := (foldl_max_up (highOf nodes) parts 0).2 x h

theorem hiMax_le {nodes : List NodeV} {parts : List Nat} {c : Int} (h0 : 0 ≤ c) (h : ∀ x ∈ parts, (highOf nodes x : Int) ≤ c) : (hiMax nodes parts : Int) ≤ c := foldl_max_le (highOf nodes) parts 0 c (by omega) h

theorem endM_high {t : PS} {id : Nat} {n : NodeV} (hid : id < t.nodes.length) : highOf (endM id n t).nodes id = hiMax t.nodes n.parts + 1 := by
  show highOf (t.nodes.set id (measured t.nodes n)) id = _
  rw [highOf_set _ _ _ _ hid, if_pos rfl]
  rfl

theorem endM_len {t : PS} {id : Nat} {n : NodeV} : (endM id n t).nodes.length = t.nodes.length := by simp [endM]

section
variable (s : ByteArray) (B B' : Bud)

/-- A reader of a node that has begun, under both budgets. -/
def ValFall (id : Nat) (lv : Int) (val val' : PS → Res Unit) : Prop :=
  ∀ t t' u, WF s t → id < t.nodes.length → 0 ≤ lv → lv ≤ B.depth → val t = .ok u t' → t.anchors ≤ t'.anchors ∧
    ((t.nodes.length : Int) ≤ B'.nodes → (t.anchors : Int) ≤ B'.anchors → lv ≤ B'.depth → Fall B' (lv + (highOf t'.nodes id : Int) - 1) t' u (val' t))

/-- A reader of a node, under both budgets. -/
def FlowFall (lv : Int) (fl fl' : PS → Res Nat) : Prop :=
  ∀ t t' id, WF s t → 0 ≤ lv → fl t = .ok id t' → t.anchors ≤ t'.anchors ∧
    ((t.nodes.length : Int) ≤ B'.nodes → (t.anchors : Int) ≤ B'.anchors → Fall B' (lv + (highOf t'.nodes id : Int) - 1) t' id (fl' t))
end

section
variable {s : ByteArray} {B B' : Bud}

theorem beginM_fall {lv : Int} {t t' : PS} {id : Nat} (h : beginM B lv t = .ok id t') (hn : (t.nodes.length : Int) ≤ B'.nodes) (ha : (t.anchors : Int) ≤ B'.anchors) : Fall B' lv t' id (beginM B' lv t) := by
  unfold beginM at h
  split at h
  · cases h
  · split at h
    · cases h
    · cases h
      unfold beginM
      by_cases h1 : B'.depth < lv
      · rw [if_pos h1]; exact .inr (.inl ⟨_, rfl, h1⟩)
      · rw [if_neg h1]
        by_cases h2 : B'.nodes ≤ (t.nodes.length : Int)
        · rw [if_pos h2]; exact .inr (.inr (.inl ⟨_, rfl, by simp; omega⟩))
        · rw [if_neg h2]; exact .inl ⟨rfl, by omega, by simp; omega, ha⟩

theorem aliasM_fall {lv : Int} {t t' : PS} {id : Nat} (h : aliasM s B lv t = .ok id t') : t.anchors ≤ t'.anchors ∧
    ((t.nodes.length : Int) ≤ B'.nodes → (t.anchors : Int) ≤ B'.anchors → Fall B' (lv + (highOf t'.nodes id : Int) - 1) t' id (aliasM s B' lv t)) := by
  unfold aliasM at h
  obtain ⟨x, t1, h1, h2⟩ := Res.bind_ok_iff h
  have e1 := wordM_same h1
  have e2 : t1.anchors = t.anchors := e1.2
  have e3 : t1.nodes = t.nodes := e1.1
  cases hl : lookM t1.names x with
  | none => rw [hl] at h2; cases h2
  | some i =>
    rw [hl] at h2
    simp only at h2
    split at h2
    · cases h2
    · cases h2
      refine ⟨by omega, fun hn ha => ?_⟩
      unfold aliasM
      rw [h1, Res.bind_ok, hl]
      show Fall _ _ _ _ (if _ then _ else _)
      by_cases hb : B'.depth < lv + (highOf t'.nodes id : Int) - 1
      · rw [if_pos hb]; exact .inr (.inl ⟨_, rfl, hb⟩)
      · rw [if_neg hb]; exact .inl ⟨rfl, by omega, by rw [e3]; exact hn, by rw [e2]; exact ha⟩

theorem namedM_fall {lv : Int} {rest rest' : Nat → PS → Res Unit} {t t' : PS} {id : Nat} (hN : B.nodes ≤ 500) (hA : B.anchors ≤ 100) (hr : ∀ id, ValOk s B id lv (rest id)) (hf : ∀ id, ValFall s B B' id lv (rest id) (rest' id)) (hw : WF s t) (h0 : 0 ≤ lv) (hk : t.k < s.size)
    (h : namedM s B lv rest t = .ok id t') : t.anchors ≤ t'.anchors ∧
    ((t.nodes.length : Int) ≤ B'.nodes → (t.anchors : Int) ≤ B'.anchors → Fall B' (lv + (highOf t'.nodes id : Int) - 1) t' id (namedM s B' lv rest' t)) := by
  unfold namedM at h
  obtain ⟨id1, t1, h1, h2⟩ := Res.bind_ok_iff h
  obtain ⟨hlv, rfl, rfl, hz, hid, s1⟩ := beginM_ok hN hw h1
  split at h2
  · cases h2
  · rename_i ha
    obtain ⟨x, t2, h3, h4⟩ := Res.bind_ok_iff h2
    have w2 : WF s { t with nodes := t.nodes ++ [NodeV.blank], anchors := t.anchors + 1, k := t.k + 1 } :=
      ⟨by simp; omega, s1.wf.nodes, by simp at ha ⊢; omega, by have := hw.names; simp; omega, s1.wf.named, s1.wf.heavy, s1.wf.high⟩
    have s2 := wordM_ok w2 h3
    obtain ⟨e1, e2⟩ := wordM_same h3
    simp only at e1 e2
    obtain ⟨_, t3, h5, h6⟩ := Res.bind_ok_iff h4
    have hid2 : t.nodes.length < t2.nodes.length := Nat.lt_of_lt_of_le hid s2.len
    obtain ⟨s3, n3, b3⟩ := hr _ t2 t3 _ s2.wf hid2 h0 hlv h5
    obtain ⟨a3, f3⟩ := hf _ t2 t3 _ s2.wf hid2 h0 hlv h5
    cases h6
    have l3 := s3.len
    have e1l : t2.nodes.length = t.nodes.length + 1 := by rw [e1]; simp
    refine ⟨by simp only; omega, fun hn hb => ?_⟩
    unfold namedM
    simp only at n3 ⊢
    refine Fall.bind (beginM_fall h1 hn hb) (by omega) (by simp; omega) (by simp only; omega) (fun d1 d2 d3 => ?_)
    by_cases hc : B'.anchors ≤ (t.anchors : Int)
    · rw [if_pos hc]; exact .inr (.inr (.inr ⟨_, rfl, by simp only; omega⟩))
    · rw [if_neg hc, h3, Res.bind_ok]
      have d2' : (t2.nodes.length : Int) ≤ B'.nodes := by simp at d2; omega
      refine Fall.bind (f3 d2' (by omega) d1) (Int.le_refl _) (Nat.le_refl _) (Nat.le_refl _) (fun g1 g2 g3 => ?_)
      exact .inl ⟨rfl, g1, g2, g3⟩

theorem flowS_fall {val val' : Nat → Int → PS → Res Unit} {lv : Int} (hN : B.nodes ≤ 500) (hA : B.anchors ≤ 100) (hv : ∀ id lv, ValOk s B id lv (val id lv)) (hf : ∀ id lv, ValFall s B B' id lv (val id lv) (val' id lv)) : FlowFall s B' lv (flowS s B val lv) (flowS s B' val' lv) := by
  intro t t' id hw h0 h
  unfold flowS at h ⊢
  simp only at h ⊢
  have s0 := Step.skipTo hw
  split at h
  · rename_i hk
    rw [if_pos hk]
    exact aliasM_fall h
  · rename_i hk
    rw [if_neg hk]
    split at h
    · rename_i hk
      rw [if_pos hk]
      exact namedM_fall hN hA (fun id => hv id lv) (fun id => hf id lv) s0.wf h0 (kindAt_lt (by simp only; omega)) h
    · rename_i hk
      rw [if_neg hk]
      split at h
      · rename_i hk
        rw [if_pos hk]
        obtain ⟨id1, t1, h1, h2⟩ := Res.bind_ok_iff h
        obtain ⟨hlv, rfl, e1, hz, hid, s1⟩ := beginM_ok hN s0.wf h1
        obtain ⟨_, t2, h3, h4⟩ := Res.bind_ok_iff h2
        obtain ⟨s2, n2, b2⟩ := hv _ lv t1 t2 _ s1.wf hid h0 hlv h3
        obtain ⟨a2, f2⟩ := hf _ lv t1 t2 _ s1.wf hid h0 hlv h3
        cases h4
        have e2 : t1.anchors = t.anchors := by rw [e1]
        have l2 := s2.len
        refine ⟨by omega, fun hn ha => ?_⟩
        refine Fall.bind (beginM_fall h1 hn ha) (by simp only at n2 ⊢; omega) l2 a2 (fun d1 d2 d3 => ?_)
        exact Fall.bind (f2 d2 d3 d1) (Int.le_refl _) (Nat.le_refl _) (Nat.le_refl _) (fun g1 g2 g3 => .inl ⟨rfl, g1, g2, g3⟩)
      · cases h

theorem inLoop_fall {lv : Int} {fl fl' : PS → Res Nat} {isMap : Bool} {closing : Int} (hc : closing ≠ 0) (h0 : 0 ≤ lv) (hf : FlowOk s B (lv + 1) fl) (hg : FlowFall s B' (lv + 1) fl fl') (n : Nat) :
    ∀ keys parts t r t', WF s t → (∀ x ∈ parts, highOf t.nodes x ≠ 0 ∧ (highOf t.nodes x : Int) + lv ≤ B.depth) → inLoop s fl isMap closing n keys parts t = .ok r t' →
      t.anchors ≤ t'.anchors ∧ (∀ y ∈ parts, y ∈ r.2) ∧
      ((t.nodes.length : Int) ≤ B'.nodes → (t.anchors : Int) ≤ B'.anchors → lv ≤ B'.depth → (∀ x ∈ parts, (highOf t.nodes x : Int) + lv ≤ B'.depth) → Fall B' (lv + (hiMax t'.nodes r.2 : Int)) t' r (inLoop s fl' isMap closing n keys parts t)) := by
  induction n with
  | zero => intro keys parts t r t' _ _ h; cases h
  | succ n ih =>
    intro keys parts t r t' hw hp h
    unfold inLoop at h
    obtain ⟨keys1, t1, h1, h2⟩ := Res.bind_ok_iff h
    have s1 : Step s none t t1 ∧ Same t t1 := by
      cases isMap with
      | false => cases h1; exact ⟨Step.refl _ hw, rfl, rfl⟩
      | true => exact ⟨(keyM_ok hw h1).1, keyM_same h1⟩
    obtain ⟨s1, m1⟩ := s1
    obtain ⟨x, t2, h3, h4⟩ := Res.bind_ok_iff h2
    obtain ⟨s2, n2, b2⟩ := hf t1 t2 x s1.wf (by omega) h3
    obtain ⟨a2, f2⟩ := hg t1 t2 x s1.wf (by omega) h3
    have s12 := s1.andThen s2
    have hp2 : ∀ y ∈ parts ++ [x], highOf t2.nodes y ≠ 0 ∧ (highOf t2.nodes y : Int) + lv ≤ B.depth := by
      intro y hy
      rcases List.mem_append.1 hy with hy | hy
      · obtain ⟨a, b⟩ := hp y hy
        rw [s12.highKeep (highOf_lt a) (by simp)]; exact ⟨a, b⟩
      · have := List.mem_singleton.1 hy
        subst this
        exact ⟨n2, by omega⟩
    have hq2 : lv + (highOf t2.nodes x : Int) ≤ B'.depth → (∀ y ∈ parts, (highOf t.nodes y : Int) + lv ≤ B'.depth) → ∀ y ∈ parts ++ [x], (highOf t2.nodes y : Int) + lv ≤ B'.depth := by
      intro hx hq y hy
      rcases List.mem_append.1 hy with hy | hy
      · rw [s12.highKeep (highOf_lt (hp y hy).1) (by simp)]; exact hq y hy
      · have := List.mem_singleton.1 hy
        subst this
        omega
    have s3 := Step.skipTo s2.wf
    have c1 : t1.anchors = t.anchors := m1.2
    have c2 : t1.nodes = t.nodes := m1.1
    split at h4
    · rename_i h6
      have hl := kindAt_lt (s := s) (q := skipBl s t2.k) (by omega)
      have s4 : Step s none t2 { t2 with k := skipBl s t2.k + 1 } := Step.move s2.wf (by have := s3.k; simp at this; omega) (by omega)
      obtain ⟨a, b, c⟩ := ih _ _ _ r t' s4.wf hp2 h4
      obtain ⟨sa, _, _⟩ := inLoop_ok hc h0 hf _ _ _ _ r t' s4.wf hp2 h4
      simp only at a c
      refine ⟨by omega, fun y hy => b y (List.mem_append_left _ hy), fun hn ha hlv hq => ?_⟩
      unfold inLoop
      rw [h1, Res.bind_ok]
      have hx : highOf t'.nodes x = highOf t2.nodes x := sa.highKeep (i := x) (highOf_lt n2) (by simp)
      have hge := hiMax_ge (nodes := t'.nodes) (b x (by simp))
      refine Fall.bind (f2 (by rw [c2]; exact hn) (by omega)) (by omega) sa.len a (fun d1 d2 d3 => ?_)
      rw [if_pos h6]
      exact c d2 d3 hlv (hq2 (by omega) hq)
    · rename_i h6
      obtain ⟨_, t3, h5, h7⟩ := Res.bind_ok_iff h4
      have s5 := expectM_ok hc s3.wf h5
      have m5 := expectM_same h5
      cases h7
      have e5 : t'.nodes = t2.nodes := m5.1
      have e6 : t'.anchors = t2.anchors := m5.2
      refine ⟨by omega, fun y hy => List.mem_append_left _ hy, fun hn ha hlv hq => ?_⟩
      unfold inLoop
      rw [h1, Res.bind_ok]
      show Fall B' (lv + (hiMax t'.nodes (parts ++ [x]) : Int)) t' _ _
      have hge := hiMax_ge (nodes := t'.nodes) (parts := parts ++ [x]) (x := x) (by simp)
      rw [e5] at hge ⊢
      refine Fall.bind (f2 (by rw [c2]; exact hn) (by omega)) (by omega) (by rw [e5]; exact Nat.le_refl _) (by omega) (fun d1 d2 d3 => ?_)
      rw [if_neg h6, h5, Res.bind_ok]
      have := hiMax_le (nodes := t2.nodes) (parts := parts ++ [x]) (c := B'.depth - lv) (by omega) (fun y hy => by have := hq2 (by omega) hq y hy; omega)
      exact .inl ⟨rfl, by omega, by rw [e5]; exact d2, by rw [e6]; exact d3⟩

theorem bracketsM_fall {lv : Int} {fl fl' : PS → Res Nat} {isMap : Bool} {closing : Int} (hc : closing ≠ 0) (h0 : 0 ≤ lv) (hf : FlowOk s B (lv + 1) fl) (hg : FlowFall s B' (lv + 1) fl fl') {t t' : PS} {r : List ByteArray × List Nat} (hw : WF s t) (hk : t.k < s.size)
    (h : bracketsM s fl isMap closing t = .ok r t') : t.anchors ≤ t'.anchors ∧
      ((t.nodes.length : Int) ≤ B'.nodes → (t.anchors : Int) ≤ B'.anchors → lv ≤ B'.depth → Fall B' (lv + (hiMax t'.nodes r.2 : Int)) t' r (bracketsM s fl' isMap closing t)) := by
  unfold bracketsM at h ⊢
  simp only at h ⊢
  have s0 : Step s none t { t with k := t.k + 1 } := Step.move hw (by omega) (by omega)
  have s1 := s0.andThen (Step.skipTo s0.wf)
  split at h
  · rename_i hk1
    rw [if_pos hk1]
    cases h
    exact ⟨Nat.le_refl _, fun hn ha hlv => .inl ⟨rfl, by simpa [hiMax] using hlv, hn, ha⟩⟩
  · rename_i hk1
    rw [if_neg hk1]
    obtain ⟨a, _, c⟩ := inLoop_fall hc h0 hf hg _ _ _ _ r t' s1.wf (fun x hx => by cases hx) h
    exact ⟨a, fun hn ha hlv => c hn ha hlv (fun x hx => by cases hx)⟩

theorem valueS_fall {fl fl' : Int → PS → Res Nat} {id : Nat} {lv : Int} (hf : ∀ lv, FlowOk s B lv (fl lv)) (hg : ∀ lv, FlowFall s B' lv (fl lv) (fl' lv)) : ValFall s B B' id lv (valueS s fl id lv) (valueS s fl' id lv) := by
  intro t t' u hw hid h0 hlv h
  unfold valueS at h ⊢
  simp only at h ⊢
  have s0 := Step.skipTo hw
  split at h
  · rename_i hk
    rw [if_pos hk]
    obtain ⟨x, t1, h1, h2⟩ := Res.bind_ok_iff h
    obtain ⟨e1, e2⟩ := readM_same h1
    simp only at e1 e2
    cases h2
    have hid1 : id < t1.nodes.length := by rw [e1]; exact hid
    refine ⟨by show t.anchors ≤ t1.anchors; omega, fun hn ha hl => ?_⟩
    rw [h1, Res.bind_ok, endM_high hid1]
    exact .inl ⟨rfl, by simp [hiMax, NodeV.blank]; omega, by rw [endM_len, e1]; exact hn, by show (t1.anchors : Int) ≤ _; omega⟩
  · rename_i hk
    rw [if_neg hk]
    split at h
    · rename_i hk
      rw [if_pos hk]
      obtain ⟨r, t1, h1, h2⟩ := Res.bind_ok_iff h
      obtain ⟨s1, hp⟩ := bracketsM_ok (by omega) h0 (hf (lv + 1)) s0.wf (kindAt_lt (by simp only; omega)) h1
      obtain ⟨a1, f1⟩ := bracketsM_fall (by omega) h0 (hf (lv + 1)) (hg (lv + 1)) s0.wf (kindAt_lt (by simp only; omega)) h1
      cases h2
      have hid1 : id < t1.nodes.length := Nat.lt_of_lt_of_le hid (s0.andThen s1).len
      refine ⟨a1, fun hn ha hl => ?_⟩
      rw [endM_high hid1]
      refine Fall.bind (f1 hn ha hl) (by simp only; omega) (by rw [endM_len]; exact Nat.le_refl _) (Nat.le_refl _) (fun g1 g2 g3 => ?_)
      exact .inl ⟨rfl, by simp only; omega, by rw [endM_len]; exact g2, g3⟩
    · rename_i hk
      rw [if_neg hk]
      split at h
      · rename_i hk
        rw [if_pos hk]
        obtain ⟨r, t1, h1, h2⟩ := Res.bind_ok_iff h
        obtain ⟨s1, hp⟩ := bracketsM_ok (by omega) h0 (hf (lv + 1)) s0.wf (kindAt_lt (by simp only; omega)) h1
        obtain ⟨a1, f1⟩ := bracketsM_fall (by omega) h0 (hf (lv + 1)) (hg (lv + 1)) s0.wf (kindAt_lt (by simp only; omega)) h1
        cases h2
        have hid1 : id < t1.nodes.length := Nat.lt_of_lt_of_le hid (s0.andThen s1).len
        refine ⟨a1, fun hn ha hl => ?_⟩
        rw [endM_high hid1]
        refine Fall.bind (f1 hn ha hl) (by simp only; omega) (by rw [endM_len]; exact Nat.le_refl _) (Nat.le_refl _) (fun g1 g2 g3 => ?_)
        exact .inl ⟨rfl, by simp only; omega, by rw [endM_len]; exact g2, g3⟩
      · cases h

theorem flowM_fall (hD : B.depth ≤ 20) (hN : B.nodes ≤ 500) (hA : B.anchors ≤ 100) (f : Nat) : ∀ lv, FlowFall s B' lv (flowM s B f lv) (flowM s B' f lv) := by
  induction f with
  | zero => intro lv; exact flowS_fall hN hA (fun _ _ t t' u _ _ _ _ h => by cases h) (fun _ _ t t' u _ _ _ _ h => by cases h)
  | succ f ih => intro lv; exact flowS_fall hN hA (fun id lv => valueS_ok hD (flowM_ok hD hN hA f)) (fun id lv => valueS_fall (flowM_ok hD hN hA f) ih)

theorem valueM_fall (hD : B.depth ≤ 20) (hN : B.nodes ≤ 500) (hA : B.anchors ≤ 100) (f : Nat) (id : Nat) (lv : Int) : ValFall s B B' id lv (valueM s B f id lv) (valueM s B' f id lv) := valueS_fall (flowM_ok hD hN hA f) (flowM_fall hD hN hA f)

theorem namedItemS_fall (hD : B.depth ≤ 20) (hN : B.nodes ≤ 500) (hA : B.anchors ≤ 100) {blk blk' : Nat → Nat → PS → Res Unit} {d id : Nat} (hf : ∀ (id d : Nat), ValFall s B B' id ((d : Int) + 1) (blk id d) (blk' id d)) : ValFall s B B' id (d + 2) (namedItemS s B blk d id) (namedItemS s B' blk' d id) := by
  intro t t' u hw hid h0 hlv h
  unfold namedItemS at h ⊢
  simp only at h ⊢
  have s0 := Step.skipTo hw
  split at h
  · rename_i hk
    rw [if_pos hk]
    obtain ⟨_, t1, h1, h2⟩ := Res.bind_ok_iff h
    have s1 := s0.andThen (goBelowM_ok s0.wf h1)
    obtain ⟨e1, e2⟩ := goBelowM_same h1
    simp only at e1 e2
    obtain ⟨a, c⟩ := hf id (d + 1) t1 t' u s1.wf (Nat.lt_of_lt_of_le hid s1.len) (by omega) (by push_cast; omega) h2
    refine ⟨by omega, fun hn ha hl => ?_⟩
    rw [h1, Res.bind_ok]
    have g := c (by rw [e1]; exact hn) (by omega) (by push_cast; omega)
    have e : ((d + 1 : Nat) : Int) + 1 + (highOf t'.nodes id : Int) - 1 = (d : Int) + 2 + (highOf t'.nodes id : Int) - 1 := by push_cast; omega
    rw [e] at g
    exact g
  · rename_i hk
    rw [if_neg hk]
    obtain ⟨_, t1, h1, h2⟩ := Res.bind_ok_iff h
    obtain ⟨a, b, c⟩ := valueM_ok hD hN hA 21 id (d + 2) _ t1 _ s0.wf (Nat.lt_of_lt_of_le hid s0.len) h0 hlv h1
    obtain ⟨a1, f1⟩ := valueM_fall (B' := B') hD hN hA 21 id (d + 2) _ t1 _ s0.wf (Nat.lt_of_lt_of_le hid s0.len) h0 hlv h1
    obtain ⟨e1, e2⟩ := endLineM_same h2
    simp only at a1
    refine ⟨by omega, fun hn ha hl => ?_⟩
    rw [e1]
    refine Fall.bind (f1 hn ha hl) (Int.le_refl _) (by rw [e1]; exact Nat.le_refl _) (by omega) (fun g1 g2 g3 => ?_)
    rw [h2]
    exact .inl ⟨rfl, g1, by rw [e1]; exact g2, by rw [e2]; exact g3⟩

theorem itemS_fall (hD : B.depth ≤ 20) (hN : B.nodes ≤ 500) (hA : B.anchors ≤ 100) {blk blk' : Nat → Nat → PS → Res Unit} {d : Nat} (hb : ∀ (id d : Nat), ValOk s B id ((d : Int) + 1) (blk id d)) (hf : ∀ (id d : Nat), ValFall s B B' id ((d : Int) + 1) (blk id d) (blk' id d)) : FlowFall s B' (d + 2) (itemS s B blk d) (itemS s B' blk' d) := by
  intro t t' id hw h0 h
  unfold itemS at h ⊢
  simp only at h ⊢
  have s0 := Step.skipTo hw
  split at h
  · rename_i hk
    rw [if_pos hk]
    obtain ⟨_, t1, h1, h2⟩ := Res.bind_ok_iff h
    have s1 := s0.andThen (goBelowM_ok s0.wf h1)
    obtain ⟨e1, e2⟩ := goBelowM_same h1
    simp only at e1 e2
    obtain ⟨id1, t2, h3, h4⟩ := Res.bind_ok_iff h2
    obtain ⟨hlv, rfl, q1, hz, hid, s2⟩ := beginM_ok hN s1.wf h3
    obtain ⟨_, t3, h5, h6⟩ := Res.bind_ok_iff h4
    obtain ⟨a, b, c⟩ := hb _ (d + 1) t2 t3 _ s2.wf hid (by omega) (by push_cast; omega) h5
    obtain ⟨a3, f3⟩ := hf _ (d + 1) t2 t3 _ s2.wf hid (by omega) (by push_cast; omega) h5
    cases h6
    have q2 : t2.anchors = t1.anchors := by rw [q1]
    refine ⟨by omega, fun hn ha => ?_⟩
    rw [h1, Res.bind_ok]
    refine Fall.bind (beginM_fall h3 (by rw [e1]; exact hn) (by omega)) (by omega) a.len a3 (fun d1 d2 d3 => ?_)
    have g := f3 d2 d3 (by push_cast; omega)
    have e : ((d + 1 : Nat) : Int) + 1 + (highOf t'.nodes t1.nodes.length : Int) - 1 = (d : Int) + 2 + (highOf t'.nodes t1.nodes.length : Int) - 1 := by push_cast; omega
    rw [e] at g
    exact Fall.bind g (Int.le_refl _) (Nat.le_refl _) (Nat.le_refl _) (fun g1 g2 g3 => .inl ⟨rfl, g1, g2, g3⟩)
  · rename_i hk
    rw [if_neg hk]
    split at h
    · rename_i hk
      rw [if_pos hk]
      exact namedM_fall hN hA (fun id => namedItemS_ok hD hN hA hb) (fun id => namedItemS_fall hD hN hA hf) s0.wf h0 (kindAt_lt (by simp only; omega)) h
    · rename_i hk
      rw [if_neg hk]
      obtain ⟨id1, t1, h1, h2⟩ := Res.bind_ok_iff h
      obtain ⟨a, b, c⟩ := flowM_ok hD hN hA 21 _ _ _ _ s0.wf h0 h1
      obtain ⟨a1, f1⟩ := flowM_fall (B' := B') hD hN hA 21 _ _ _ _ s0.wf h0 h1
      obtain ⟨_, t2, h3, h4⟩ := Res.bind_ok_iff h2
      obtain ⟨e1, e2⟩ := endLineM_same h3
      cases h4
      simp only at a1
      refine ⟨by omega, fun hn ha => ?_⟩
      rw [e1]
      refine Fall.bind (f1 hn ha) (Int.le_refl _) (by rw [e1]; exact Nat.le_refl _) (by omega) (fun g1 g2 g3 => ?_)
      rw [h3, Res.bind_ok]
      exact .inl ⟨rfl, g1, by rw [e1]; exact g2, by rw [e2]; exact g3⟩

theorem blockLoop_fall {it it' : PS → Res Nat} {id d : Nat} {isMap : Bool} (hD : B.depth ≤ 20) (hi : FlowOk s B (d + 2) it) (hg : FlowFall s B' (d + 2) it it') (hlv : (d : Int) + 1 ≤ B.depth) (n : Nat) :
    ∀ keys parts t t' u, WF s t → id < t.nodes.length → (∀ x ∈ parts, highOf t.nodes x ≠ 0 ∧ (highOf t.nodes x : Int) + (d + 1) ≤ B.depth) → blockLoop s it id d isMap n keys parts t = .ok u t' →
      t.anchors ≤ t'.anchors ∧ (∀ y ∈ parts, highOf t.nodes y + 1 ≤ highOf t'.nodes id) ∧
      ((t.nodes.length : Int) ≤ B'.nodes → (t.anchors : Int) ≤ B'.anchors → (d : Int) + 1 ≤ B'.depth → (∀ x ∈ parts, (highOf t.nodes x : Int) + (d + 1) ≤ B'.depth) → Fall B' ((d : Int) + 1 + (highOf t'.nodes id : Int) - 1) t' u (blockLoop s it' id d isMap n keys parts t)) := by
  induction n with
  | zero => intro keys parts t t' u _ _ _ h; cases h
  | succ n ih =>
    intro keys parts t t' u hw hid hp h
    have hall := blockLoop_ok hD hi hlv (n + 1) keys parts t t' u hw hid hp h
    unfold blockLoop at h
    obtain ⟨keys1, t1, h1, h2⟩ := Res.bind_ok_iff h
    have s1 : Step s none t t1 ∧ Same t t1 := by
      cases isMap with
      | true => exact ⟨(keyM_ok hw h1).1, keyM_same h1⟩
      | false =>
        obtain ⟨_, t3, h3, h4⟩ := Res.bind_ok_iff h1
        cases h4
        exact ⟨(expectM_ok (by omega) hw h3).1, expectM_same h3⟩
    obtain ⟨s1, m1⟩ := s1
    have c1 : t1.anchors = t.anchors := m1.2
    have c2 : t1.nodes = t.nodes := m1.1
    obtain ⟨x, t2, h3, h4⟩ := Res.bind_ok_iff h2
    obtain ⟨s2, n2, b2⟩ := hi t1 t2 x s1.wf (by omega) h3
    obtain ⟨a2, f2⟩ := hg t1 t2 x s1.wf (by omega) h3
    have s12 := s1.andThen s2
    have s3 := s12.andThen (Step.skipTo s2.wf)
    have hp2 : ∀ y ∈ parts ++ [x], highOf t2.nodes y ≠ 0 ∧ (highOf t2.nodes y : Int) + (d + 1) ≤ B.depth := by
      intro y hy
      rcases List.mem_append.1 hy with hy | hy
      · obtain ⟨a, b⟩ := hp y hy
        rw [s12.highKeep (highOf_lt a) (by simp)]; exact ⟨a, b⟩
      · have := List.mem_singleton.1 hy
        subst this
        exact ⟨n2, by omega⟩
    have hq2 : (d : Int) + 1 + (highOf t2.nodes x : Int) ≤ B'.depth → (∀ y ∈ parts, (highOf t.nodes y : Int) + (d + 1) ≤ B'.depth) → ∀ y ∈ parts ++ [x], (highOf t2.nodes y : Int) + (d + 1) ≤ B'.depth := by
      intro hx hq y hy
      rcases List.mem_append.1 hy with hy | hy
      · rw [s12.highKeep (highOf_lt (hp y hy).1) (by simp)]; exact hq y hy
      · have := List.mem_singleton.1 hy
        subst this
        omega
    simp only at h4
    split at h4
    · rename_i h6
      cases h4
      have hid3 : id < t2.nodes.length := Nat.lt_of_lt_of_le hid s3.len
      have hh := endM_high (t := { t2 with k := skipBl s t2.k }) (n := { NodeV.blank with kind := if isMap then 2 else 1, keys := keys1, parts := parts ++ [x] }) (id := id) hid3
      simp only at hh
      have hge : ∀ y ∈ parts ++ [x], highOf t2.nodes y ≤ hiMax t2.nodes (parts ++ [x]) := fun y hy => hiMax_ge hy
      refine ⟨by show t.anchors ≤ t2.anchors; omega, fun y hy => ?_, fun hn ha hl hq => ?_⟩
      · rw [hh]
        have g := hge y (List.mem_append_left _ hy)
        rw [s12.highKeep (highOf_lt (hp y hy).1) (by simp)] at g
        omega
      · unfold blockLoop
        rw [h1, Res.bind_ok, hh]
        have g := hge x (by simp)
        refine Fall.bind (f2 (by rw [c2]; exact hn) (by omega)) (by omega) (by rw [endM_len]; exact Nat.le_refl _) (Nat.le_refl _) (fun d1 d2 d3 => ?_)
        simp only
        rw [if_pos h6]
        have := hiMax_le (nodes := t2.nodes) (parts := parts ++ [x]) (c := B'.depth - (d + 1)) (by omega) (fun y hy => by have := hq2 (by omega) hq y hy; omega)
        exact .inl ⟨rfl, by omega, by rw [endM_len]; exact d2, d3⟩
    · rename_i h6
      split at h4
      · cases h4
      · rename_i h7
        obtain ⟨a, b, c⟩ := ih _ _ _ t' u s3.wf (Nat.lt_of_lt_of_le hid s3.len) hp2 h4
        obtain ⟨sa, _, _⟩ := blockLoop_ok hD hi hlv _ _ _ _ t' u s3.wf (Nat.lt_of_lt_of_le hid s3.len) hp2 h4
        simp only at a b c
        refine ⟨by omega, fun y hy => ?_, fun hn ha hl hq => ?_⟩
        · have g := b y (List.mem_append_left _ hy)
          rw [s12.highKeep (highOf_lt (hp y hy).1) (by simp)] at g
          exact g
        · unfold blockLoop
          rw [h1, Res.bind_ok]
          have g := b x (by simp)
          refine Fall.bind (f2 (by rw [c2]; exact hn) (by omega)) (by omega) sa.len a (fun d1 d2 d3 => ?_)
          simp only
          rw [if_neg h6, if_neg h7]
          exact c d2 d3 hl (hq2 (by omega) hq)

theorem blockM_fall (hD : B.depth ≤ 20) (hN : B.nodes ≤ 500) (hA : B.anchors ≤ 100) (f : Nat) : ∀ (id d : Nat), ValFall s B B' id ((d : Int) + 1) (blockM s B f id d) (blockM s B' f id d) := by
  induction f with
  | zero => intro id d t t' u _ _ _ _ h; cases h
  | succ f ih =>
    intro id d t t' u hw hid h0 hlv h
    unfold blockM at h ⊢
    have s0 := Step.skipTo hw
    obtain ⟨a, _, c⟩ := blockLoop_fall hD (itemS_ok hD hN hA (blockM_ok hD hN hA f)) (itemS_fall hD hN hA (blockM_ok hD hN hA f) ih) hlv _ _ _ _ t' u s0.wf (Nat.lt_of_lt_of_le hid s0.len) (fun x hx => by cases hx) h
    exact ⟨a, fun hn ha hl => c hn ha hl (fun x hx => by cases hx)⟩

theorem wordM_names {t t' : PS} {x : ByteArray} (h : wordM s t = .ok x t') : t'.names = t.names := by
  unfold wordM at h
  split at h
  · unfold readM at h
    split at h
    · cases h; rfl
    · cases h
  · cases h

theorem namedM_id {lv : Int} {rest : Nat → PS → Res Unit} {t t' : PS} {id : Nat} (h : namedM s B lv rest t = .ok id t') : id = t.nodes.length := by
  unfold namedM at h
  obtain ⟨id1, t1, h1, h2⟩ := Res.bind_ok_iff h
  have e : id1 = t.nodes.length := by
    unfold beginM at h1
    split at h1
    · cases h1
    · split at h1
      · cases h1
      · cases h1; rfl
  split at h2
  · cases h2
  · obtain ⟨x, t2, h3, h4⟩ := Res.bind_ok_iff h2
    obtain ⟨_, t3, h5, h6⟩ := Res.bind_ok_iff h4
    cases h6
    exact e

/-- Where no name is had, what is read is a new node. -/
theorem flowS_id {val : Nat → Int → PS → Res Unit} {lv : Int} {t t' : PS} {id : Nat} (hnm : t.names = []) (h : flowS s B val lv t = .ok id t') : id = t.nodes.length := by
  unfold flowS at h
  simp only at h
  split at h
  · unfold aliasM at h
    obtain ⟨x, t1, h1, h2⟩ := Res.bind_ok_iff h
    have e := wordM_names h1
    simp only at e
    rw [e, hnm] at h2
    cases h2
  · split at h
    · have e := namedM_id h
      exact e
    · split at h
      · obtain ⟨id1, t1, h1, h2⟩ := Res.bind_ok_iff h
        obtain ⟨_, t2, h3, h4⟩ := Res.bind_ok_iff h2
        cases h4
        unfold beginM at h1
        split at h1
        · cases h1
        · split at h1
          · cases h1
          · cases h1; rfl
      · cases h

theorem topM_fall (hD : B.depth ≤ 20) (hN : B.nodes ≤ 500) (hA : B.anchors ≤ 100) {t t' : PS} {u : Unit} (hw : WF s t) (hn : t.nodes = []) (hnm : t.names = []) (han : t.anchors = 0) (h : topM s B t = .ok u t') (h1 : 0 ≤ B'.nodes) (h2 : 0 ≤ B'.anchors) :
    Fall B' (highOf t'.nodes 0 : Int) t' u (topM s B' t) ∧ highOf t'.nodes 0 ≠ 0 := by
  unfold topM at h ⊢
  split at h
  · rename_i hk
    rw [if_pos hk]
    obtain ⟨id, t1, h3, h4⟩ := Res.bind_ok_iff h
    obtain ⟨hlv, e1, e2, hz, hid, s1⟩ := beginM_ok hN hw h3
    have e0 : id = 0 := by rw [e1, hn]; rfl
    subst e0
    obtain ⟨a, b, c⟩ := blockM_ok hD hN hA 21 0 0 t1 t' _ s1.wf hid (by omega) (by simpa using hlv) h4
    obtain ⟨a1, c1⟩ := blockM_fall (B' := B') hD hN hA 21 0 0 t1 t' _ s1.wf hid (by omega) (by simpa using hlv) h4
    refine ⟨Fall.bind (beginM_fall h3 (by rw [hn]; simpa using h1) (by rw [han]; simpa using h2)) (by omega) a.len a1 (fun d1 d2 d3 => ?_), b⟩
    have g := c1 d2 d3 (by simpa using d1)
    have e : ((0 : Nat) : Int) + 1 + (highOf t'.nodes 0 : Int) - 1 = (highOf t'.nodes 0 : Int) := by omega
    rw [e] at g
    exact g
  · rename_i hk
    rw [if_neg hk]
    obtain ⟨id, t1, h3, h4⟩ := Res.bind_ok_iff h
    have e0 : id = 0 := by
      have : id = t.nodes.length := flowS_id (val := valueS s (flowM s B 20)) hnm h3
      rw [this, hn]; rfl
    subst e0
    obtain ⟨a, b, c⟩ := flowM_ok hD hN hA 21 1 t t1 0 hw (by omega) h3
    obtain ⟨a1, c1⟩ := flowM_fall (B' := B') hD hN hA 21 1 t t1 0 hw (by omega) h3
    obtain ⟨e1, e2⟩ := endLineM_same h4
    rw [e1]
    have g := c1 (by rw [hn]; simpa using h1) (by rw [han]; simpa using h2)
    have e : (1 : Int) + (highOf t1.nodes 0 : Int) - 1 = (highOf t1.nodes 0 : Int) := by omega
    rw [e] at g
    refine ⟨Fall.bind g (Int.le_refl _) (by rw [e1]; exact Nat.le_refl _) (by omega) (fun d1 d2 d3 => ?_), b⟩
    rw [h4]
    exact .inl ⟨rfl, d1, by rw [e1]; exact d2, by rw [e2]; exact d3⟩

/-- A whole text that is let in, under another budget. -/
theorem textM_fall (hD : B.depth ≤ 20) (hN : B.nodes ≤ 500) (hA : B.anchors ≤ 100) {t t' : PS} {u : Unit} (hw : WF s t) (hn : t.nodes = []) (hnm : t.names = []) (han : t.anchors = 0) (h : textM s B t = .ok u t') (h1 : 0 ≤ B'.nodes) (h2 : 0 ≤ B'.anchors) :
    Fall B' (highOf t'.nodes 0 : Int) t' u (textM s B' t) ∧ highOf t'.nodes 0 ≠ 0 := by
  unfold textM at h ⊢
  simp only at h ⊢
  split at h
  · cases h
  · rename_i hk
    rw [if_neg hk]
    obtain ⟨_, t1, h3, h4⟩ := Res.bind_ok_iff h
    obtain ⟨g, b⟩ := topM_fall (B' := B') hD hN hA (nextM_step hw).wf hn hnm han h3 h1 h2
    split at h4
    · rename_i hk2
      cases h4
      refine ⟨Fall.bind g (Int.le_refl _) (Nat.le_refl _) (Nat.le_refl _) (fun d1 d2 d3 => ?_), b⟩
      rw [if_pos hk2]
      exact .inl ⟨rfl, d1, d2, d3⟩
    · cases h4

end

end Go.Proofs.YtkflkmmbakccoaaGreatDoor

/- THE PLAIN FUNCTIONS: the lines of a text. No program is named here. -/
namespace Go.Proofs.YtkflkmmbakccoaaGreatDoor

/-- Where a line ends: at a newline, or at the text's end. -/
def lEnd (s : ByteArray) (k : Nat) : Nat := if h : k < s.size then (if byteAt s k = 10 then k else lEnd s (k + 1)) else k
termination_by s.size - k

theorem lEnd_ge (s : ByteArray) (k : Nat) : k ≤ lEnd s k := by
  rw [lEnd]; split
  · split
    · omega
    · have := lEnd_ge s (k + 1); omega
  · omega
termination_by s.size - k

theorem lEnd_le (s : ByteArray) (k : Nat) (h : k ≤ s.size) : lEnd s k ≤ s.size := by
  rw [lEnd]; split
  · split
    · exact h
    · exact lEnd_le s (k + 1) (by omega)
  · exact h
termination_by s.size - k

theorem lEnd_go (s : ByteArray) (k : Nat) (h : k < s.size) (hb : byteAt s k ≠ 10) : lEnd s k = lEnd s (k + 1) := by
  rw [lEnd]; simp [h, hb]
theorem lEnd_stop (s : ByteArray) (k : Nat) (h : k < s.size) (hb : byteAt s k = 10) : lEnd s k = k := by
  rw [lEnd]; simp [h, hb]
theorem lEnd_end (s : ByteArray) (k : Nat) (h : ¬ k < s.size) : lEnd s k = k := by
  rw [lEnd]; simp [h]

/-- A line's end is a newline or the text's end. -/
theorem lEnd_is (s : ByteArray) (k : Nat) : lEnd s k < s.size → byteAt s (lEnd s k) = 10 := by
  by_cases h : k < s.size
  · by_cases hb : byteAt s k = 10
    · rw [lEnd_stop s k h hb]; exact fun _ => hb
    · rw [lEnd_go s k h hb]; exact lEnd_is s (k + 1)
  · rw [lEnd_end s k h]; exact fun hc => absurd hc h
termination_by s.size - k

/-- A line that says something: how far it stands in, where it begins behind the blanks, where it ends. -/
structure LineV where
  ind : Nat
  at' : Nat
  en : Nat

/-- The lines from a place on (the beginning of a line, or the end of one). -/
def linesFrom (s : ByteArray) (k : Nat) : List LineV :=
  if _h : (nlGo s k k).2 < s.size ∧ k < lEnd s (nlGo s k k).2 ∧ k ≤ s.size then ⟨(nlGo s k k).1, (nlGo s k k).2, lEnd s (nlGo s k k).2⟩ :: linesFrom s (lEnd s (nlGo s k k).2) else []
termination_by s.size + 1 - k
decreasing_by
  have := lEnd_le s (nlGo s k k).2 (by omega)
  omega

/-- What nlGo stops at is neither a blank nor a newline. -/
theorem nlGo_at (s : ByteArray) (a k : Nat) (h : (nlGo s a k).2 < s.size) : byteAt s (nlGo s a k).2 ≠ 10 ∧ byteAt s (nlGo s a k).2 ≠ 32 := by
  by_cases hk : k < s.size
  · by_cases hb : byteAt s k = 10
    · rw [nlGo_nl s a k hk hb] at h ⊢; exact nlGo_at s (k + 1) (k + 1) h
    · by_cases hb' : byteAt s k = 32
      · rw [nlGo_bl s a k hk hb'] at h ⊢; exact nlGo_at s a (k + 1) h
      · rw [nlGo_stop s a k hk hb hb']; exact ⟨hb, hb'⟩
  · rw [nlGo_end s a k hk] at h; exact absurd h hk
termination_by s.size - k

theorem linesFrom_cons (s : ByteArray) (k : Nat) (hk : k ≤ s.size) (h : (nlGo s k k).2 < s.size) :
    linesFrom s k = ⟨(nlGo s k k).1, (nlGo s k k).2, lEnd s (nlGo s k k).2⟩ :: linesFrom s (lEnd s (nlGo s k k).2) := by
  conv => lhs; rw [linesFrom]
  have h1 := nlGo_at s k k h
  have h2 := (nlGo_le s k k hk).1
  have h3 := lEnd_ge s ((nlGo s k k).2 + 1)
  rw [dif_pos ⟨h, by rw [lEnd_go s _ h h1.1]; omega, hk⟩]

theorem linesFrom_nil (s : ByteArray) (k : Nat) (h : ¬ (nlGo s k k).2 < s.size) : linesFrom s k = [] := by
  rw [linesFrom, dif_neg (fun c => h c.1)]

theorem linesFrom_nl (s : ByteArray) (k : Nat) (h : k < s.size) (hb : byteAt s k = 10) : linesFrom s k = linesFrom s (k + 1) := by
  have e := nlGo_nl s k k h hb
  by_cases hn : (nlGo s k k).2 < s.size
  · rw [linesFrom_cons s k (by omega) hn, linesFrom_cons s (k + 1) (by omega) (by rw [← e]; exact hn), e]
  · rw [linesFrom_nil s k hn, linesFrom_nil s (k + 1) (by rw [← e]; exact hn)]

/-- Blanks up to k: a line that has begun at a. -/
theorem nlGo_from (s : ByteArray) (a k : Nat) (h : a ≤ k) (hk : k ≤ s.size) (hb : ∀ j, a ≤ j → j < k → byteAt s j = 32) (b : Nat) : nlGo s b a = nlGo s b k := by
  by_cases e : a = k
  · rw [e]
  · rw [nlGo_bl s b a (by omega) (hb a (Nat.le_refl _) (by omega))]
    exact nlGo_from s (a + 1) k (by omega) hk (fun j hj => hb j (by omega)) b
termination_by k - a

theorem lEnd_from (s : ByteArray) (a k : Nat) (h : a ≤ k) (hk : k ≤ s.size) (hb : ∀ j, a ≤ j → j < k → byteAt s j ≠ 10) : lEnd s a = lEnd s k := by
  by_cases e : a = k
  · rw [e]
  · rw [lEnd_go s a (by omega) (hb a (Nat.le_refl _) (by omega))]
    exact lEnd_from s (a + 1) k (by omega) hk (fun j hj => hb j (by omega))
termination_by k - a

/-- One line of the loop over a text: it begins at a, ends at i (a newline, or the text's end); its first byte that is no blank stands at k. -/
theorem lines_line (s : ByteArray) (a k i : Nat) (hak : a ≤ k) (hki : k < i) (hi : i ≤ s.size) (hb : ∀ j, a ≤ j → j < k → byteAt s j = 32) (hk : byteAt s k ≠ 32) (hn : ∀ j, a ≤ j → j < i → byteAt s j ≠ 10) (he : i < s.size → byteAt s i = 10) :
    linesFrom s a = ⟨k - a, k, i⟩ :: linesFrom s (i + 1) := by
  have e1 : nlGo s a a = (k - a, k) := by
    rw [nlGo_from s a k hak (by omega) hb a, nlGo_stop s a k (by omega) (hn k hak hki) hk]
  have e2 : lEnd s k = i := by
    rw [lEnd_from s k i (by omega) hi (fun j hj hji => hn j (by omega) hji)]
    by_cases hlt : i < s.size
    · exact lEnd_stop s i hlt (he hlt)
    · exact lEnd_end s i hlt
  rw [linesFrom_cons s a (by omega) (by rw [e1]; simp only; omega), e1]
  simp only [e2]
  congr 1
  by_cases hlt : i < s.size
  · exact linesFrom_nl s i hlt (he hlt)
  · have hi' : i = s.size := by omega
    rw [linesFrom_nil s i (by rw [nlGo_end s i i (by omega)]; simp only; omega), linesFrom_nil s (i + 1) (by rw [nlGo_end s (i + 1) (i + 1) (by omega)]; simp only; omega)]

/-- A line of blanks alone. -/
theorem lines_blank (s : ByteArray) (a i : Nat) (hai : a ≤ i) (hi : i ≤ s.size) (hb : ∀ j, a ≤ j → j < i → byteAt s j = 32) (he : i < s.size → byteAt s i = 10) : linesFrom s a = linesFrom s (i + 1) := by
  have e1 : nlGo s a a = nlGo s a i := nlGo_from s a i hai hi hb a
  by_cases hlt : i < s.size
  · have e2 : nlGo s a a = nlGo s (i + 1) (i + 1) := by rw [e1, nlGo_nl s a i hlt (he hlt)]
    by_cases hn : (nlGo s a a).2 < s.size
    · rw [linesFrom_cons s a (by omega) hn, linesFrom_cons s (i + 1) (by omega) (by rw [← e2]; exact hn), e2]
    · rw [linesFrom_nil s a hn, linesFrom_nil s (i + 1) (by rw [← e2]; exact hn)]
  · rw [linesFrom_nil s a (by rw [e1, nlGo_end s a i hlt]; exact hlt), linesFrom_nil s (i + 1) (by rw [nlGo_end s (i + 1) (i + 1) (by omega)]; simp only; omega)]

end Go.Proofs.YtkflkmmbakccoaaGreatDoor
