/- PARTS: Mod21, Mod15, Mod16. -/
import Derived.Test.YtkflkmmbakccoaaGreatDoorJ14
import Derived.Test.YtkflkmmbakccoaaGreatDoorJ16
import Derived.Test.YtkflkmmbakccoaaGreatDoorJ8
import Derived.Test.YtkflkmmbakccoaaGreatDoorJ13

/- THE PLAIN FUNCTIONS: the nodes of a text that is read stand in the order in which a walk comes to them; what a walk comes to again has had a name. No program is named here. -/
namespace Go.Proofs.YtkflkmmbakccoaaGreatDoor

/-- All numbers below c, the greatest first. -/
def rng (c : Nat) : List Nat := (List.range c).reverse

theorem rng_succ (c : Nat) : rng (c + 1) = c :: rng c := by simp [rng, List.range_succ]
theorem rng_mem {c x : Nat} : x ∈ rng c ↔ x < c := by simp [rng]
theorem rng_len (c : Nat) : (rng c).length = c := by simp [rng]

/-- These nodes keep what has ended. -/
def Keeps (t : PS) (N : List NodeV) : Prop := ∀ i, highOf t.nodes i ≠ 0 → N[i]? = t.nodes[i]?

theorem Keeps.high {t : PS} {N : List NodeV} (h : Keeps t N) {i : Nat} (hi : highOf t.nodes i ≠ 0) : highOf N i = highOf t.nodes i := by
  simp only [highOf, List.getD, h i hi]
theorem Keeps.node {t : PS} {N : List NodeV} (h : Keeps t N) {i : Nat} (hi : highOf t.nodes i ≠ 0) : nodeAt N i = nodeAt t.nodes i := by
  simp only [nodeAt, List.getD, h i hi]

theorem Keeps.back {s : ByteArray} {x : Option Nat} {t t' : PS} {N : List NodeV} (h : Keeps t' N) (st : Step s x t t') (hx : ∀ j, x = some j → highOf t.nodes j = 0) : Keeps t N := by
  intro i hi
  have hne : x ≠ some i := fun e => hi (hx i e)
  have hk := st.keep i (highOf_lt hi) hne
  rw [h i (by rw [st.highKeep (highOf_lt hi) hne]; exact hi), hk]

theorem Keeps.back0 {s : ByteArray} {t t' : PS} {N : List NodeV} (h : Keeps t' N) (st : Step s none t t') : Keeps t N := h.back st (fun j e => by cases e)

theorem Keeps.same {t t' : PS} {N : List NodeV} (h : Keeps t' N) (e : t'.nodes = t.nodes) : Keeps t N := by
  unfold Keeps at h ⊢
  rw [← e]; exact h

/-- A walk over some nodes goes from c to c' and comes again only to nodes of S. -/
def Walks (N : List NodeV) (f : Nat) (qs : List Nat) (c c' : Nat) (S : List (ByteArray × Nat)) : Prop :=
  (agP (agM N f) qs (rng c, [])).1 = rng c' ∧ ∀ x ∈ (agP (agM N f) qs (rng c, [])).2, x ∈ S.map (·.2)

/-- A walk from one node. -/
def Walk1 (N : List NodeV) (f id : Nat) (c c' : Nat) (S : List (ByteArray × Nat)) : Prop :=
  (agM N f id (rng c)).1 = rng c' ∧ ∀ x ∈ (agM N f id (rng c)).2, x ∈ S.map (·.2)

def NmLe (t t' : PS) : Prop := ∀ x ∈ t.names, x ∈ t'.names

theorem NmLe.trans {t u v : PS} (h : NmLe t u) (k : NmLe u v) : NmLe t v := fun x hx => k x (h x hx)

theorem Walk1.weak {N : List NodeV} {f id c c' : Nat} {S S' : List (ByteArray × Nat)} (h : Walk1 N f id c c' S) (hS : ∀ x ∈ S, x ∈ S') : Walk1 N f id c c' S' :=
  ⟨h.1, fun x hx => by obtain ⟨p, hp, e⟩ := List.mem_map.1 (h.2 x hx); exact List.mem_map.2 ⟨p, hS p hp, e⟩⟩

theorem Walks.nil (N : List NodeV) (f c : Nat) (S : List (ByteArray × Nat)) : Walks N f [] c c S := ⟨rfl, fun x hx => by cases hx⟩

theorem Walks.cons {N : List NodeV} {f x : Nat} {qs : List Nat} {c c1 c' : Nat} {S : List (ByteArray × Nat)} (h1 : Walk1 N f x c c1 S) (h2 : Walks N f qs c1 c' S) : Walks N f (x :: qs) c c' S := by
  unfold Walks
  have e : agP (agM N f) (x :: qs) (rng c, []) = agP (agM N f) qs (rng c1, (agM N f x (rng c)).2) := by
    simp only [agP, List.append_nil]
    rw [h1.1]
  rw [e, agP_app]
  refine ⟨h2.1, fun y hy => ?_⟩
  simp only at hy
  rcases List.mem_append.1 hy with hy | hy
  · exact h2.2 y hy
  · exact h1.2 y hy

/-- A node that is come to first, its number the next one. -/
theorem Walk1.fresh {N : List NodeV} {f id c' : Nat} {S : List (ByteArray × Nat)} (h : Walks N f (nodeAt N id).parts (id + 1) c' S) : Walk1 N (f + 1) id id c' S := by
  unfold Walk1
  have e : agM N (f + 1) id (rng id) = agP (agM N f) (nodeAt N id).parts (rng (id + 1), []) := by
    rw [agM, if_neg (by rw [rng_mem]; omega), rng_succ]
  rw [e]
  exact h

theorem Walk1.again {N : List NodeV} {f id c : Nat} {S : List (ByteArray × Nat)} (h : id < c) (hS : id ∈ S.map (·.2)) : Walk1 N (f + 1) id c c S := by
  unfold Walk1
  rw [agM, if_pos (rng_mem.2 h)]
  exact ⟨rfl, fun x hx => by rw [List.mem_singleton.1 hx]; exact hS⟩

section
variable (s : ByteArray) (B : Bud)

def ValPre (id : Nat) (lv : Int) (val : PS → Res Unit) : Prop :=
  ∀ t t' u, WF s t → t.nodes.length = id + 1 → highOf t.nodes id = 0 → 0 ≤ lv → lv ≤ B.depth → val t = .ok u t' → NmLe t t' ∧ ∀ N, Keeps t' N → ∀ f, highOf N id < f + 1 → Walks N f (nodeAt N id).parts (id + 1) t'.nodes.length t'.names

def FlowPre (lv : Int) (fl : PS → Res Nat) : Prop :=
  ∀ t t' id, WF s t → 0 ≤ lv → fl t = .ok id t' → NmLe t t' ∧ ∀ N, Keeps t' N → ∀ f, highOf N id < f → Walk1 N f id t.nodes.length t'.nodes.length t'.names
end

theorem readM_names {s : ByteArray} {t t' : PS} {x : ByteArray} (h : readM s t = .ok x t') : t'.names = t.names := by
  unfold readM at h
  split at h
  · cases h; rfl
  · cases h
theorem expectM_names {s : ByteArray} {t t' : PS} {kd : Int} {x : Unit} (h : expectM s kd t = .ok x t') : t'.names = t.names := by
  unfold expectM at h
  split at h
  · cases h; rfl
  · cases h
theorem keyM_names {s : ByteArray} {t t' : PS} {ks ks' : List ByteArray} (h : keyM s ks t = .ok ks' t') : t'.names = t.names := by
  unfold keyM at h
  split at h
  · obtain ⟨x, t1, h1, h2⟩ := Res.bind_ok_iff h
    split at h2
    · cases h2
    · obtain ⟨_, t2, h3, h4⟩ := Res.bind_ok_iff h2
      cases h4
      have a := readM_names h1
      have b := expectM_names h3
      exact b.trans a
  · cases h
theorem endLineM_names {s : ByteArray} {t t' : PS} {u : Unit} (h : endLineM s t = .ok u t') : t'.names = t.names := by
  unfold endLineM at h
  split at h
  · cases h; rfl
  · cases h
theorem goBelowM_names {s : ByteArray} {t t' : PS} {d : Nat} {u : Unit} (h : goBelowM s d t = .ok u t') : t'.names = t.names := by
  unfold goBelowM at h
  simp only at h
  split at h
  · cases h; rfl
  · cases h

theorem NmLe.eq {t t' : PS} (h : t'.names = t.names) : NmLe t t' := fun x hx => by rw [h]; exact hx

section
variable {s : ByteArray} {B : Bud}

theorem aliasM_pre {lv : Int} {t t' : PS} {id : Nat} (hw : WF s t) (h : aliasM s B lv t = .ok id t') :
    NmLe t t' ∧ ∀ N, Keeps t' N → ∀ f, highOf N id < f → Walk1 N f id t.nodes.length t'.nodes.length t'.names := by
  have en := aliasM_nodes h
  unfold aliasM at h
  obtain ⟨x, t1, h1, h2⟩ := Res.bind_ok_iff h
  have e1 := wordM_names h1
  simp only at e1
  have e2 := wordM_nodes h1
  simp only at e2
  split at h2
  · cases h2
  · rename_i i hi
    split at h2
    · cases h2
    · cases h2
      refine ⟨NmLe.eq e1, fun N hN f hf => ?_⟩
      obtain ⟨p, hp, rfl⟩ := lookM_mem hi
      obtain ⟨f, rfl⟩ : ∃ g, f = g + 1 := ⟨f - 1, by omega⟩
      rw [en]
      refine Walk1.again (highOf_lt (hw.named p (by rw [← e1]; exact hp))) (List.mem_map.2 ⟨p, hp, rfl⟩)

theorem namedM_pre {lv : Int} {rest : Nat → PS → Res Unit} {t t' : PS} {id : Nat} (hN : B.nodes ≤ 500) (hA : B.anchors ≤ 100) (hr : ∀ id, ValOk s B id lv (rest id)) (hF : ∀ id, ValPre s B id lv (rest id)) (hw : WF s t) (h0 : 0 ≤ lv) (hk : t.k < s.size)
    (h : namedM s B lv rest t = .ok id t') : NmLe t t' ∧ ∀ N, Keeps t' N → ∀ f, highOf N id < f → Walk1 N f id t.nodes.length t'.nodes.length t'.names := by
  unfold namedM at h
  obtain ⟨id1, t1, h1, h2⟩ := Res.bind_ok_iff h
  obtain ⟨hlv, rfl, rfl, hz, hid, s1⟩ := beginM_ok hN hw h1
  split at h2
  · cases h2
  · rename_i ha
    obtain ⟨x, t2, h3, h4⟩ := Res.bind_ok_iff h2
    have w2 : WF s { t with nodes := t.nodes ++ [NodeV.blank], anchors := t.anchors + 1, k := t.k + 1 } :=
      ⟨by simp; omega, s1.wf.nodes, by simp at ha ⊢; omega, by have := hw.names; simp; omega, s1.wf.named, s1.wf.heavy, s1.wf.high⟩
    have s2 := wordM_ok w2 h3
    have e2 := wordM_nodes h3
    have e3 := wordM_names h3
    simp only at e2 e3
    obtain ⟨_, t3, h5, h6⟩ := Res.bind_ok_iff h4
    have hl2 : t2.nodes.length = t.nodes.length + 1 := by rw [e2]; simp
    obtain ⟨s3, n3, b3⟩ := hr _ t2 t3 _ s2.wf (by omega) h0 hlv h5
    obtain ⟨m3, f3⟩ := hF _ t2 t3 _ s2.wf hl2 (by rw [e2]; exact hz) h0 hlv h5
    cases h6
    refine ⟨fun y hy => List.mem_cons_of_mem _ (m3 y (by rw [e3]; exact hy)), fun N hk f hf => ?_⟩
    obtain ⟨f, rfl⟩ : ∃ g, f = g + 1 := ⟨f - 1, by omega⟩
    exact Walk1.weak (Walk1.fresh (f3 N hk f hf)) (fun y hy => List.mem_cons_of_mem _ hy)

theorem flowS_pre {val : Nat → Int → PS → Res Unit} {lv : Int} (hN : B.nodes ≤ 500) (hA : B.anchors ≤ 100) (hv : ∀ id lv, ValOk s B id lv (val id lv)) (hF : ∀ id lv, ValPre s B id lv (val id lv)) : FlowPre s lv (flowS s B val lv) := by
  intro t t' id hw h0 h
  unfold flowS at h
  simp only at h
  have s0 := Step.skipTo hw
  split at h
  · have e := aliasM_pre s0.wf h
    exact e
  · split at h
    · rename_i hk
      have e := namedM_pre hN hA (fun id => hv id lv) (fun id => hF id lv) s0.wf h0 (kindAt_lt (by simp only; omega)) h
      exact e
    · split at h
      · obtain ⟨id1, t1, h1, h2⟩ := Res.bind_ok_iff h
        obtain ⟨hlv, rfl, ht1, hz, hid, s1⟩ := beginM_ok hN s0.wf h1
        obtain ⟨_, t2, h3, h4⟩ := Res.bind_ok_iff h2
        obtain ⟨m2, f2⟩ := hF _ lv t1 t2 _ s1.wf (by rw [ht1]; simp) hz h0 hlv h3
        cases h4
        refine ⟨fun y hy => m2 y (by rw [ht1]; exact hy), fun N hk f hf => ?_⟩
        obtain ⟨f, rfl⟩ : ∃ g, f = g + 1 := ⟨f - 1, by omega⟩
        exact Walk1.fresh (f2 N hk f hf)
      · cases h

theorem inLoop_pre {lv : Int} {fl : PS → Res Nat} {isMap : Bool} {closing : Int} (hc : closing ≠ 0) (h0 : 0 ≤ lv) (hf : FlowOk s B (lv + 1) fl) (hF : FlowPre s (lv + 1) fl) (n : Nat) :
    ∀ keys parts t r t', WF s t → (∀ x ∈ parts, highOf t.nodes x ≠ 0 ∧ (highOf t.nodes x : Int) + lv ≤ B.depth) → inLoop s fl isMap closing n keys parts t = .ok r t' →
      NmLe t t' ∧ ∃ qs, r.2 = parts ++ qs ∧ ∀ N, Keeps t' N → ∀ f, (∀ q ∈ qs, highOf N q < f) → Walks N f qs t.nodes.length t'.nodes.length t'.names := by
  induction n with
  | zero => intro keys parts t r t' _ _ h; cases h
  | succ n ih =>
    intro keys parts t r t' hw hp h
    unfold inLoop at h
    obtain ⟨keys1, t1, h1, h2⟩ := Res.bind_ok_iff h
    have s1 : Step s none t t1 ∧ t1.nodes = t.nodes ∧ t1.names = t.names := by
      cases isMap with
      | false => cases h1; exact ⟨Step.refl _ hw, rfl, rfl⟩
      | true => exact ⟨(keyM_ok hw h1).1, (keyM_fin h1).1, keyM_names h1⟩
    obtain ⟨s1, e1, m1⟩ := s1
    obtain ⟨x, t2, h3, h4⟩ := Res.bind_ok_iff h2
    obtain ⟨s2, n2, b2⟩ := hf t1 t2 x s1.wf (by omega) h3
    obtain ⟨m2, f2⟩ := hF t1 t2 x s1.wf (by omega) h3
    have m12 : NmLe t t2 := (NmLe.eq m1).trans m2
    have s12 := s1.andThen s2
    have hp2 : ∀ y ∈ parts ++ [x], highOf t2.nodes y ≠ 0 ∧ (highOf t2.nodes y : Int) + lv ≤ B.depth := by
      intro y hy
      rcases List.mem_append.1 hy with hy | hy
      · rw [s12.highKeep (highOf_lt (hp y hy).1) (by simp)]; exact hp y hy
      · rw [List.mem_singleton.1 hy]; exact ⟨n2, by omega⟩
    have s3 := Step.skipTo s2.wf
    split at h4
    · rename_i h6
      have hl := kindAt_lt (s := s) (q := skipBl s t2.k) (by omega)
      have s4 : Step s none t2 { t2 with k := skipBl s t2.k + 1 } := Step.move s2.wf (by have := s3.k; simp at this; omega) (by omega)
      obtain ⟨m4, qs, hq, f4⟩ := ih _ _ _ r t' s4.wf hp2 h4
      obtain ⟨sa, _, _⟩ := inLoop_ok hc h0 hf _ _ _ _ r t' s4.wf hp2 h4
      have m4' : NmLe t2 t' := m4
      refine ⟨m12.trans m4', x :: qs, by rw [hq]; simp, fun N hk f hall => ?_⟩
      have hk2 : Keeps t2 N := (hk.back0 sa).same rfl
      have w1 := (f2 N hk2 f (hall x (List.mem_cons_self ..))).weak m4'
      rw [e1] at w1
      exact Walks.cons w1 (f4 N hk f (fun q hq => hall q (List.mem_cons_of_mem _ hq)))
    · obtain ⟨_, t3, h5, h6⟩ := Res.bind_ok_iff h4
      have e5 := expectM_nodes h5
      have e6 := expectM_names h5
      cases h6
      simp only at e5 e6
      refine ⟨m12.trans (NmLe.eq e6), [x], rfl, fun N hk f hall => ?_⟩
      have hk2 : Keeps t2 N := hk.same e5
      have w1 := f2 N hk2 f (hall x (List.mem_cons_self ..))
      rw [e1] at w1
      rw [e5, e6]
      exact Walks.cons w1 (Walks.nil _ _ _ _)

theorem bracketsM_pre {lv : Int} {fl : PS → Res Nat} {isMap : Bool} {closing : Int} (hc : closing ≠ 0) (h0 : 0 ≤ lv) (hf : FlowOk s B (lv + 1) fl) (hF : FlowPre s (lv + 1) fl) {t t' : PS} {r : List ByteArray × List Nat} (hw : WF s t) (hk : t.k < s.size)
    (h : bracketsM s fl isMap closing t = .ok r t') : NmLe t t' ∧ ∀ N, Keeps t' N → ∀ f, (∀ q ∈ r.2, highOf N q < f) → Walks N f r.2 t.nodes.length t'.nodes.length t'.names := by
  unfold bracketsM at h
  simp only at h
  have s0 : Step s none t { t with k := t.k + 1 } := Step.move hw (by omega) (by omega)
  have s1 := s0.andThen (Step.skipTo s0.wf)
  split at h
  · cases h
    exact ⟨fun x hx => hx, fun N _ f _ => Walks.nil _ _ _ _⟩
  · obtain ⟨m, qs, hq, f1⟩ := inLoop_pre hc h0 hf hF _ _ _ _ r t' s1.wf (fun x hx => by cases hx) h
    rw [List.nil_append] at hq
    rw [hq]
    exact ⟨m, f1⟩

/-- The parts of a node that has ended, and how high they are. -/
theorem end_walks {t : PS} {id : Nat} {n : NodeV} {N : List NodeV} (hid : id < t.nodes.length) (hz : highOf t.nodes id = 0) (hp : ∀ x ∈ n.parts, highOf t.nodes x ≠ 0) (hk : Keeps (endM id n t) N) :
    (nodeAt N id).parts = n.parts ∧ Keeps t N ∧ ∀ q ∈ n.parts, highOf N q < highOf N id := by
  have hh := endM_high (n := n) hid
  have hne : highOf (endM id n t).nodes id ≠ 0 := by rw [hh]; omega
  have hkt : Keeps t N := fun i hi => by
    have hii : i ≠ id := fun e => hi (by rw [e]; exact hz)
    have e1 : (endM id n t).nodes[i]? = t.nodes[i]? := by
      show (t.nodes.set id _)[i]? = _
      rw [List.getElem?_set_ne (fun e => hii e.symm)]
    rw [← e1]
    refine hk i ?_
    simp only [highOf, List.getD, e1]
    exact hi
  refine ⟨?_, hkt, fun q hq => ?_⟩
  · rw [hk.node hne]
    show (nodeAt (t.nodes.set id (measured t.nodes n)) id).parts = _
    rw [nodeAt_set _ _ _ _ hid, if_pos rfl]
    rfl
  · rw [hk.high hne, hh, hkt.high (hp q hq)]
    have := hiMax_ge (nodes := t.nodes) hq
    omega

theorem valueS_pre {fl : Int → PS → Res Nat} {id : Nat} {lv : Int} (hf : ∀ lv, FlowOk s B lv (fl lv)) (hF : ∀ lv, FlowPre s lv (fl lv)) : ValPre s B id lv (valueS s fl id lv) := by
  intro t t' u hw hid hz h0 hlv h
  unfold valueS at h
  simp only at h
  have s0 := Step.skipTo hw
  split at h
  · obtain ⟨x, t1, h1, h2⟩ := Res.bind_ok_iff h
    obtain ⟨e1, hx⟩ := readM_nodes h1
    have e2 := readM_names h1
    cases h2
    simp only at e1 e2
    refine ⟨NmLe.eq e2, fun N hk f _ => ?_⟩
    obtain ⟨p1, _, _⟩ := end_walks (by rw [e1]; omega) (by rw [e1]; exact hz) (fun x hx => by cases hx) hk
    rw [p1]
    have : (endM id { NodeV.blank with text := x } t1).nodes.length = id + 1 := by rw [endM_len, e1, hid]
    rw [this]
    exact Walks.nil _ _ _ _
  · have key : ∀ (isMap : Bool) (closing : Int) (kd : Nat), closing ≠ 0 → skipBl s t.k < s.size → ∀ r t1, bracketsM s (fl (lv + 1)) isMap closing { t with k := skipBl s t.k } = .ok r t1 →
        NmLe t (endM id { NodeV.blank with kind := kd, keys := r.1, parts := r.2 } t1) ∧ ∀ N, Keeps (endM id { NodeV.blank with kind := kd, keys := r.1, parts := r.2 } t1) N → ∀ f, highOf N id < f + 1 → Walks N f (nodeAt N id).parts (id + 1) (endM id { NodeV.blank with kind := kd, keys := r.1, parts := r.2 } t1).nodes.length (endM id { NodeV.blank with kind := kd, keys := r.1, parts := r.2 } t1).names := by
      intro isMap closing kd hc hlt r t1 h1
      obtain ⟨m1, f1⟩ := bracketsM_pre hc h0 (hf (lv + 1)) (hF (lv + 1)) s0.wf hlt h1
      obtain ⟨s1, hp⟩ := bracketsM_ok hc h0 (hf (lv + 1)) s0.wf hlt h1
      have s01 := s0.andThen s1
      have hidl : id < t.nodes.length := by omega
      have hz1 : highOf t1.nodes id = 0 := by rw [s01.highKeep hidl (by simp)]; exact hz
      refine ⟨m1, fun N hk f hfi => ?_⟩
      obtain ⟨p1, p2, p3⟩ := end_walks (n := { NodeV.blank with kind := kd, keys := r.1, parts := r.2 }) (Nat.lt_of_lt_of_le hidl s01.len) hz1 (fun x hx => (hp x hx).1) hk
      rw [p1, endM_len]
      have := f1 N p2 f (fun q hq => by have := p3 q hq; omega)
      simp only at this
      rw [hid] at this
      exact this
    split at h
    · rename_i hk
      obtain ⟨r, t1, h1, h2⟩ := Res.bind_ok_iff h
      cases h2
      exact key false 10 1 (by omega) (kindAt_lt (by omega)) r t1 h1
    · split at h
      · rename_i hk
        obtain ⟨r, t1, h1, h2⟩ := Res.bind_ok_iff h
        cases h2
        exact key true 12 2 (by omega) (kindAt_lt (by omega)) r t1 h1
      · cases h

theorem flowM_pre (hD : B.depth ≤ 20) (hN : B.nodes ≤ 500) (hA : B.anchors ≤ 100) (f : Nat) : ∀ lv, FlowPre s lv (flowM s B f lv) := by
  induction f with
  | zero => intro lv; exact flowS_pre hN hA (fun _ _ t t' u _ _ _ _ h => by cases h) (fun _ _ t t' u _ _ _ _ _ h => by cases h)
  | succ f ih => intro lv; exact flowS_pre hN hA (fun id lv => valueS_ok hD (flowM_ok hD hN hA f)) (fun id lv => valueS_pre (flowM_ok hD hN hA f) ih)

theorem namedItemS_pre (hD : B.depth ≤ 20) (hN : B.nodes ≤ 500) (hA : B.anchors ≤ 100) {blk : Nat → Nat → PS → Res Unit} {d id : Nat} (hb : ∀ (id d : Nat), ValPre s B id ((d : Int) + 1) (blk id d)) : ValPre s B id (d + 2) (namedItemS s B blk d id) := by
  intro t t' u hw hid hz h0 hlv h
  unfold namedItemS at h
  simp only at h
  have s0 := Step.skipTo hw
  split at h
  · obtain ⟨_, t1, h1, h2⟩ := Res.bind_ok_iff h
    have e1 := goBelowM_nodes h1
    have e2 := goBelowM_names h1
    have s1 := s0.andThen (goBelowM_ok s0.wf h1)
    simp only at e1 e2
    obtain ⟨m, f1⟩ := hb id (d + 1) t1 t' u s1.wf (by rw [e1]; exact hid) (by rw [e1]; exact hz) (by omega) (by push_cast; omega) h2
    exact ⟨(NmLe.eq e2).trans m, f1⟩
  · obtain ⟨_, t1, h1, h2⟩ := Res.bind_ok_iff h
    obtain ⟨m1, f1⟩ := valueS_pre (flowM_ok hD hN hA 21) (flowM_pre hD hN hA 21) _ t1 _ s0.wf (by exact hid) (by exact hz) h0 hlv h1
    have e3 := endLineM_nodes h2
    have e4 := endLineM_names h2
    refine ⟨fun x hx => by rw [e4]; exact m1 x hx, fun N hk f hf => ?_⟩
    rw [e3, e4]
    exact f1 N (hk.same e3) f hf

theorem itemS_pre (hD : B.depth ≤ 20) (hN : B.nodes ≤ 500) (hA : B.anchors ≤ 100) {blk : Nat → Nat → PS → Res Unit} {d : Nat} (hb : ∀ (id d : Nat), ValOk s B id ((d : Int) + 1) (blk id d)) (hF : ∀ (id d : Nat), ValPre s B id ((d : Int) + 1) (blk id d)) : FlowPre s (d + 2) (itemS s B blk d) := by
  intro t t' id hw h0 h
  unfold itemS at h
  simp only at h
  have s0 := Step.skipTo hw
  split at h
  · obtain ⟨_, t1, h1, h2⟩ := Res.bind_ok_iff h
    have e1 := goBelowM_nodes h1
    have e2 := goBelowM_names h1
    have s1 := s0.andThen (goBelowM_ok s0.wf h1)
    simp only at e1 e2
    obtain ⟨id1, t2, h3, h4⟩ := Res.bind_ok_iff h2
    obtain ⟨hlv, rfl, ht2, hz, hid, s2⟩ := beginM_ok hN s1.wf h3
    obtain ⟨_, t3, h5, h6⟩ := Res.bind_ok_iff h4
    obtain ⟨m3, f3⟩ := hF _ (d + 1) t2 t3 _ s2.wf (by rw [ht2]; simp) hz (by omega) (by push_cast; omega) h5
    cases h6
    refine ⟨fun x hx => m3 x (by rw [ht2]; show x ∈ t1.names; rw [e2]; exact hx), fun N hk f hf => ?_⟩
    obtain ⟨f, rfl⟩ : ∃ g, f = g + 1 := ⟨f - 1, by omega⟩
    have e5 : t.nodes.length = t1.nodes.length := by rw [e1]
    rw [e5]
    exact Walk1.fresh (f3 N hk f hf)
  · split at h
    · rename_i hk
      have e := namedM_pre hN hA (fun id => namedItemS_ok hD hN hA hb) (fun id => namedItemS_pre hD hN hA hF) s0.wf h0 (kindAt_lt (by simp only; omega)) h
      exact e
    · obtain ⟨id1, t1, h1, h2⟩ := Res.bind_ok_iff h
      obtain ⟨m1, f1⟩ := flowM_pre hD hN hA 21 _ _ _ _ s0.wf h0 h1
      obtain ⟨_, t2, h3, h4⟩ := Res.bind_ok_iff h2
      have e3 := endLineM_nodes h3
      have e4 := endLineM_names h3
      cases h4
      refine ⟨fun x hx => by rw [e4]; exact m1 x hx, fun N hk f hf => ?_⟩
      rw [e3, e4]
      exact f1 N (hk.same e3) f hf

theorem blockLoop_pre {it : PS → Res Nat} {id d : Nat} {isMap : Bool} (hD : B.depth ≤ 20) (hi : FlowOk s B (d + 2) it) (hF : FlowPre s (d + 2) it) (hlv : (d : Int) + 1 ≤ B.depth) (n : Nat) :
    ∀ keys parts t t' u, WF s t → id < t.nodes.length → highOf t.nodes id = 0 → (∀ x ∈ parts, highOf t.nodes x ≠ 0 ∧ (highOf t.nodes x : Int) + (d + 1) ≤ B.depth) → blockLoop s it id d isMap n keys parts t = .ok u t' →
      NmLe t t' ∧ ∃ qs, ∀ N, Keeps t' N → (nodeAt N id).parts = parts ++ qs ∧ (∀ q ∈ (nodeAt N id).parts, highOf N q < highOf N id) ∧ ∀ f, highOf N id < f + 1 → Walks N f qs t.nodes.length t'.nodes.length t'.names := by
  induction n with
  | zero => intro keys parts t t' u _ _ _ _ h; cases h
  | succ n ih =>
    intro keys parts t t' u hw hid hz hp h
    unfold blockLoop at h
    obtain ⟨keys1, t1, h1, h2⟩ := Res.bind_ok_iff h
    have s1 : Step s none t t1 ∧ t1.nodes = t.nodes ∧ t1.names = t.names := by
      cases isMap with
      | true => exact ⟨(keyM_ok hw h1).1, (keyM_fin h1).1, keyM_names h1⟩
      | false =>
        obtain ⟨_, t3, h3, h4⟩ := Res.bind_ok_iff h1
        have e3 := expectM_nodes h3
        have e4 := expectM_names h3
        have s3 := expectM_ok (by omega) hw h3
        cases h4
        exact ⟨s3.1, e3, e4⟩
    obtain ⟨s1, e1, m1⟩ := s1
    obtain ⟨x, t2, h3, h4⟩ := Res.bind_ok_iff h2
    obtain ⟨s2, n2, b2⟩ := hi t1 t2 x s1.wf (by omega) h3
    obtain ⟨m2, f2⟩ := hF t1 t2 x s1.wf (by omega) h3
    have m12 : NmLe t t2 := (NmLe.eq m1).trans m2
    have s12 := s1.andThen s2
    have s3 := s12.andThen (Step.skipTo s2.wf)
    have hp2 : ∀ y ∈ parts ++ [x], highOf t2.nodes y ≠ 0 ∧ (highOf t2.nodes y : Int) + (d + 1) ≤ B.depth := by
      intro y hy
      rcases List.mem_append.1 hy with hy | hy
      · rw [s12.highKeep (highOf_lt (hp y hy).1) (by simp)]; exact hp y hy
      · rw [List.mem_singleton.1 hy]; exact ⟨n2, by omega⟩
    have hz3 : highOf t2.nodes id = 0 := by rw [s12.highKeep hid (by simp)]; exact hz
    have hid3 : id < t2.nodes.length := Nat.lt_of_lt_of_le hid s12.len
    simp only at h4
    split at h4
    · cases h4
      refine ⟨m12, [x], fun N hk => ?_⟩
      obtain ⟨p1, p2, p3⟩ := end_walks (t := { t2 with k := skipBl s t2.k }) (n := { NodeV.blank with kind := if isMap then 2 else 1, keys := keys1, parts := parts ++ [x] }) hid3 hz3 (fun y hy => (hp2 y hy).1) hk
      refine ⟨p1, fun q hq => p3 q (by rw [p1] at hq; exact hq), fun f hf => ?_⟩
      have p4 := p3 x (by simp)
      have w1 := f2 N (p2.same rfl) f (by omega)
      rw [e1] at w1
      rw [endM_len]
      exact Walks.cons w1 (Walks.nil _ _ _ _)
    · split at h4
      · cases h4
      · obtain ⟨m4, qs, f4⟩ := ih keys1 (parts ++ [x]) _ t' u s3.wf hid3 hz3 hp2 h4
        obtain ⟨sa, na, _⟩ := blockLoop_ok hD hi hlv _ _ _ _ t' u s3.wf hid3 hp2 h4
        have m4' : NmLe t2 t' := m4
        refine ⟨m12.trans m4', x :: qs, fun N hk => ?_⟩
        obtain ⟨p1, p3, p2⟩ := f4 N hk
        refine ⟨by rw [p1]; simp, p3, fun f hf => ?_⟩
        have hk2 : Keeps t2 N := (hk.back sa (fun j e => by cases e; exact hz3)).same rfl
        have hxx : highOf N x < f := by
          have := p3 x (by rw [p1]; simp)
          omega
        have w1 := (f2 N hk2 f hxx).weak m4'
        rw [e1] at w1
        exact Walks.cons w1 (p2 f hf)

theorem blockM_pre (hD : B.depth ≤ 20) (hN : B.nodes ≤ 500) (hA : B.anchors ≤ 100) (f : Nat) : ∀ (id d : Nat), ValPre s B id ((d : Int) + 1) (blockM s B f id d) := by
  induction f with
  | zero => intro id d t t' u _ _ _ _ _ h; cases h
  | succ f ih =>
    intro id d t t' u hw hid hz h0 hlv h
    unfold blockM at h
    have s0 := Step.skipTo hw
    obtain ⟨m, qs, g⟩ := blockLoop_pre hD (itemS_ok hD hN hA (blockM_ok hD hN hA f)) (itemS_pre hD hN hA (blockM_ok hD hN hA f) ih) hlv _ _ _ _ t' u s0.wf (by show id < t.nodes.length; omega) hz (fun x hx => by cases hx) h
    refine ⟨m, fun N hk f' hf => ?_⟩
    obtain ⟨p1, _, p2⟩ := g N hk
    rw [List.nil_append] at p1
    rw [p1]
    have := p2 f' hf
    simp only at this
    rw [hid] at this
    exact this

/-- Of a whole text: a walk from its first node comes to all, in their order, and again only to what had a name. -/
theorem textM_pre (hD : B.depth ≤ 20) (hN : B.nodes ≤ 500) (hA : B.anchors ≤ 100) {t t' : PS} {u : Unit} (hw : WF s t) (hn : t.nodes = []) (hnm : t.names = []) (h : textM s B t = .ok u t') (f : Nat) (hf : highOf t'.nodes 0 < f) :
    Walk1 t'.nodes f 0 0 t'.nodes.length t'.names := by
  unfold textM at h
  simp only at h
  split at h
  · cases h
  · obtain ⟨_, t1, h1, h2⟩ := Res.bind_ok_iff h
    have s0 := nextM_step hw
    split at h2
    · cases h2
      simp only at hf ⊢
      unfold topM at h1
      split at h1
      · obtain ⟨id, t2, h3, h4⟩ := Res.bind_ok_iff h1
        obtain ⟨hlv, e1, ht2, hz, hid, s1⟩ := beginM_ok hN s0.wf h3
        have e0 : id = 0 := by rw [e1]; show t.nodes.length = 0; rw [hn]; rfl
        subst e0
        obtain ⟨m, g⟩ := blockM_pre hD hN hA 21 0 0 t2 t1 _ s1.wf (by rw [ht2]; show (t.nodes ++ [NodeV.blank]).length = _; rw [hn]; rfl) hz (by omega) (by simpa using hlv) h4
        obtain ⟨f, rfl⟩ : ∃ g, f = g + 1 := ⟨f - 1, by omega⟩
        exact Walk1.fresh (g t1.nodes (fun i _ => rfl) f hf)
      · obtain ⟨id, t2, h3, h4⟩ := Res.bind_ok_iff h1
        have e0 : id = 0 := by
          have : id = (nextM s t).nodes.length := flowS_id (val := valueS s (flowM s B 20)) hnm h3
          rw [this]; show t.nodes.length = 0; rw [hn]; rfl
        subst e0
        obtain ⟨m, g⟩ := flowM_pre hD hN hA 21 1 _ _ _ s0.wf (by omega) h3
        have e3 := endLineM_nodes h4
        have e4 := endLineM_names h4
        rw [e3] at hf
        rw [e3, e4]
        have := g t2.nodes (fun i _ => rfl) f hf
        rw [show (nextM s t).nodes.length = 0 by show t.nodes.length = 0; rw [hn]; rfl] at this
        exact this
    · cases h2

end

end Go.Proofs.YtkflkmmbakccoaaGreatDoor

/- THE PLAIN FUNCTIONS: what stands in a text at a place, and how its words are read. No program is named here. -/
namespace Go.Proofs.YtkflkmmbakccoaaGreatDoor

/-- These bytes stand in the text from k on. -/
def At (s : ByteArray) (k : Nat) (w : List UInt8) : Prop := ∃ r, s.data.toList.drop k = w ++ r

theorem At.app {s : ByteArray} {k : Nat} {a b : List UInt8} (h : At s k (a ++ b)) : At s k a ∧ At s (k + a.length) b := by
  obtain ⟨r, hr⟩ := h
  refine ⟨⟨b ++ r, by rw [hr, List.append_assoc]⟩, ⟨r, ?_⟩⟩
  rw [← List.drop_drop, hr, List.append_assoc, List.drop_left]

theorem At.of {s : ByteArray} {k : Nat} {a b : List UInt8} (h1 : At s k a) (h2 : At s (k + a.length) b) : At s k (a ++ b) := by
  obtain ⟨r, hr⟩ := h1
  obtain ⟨q, hq⟩ := h2
  rw [← List.drop_drop, hr, List.drop_left] at hq
  exact ⟨q, by rw [hr, hq, List.append_assoc]⟩

theorem At.nil (s : ByteArray) (k : Nat) : At s k [] := ⟨_, rfl⟩

theorem At.all (w : List UInt8) : At ⟨w.toArray⟩ 0 w := ⟨[], by simp⟩

theorem byteAt_get {s : ByteArray} {k : Nat} {c : UInt8} (h : s.data.toList[k]? = some c) : k < s.size ∧ byteAt s k = (c.toNat : Int) := by
  have hk : k < s.data.toList.length := by
    by_cases hk : k < s.data.toList.length
    · exact hk
    · rw [List.getElem?_eq_none (by omega)] at h; cases h
  have hk' : k < s.size := hk
  refine ⟨hk', ?_⟩
  rw [byteAt_lt s k hk']
  rw [List.getElem?_eq_getElem hk] at h
  cases h
  rfl

theorem At.head {s : ByteArray} {k : Nat} {c : UInt8} {w : List UInt8} (h : At s k (c :: w)) : k < s.size ∧ byteAt s k = (c.toNat : Int) ∧ At s (k + 1) w := by
  obtain ⟨r, hr⟩ := h
  have h0 : s.data.toList[k]? = some c := by
    have : (s.data.toList.drop k)[0]? = some c := by rw [hr]; rfl
    rw [List.getElem?_drop] at this
    simpa using this
  obtain ⟨a, b⟩ := byteAt_get h0
  exact ⟨a, b, r, by rw [← List.drop_drop, hr]; rfl⟩

theorem At.le {s : ByteArray} {k : Nat} {w : List UInt8} (h : At s k w) (hw : w ≠ []) : k + w.length ≤ s.size := by
  obtain ⟨r, hr⟩ := h
  have h1 : (s.data.toList.drop k).length = w.length + r.length := by rw [hr, List.length_append]
  rw [List.length_drop] at h1
  have h2 : s.data.toList.length = s.size := rfl
  have h3 : 0 < w.length := List.length_pos_iff.2 hw
  omega

theorem At.extract {s : ByteArray} {k : Nat} {w : List UInt8} (h : At s k w) : s.extract k (k + w.length) = ⟨w.toArray⟩ := by
  obtain ⟨r, hr⟩ := h
  have e : (s.extract k (k + w.length)).data = w.toArray := by
    rw [data_extract]
    apply Array.ext'
    rw [Array.toList_extract]
    simp only [List.extract_eq_take_drop]
    rw [hr]
    simp
  cases hh : s.extract k (k + w.length) with
  | mk d => rw [hh] at e; simp only at e; rw [e]

theorem isWB_end : isWB (-1) = false := by decide

theorem wEnd_at {s : ByteArray} (w : List UInt8) : ∀ k, At s k w → (∀ b ∈ w, isWB (b.toNat : Int) = true) → isWB (byteAt s (k + w.length)) = false → wEnd s k = k + w.length := by
  induction w with
  | nil =>
    intro k _ _ hf
    simp only [List.length_nil, Nat.add_zero] at hf ⊢
    by_cases hk : k < s.size
    · exact wEnd_stop s k hk hf
    · exact wEnd_end s k hk
  | cons c w ih =>
    intro k h hw hf
    obtain ⟨h1, h2, h3⟩ := h.head
    rw [wEnd_go s k h1 (by rw [h2]; exact hw c (List.mem_cons_self ..)), ih (k + 1) h3 (fun b hb => hw b (List.mem_cons_of_mem _ hb)) (by rw [List.length_cons] at hf; rw [show k + 1 + w.length = k + (w.length + 1) by omega]; exact hf)]
    rw [List.length_cons]; omega

theorem qEnd_at {s : ByteArray} (w : List UInt8) : ∀ k, At s k (w ++ [34]) → (∀ b ∈ w, b ≠ 10 ∧ b ≠ 34) → qEnd s k = k + w.length := by
  induction w with
  | nil =>
    intro k h _
    obtain ⟨h1, h2, _⟩ := h.head
    exact qEnd_stop s k h1 (.inr h2)
  | cons c w ih =>
    intro k h hw
    obtain ⟨h1, h2, h3⟩ := h.head
    obtain ⟨a, b⟩ := hw c (List.mem_cons_self ..)
    have ne : ∀ d : UInt8, c ≠ d → byteAt s k ≠ (d.toNat : Int) := fun d hd e => hd (by
      rw [h2] at e
      exact UInt8.toNat_inj.1 (by omega))
    rw [qEnd_go s k h1 (ne 10 a) (ne 34 b), ih (k + 1) h3 (fun b hb => hw b (List.mem_cons_of_mem _ hb)), List.length_cons]
    omega

theorem kindB_word {x : Int} (h : isWB x = true) : kindB x = 2 := by
  have hx : (97 ≤ x ∧ x ≤ 122) ∨ (65 ≤ x ∧ x ≤ 90) ∨ (48 ≤ x ∧ x ≤ 57) ∨ x = 95 ∨ x = 46 := by
    simp only [isWB, Bool.or_eq_true, Bool.and_eq_true, decide_eq_true_eq, beq_iff_eq] at h
    omega
  unfold kindB
  rw [h]
  have hb : ∀ c : Int, (c = 10 ∨ c = 34 ∨ c = 45 ∨ c = 58 ∨ c = 44 ∨ c = 42 ∨ c = 38 ∨ c = 91 ∨ c = 93 ∨ c = 123 ∨ c = 125) → (x == c) = false := fun c hc => by
    rw [beq_eq_false_iff_ne]
    omega
  rw [hb 10 (by omega), hb 34 (by omega), hb 45 (by omega), hb 58 (by omega), hb 44 (by omega), hb 42 (by omega), hb 38 (by omega), hb 91 (by omega), hb 93 (by omega), hb 123 (by omega), hb 125 (by omega)]
  rfl

theorem kindAt_byte {s : ByteArray} {k : Nat} {c : Int} (h : k < s.size) (hc : byteAt s k = c) : kindAt s k = kindB c := by
  rw [kindAt, if_pos h, hc]

theorem skip_at {s : ByteArray} {k : Nat} (h : byteAt s k ≠ 32) : skipBl s k = k := by
  by_cases hk : k < s.size
  · exact skipBl_stop s k hk h
  · exact skipBl_end s k hk

theorem skip_one {s : ByteArray} {k : Nat} {w : List UInt8} (h : At s k (32 :: w)) : skipBl s k = skipBl s (k + 1) := by
  obtain ⟨h1, h2, _⟩ := h.head
  exact skipBl_blank s k h1 h2

theorem isWB_ne {x : Int} (h : isWB x = true) : x ≠ 32 := by
  intro e; subst e; revert h; decide

/-- A word of these bytes stands at k. -/
theorem word_at {s : ByteArray} {k : Nat} {x : ByteArray} (hx : isWordB x = true) (h : At s k x.data.toList) (hf : isWB (byteAt s (k + x.data.toList.length)) = false) :
    kindAt s k = 2 ∧ rdAny s k = (x, true, k + x.data.toList.length) ∧ byteAt s k ≠ 32 := by
  simp only [isWordB, Bool.and_eq_true, decide_eq_true_eq, List.all_eq_true] at hx
  obtain ⟨⟨h1, h2⟩, h3⟩ := hx
  have hl : x.data.toList.length = x.size := rfl
  have hw := wEnd_at x.data.toList k h h3 hf
  obtain ⟨c, w, hc⟩ : ∃ c w, x.data.toList = c :: w := by
    cases hd : x.data.toList with
    | nil => rw [hd] at hl; simp at hl; omega
    | cons c w => exact ⟨c, w, rfl⟩
  have hh := h
  rw [hc] at hh
  obtain ⟨g1, g2, _⟩ := hh.head
  have hcw : isWB (c.toNat : Int) = true := h3 c (by rw [hc]; exact List.mem_cons_self ..)
  have hk : kindAt s k = 2 := by rw [kindAt_byte g1 g2]; exact kindB_word hcw
  refine ⟨hk, ?_, by rw [g2]; exact isWB_ne hcw⟩
  unfold rdAny
  rw [if_neg (by omega)]
  unfold rdWord
  rw [hw, if_neg (by omega), h.extract]
  have e : (⟨x.data.toList.toArray⟩ : ByteArray) = x := by cases x; simp
  rw [e]
  simp only [Prod.mk.injEq, decide_eq_true_eq, true_and, and_true]
  omega

/-- A text as it is written stands at k. -/
theorem text_at {s : ByteArray} {k : Nat} {x : ByteArray} (hx : TokOk x) (h : At s k (textL x)) (hf : isWB (byteAt s (k + (textL x).length)) = false) :
    (kindAt s k = 2 ∨ kindAt s k = 3) ∧ rdAny s k = (x, true, k + (textL x).length) ∧ byteAt s k ≠ 32 := by
  unfold textL at h hf ⊢
  by_cases hw : isWordB x = true
  · rw [if_pos hw] at h hf ⊢
    obtain ⟨a, b, c⟩ := word_at hw h hf
    exact ⟨.inl a, b, c⟩
  · rw [if_neg hw] at h hf ⊢
    obtain ⟨g1, g2, g3⟩ := h.head
    have hk : kindAt s k = 3 := by rw [kindAt_byte g1 g2]; rfl
    have hq := qEnd_at x.data.toList (k + 1) g3 hx.2
    have hl : x.data.toList.length = x.size := rfl
    have h20 := hx.1
    refine ⟨.inr hk, ?_, by rw [g2]; decide⟩
    unfold rdAny
    rw [if_pos hk]
    unfold rdStr
    obtain ⟨g4, g5⟩ := g3.app
    obtain ⟨_, g6, _⟩ := g5.head
    rw [hq, if_neg (by omega), if_pos (by rw [g6]; rfl), g4.extract]
    have e : (⟨x.data.toList.toArray⟩ : ByteArray) = x := by cases x; simp
    rw [e]
    simp only [List.length_cons, List.length_append, List.length_nil]
    rw [show k + 1 + x.data.toList.length + 1 = k + (x.data.toList.length + (0 + 1) + 1) by omega]

theorem readM_at {s : ByteArray} {t : PS} {k e : Nat} {x : ByteArray} (hs : skipBl s t.k = k) (h : rdAny s k = (x, true, e)) : readM s t = .ok x { t with k := e } := by
  unfold readM
  rw [hs, h]
  rfl

theorem wordM_at {s : ByteArray} {t : PS} {k e : Nat} {x : ByteArray} (hs : skipBl s t.k = k) (hk : kindAt s k = 2) (h : rdAny s k = (x, true, e)) : wordM s t = .ok x { t with k := e } := by
  unfold wordM
  rw [hs, if_pos hk]
  exact readM_at (by show skipBl s k = k; rw [← hs, skipBl_idem]) h

theorem expectM_at {s : ByteArray} {t : PS} {k : Nat} {kd : Int} (hs : skipBl s t.k = k) (hk : kindAt s k = kd) : expectM s kd t = .ok () { t with k := k + 1 } := by
  unfold expectM
  rw [hs, if_pos hk]

theorem keyM_at {s : ByteArray} {t : PS} {k e : Nat} {x : ByteArray} {keys : List ByteArray} (hs : skipBl s t.k = k) (hk : kindAt s k = 2 ∨ kindAt s k = 3) (h : rdAny s k = (x, true, e)) (hx : x ∉ keys) (hc : byteAt s e = 58) (he : e < s.size) : keyM s keys t = .ok (keys ++ [x]) { t with k := e + 1 } := by
  unfold keyM
  rw [hs, if_pos hk, readM_at (k := k) (by show skipBl s k = k; rw [← hs, skipBl_idem]) h, Res.bind_ok]
  have ha : keys.any (fun y => decide (y = x)) = false := by
    rw [List.any_eq_false]
    intro y hy
    simp only [decide_eq_true_eq]
    intro e
    exact hx (e ▸ hy)
  rw [ha]
  simp only [Bool.false_eq_true, if_false]
  rw [expectM_at (k := e) (skip_at (by simp only; omega)) (by rw [kindAt_byte he hc]; rfl)]
  rfl

end Go.Proofs.YtkflkmmbakccoaaGreatDoor

/- THE PLAIN FUNCTIONS: what is written in one line, and what the reader makes of it. No program is named here. -/
namespace Go.Proofs.YtkflkmmbakccoaaGreatDoor

/-- Items, one behind another: key, name, kind (3: an alias), text, whether it stands below, what is in it; the rest. -/
inductive Frst where
  | nil : Frst
  | cons (key : ByteArray) (nm : Option ByteArray) (kind : Nat) (text : ByteArray) (blw : Bool) (kids rest : Frst) : Frst

namespace Frst

def keysOf : Frst → List ByteArray
  | .nil => []
  | .cons key _ _ _ _ _ rest => key :: rest.keysOf

def len : Frst → Nat
  | .nil => 0
  | .cons _ _ _ _ _ _ rest => rest.len + 1

def hgt : Frst → Nat
  | .nil => 0
  | .cons _ _ kind _ _ kids rest => if kind = 3 then rest.hgt else max (kids.hgt + 1) rest.hgt

end Frst

/-- A node has begun. -/
def begun (nm : Option ByteArray) (t : PS) : PS := { t with nodes := t.nodes ++ [NodeV.blank], anchors := t.anchors + (if nm.isSome then 1 else 0) }

/-- A node has ended. -/
def ended (nm : Option ByteArray) (id : Nat) (n : NodeV) (t : PS) : PS :=
  match nm with
  | none => endM id n t
  | some x => { endM id n t with names := (x, id) :: t.names }

def mkNode (kind : Nat) (text : ByteArray) (keys : List ByteArray) (ids : List Nat) : NodeV :=
  { NodeV.blank with kind := kind, text := if kind = 0 then text else ByteArray.empty, keys := if kind = 2 then keys else [], parts := ids }

namespace Frst

/-- What the reader makes of items: their nodes' numbers, and where it stands then. -/
def run : Frst → PS → List Nat × PS
  | .nil, t => ([], t)
  | .cons _ nm kind text _ kids rest, t =>
    if kind = 3 then ((lookM t.names text).getD 0 :: (rest.run t).1, (rest.run t).2)
    else (t.nodes.length :: (rest.run (ended nm t.nodes.length (mkNode kind text kids.keysOf (kids.run (begun nm t)).1) (kids.run (begun nm t)).2)).1, (rest.run (ended nm t.nodes.length (mkNode kind text kids.keysOf (kids.run (begun nm t)).1) (kids.run (begun nm t)).2)).2)

/-- Nothing bars the reader from these items. -/
def fits (B : Bud) : Frst → Int → PS → Prop
  | .nil, _, _ => True
  | .cons _ nm kind text _ kids rest, lv, t =>
    (kind = 3 → nm = none ∧ isWordB text = true ∧ (∃ i, lookM t.names text = some i ∧ lv + (highOf t.nodes i : Int) - 1 ≤ B.depth) ∧ rest.fits B lv t) ∧
    (kind ≠ 3 → lv ≤ B.depth ∧ (t.nodes.length : Int) < B.nodes ∧ (∀ x, nm = some x → isWordB x = true ∧ (t.anchors : Int) < B.anchors) ∧ kind ≤ 2 ∧ (kind = 0 → TokOk text ∧ kids = .nil) ∧
      (kind = 2 → (∀ x ∈ kids.keysOf, TokOk x) ∧ kids.keysOf.Nodup) ∧ kids.fits B (lv + 1) (begun nm t) ∧
      rest.fits B lv (ended nm t.nodes.length (mkNode kind text kids.keysOf (kids.run (begun nm t)).1) (kids.run (begun nm t)).2))

end Frst

/-- One item in a line. -/
def itemT (nm : Option ByteArray) (kind : Nat) (text : ByteArray) (inner : List UInt8) : List UInt8 :=
  (match nm with
  | none => []
  | some x => 38 :: (x.data.toList ++ [32])) ++ (if kind = 3 then 42 :: text.data.toList else if kind = 0 then textL text else if kind = 1 then 91 :: (inner ++ [93]) else 123 :: (inner ++ [125]))

namespace Frst

/-- Items in a line. -/
def txt (sep : List UInt8) : Frst → Bool → Bool → List UInt8
  | .nil, _, _ => []
  | .cons key nm kind text _ kids rest, m, fst => (if fst then [] else sep) ++ ((if m then textL key ++ [58, 32] else []) ++ (itemT nm kind text (kids.txt sep (kind == 2) true) ++ rest.txt sep m false))

theorem txt_nil (sep : List UInt8) (m fst : Bool) : txt sep .nil m fst = [] := rfl
theorem txt_cons (sep : List UInt8) (key : ByteArray) (nm : Option ByteArray) (kind : Nat) (text : ByteArray) (blw : Bool) (kids rest : Frst) (m fst : Bool) :
    txt sep (.cons key nm kind text blw kids rest) m fst = (if fst then [] else sep) ++ ((if m then textL key ++ [58, 32] else []) ++ (itemT nm kind text (kids.txt sep (kind == 2) true) ++ rest.txt sep m false)) := rfl

theorem run_k (F : Frst) : ∀ (t : PS) (a b : Nat), F.run { t with k := a, ind := b } = ((F.run t).1, { (F.run t).2 with k := a, ind := b }) := by
  induction F with
  | nil => intro t a b; rfl
  | cons key nm kind text blw kids rest ih1 ih2 =>
    intro t a b
    unfold run
    by_cases h3 : kind = 3
    · rw [if_pos h3, if_pos h3, ih2 t a b]
    · rw [if_neg h3, if_neg h3]
      have e1 : begun nm { t with k := a, ind := b } = { begun nm t with k := a, ind := b } := rfl
      rw [e1, ih1 (begun nm t) a b]
      have e2 : ∀ n u, ended nm t.nodes.length n { u with k := a, ind := b } = { ended nm t.nodes.length n u with k := a, ind := b } := fun n u => by cases nm <;> rfl
      simp only
      rw [e2, ih2 _ a b]

theorem fits_k (B : Bud) (F : Frst) : ∀ (lv : Int) (t : PS) (a b : Nat), F.fits B lv t → F.fits B lv { t with k := a, ind := b } := by
  induction F with
  | nil => intro lv t a b _; trivial
  | cons key nm kind text blw kids rest ih1 ih2 =>
    intro lv t a b h
    unfold fits at h ⊢
    refine ⟨fun h3 => ?_, fun h3 => ?_⟩
    · obtain ⟨h1, h2, h4, h5⟩ := h.1 h3
      exact ⟨h1, h2, h4, ih2 _ _ _ _ h5⟩
    · obtain ⟨h1, h2, h4, h5, h6, h7, h8, h9⟩ := h.2 h3
      have e1 : begun nm { t with k := a, ind := b } = { begun nm t with k := a, ind := b } := rfl
      have e2 : ∀ n u, ended nm t.nodes.length n { u with k := a, ind := b } = { ended nm t.nodes.length n u with k := a, ind := b } := fun n u => by cases nm <;> rfl
      refine ⟨h1, h2, h4, h5, h6, h7, ?_, ?_⟩
      · rw [e1]; exact ih1 _ _ _ _ h8
      · rw [e1, run_k]
        simp only
        rw [e2]
        exact ih2 _ _ _ _ h9

theorem run_k1 (F : Frst) (t : PS) (a : Nat) : F.run { t with k := a } = ((F.run t).1, { (F.run t).2 with k := a }) := by
  have h := run_k F t a t.ind
  have e : (F.run t).2.ind = t.ind := by
    have := run_k F t t.k t.ind
    exact congrArg (fun r : List Nat × PS => r.2.ind) this
  rw [h]
  congr 1
  cases hr : (F.run t).2
  rw [hr] at e
  simp only at e
  subst e
  rfl

theorem fits_k1 {B : Bud} {F : Frst} {lv : Int} {t : PS} (a : Nat) (h : F.fits B lv t) : F.fits B lv { t with k := a } := fits_k B F lv t a t.ind h

theorem len_txt (sep : List UInt8) (F : Frst) : ∀ m fst, F.len ≤ (F.txt sep m fst).length := by
  induction F with
  | nil => intro m fst; simp [len]
  | cons key nm kind text blw kids rest _ ih =>
    intro m fst
    have h1 := ih m false
    have h2 : 1 ≤ (if kind = 3 then 42 :: text.data.toList else if kind = 0 then textL text else if kind = 1 then 91 :: (kids.txt sep (kind == 2) true ++ [93]) else 123 :: (kids.txt sep (kind == 2) true ++ [125])).length := by
      split
      · simp
      · split
        · unfold textL
          split
          · rename_i hw
            simp only [isWordB, Bool.and_eq_true, decide_eq_true_eq] at hw
            exact hw.1.1
          · simp
        · split <;> simp
    unfold txt len itemT
    simp only [List.length_append]
    omega

theorem hgt_le {B : Bud} (F : Frst) : ∀ (lv : Int) (t : PS), F.fits B lv t → F.hgt = 0 ∨ lv + (F.hgt : Int) ≤ B.depth + 1 := by
  induction F with
  | nil => intro lv t _; exact .inl rfl
  | cons key nm kind text blw kids rest ih1 ih2 =>
    intro lv t h
    unfold fits at h
    unfold hgt
    by_cases h3 : kind = 3
    · rw [if_pos h3]
      exact ih2 _ _ (h.1 h3).2.2.2
    · rw [if_neg h3]
      obtain ⟨h1, _, _, _, _, _, h8, h9⟩ := h.2 h3
      have a := ih1 _ _ h8
      have b := ih2 _ _ h9
      right
      omega

end Frst

theorem textL_head (x : ByteArray) : ∃ c w, textL x = c :: w ∧ (c = 34 ∨ isWB (c.toNat : Int) = true) := by
  unfold textL
  by_cases h : isWordB x = true
  · rw [if_pos h]
    simp only [isWordB, Bool.and_eq_true, decide_eq_true_eq, List.all_eq_true] at h
    obtain ⟨⟨h1, _⟩, h3⟩ := h
    cases hd : x.data.toList with
    | nil =>
      have hl : x.data.toList.length = x.size := rfl
      rw [hd] at hl; simp at hl; omega
    | cons c w => exact ⟨c, w, rfl, .inr (h3 c (by rw [hd]; exact List.mem_cons_self ..))⟩
  · rw [if_neg h]; exact ⟨34, _, rfl, .inl rfl⟩

theorem text_first {s : ByteArray} {k : Nat} {x : ByteArray} {w : List UInt8} (h : At s k (textL x ++ w)) : (kindAt s k = 2 ∨ kindAt s k = 3) ∧ byteAt s k ≠ 32 := by
  obtain ⟨c, v, hc, hk⟩ := textL_head x
  rw [hc] at h
  obtain ⟨h1, h2, _⟩ := h.head
  rw [kindAt_byte h1 h2]
  rcases hk with rfl | hk
  · exact ⟨.inr rfl, by rw [h2]; decide⟩
  · exact ⟨.inl (kindB_word hk), by rw [h2]; exact isWB_ne hk⟩

/-- With what an item begins. -/
theorem item_first {s : ByteArray} {k : Nat} {nm : Option ByteArray} {kind : Nat} {text : ByteArray} {inner w : List UInt8} (h : At s k (itemT nm kind text inner ++ w)) :
    byteAt s k ≠ 32 ∧ (kindAt s k = 2 ∨ kindAt s k = 3 ∨ kindAt s k = 7 ∨ kindAt s k = 8 ∨ kindAt s k = 9 ∨ kindAt s k = 11) := by
  unfold itemT at h
  cases nm with
  | some x =>
    obtain ⟨h1, h2, _⟩ := At.head (show At s k (38 :: _) from h)
    rw [kindAt_byte h1 h2]
    exact ⟨by rw [h2]; decide, .inr (.inr (.inr (.inl rfl)))⟩
  | none =>
    simp only [List.nil_append] at h
    split at h
    · obtain ⟨h1, h2, _⟩ := At.head (show At s k (42 :: _) from h)
      rw [kindAt_byte h1 h2]
      exact ⟨by rw [h2]; decide, .inr (.inr (.inl rfl))⟩
    · split at h
      · obtain ⟨a, b⟩ := text_first h
        exact ⟨b, by rcases a with a | a <;> simp [a]⟩
      · split at h
        · obtain ⟨h1, h2, _⟩ := At.head (show At s k (91 :: _) from h)
          rw [kindAt_byte h1 h2]
          exact ⟨by rw [h2]; decide, .inr (.inr (.inr (.inr (.inl rfl))))⟩
        · obtain ⟨h1, h2, _⟩ := At.head (show At s k (123 :: _) from h)
          rw [kindAt_byte h1 h2]
          exact ⟨by rw [h2]; decide, .inr (.inr (.inr (.inr (.inr rfl))))⟩

/-- With what items begin. -/
theorem txt_first {s : ByteArray} {k : Nat} {sep : List UInt8} {F : Frst} {m : Bool} {w : List UInt8} (hF : F ≠ .nil) (h : At s k (F.txt sep m true ++ w)) :
    byteAt s k ≠ 32 ∧ (kindAt s k = 2 ∨ kindAt s k = 3 ∨ kindAt s k = 7 ∨ kindAt s k = 8 ∨ kindAt s k = 9 ∨ kindAt s k = 11) := by
  cases F with
  | nil => exact absurd rfl hF
  | cons key nm kind text blw kids rest =>
    unfold Frst.txt at h
    simp only [if_true, List.nil_append] at h
    cases m with
    | true =>
      simp only [if_true, List.append_assoc] at h
      obtain ⟨a, b⟩ := text_first h
      exact ⟨b, by rcases a with a | a <;> simp [a]⟩
    | false =>
      simp only [Bool.false_eq_true, if_false, List.nil_append, List.append_assoc] at h
      exact item_first h

end Go.Proofs.YtkflkmmbakccoaaGreatDoor
