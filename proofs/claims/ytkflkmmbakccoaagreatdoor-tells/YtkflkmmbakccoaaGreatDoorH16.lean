/- PARTS: Mod8. -/
import Derived.Test.YtkflkmmbakccoaaGreatDoorH2

/- THE PLAIN FUNCTIONS: what holds of the nodes that have ended. No program is named here. -/
namespace Go.Proofs.YtkflkmmbakccoaaGreatDoor

def nodeAt (nodes : List NodeV) (i : Nat) : NodeV := nodes.getD i NodeV.blank

/-- A text that may stand in a node: none of its bytes is a newline or a quote. -/
def TokOk (x : ByteArray) : Prop := x.size ≤ 20 ∧ ∀ b ∈ x.data.toList, b ≠ 10 ∧ b ≠ 34

theorem tokOk_empty : TokOk ByteArray.empty := ⟨by decide, fun b hb => by simp at hb⟩

/-- A node that has ended, among these. -/
structure NodeOk (nodes : List NodeV) (n : NodeV) : Prop where
  parts : ∀ p ∈ n.parts, highOf nodes p ≠ 0
  high : n.high = (n.parts.foldl (fun a i => max a (highOf nodes i)) 0) + 1
  heavy : n.heavy = n.parts.foldl (fun a i => min (a + heavyOf nodes i) 1000000000001) 1
  kind : n.kind ≤ 2
  keys : n.keys.length = if n.kind = 2 then n.parts.length else 0
  none : n.kind = 0 → n.parts = []
  notext : n.kind ≠ 0 → n.text = ByteArray.empty
  len : n.parts.length ≤ 1000
  text : TokOk n.text
  words : ∀ x ∈ n.keys, TokOk x
  apart : n.keys.Nodup

def AllOk (nodes : List NodeV) : Prop := ∀ i, highOf nodes i ≠ 0 → NodeOk nodes (nodeAt nodes i)

theorem foldl_congr' {α β : Type} (f g : α → β → α) (l : List β) (a : α) (h : ∀ a, ∀ x ∈ l, f a x = g a x) : l.foldl f a = l.foldl g a := by
  induction l generalizing a with
  | nil => rfl
  | cons x l ih => rw [List.foldl_cons, List.foldl_cons, h a x (List.mem_cons_self ..)]; exact ih _ (fun a y hy => h a y (List.mem_cons_of_mem _ hy))

theorem NodeOk.keep {nodes nodes' : List NodeV} {n : NodeV} (h : NodeOk nodes n) (hk : ∀ i, highOf nodes i ≠ 0 → nodes'[i]? = nodes[i]?) : NodeOk nodes' n := by
  have e1 : ∀ p ∈ n.parts, highOf nodes' p = highOf nodes p := fun p hp => by simp only [highOf, List.getD, hk p (h.parts p hp)]
  have e2 : ∀ p ∈ n.parts, heavyOf nodes' p = heavyOf nodes p := fun p hp => by simp only [heavyOf, List.getD, hk p (h.parts p hp)]
  refine ⟨fun p hp => by rw [e1 p hp]; exact h.parts p hp, ?_, ?_, h.kind, h.keys, h.none, h.notext, h.len, h.text, h.words, h.apart⟩
  · rw [h.high]; congr 1; exact foldl_congr' _ _ _ _ (fun a x hx => by rw [e1 x hx])
  · rw [h.heavy]; exact foldl_congr' _ _ _ _ (fun a x hx => by rw [e2 x hx])

/-- From one state to a later one: what has ended is whole; and all that has begun since has ended, but x. -/
structure Fin' (x : Option Nat) (t t' : PS) : Prop where
  ok : AllOk t.nodes → AllOk t'.nodes
  new : ∀ i, t.nodes.length ≤ i → i < t'.nodes.length → x ≠ some i → highOf t'.nodes i ≠ 0

theorem Fin'.same {x : Option Nat} {t t' : PS} (h : t'.nodes = t.nodes) : Fin' x t t' := ⟨fun a => by rw [h]; exact a, fun i h1 h2 => by rw [h] at h2; omega⟩

theorem Fin'.weak {x : Option Nat} {t t' : PS} (h : Fin' none t t') : Fin' x t t' := ⟨h.ok, fun i h1 h2 _ => h.new i h1 h2 (by simp)⟩

theorem Fin'.trans {s : ByteArray} {x y : Option Nat} {t u v : PS} (h : Fin' x t u) (k : Fin' y u v) (st : Step s y u v) (hx : ∀ j, y = some j → x = some j ∨ highOf v.nodes j ≠ 0) : Fin' x t v := by
  refine ⟨fun a => k.ok (h.ok a), fun i h1 h2 h3 => ?_⟩
  by_cases hy : y = some i
  · rcases hx i hy with h4 | h4
    · exact absurd h4 h3
    · exact h4
  · by_cases hi : i < u.nodes.length
    · rw [st.highKeep hi hy]; exact h.new i h1 hi h3
    · exact k.new i (by omega) h2 hy

/-- Two of which the second begins none. -/
theorem Fin'.andThen {s : ByteArray} {x : Option Nat} {t u v : PS} (h : Fin' x t u) (k : Fin' none u v) (st : Step s none u v) : Fin' x t v := h.trans k st (fun j e => by cases e)

theorem nodeAt_set (nodes : List NodeV) (i j : Nat) (n : NodeV) (h : i < nodes.length) : nodeAt (nodes.set i n) j = if j = i then n else nodeAt nodes j := by
  simp only [nodeAt, List.getD, List.getElem?_set]
  by_cases hij : i = j
  · subst hij; simp [h]
  · rw [if_neg hij, if_neg (by omega)]

theorem beginM_nodes {B : Bud} {lv : Int} {t t' : PS} {id : Nat} (h : beginM B lv t = .ok id t') : t'.nodes = t.nodes ++ [NodeV.blank] ∧ id = t.nodes.length := by
  unfold beginM at h
  split at h
  · cases h
  · split at h
    · cases h
    · cases h; exact ⟨rfl, rfl⟩

theorem beginM_fin {B : Bud} {lv : Int} {t t' : PS} {id : Nat} (h : beginM B lv t = .ok id t') : Fin' (some id) t t' := by
  obtain ⟨e, rfl⟩ := beginM_nodes h
  refine ⟨fun a i hi => ?_, fun i h1 h2 h3 => ?_⟩
  · rw [e] at hi ⊢
    rw [highOf_appB] at hi
    have hl := highOf_lt hi
    have e2 : nodeAt (t.nodes ++ [NodeV.blank]) i = nodeAt t.nodes i := by simp [nodeAt, List.getD, List.getElem?_append_left hl]
    rw [e2]
    exact (a i hi).keep (fun j hj => List.getElem?_append_left (highOf_lt hj))
  · rw [e] at h2
    simp at h2
    exact absurd (by congr; omega) h3

theorem foldl_max_ge (f : Nat → Nat) (l : List Nat) (a : Nat) : a ≤ l.foldl (fun a i => max a (f i)) a ∧ ∀ x ∈ l, f x ≤ l.foldl (fun a i => max a (f i)) a := by
  induction l generalizing a with
  | nil => exact ⟨Nat.le_refl _, fun x hx => by cases hx⟩
  | cons y l ih =>
    obtain ⟨h1, h2⟩ := ih (max a (f y))
    refine ⟨by simp only [List.foldl_cons]; omega, fun x hx => ?_⟩
    rcases List.mem_cons.1 hx with rfl | hx
    · simp only [List.foldl_cons]; omega
    · exact h2 x hx

theorem NodeOk.lower {nodes : List NodeV} {n : NodeV} (h : NodeOk nodes n) {p : Nat} (hp : p ∈ n.parts) : highOf nodes p < n.high := by
  have := (foldl_max_ge (highOf nodes) n.parts 0).2 p hp
  rw [h.high]; omega

/-- What a node must be at its end. -/
structure EndOk (nodes : List NodeV) (n : NodeV) : Prop where
  parts : ∀ p ∈ n.parts, highOf nodes p ≠ 0
  kind : n.kind ≤ 2
  keys : n.keys.length = if n.kind = 2 then n.parts.length else 0
  none : n.kind = 0 → n.parts = []
  notext : n.kind ≠ 0 → n.text = ByteArray.empty
  len : n.parts.length ≤ 1000
  text : TokOk n.text
  words : ∀ x ∈ n.keys, TokOk x
  apart : n.keys.Nodup

theorem endM_fin {t : PS} {id : Nat} {n : NodeV} (hid : id < t.nodes.length) (hz : highOf t.nodes id = 0) (hn : EndOk t.nodes n) : Fin' (some id) t (endM id n t) := by
  have hk : ∀ i, highOf t.nodes i ≠ 0 → (t.nodes.set id (measured t.nodes n))[i]? = t.nodes[i]? := fun i hi => by
    rw [List.getElem?_set_ne (fun e => hi (by rw [← e]; exact hz))]
  refine ⟨fun a i hi => ?_, fun i h1 h2 => ?_⟩
  · show NodeOk (t.nodes.set id _) (nodeAt (t.nodes.set id _) i)
    have hi : highOf (t.nodes.set id (measured t.nodes n)) i ≠ 0 := hi
    rw [nodeAt_set _ _ _ _ hid]
    rw [highOf_set _ _ _ _ hid] at hi
    split
    · exact NodeOk.keep (nodes := t.nodes) ⟨hn.parts, rfl, rfl, hn.kind, hn.keys, hn.none, hn.notext, hn.len, hn.text, hn.words, hn.apart⟩ hk
    · rename_i hne
      rw [if_neg hne] at hi
      exact (a i hi).keep hk
  · simp [endM] at h2; omega

theorem data_extract (s : ByteArray) (a b : Nat) : (s.extract a b).data = s.data.extract a b := by simp

theorem mem_extract {s : ByteArray} {a b : Nat} {x : UInt8} (h : x ∈ (s.extract a b).data.toList) : ∃ k, a ≤ k ∧ k < b ∧ ∃ hk : k < s.size, s[k] = x := by
  rw [data_extract] at h
  rw [Array.mem_toList_iff] at h
  obtain ⟨i, hi, rfl⟩ := Array.mem_iff_getElem.1 h
  simp only [Array.size_extract] at hi
  refine ⟨a + i, by omega, by omega, by show a + i < s.data.size; omega, ?_⟩
  simp [Array.getElem_extract]
  rfl

theorem byteAt_ne {s : ByteArray} {k : Nat} (hk : k < s.size) (c : UInt8) (h : byteAt s k ≠ (c.toNat : Int)) : s[k] ≠ c := fun e => h (by rw [byteAt_lt s k hk, e])

theorem wEnd_in (s : ByteArray) (a k : Nat) (h1 : a ≤ k) (h2 : k < wEnd s a) : isWB (byteAt s k) = true := by
  rw [wEnd] at h2
  split at h2
  · split at h2
    · by_cases e : a = k
      · subst e; assumption
      · exact wEnd_in s (a + 1) k (by omega) h2
    · omega
  · omega
termination_by s.size - a

theorem qEnd_in (s : ByteArray) (a k : Nat) (h1 : a ≤ k) (h2 : k < qEnd s a) : byteAt s k ≠ 10 ∧ byteAt s k ≠ 34 := by
  rw [qEnd] at h2
  split at h2
  · split at h2
    · omega
    · by_cases e : a = k
      · subst e; omega
      · exact qEnd_in s (a + 1) k (by omega) h2
  · omega
termination_by s.size - a

theorem isWB_not {x : Int} (h : isWB x = true) : x ≠ 10 ∧ x ≠ 34 := by
  constructor <;> (intro e; subst e; revert h; decide)

theorem size_extract_le (s : ByteArray) (a b : Nat) : (s.extract a b).size ≤ b - a := by
  show (s.extract a b).data.size ≤ _
  rw [data_extract, Array.size_extract]; omega

theorem rdAny_tok (s : ByteArray) (q : Nat) : TokOk (rdAny s q).1 := by
  unfold rdAny
  split
  · unfold rdStr
    split
    · exact tokOk_empty
    · split
      · refine ⟨?_, fun b hb => ?_⟩
        · have := size_extract_le s (q + 1) (qEnd s (q + 1)); simp only; omega
        · obtain ⟨k, h1, h2, h3, rfl⟩ := mem_extract hb
          have := qEnd_in s (q + 1) k h1 h2
          exact ⟨byteAt_ne h3 10 this.1, byteAt_ne h3 34 this.2⟩
      · exact tokOk_empty
  · unfold rdWord
    split
    · exact tokOk_empty
    · refine ⟨?_, fun b hb => ?_⟩
      · have := size_extract_le s q (wEnd s q); simp only; omega
      · obtain ⟨k, h1, h2, h3, rfl⟩ := mem_extract hb
        have := isWB_not (wEnd_in s q k h1 h2)
        exact ⟨byteAt_ne h3 10 this.1, byteAt_ne h3 34 this.2⟩

theorem readM_nodes {s : ByteArray} {t t' : PS} {x : ByteArray} (h : readM s t = .ok x t') : t'.nodes = t.nodes ∧ TokOk x := by
  unfold readM at h
  split at h
  · cases h; exact ⟨rfl, rdAny_tok _ _⟩
  · cases h

theorem wordM_nodes {s : ByteArray} {t t' : PS} {x : ByteArray} (h : wordM s t = .ok x t') : t'.nodes = t.nodes := by
  unfold wordM at h
  split at h
  · exact (readM_nodes h).1
  · cases h

theorem expectM_nodes {s : ByteArray} {t t' : PS} {kd : Int} {x : Unit} (h : expectM s kd t = .ok x t') : t'.nodes = t.nodes := by
  unfold expectM at h
  split at h
  · cases h; rfl
  · cases h

theorem nodup_snoc {α : Type} {l : List α} {x : α} (h : l.Nodup) (hx : x ∉ l) : (l ++ [x]).Nodup := by
  rw [List.nodup_append]
  exact ⟨h, by simp, fun a ha b hb => by rw [List.mem_singleton.1 hb]; exact fun e => hx (e ▸ ha)⟩

theorem keyM_fin {s : ByteArray} {t t' : PS} {ks ks' : List ByteArray} (h : keyM s ks t = .ok ks' t') : t'.nodes = t.nodes ∧ ks'.length = ks.length + 1 ∧ ((∀ x ∈ ks, TokOk x) → ∀ x ∈ ks', TokOk x) ∧ (ks.Nodup → ks'.Nodup) := by
  unfold keyM at h
  split at h
  · obtain ⟨x, t1, h1, h2⟩ := Res.bind_ok_iff h
    obtain ⟨e1, hx⟩ := readM_nodes h1
    split at h2
    · cases h2
    · rename_i hany
      obtain ⟨_, t2, h3, h4⟩ := Res.bind_ok_iff h2
      have e2 := expectM_nodes h3
      cases h4
      refine ⟨e2.trans e1, by simp, fun hk y hy => ?_, fun hk => nodup_snoc hk (fun hm => hany ?_)⟩
      · rcases List.mem_append.1 hy with hy | hy
        · exact hk y hy
        · rw [List.mem_singleton.1 hy]; exact hx
      · rw [List.any_eq_true]
        exact ⟨x, hm, by simp⟩
  · cases h

theorem aliasM_nodes {s : ByteArray} {B : Bud} {lv : Int} {t t' : PS} {id : Nat} (h : aliasM s B lv t = .ok id t') : t'.nodes = t.nodes := by
  unfold aliasM at h
  obtain ⟨x, t1, h1, h2⟩ := Res.bind_ok_iff h
  have e1 := wordM_nodes h1
  split at h2
  · cases h2
  · split at h2
    · cases h2
    · cases h2; exact e1

def ValF (s : ByteArray) (B : Bud) (id : Nat) (lv : Int) (val : PS → Res Unit) : Prop :=
  ∀ t t' u, WF s t → id < t.nodes.length → highOf t.nodes id = 0 → 0 ≤ lv → lv ≤ B.depth → val t = .ok u t' → Fin' (some id) t t'
def FlowF (s : ByteArray) (_B : Bud) (lv : Int) (fl : PS → Res Nat) : Prop :=
  ∀ t t' id, WF s t → 0 ≤ lv → fl t = .ok id t' → Fin' none t t'

theorem Fin'.begun {s : ByteArray} {t t1 t2 : PS} {id : Nat} (h : Fin' (some id) t t1) (k : Fin' (some id) t1 t2) (st : Step s (some id) t1 t2) (hn : highOf t2.nodes id ≠ 0) : Fin' none t t2 := by
  have := h.trans k st (fun j e => .inl e)
  exact ⟨this.ok, fun i h1 h2 _ => by
    by_cases e : some id = some i
    · rw [← Option.some.inj e]; exact hn
    · exact this.new i h1 h2 e⟩

theorem namedM_fin {s : ByteArray} {B : Bud} {lv : Int} {rest : Nat → PS → Res Unit} {t t' : PS} {id : Nat} (hN : B.nodes ≤ 500) (hr : ∀ id, ValOk s B id lv (rest id)) (hF : ∀ id, ValF s B id lv (rest id)) (hA : B.anchors ≤ 100) (hw : WF s t) (h0 : 0 ≤ lv) (hk : t.k < s.size)
    (h : namedM s B lv rest t = .ok id t') : Fin' none t t' := by
  unfold namedM at h
  obtain ⟨id1, t1, h1, h2⟩ := Res.bind_ok_iff h
  have f1 := beginM_fin h1
  obtain ⟨hlv, hid1, ht1, hz, hid, s1⟩ := beginM_ok hN hw h1
  split at h2
  · cases h2
  · rename_i ha
    obtain ⟨x, t2, h3, h4⟩ := Res.bind_ok_iff h2
    have w2 : WF s { t1 with anchors := t1.anchors + 1, k := t1.k + 1 } := by
      subst ht1
      exact ⟨by simp; omega, s1.wf.nodes, by simp at ha ⊢; omega, by have := hw.names; simp; omega, s1.wf.named, s1.wf.heavy, s1.wf.high⟩
    have e2 := wordM_nodes h3
    have s2 := wordM_ok w2 h3
    simp only at e2
    obtain ⟨_, t3, h5, h6⟩ := Res.bind_ok_iff h4
    obtain ⟨s3, n3, b3⟩ := hr _ t2 t3 _ s2.wf (by rw [e2]; exact hid) h0 hlv h5
    have f3 := hF _ t2 t3 _ s2.wf (by rw [e2]; exact hid) (by rw [e2]; exact hz) h0 hlv h5
    cases h6
    have f2 : Fin' (some id) t t2 := ⟨fun a => by rw [e2]; exact f1.ok a, fun i h1 h2 h3 => by rw [e2] at h2 ⊢; exact f1.new i h1 h2 h3⟩
    have := Fin'.begun f2 f3 s3 n3
    exact ⟨this.ok, this.new⟩

theorem flowS_fin {s : ByteArray} {B : Bud} {val : Nat → Int → PS → Res Unit} {lv : Int} (hN : B.nodes ≤ 500) (hA : B.anchors ≤ 100) (hv : ∀ id lv, ValOk s B id lv (val id lv)) (hF : ∀ id lv, ValF s B id lv (val id lv)) : FlowF s B lv (flowS s B val lv) := by
  intro t t' id hw h0 h
  unfold flowS at h
  simp only at h
  have s0 := Step.skipTo hw
  split at h
  · exact Fin'.same ((aliasM_nodes h).trans rfl)
  · split at h
    · rename_i hk
      have := namedM_fin hN (fun id => hv id lv) (fun id => hF id lv) hA s0.wf h0 (kindAt_lt (by simp only; omega)) h
      exact ⟨this.ok, this.new⟩
    · split at h
      · obtain ⟨id1, t1, h1, h2⟩ := Res.bind_ok_iff h
        obtain ⟨hlv, hid1, ht1, hz, hid, s1⟩ := beginM_ok hN s0.wf h1
        have f1 := beginM_fin h1
        obtain ⟨_, t2, h3, h4⟩ := Res.bind_ok_iff h2
        obtain ⟨s2, n2, b2⟩ := hv _ lv t1 t2 _ s1.wf hid h0 hlv h3
        have f2 := hF _ lv t1 t2 _ s1.wf hid hz h0 hlv h3
        cases h4
        have := Fin'.begun f1 f2 s2 n2
        exact ⟨this.ok, this.new⟩
      · cases h

theorem inLoop_fin {s : ByteArray} {B : Bud} {lv : Int} {fl : PS → Res Nat} {isMap : Bool} {closing : Int} (hc : closing ≠ 0) (h0 : 0 ≤ lv) (hf : FlowOk s B (lv + 1) fl) (hF : FlowF s B (lv + 1) fl) (n : Nat) :
    ∀ keys parts t r t', WF s t → (∀ x ∈ parts, highOf t.nodes x ≠ 0 ∧ (highOf t.nodes x : Int) + lv ≤ B.depth) → parts.length ≤ t.k → (keys.length = if isMap then parts.length else 0) → (∀ x ∈ keys, TokOk x) → keys.Nodup → inLoop s fl isMap closing n keys parts t = .ok r t' →
      Fin' none t t' ∧ r.2.length ≤ t'.k ∧ (r.1.length = if isMap then r.2.length else 0) ∧ (∀ x ∈ r.1, TokOk x) ∧ r.1.Nodup := by
  induction n with
  | zero => intro keys parts t r t' _ _ _ _ _ _ h; cases h
  | succ n ih =>
    intro keys parts t r t' hw hp hl hkl hkt hkn h
    unfold inLoop at h
    obtain ⟨keys1, t1, h1, h2⟩ := Res.bind_ok_iff h
    have s1 : Step s none t t1 ∧ t1.nodes = t.nodes ∧ (keys1.length = if isMap then parts.length + 1 else 0) ∧ (∀ x ∈ keys1, TokOk x) ∧ keys1.Nodup := by
      cases isMap with
      | false => cases h1; exact ⟨Step.refl _ hw, rfl, hkl, hkt, hkn⟩
      | true =>
        have k := keyM_fin h1
        exact ⟨(keyM_ok hw h1).1, k.1, by rw [k.2.1, hkl]; rfl, k.2.2.1 hkt, k.2.2.2 hkn⟩
    obtain ⟨s1, e1, hkl1, hkt1, hkn1⟩ := s1
    obtain ⟨x, t2, h3, h4⟩ := Res.bind_ok_iff h2
    obtain ⟨s2, n2, b2⟩ := hf t1 t2 x s1.wf (by omega) h3
    have f2 := hF t1 t2 x s1.wf (by omega) h3
    have f12 : Fin' none t t2 := (Fin'.same (x := none) e1).andThen f2 s2
    have s12 := s1.andThen s2
    have hp2 : ∀ y ∈ parts ++ [x], highOf t2.nodes y ≠ 0 ∧ (highOf t2.nodes y : Int) + lv ≤ B.depth := by
      intro y hy
      rcases List.mem_append.1 hy with hy | hy
      · rw [s12.highKeep (highOf_lt (hp y hy).1) (by simp)]; exact hp y hy
      · rw [List.mem_singleton.1 hy]; exact ⟨n2, by omega⟩
    have s3 := Step.skipTo s2.wf
    have k1 := s12.k
    have k3 := s3.k
    simp only at k3
    split at h4
    · rename_i h6
      have hq := kindAt_lt (s := s) (q := skipBl s t2.k) (by omega)
      have s4 : Step s none t2 { t2 with k := skipBl s t2.k + 1 } := Step.move s2.wf (by omega) (by omega)
      have hlt : t.k < skipBl s t2.k + 1 := by omega
      obtain ⟨a, b⟩ := ih keys1 (parts ++ [x]) _ r t' s4.wf hp2 (by simp; omega) (by rw [hkl1]; simp) hkt1 hkn1 h4
      obtain ⟨sa, _, _⟩ := inLoop_ok hc h0 hf _ _ _ _ r t' s4.wf hp2 h4
      have f4 : Fin' none t { t2 with k := skipBl s t2.k + 1 } := ⟨f12.ok, f12.new⟩
      exact ⟨f4.andThen a sa, b⟩
    · obtain ⟨_, t3, h5, h6⟩ := Res.bind_ok_iff h4
      have e5 := expectM_nodes h5
      have s5 := expectM_ok hc s3.wf h5
      cases h6
      simp only at e5
      refine ⟨f12.andThen (Fin'.same (x := none) (t := t2) e5) (s3.andThen s5.1), ?_, ?_, hkt1, hkn1⟩
      · have := s5.2; simp at this ⊢; omega
      · rw [hkl1]; simp

theorem bracketsM_fin {s : ByteArray} {B : Bud} {lv : Int} {fl : PS → Res Nat} {isMap : Bool} {closing : Int} (hc : closing ≠ 0) (h0 : 0 ≤ lv) (hf : FlowOk s B (lv + 1) fl) (hF : FlowF s B (lv + 1) fl) {t t' : PS} {r : List ByteArray × List Nat} (hw : WF s t) (hk : t.k < s.size)
    (h : bracketsM s fl isMap closing t = .ok r t') : Fin' none t t' ∧ r.2.length ≤ t'.k ∧ (r.1.length = if isMap then r.2.length else 0) ∧ (∀ x ∈ r.1, TokOk x) ∧ r.1.Nodup := by
  unfold bracketsM at h
  simp only at h
  have s0 : Step s none t { t with k := t.k + 1 } := Step.move hw (by omega) (by omega)
  have s1 := s0.andThen (Step.skipTo s0.wf)
  split at h
  · cases h
    exact ⟨Fin'.same rfl, by simp, by simp, (fun x hx => by cases hx), by simp⟩
  · obtain ⟨a, b⟩ := inLoop_fin hc h0 hf hF _ _ _ _ r t' s1.wf (fun x hx => by cases hx) (by simp) (by simp) (fun x hx => by cases hx) (by simp) h
    exact ⟨⟨a.ok, a.new⟩, b⟩

theorem valueS_fin {s : ByteArray} {B : Bud} {fl : Int → PS → Res Nat} {id : Nat} {lv : Int} (hs : s.size ≤ 1000) (hD : B.depth ≤ 20) (hf : ∀ lv, FlowOk s B lv (fl lv)) (hF : ∀ lv, FlowF s B lv (fl lv)) : ValF s B id lv (valueS s fl id lv) := by
  intro t t' u hw hid hz h0 hlv h
  unfold valueS at h
  simp only at h
  have s0 := Step.skipTo hw
  split at h
  · obtain ⟨x, t1, h1, h2⟩ := Res.bind_ok_iff h
    obtain ⟨e1, hx⟩ := readM_nodes h1
    cases h2
    simp only at e1
    have := endM_fin (t := t1) (id := id) (n := { NodeV.blank with text := x }) (by rw [e1]; exact hid) (by rw [e1]; exact hz) ⟨(fun p hp => by cases hp), by simp [NodeV.blank], by simp [NodeV.blank], fun _ => rfl, fun h => absurd rfl h, by simp [NodeV.blank], hx, (fun y hy => by cases hy), by simp [NodeV.blank]⟩
    exact ⟨fun a => this.ok (by rw [e1]; exact a), fun i h1 h2 h3 => this.new i (by rw [e1]; exact h1) h2 h3⟩
  · have key : ∀ (isMap : Bool) (closing : Int) (kd : Nat), closing ≠ 0 → kd = (if isMap then 2 else 1) → t.k ≤ s.size → skipBl s t.k < s.size → ∀ r t1, bracketsM s (fl (lv + 1)) isMap closing { t with k := skipBl s t.k } = .ok r t1 → Fin' (some id) t (endM id { NodeV.blank with kind := kd, keys := r.1, parts := r.2 } t1) := by
      intro isMap closing kd hc hkd _ hlt r t1 h1
      obtain ⟨f1, hl, hkl, hkt, hkn⟩ := bracketsM_fin hc h0 (hf (lv + 1)) (hF (lv + 1)) s0.wf hlt h1
      obtain ⟨s1, hp⟩ := bracketsM_ok hc h0 (hf (lv + 1)) s0.wf hlt h1
      have s01 := s0.andThen s1
      have hz1 : highOf t1.nodes id = 0 := by rw [s01.highKeep hid (by simp)]; exact hz
      have hk1 := s1.wf.k
      have hid1 : id < t1.nodes.length := Nat.lt_of_lt_of_le hid s01.len
      have f2 := endM_fin (n := { NodeV.blank with kind := kd, keys := r.1, parts := r.2 }) hid1 hz1 ⟨fun p hp' => (hp p hp').1, by simp only; subst hkd; cases isMap <;> simp, by simp only [hkl]; subst hkd; cases isMap <;> simp, fun h => by simp only at h; subst hkd; cases isMap <;> simp at h, fun _ => rfl, by simp only; omega, tokOk_empty, hkt, hkn⟩
      obtain ⟨st, hn, _⟩ := endM_step (B := B) (lv := lv) (n := { NodeV.blank with kind := kd, keys := r.1, parts := r.2 }) s1.wf hid1 h0 hD hlv (fun x hx => (hp x hx).2)
      have f1' : Fin' (some id) t t1 := ⟨f1.ok, fun i h1 h2 _ => f1.new i h1 h2 (by simp)⟩
      exact f1'.trans f2 st (fun j e => .inl e)
    split at h
    · rename_i hk
      obtain ⟨r, t1, h1, h2⟩ := Res.bind_ok_iff h
      cases h2
      exact key false 10 1 (by omega) rfl hw.k (kindAt_lt (by omega)) r t1 h1
    · split at h
      · rename_i hk
        obtain ⟨r, t1, h1, h2⟩ := Res.bind_ok_iff h
        cases h2
        exact key true 12 2 (by omega) rfl hw.k (kindAt_lt (by omega)) r t1 h1
      · cases h

theorem flowM_fin {s : ByteArray} {B : Bud} (hs : s.size ≤ 1000) (hD : B.depth ≤ 20) (hN : B.nodes ≤ 500) (hA : B.anchors ≤ 100) (f : Nat) : ∀ lv, FlowF s B lv (flowM s B f lv) := by
  induction f with
  | zero => intro lv; exact flowS_fin hN hA (fun _ _ t t' u _ _ _ _ h => by cases h) (fun _ _ t t' u _ _ _ _ _ h => by cases h)
  | succ f ih => intro lv; exact flowS_fin hN hA (fun id lv => valueS_ok hD (flowM_ok hD hN hA f)) (fun id lv => valueS_fin hs hD (flowM_ok hD hN hA f) ih)

theorem valueM_fin {s : ByteArray} {B : Bud} (hs : s.size ≤ 1000) (hD : B.depth ≤ 20) (hN : B.nodes ≤ 500) (hA : B.anchors ≤ 100) (f : Nat) (id : Nat) (lv : Int) : ValF s B id lv (valueM s B f id lv) := valueS_fin hs hD (flowM_ok hD hN hA f) (flowM_fin hs hD hN hA f)

theorem endLineM_nodes {s : ByteArray} {t t' : PS} {u : Unit} (h : endLineM s t = .ok u t') : t'.nodes = t.nodes := by
  unfold endLineM at h
  split at h
  · cases h; rfl
  · cases h

theorem goBelowM_nodes {s : ByteArray} {t t' : PS} {d : Nat} {u : Unit} (h : goBelowM s d t = .ok u t') : t'.nodes = t.nodes := by
  unfold goBelowM at h
  simp only at h
  split at h
  · cases h; rfl
  · cases h

theorem Fin'.since {x : Option Nat} {t u v : PS} (h : Fin' x u v) (e : u.nodes = t.nodes) : Fin' x t v := ⟨fun a => h.ok (by rw [e]; exact a), fun i h1 h2 h3 => h.new i (by rw [e]; exact h1) h2 h3⟩
theorem Fin'.of_nodes {x : Option Nat} {t u v : PS} (e : u.nodes = t.nodes) (h : Fin' x u v) : Fin' x t v := ⟨fun a => h.ok (by rw [e]; exact a), fun i h1 h2 h3 => h.new i (by rw [e]; exact h1) h2 h3⟩
theorem Fin'.to_nodes {x : Option Nat} {t u v : PS} (e : v.nodes = u.nodes) (h : Fin' x t u) : Fin' x t v := ⟨fun a => by rw [e]; exact h.ok a, fun i h1 h2 h3 => by rw [e] at h2 ⊢; exact h.new i h1 h2 h3⟩

theorem namedItemS_fin {s : ByteArray} {B : Bud} (hs : s.size ≤ 1000) (hD : B.depth ≤ 20) (hN : B.nodes ≤ 500) (hA : B.anchors ≤ 100) {blk : Nat → Nat → PS → Res Unit} {d id : Nat} (hb : ∀ (id d : Nat), ValF s B id ((d : Int) + 1) (blk id d)) : ValF s B id (d + 2) (namedItemS s B blk d id) := by
  intro t t' u hw hid hz h0 hlv h
  unfold namedItemS at h
  simp only at h
  have s0 := Step.skipTo hw
  split at h
  · obtain ⟨_, t1, h1, h2⟩ := Res.bind_ok_iff h
    have e1 := goBelowM_nodes h1
    have s1 := s0.andThen (goBelowM_ok s0.wf h1)
    simp only at e1
    exact Fin'.of_nodes e1 (hb id (d + 1) t1 t' u s1.wf (by rw [e1]; exact hid) (by rw [e1]; exact hz) (by omega) (by push_cast; omega) h2)
  · obtain ⟨_, t1, h1, h2⟩ := Res.bind_ok_iff h
    have f1 := valueM_fin hs hD hN hA 21 id (d + 2) _ t1 _ s0.wf (by exact hid) (by exact hz) h0 hlv h1
    exact Fin'.to_nodes (endLineM_nodes h2) (f1.since rfl)

theorem itemS_fin {s : ByteArray} {B : Bud} (hs : s.size ≤ 1000) (hD : B.depth ≤ 20) (hN : B.nodes ≤ 500) (hA : B.anchors ≤ 100) {blk : Nat → Nat → PS → Res Unit} {d : Nat} (hb : ∀ (id d : Nat), ValOk s B id ((d : Int) + 1) (blk id d)) (hF : ∀ (id d : Nat), ValF s B id ((d : Int) + 1) (blk id d)) : FlowF s B (d + 2) (itemS s B blk d) := by
  intro t t' id hw h0 h
  unfold itemS at h
  simp only at h
  have s0 := Step.skipTo hw
  split at h
  · obtain ⟨_, t1, h1, h2⟩ := Res.bind_ok_iff h
    have e1 := goBelowM_nodes h1
    have s1 := s0.andThen (goBelowM_ok s0.wf h1)
    simp only at e1
    obtain ⟨id1, t2, h3, h4⟩ := Res.bind_ok_iff h2
    obtain ⟨hlv, _, _, hz, hid, s2⟩ := beginM_ok hN s1.wf h3
    have f2 := beginM_fin h3
    obtain ⟨_, t3, h5, h6⟩ := Res.bind_ok_iff h4
    obtain ⟨a, b, c⟩ := hb _ (d + 1) t2 t3 _ s2.wf hid (by omega) (by push_cast; omega) h5
    have f3 := hF _ (d + 1) t2 t3 _ s2.wf hid hz (by omega) (by push_cast; omega) h5
    cases h6
    exact Fin'.of_nodes e1 (Fin'.begun f2 f3 a b)
  · split at h
    · rename_i hk
      exact (namedM_fin hN (fun id => namedItemS_ok hD hN hA hb) (fun id => namedItemS_fin hs hD hN hA hF) hA s0.wf h0 (kindAt_lt (by simp only; omega)) h).since rfl
    · obtain ⟨id1, t1, h1, h2⟩ := Res.bind_ok_iff h
      have f1 := flowM_fin hs hD hN hA 21 _ _ _ _ s0.wf h0 h1
      obtain ⟨_, t2, h3, h4⟩ := Res.bind_ok_iff h2
      cases h4
      exact Fin'.to_nodes (endLineM_nodes h3) (f1.since rfl)

theorem blockLoop_fin {s : ByteArray} {B : Bud} {it : PS → Res Nat} {id d : Nat} {isMap : Bool} (hs : s.size ≤ 1000) (hD : B.depth ≤ 20) (hi : FlowOk s B (d + 2) it) (hF : FlowF s B (d + 2) it) (hlv : (d : Int) + 1 ≤ B.depth) (n : Nat) :
    ∀ keys parts t t' u, WF s t → id < t.nodes.length → highOf t.nodes id = 0 → (∀ x ∈ parts, highOf t.nodes x ≠ 0 ∧ (highOf t.nodes x : Int) + (d + 1) ≤ B.depth) → parts.length ≤ t.k → (keys.length = if isMap then parts.length else 0) → (∀ x ∈ keys, TokOk x) → keys.Nodup → blockLoop s it id d isMap n keys parts t = .ok u t' →
      Fin' (some id) t t' := by
  induction n with
  | zero => intro keys parts t t' u _ _ _ _ _ _ _ _ h; cases h
  | succ n ih =>
    intro keys parts t t' u hw hid hz hp hl hkl hkt hkn h
    have h' := h
    unfold blockLoop at h
    obtain ⟨keys1, t1, h1, h2⟩ := Res.bind_ok_iff h
    have s1 : (Step s none t t1 ∧ t.k < t1.k) ∧ t1.nodes = t.nodes ∧ (keys1.length = if isMap then parts.length + 1 else 0) ∧ (∀ x ∈ keys1, TokOk x) ∧ keys1.Nodup := by
      cases isMap with
      | true =>
        have k := keyM_fin h1
        exact ⟨keyM_ok hw h1, k.1, by rw [k.2.1, hkl]; rfl, k.2.2.1 hkt, k.2.2.2 hkn⟩
      | false =>
        obtain ⟨_, t3, h3, h4⟩ := Res.bind_ok_iff h1
        have e3 := expectM_nodes h3
        have s3 := expectM_ok (by omega) hw h3
        cases h4
        exact ⟨s3, e3, hkl, hkt, hkn⟩
    obtain ⟨⟨s1, hk1⟩, e1, hkl1, hkt1, hkn1⟩ := s1
    obtain ⟨x, t2, h3, h4⟩ := Res.bind_ok_iff h2
    obtain ⟨s2, n2, b2⟩ := hi t1 t2 x s1.wf (by omega) h3
    have f2 := hF t1 t2 x s1.wf (by omega) h3
    have s12 := s1.andThen s2
    have s3 := s12.andThen (Step.skipTo s2.wf)
    have f3 : Fin' none t { t2 with k := skipBl s t2.k } := Fin'.to_nodes (u := t2) rfl (Fin'.of_nodes e1 f2)
    have hp2 : ∀ y ∈ parts ++ [x], highOf t2.nodes y ≠ 0 ∧ (highOf t2.nodes y : Int) + (d + 1) ≤ B.depth := by
      intro y hy
      rcases List.mem_append.1 hy with hy | hy
      · rw [s12.highKeep (highOf_lt (hp y hy).1) (by simp)]; exact hp y hy
      · rw [List.mem_singleton.1 hy]; exact ⟨n2, by omega⟩
    have hz3 : highOf t2.nodes id = 0 := by rw [s12.highKeep hid (by simp)]; exact hz
    have hid3 : id < t2.nodes.length := Nat.lt_of_lt_of_le hid s12.len
    have k2 := s2.k
    have k3 := (Step.skipTo s2.wf).k
    have k4 := s3.wf.k
    simp only at k3 k4 h4
    split at h4
    · cases h4
      have f4 := endM_fin (t := { t2 with k := skipBl s t2.k }) (n := { NodeV.blank with kind := if isMap then 2 else 1, keys := keys1, parts := parts ++ [x] }) hid3 hz3 ⟨fun p hp => (hp2 p hp).1, by cases isMap <;> simp, by simp only [hkl1]; cases isMap <;> simp, fun h => by cases isMap <;> simp at h, fun _ => rfl, by simp; omega, tokOk_empty, hkt1, hkn1⟩
      obtain ⟨a, b, c⟩ := endM_step (B := B) (lv := d + 1) (n := { NodeV.blank with kind := if isMap then 2 else 1, keys := keys1, parts := parts ++ [x] }) s3.wf hid3 (by omega) hD hlv (fun y hy => (hp2 y hy).2)
      exact f3.weak.trans f4 a (fun j e => .inl e)
    · split at h4
      · cases h4
      · have a := ih keys1 (parts ++ [x]) _ t' u s3.wf hid3 hz3 hp2 (by simp; omega) (by rw [hkl1]; simp) hkt1 hkn1 h4
        obtain ⟨sa, _, _⟩ := blockLoop_ok hD hi hlv _ _ _ _ t' u s3.wf hid3 hp2 h4
        exact f3.weak.trans a sa (fun j e => .inl e)

theorem blockM_fin {s : ByteArray} {B : Bud} (hs : s.size ≤ 1000) (hD : B.depth ≤ 20) (hN : B.nodes ≤ 500) (hA : B.anchors ≤ 100) (f : Nat) : ∀ (id d : Nat), ValF s B id ((d : Int) + 1) (blockM s B f id d) := by
  induction f with
  | zero => intro id d t t' u _ _ _ _ _ h; cases h
  | succ f ih =>
    intro id d t t' u hw hid hz h0 hlv h
    unfold blockM at h
    have s0 := Step.skipTo hw
    exact (blockLoop_fin hs hD (itemS_ok hD hN hA (blockM_ok hD hN hA f)) (itemS_fin hs hD hN hA (blockM_ok hD hN hA f) ih) hlv _ [] [] _ t' u s0.wf hid hz (fun x hx => by cases hx) (by simp) (by simp) (fun x hx => by cases hx) (by simp) h).since rfl

/-- Of a whole text: every node has ended, and is whole. -/
theorem textM_fin {s : ByteArray} {B : Bud} {t t' : PS} {u : Unit} (hs : s.size ≤ 1000) (hD : B.depth ≤ 20) (hN : B.nodes ≤ 500) (hA : B.anchors ≤ 100) (hw : WF s t) (hn : t.nodes = []) (h : textM s B t = .ok u t') : (∀ i, i < t'.nodes.length → highOf t'.nodes i ≠ 0) ∧ AllOk t'.nodes ∧ WF s t' := by
  unfold textM at h
  simp only at h
  split at h
  · cases h
  · obtain ⟨_, t1, h1, h2⟩ := Res.bind_ok_iff h
    have s0 := nextM_step hw
    have key : Fin' none t t1 ∧ WF s t1 := by
      unfold topM at h1
      split at h1
      · obtain ⟨id, t2, h3, h4⟩ := Res.bind_ok_iff h1
        obtain ⟨hlv, _, _, hz, hid, s1⟩ := beginM_ok hN s0.wf h3
        have f1 := beginM_fin h3
        obtain ⟨a, b, _⟩ := blockM_ok hD hN hA 21 id 0 t2 t1 _ s1.wf hid (by omega) (by simpa using hlv) h4
        have f2 := blockM_fin hs hD hN hA 21 id 0 t2 t1 _ s1.wf hid hz (by omega) (by simpa using hlv) h4
        exact ⟨(Fin'.begun f1 f2 a b).since rfl, a.wf⟩
      · obtain ⟨id, t2, h3, h4⟩ := Res.bind_ok_iff h1
        obtain ⟨a, b, _⟩ := flowM_ok hD hN hA 21 1 _ _ _ s0.wf (by omega) h3
        have f1 := flowM_fin hs hD hN hA 21 1 _ _ _ s0.wf (by omega) h3
        exact ⟨Fin'.to_nodes (endLineM_nodes h4) (f1.since rfl), (endLineM_ok a.wf h4).wf⟩
    split at h2
    · cases h2
      refine ⟨fun i hi => key.1.new i (by rw [hn]; simp) hi (by simp), key.1.ok (fun i hi => ?_), key.2.skipTo⟩
      rw [hn] at hi
      exact absurd (highOf_ge [] i (by simp)) hi
    · cases h2

end Go.Proofs.YtkflkmmbakccoaaGreatDoor
