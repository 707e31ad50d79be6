/- PARTS: Mod24, Mod25, Mod26, Mod27, Mod28. -/
import Derived.Test.YtkflkmmbakccoaaGreatDoorJ19
import Derived.Test.YtkflkmmbakccoaaGreatDoorJ16
import Derived.Test.YtkflkmmbakccoaaGreatDoorJ24

/- THE PLAIN FUNCTIONS: what is unfolded, as a tree: how it is written, how heavy it is. No program is named here. -/
namespace Go.Proofs.YtkflkmmbakccoaaGreatDoor

/-- Items of parts. -/
def frL (N : List NodeV) (go : Nat → Frst) : List Nat → List ByteArray → Frst
  | [], _ => .nil
  | p :: ps, keys => .cons (keys.headD ByteArray.empty) none (nodeAt N p).kind (nodeAt N p).text false (go p) (frL N go ps keys.tail)

/-- What is in a node, each place with a node of its own. -/
def kidsF (N : List NodeV) : Nat → Nat → Frst
  | 0, _ => .nil
  | f + 1, id => frL N (kidsF N f) (nodeAt N id).parts (nodeAt N id).keys

theorem frL_nil (N : List NodeV) (go : Nat → Frst) (ps : List Nat) (keys : List ByteArray) : frL N go ps keys = .nil ↔ ps = [] := by
  cases ps with
  | nil => simp [frL]
  | cons p ps => simp [frL]

theorem frL_keys (N : List NodeV) (go : Nat → Frst) (ps : List Nat) : ∀ keys : List ByteArray, keys.length = ps.length → (frL N go ps keys).keysOf = keys := by
  induction ps with
  | nil => intro keys h; cases keys with
    | nil => rfl
    | cons k ks => simp at h
  | cons p ps ih =>
    intro keys h
    cases keys with
    | nil => simp at h
    | cons k ks =>
      simp only [frL, Frst.keysOf, List.headD_cons, List.tail_cons]
      rw [ih ks (by simpa using h)]

/-- What is unfolded is written as its tree is. -/
theorem unf_txt {N : List NodeV} (hW : Whole N) (f : Nat) : ∀ id, id < N.length → highOf N id < f → unfM N f id = itemT none (nodeAt N id).kind (nodeAt N id).text ((kidsF N f id).txt [44, 32] ((nodeAt N id).kind == 2) true) := by
  induction f with
  | zero => intro id _ h; omega
  | succ f ih =>
    intro id hid hf
    have hk := (hW.node hid).kind
    have key : ∀ (ps : List Nat) (i : Nat), (∀ p ∈ ps, p ∈ (nodeAt N id).parts) → unfP N (unfM N f) id ps i = (frL N (kidsF N f) ps ((nodeAt N id).keys.drop i)).txt [44, 32] ((nodeAt N id).kind == 2) (decide (i = 0)) := by
      intro ps
      induction ps with
      | nil => intro i _; rfl
      | cons p ps ihp =>
        intro i hp
        have hpm := hp p (List.mem_cons_self ..)
        obtain ⟨h1, h2⟩ := hW.part hid hpm
        simp only [unfP, frL, Frst.txt_cons]
        rw [ihp (i + 1) (fun q hq => hp q (List.mem_cons_of_mem _ hq)), ih p h1 (by omega), List.tail_drop]
        have hhd : ((nodeAt N id).keys.drop i).headD ByteArray.empty = (nodeAt N id).keys.getD i ByteArray.empty := by
          rw [List.headD_eq_head?_getD, List.head?_drop, List.getD_eq_getElem?_getD]
        rw [hhd]
        unfold leadL
        by_cases hi : i = 0
        · subst hi
          by_cases h2 : (nodeAt N id).kind = 2 <;> simp [h2]
        · by_cases h2 : (nodeAt N id).kind = 2 <;> simp [h2, hi, Nat.pos_of_ne_zero hi]
    unfold unfM
    rw [key (nodeAt N id).parts 0 (fun p hp => hp), List.drop_zero]
    have hkf : kidsF N (f + 1) id = frL N (kidsF N f) (nodeAt N id).parts (nodeAt N id).keys := rfl
    rw [hkf]
    simp only [decide_true]
    by_cases h0 : (nodeAt N id).kind = 0
    · have hp := (hW.node hid).none h0
      rw [hp]
      simp [openL, shutL, itemT, h0, frL, Frst.txt_nil]
    · obtain ⟨o1, o2⟩ := open_kind hk h0
      rw [o1, o2]
      unfold itemT
      have h3 : (nodeAt N id).kind ≠ 3 := by omega
      by_cases h2 : (nodeAt N id).kind = 2
      · simp [h2]
      · have h1 : (nodeAt N id).kind = 1 := by omega
        simp [h1]

theorem kids_tree {N : List NodeV} (hW : Whole N) (f : Nat) : ∀ id, id < N.length → highOf N id < f → (kidsF N f id).tree ∧ ((nodeAt N id).kind = 2 → (∀ x ∈ (kidsF N f id).keysOf, TokOk x) ∧ (kidsF N f id).keysOf.Nodup) ∧ ((nodeAt N id).kind = 0 → kidsF N f id = .nil) ∧ (kidsF N f id).hi + 1 = highOf N id := by
  induction f with
  | zero => intro id _ h; omega
  | succ f ih =>
    intro id hid hf
    have hn := hW.node hid
    have hkf : kidsF N (f + 1) id = frL N (kidsF N f) (nodeAt N id).parts (nodeAt N id).keys := rfl
    rw [hkf]
    refine ⟨?_, fun h2 => ?_, fun h0 => ?_, ?_⟩
    · have key : ∀ (ps : List Nat) (keys : List ByteArray), (∀ p ∈ ps, p ∈ (nodeAt N id).parts) → (frL N (kidsF N f) ps keys).tree := by
        intro ps
        induction ps with
        | nil => intro keys _; trivial
        | cons p ps ihp =>
          intro keys hp
          obtain ⟨h1, h2⟩ := hW.part hid (hp p (List.mem_cons_self ..))
          obtain ⟨a, b, c, _⟩ := ih p h1 (by omega)
          exact ⟨rfl, (hW.node h1).kind, fun h0 => ⟨(hW.node h1).text, c h0⟩, b, a, ihp _ (fun q hq => hp q (List.mem_cons_of_mem _ hq))⟩
      exact key _ _ (fun p hp => hp)
    · have hk := hn.keys
      rw [if_pos h2] at hk
      rw [frL_keys N _ _ _ hk]
      exact ⟨hn.words, hn.apart⟩
    · rw [frL_nil]; exact hn.none h0
    · have key : ∀ (ps : List Nat) (keys : List ByteArray) (a : Nat), (∀ p ∈ ps, p ∈ (nodeAt N id).parts) → max a (frL N (kidsF N f) ps keys).hi = ps.foldl (fun a i => max a (highOf N i)) a := by
        intro ps
        induction ps with
        | nil => intro keys a _; simp [frL, Frst.hi]
        | cons p ps ihp =>
          intro keys a hp
          obtain ⟨h1, h2⟩ := hW.part hid (hp p (List.mem_cons_self ..))
          obtain ⟨_, _, _, c⟩ := ih p h1 (by omega)
          simp only [frL, Frst.hi, List.foldl_cons]
          rw [← ihp keys.tail _ (fun q hq => hp q (List.mem_cons_of_mem _ hq)), c]
          omega
      have h := key (nodeAt N id).parts (nodeAt N id).keys 0 (fun p hp => hp)
      have hh := hn.high
      have e : highOf N id = (nodeAt N id).high := rfl
      rw [e, hh, ← h]
      omega

/-- What is unfolded has as many nodes as it weighs. -/
theorem kids_size {N : List NodeV} (hW : Whole N) (f : Nat) : ∀ id, id < N.length → highOf N id < f → heavyOf N id < 1000000000001 → 1 + (kidsF N f id).size = heavyOf N id := by
  induction f with
  | zero => intro id _ h; omega
  | succ f ih =>
    intro id hid hf hh
    have hkf : kidsF N (f + 1) id = frL N (kidsF N f) (nodeAt N id).parts (nodeAt N id).keys := rfl
    rw [hkf, hW.sum hid hh]
    have key : ∀ (ps : List Nat) (keys : List ByteArray), (∀ p ∈ ps, p ∈ (nodeAt N id).parts) → (frL N (kidsF N f) ps keys).size = (ps.map (heavyOf N)).sum := by
      intro ps
      induction ps with
      | nil => intro keys _; rfl
      | cons p ps ihp =>
        intro keys hp
        obtain ⟨h1, h2⟩ := hW.part hid (hp p (List.mem_cons_self ..))
        have h3 := hW.heavy_part hid hh (hp p (List.mem_cons_self ..))
        simp only [frL, Frst.size, List.map_cons, List.sum_cons]
        rw [ihp keys.tail (fun q hq => hp q (List.mem_cons_of_mem _ hq)), ← ih p h1 (by omega) (by omega)]
    rw [key _ _ (fun p hp => hp)]

/-- Each node that is come to writes so many bytes at most. -/
theorem unf_len {N : List NodeV} (hW : Whole N) (f : Nat) : ∀ id, id < N.length → highOf N id < f → heavyOf N id < 1000000000001 → (unfM N f id).length + 26 ≤ 49 * heavyOf N id := by
  induction f with
  | zero => intro id _ h; omega
  | succ f ih =>
    intro id hid hf hh
    have key : ∀ (ps : List Nat) (i : Nat), (∀ p ∈ ps, p ∈ (nodeAt N id).parts) → (unfP N (unfM N f) id ps i).length ≤ 49 * (ps.map (heavyOf N)).sum := by
      intro ps
      induction ps with
      | nil => intro i _; simp [unfP]
      | cons p ps ihp =>
        intro i hp
        obtain ⟨h1, h2⟩ := hW.part hid (hp p (List.mem_cons_self ..))
        have h3 := hW.heavy_part hid hh (hp p (List.mem_cons_self ..))
        have a := ih p h1 (by omega) (by omega)
        have b := ihp (i + 1) (fun q hq => hp q (List.mem_cons_of_mem _ hq))
        have c := leadL_len hW (p := id) (i := i) hid
        simp only [unfP, List.length_append, List.map_cons, List.sum_cons]
        omega
    have h1 := key (nodeAt N id).parts 0 (fun p hp => hp)
    have h2 := openL_len hW hid
    have h3 := shutL_len N id
    have h4 := hW.sum hid hh
    unfold unfM
    simp only [List.length_append]
    omega

end Go.Proofs.YtkflkmmbakccoaaGreatDoor

/- THE PLAIN FUNCTIONS: the plain form of a tree is the text that it was read from; what is unfolded is read again. No program is named here. -/
namespace Go.Proofs.YtkflkmmbakccoaaGreatDoor

theorem mk_kind (kind : Nat) (text : ByteArray) (keys : List ByteArray) (ids : List Nat) (h v : Nat) : ({ mkNode kind text keys ids with high := h, heavy := v } : NodeV).kind = kind := rfl
theorem mk_text (kind : Nat) (text : ByteArray) (keys : List ByteArray) (ids : List Nat) (h v : Nat) : ({ mkNode kind text keys ids with high := h, heavy := v } : NodeV).text = if kind = 0 then text else ByteArray.empty := rfl
theorem mk_keys (kind : Nat) (text : ByteArray) (keys : List ByteArray) (ids : List Nat) (h v : Nat) : ({ mkNode kind text keys ids with high := h, heavy := v } : NodeV).keys = if kind = 2 then keys else [] := rfl
theorem mk_parts (kind : Nat) (text : ByteArray) (keys : List ByteArray) (ids : List Nat) (h v : Nat) : ({ mkNode kind text keys ids with high := h, heavy := v } : NodeV).parts = ids := rfl

/-- A walk over a tree comes to nothing again. -/
theorem ag_tree {N : List NodeV} (F : Frst) : ∀ b f met l, F.tree → Stand N b (F.flat b) → F.hi < f → (∀ x ∈ met, x < b) → ∃ met', agP (agM N f) (F.ids b) (met, l) = (met', l) ∧ ∀ x ∈ met', x < b + F.size := by
  induction F with
  | nil => intro b f met l _ _ _ hm; exact ⟨met, rfl, fun x hx => by have := hm x hx; omega⟩
  | cons key nm kind text blw kids rest ih1 ih2 =>
    intro b f met l ht hst hf hm
    obtain ⟨_, _, _, _, h5, h6⟩ := ht
    unfold Frst.flat at hst
    obtain ⟨g1, g2⟩ := hst.cons
    obtain ⟨g3, g4⟩ := g2.app
    rw [Frst.flat_len] at g4
    unfold Frst.hi at hf
    obtain ⟨f, rfl⟩ : ∃ g, f = g + 1 := ⟨f - 1, by omega⟩
    obtain ⟨m1, e1, k1⟩ := ih1 (b + 1) f (b :: met) [] h5 g3 (by omega) (fun x hx => by
      rcases List.mem_cons.1 hx with rfl | hx
      · omega
      · have := hm x hx; omega)
    obtain ⟨m2, e2, k2⟩ := ih2 (b + 1 + kids.size) (f + 1) m1 l h6 g4 (by omega) k1
    refine ⟨m2, ?_, fun x hx => by have := k2 x hx; simp only [Frst.size]; omega⟩
    have e : agM N (f + 1) b met = (m1, []) := by
      rw [agM, if_neg (fun h => by have := hm b h; omega), nodeAt_get g1, mk_parts]
      exact e1
    simp only [Frst.ids, agP]
    rw [e]
    exact e2

/-- The plain form of a tree. -/
theorem tell_tree {N : List NodeV} (F : Frst) : ∀ b f met p i st, F.tree → Stand N b (F.flat b) → F.hi < f → (∀ x ∈ met, x < b) → ((nodeAt N p).kind = 2 → (nodeAt N p).keys.drop i = F.keysOf) →
    ∃ met', tellP N (tellM N [] f) p (F.ids b) i (st, met) = (st ++ F.txt [44, 32] ((nodeAt N p).kind == 2) (decide (i = 0)), met') ∧ ∀ x ∈ met', x < b + F.size := by
  induction F with
  | nil => intro b f met p i st _ _ _ hm _; exact ⟨met, by simp [Frst.ids, tellP, Frst.txt_nil], fun x hx => by have := hm x hx; omega⟩
  | cons key nm kind text blw kids rest ih1 ih2 =>
    intro b f met p i st ht hst hf hm hkeys
    obtain ⟨rfl, h2, h3, _, h5, h6⟩ := ht
    unfold Frst.flat at hst
    obtain ⟨g1, g2⟩ := hst.cons
    obtain ⟨g3, g4⟩ := g2.app
    rw [Frst.flat_len] at g4
    unfold Frst.hi at hf
    obtain ⟨f, rfl⟩ : ∃ g, f = g + 1 := ⟨f - 1, by omega⟩
    have hn := nodeAt_get g1
    obtain ⟨m1, e1, k1⟩ := ih1 (b + 1) f (b :: met) b 0 (headL [] b ++ openL N b) h5 g3 (by omega) (fun x hx => by
      rcases List.mem_cons.1 hx with rfl | hx
      · omega
      · have := hm x hx; omega) (fun hk => by rw [hn, mk_kind] at hk; rw [hn, mk_keys, if_pos hk, List.drop_zero])
    have e : tellM N [] (f + 1) b met = (itemT none kind text (kids.txt [44, 32] (kind == 2) true), m1) := by
      rw [tellM, if_neg (fun h => by have := hm b h; omega), hn, mk_parts]
      simp only
      rw [e1, hn, mk_kind]
      simp only [decide_true]
      congr 1
      have hh : headL [] b = [] := by simp [headL]
      rw [hh, List.nil_append]
      unfold openL shutL itemT
      rw [hn, mk_kind, mk_text]
      have hkk : kind = 0 ∨ kind = 1 ∨ kind = 2 := by omega
      rcases hkk with rfl | rfl | rfl
      · obtain ⟨_, rfl⟩ := h3 rfl
        simp [Frst.txt_nil]
      · simp
      · simp
    obtain ⟨m2, e2, k2⟩ := ih2 (b + 1 + kids.size) (f + 1) m1 p (i + 1) (st ++ leadL N (some (p, i)) ++ itemT none kind text (kids.txt [44, 32] (kind == 2) true)) h6 g4 (by omega) k1 (fun hk => by
      have := hkeys hk
      rw [← List.tail_drop, this]
      rfl)
    refine ⟨m2, ?_, fun x hx => by have := k2 x hx; simp only [Frst.size]; omega⟩
    simp only [Frst.ids, tellP]
    rw [e]
    simp only
    rw [e2, Frst.txt_cons]
    congr 1
    have hl : leadL N (some (p, i)) = (if decide (i = 0) then [] else [44, 32]) ++ (if ((nodeAt N p).kind == 2) = true then textL key ++ [58, 32] else []) := by
      have q1 : (if 0 < i then ([44, 32] : List UInt8) else []) = (if decide (i = 0) then [] else [44, 32]) := by
        by_cases hi : i = 0
        · simp [hi]
        · simp [hi, Nat.pos_of_ne_zero hi]
      have q2 : (if (nodeAt N p).kind = 2 then textL ((nodeAt N p).keys.getD i ByteArray.empty) ++ [58, 32] else []) = (if ((nodeAt N p).kind == 2) = true then textL key ++ [58, 32] else []) := by
        by_cases h2 : (nodeAt N p).kind = 2
        · have hd := hkeys h2
          have h0 : ((nodeAt N p).keys.drop i)[0]? = some key := by rw [hd]; rfl
          rw [List.getElem?_drop, Nat.add_zero] at h0
          have h1 : (nodeAt N p).keys.getD i ByteArray.empty = key := by
            rw [List.getD_eq_getElem?_getD, h0]
            rfl
          rw [if_pos h2, h1, if_pos (by simp [h2])]
        · rw [if_neg h2, if_neg (by simp [h2])]
      unfold leadL
      rw [← q1, ← q2]
    rw [hl]
    simp [List.append_assoc]

/-- A tree's plain form, of a tree that is read alone. -/
theorem plain_tree {kind : Nat} {text : ByteArray} {kids : Frst} (ht : (Frst.cons ByteArray.empty none kind text false kids .nil).tree) (hh : kids.hi + 1 < 101) :
    plainM ((Frst.cons ByteArray.empty none kind text false kids .nil).flat 0) 0 = itemT none kind text (kids.txt [44, 32] (kind == 2) true) := by
  have hst : Stand ((Frst.cons ByteArray.empty none kind text false kids .nil).flat 0) 0 ((Frst.cons ByteArray.empty none kind text false kids .nil).flat 0) := fun i hi => by rw [Nat.zero_add]
  generalize hN : (Frst.cons ByteArray.empty none kind text false kids .nil).flat 0 = N at *
  rw [← hN] at hst
  have hst0 : Stand N 0 ((Frst.cons ByteArray.empty none kind text false kids .nil).flat 0) := by rw [hN] at hst ⊢; exact hst
  clear hst
  obtain ⟨m1, e1, _⟩ := ag_tree (N := N) (.cons ByteArray.empty none kind text false kids .nil) 0 101 [] [] ht hst0 (by simp only [Frst.hi]; omega) (fun x hx => by cases hx)
  simp only [Frst.ids, agP, List.append_nil] at e1
  have hag : (agM N 101 0 []).2 = [] := congrArg Prod.snd e1
  unfold plainM
  rw [hag]
  have hflat := hst0
  unfold Frst.flat at hflat
  obtain ⟨g1, _⟩ := hflat.cons
  -- a place with no key
  obtain ⟨m2, e2, _⟩ := tell_tree (N := N) (.cons ByteArray.empty none kind text false kids .nil) 0 101 [] N.length 0 [] ht hst0 (by simp only [Frst.hi]; omega) (fun x hx => by cases hx) (fun hk => by
    rw [show nodeAt N N.length = NodeV.blank by simp [nodeAt, List.getD]] at hk
    simp [NodeV.blank] at hk)
  have hb : nodeAt N N.length = NodeV.blank := by simp [nodeAt, List.getD]
  simp only [Frst.ids, tellP, List.nil_append] at e2
  have hl : leadL N (some (N.length, 0)) = [] := by simp [leadL, hb, NodeV.blank]
  rw [hl, List.nil_append] at e2
  have := congrArg Prod.fst e2
  simp only at this
  rw [this, hb]
  simp [Frst.txt_cons, Frst.txt_nil, NodeV.blank]

theorem nlGo_head {s : ByteArray} {k : Nat} (h : k < s.size) (h1 : byteAt s k ≠ 32) (h2 : kindAt s k ≠ 1) : nlGo s k k = (0, k) := by
  have h3 : byteAt s k ≠ 10 := fun e => h2 (by rw [kindAt_byte h e]; rfl)
  rw [nlGo_stop s k k h h3 h1, Nat.sub_self]

/-- A text that is one item alone is read. -/
theorem text_one {B : Bud} {nm : Option ByteArray} {kind : Nat} {text : ByteArray} {kids : Frst} {t : PS} (hD : B.depth ≤ 20) (htk : t.k = 0) (hfit : fitsI B nm kind text kids 1 t) :
    ∃ a b, textM ⟨(itemT nm kind text (kids.txt [44, 32] (kind == 2) true)).toArray⟩ B t = .ok () { after nm kind text kids t with k := a, ind := b } := by
  have hat := At.all (itemT nm kind text (kids.txt [44, 32] (kind == 2) true))
  have hsz : (⟨(itemT nm kind text (kids.txt [44, 32] (kind == 2) true)).toArray⟩ : ByteArray).size = (itemT nm kind text (kids.txt [44, 32] (kind == 2) true)).length := by simp [ByteArray.size]
  obtain ⟨f1, f2⟩ := item_first (w := []) (by rw [List.append_nil]; exact hat)
  have hlt : 0 < (⟨(itemT nm kind text (kids.txt [44, 32] (kind == 2) true)).toArray⟩ : ByteArray).size := kindAt_lt (by omega)
  have hend : ¬ 0 + (itemT nm kind text (kids.txt [44, 32] (kind == 2) true)).length < (⟨(itemT nm kind text (kids.txt [44, 32] (kind == 2) true)).toArray⟩ : ByteArray).size := by rw [hsz]; omega
  refine text_flow (.inr rfl) hD htk (nlGo_head hlt f1 (by omega)) hfit hat ?_ ?_
  · rw [skipBl_end _ _ hend]
    unfold lineOver
    rw [kindAt, if_neg hend]
    rfl
  · rw [skipBl_end _ _ hend, nlGo_end _ _ _ hend]
    simp only
    rw [kindAt, if_neg hend]

/-- What is unfolded is read again: as many nodes as it weighs, as high, and its plain form is its own. -/
theorem unf_read {N : List NodeV} (hW : Whole N) (h0 : 0 < N.length) (hd : (highOf N 0 : Int) ≤ 20) (hw : heavyOf N 0 ≤ 500) {B : Bud} (hD : B.depth = 20) (hN : B.nodes = 500) :
    ∃ t, textM ⟨(unfoldL N 0).toArray⟩ B ⟨0, 0, [], 0, []⟩ = .ok () t ∧ highOf t.nodes 0 = highOf N 0 ∧ t.nodes.length = heavyOf N 0 ∧ t.anchors = 0 ∧ heavyOf t.nodes 0 = heavyOf N 0 ∧ plainM t.nodes 0 = unfoldL N 0 := by
  have hh := hW.high 0
  obtain ⟨k1, k2, k3, k4⟩ := kids_tree hW 101 0 h0 (by omega)
  have ks := kids_size hW 101 0 h0 (by omega) (by omega)
  have ht := unf_txt hW 101 0 h0 (by omega)
  have hn := hW.node h0
  have htree : (Frst.cons ByteArray.empty none (nodeAt N 0).kind (nodeAt N 0).text false (kidsF N 101 0) .nil).tree := ⟨rfl, hn.kind, fun e => ⟨hn.text, k3 e⟩, k2, k1, trivial⟩
  have hfit := Frst.fits_tree (B := B) _ 1 ⟨0, 0, [], 0, []⟩ htree (by simp only [Frst.hi]; rw [hD]; omega) (by simp only [Frst.size]; rw [hN]; simp; omega)
  obtain ⟨a, b, e⟩ := text_one (B := B) (t := ⟨0, 0, [], 0, []⟩) (by omega) rfl (fits_cons.1 hfit).1
  have hrun := Frst.run_tree _ ⟨0, 0, [], 0, []⟩ htree
  rw [run_cons] at hrun
  have haf := congrArg Prod.snd hrun
  simp only [Frst.run, List.nil_append, List.length_nil] at haf
  have hu : unfoldL N 0 = itemT none (nodeAt N 0).kind (nodeAt N 0).text ((kidsF N 101 0).txt [44, 32] ((nodeAt N 0).kind == 2) true) := ht
  rw [hu]
  refine ⟨_, e, ?_⟩
  rw [haf]
  simp only
  have hfl : (Frst.cons ByteArray.empty none (nodeAt N 0).kind (nodeAt N 0).text false (kidsF N 101 0) .nil).flat 0 = { mkNode (nodeAt N 0).kind (nodeAt N 0).text (kidsF N 101 0).keysOf ((kidsF N 101 0).ids 1) with high := (kidsF N 101 0).hi + 1, heavy := (kidsF N 101 0).hv 1 } :: (kidsF N 101 0).flat 1 := by
    simp [Frst.flat]
  refine ⟨?_, ?_, trivial, ?_, plain_tree htree (by omega)⟩
  · rw [hfl, ← k4]; rfl
  · rw [Frst.flat_len]; simp only [Frst.size]; omega
  · rw [hfl]
    show (kidsF N 101 0).hv 1 = _
    rw [Frst.hv_size _ 1 (by omega)]
    omega

end Go.Proofs.YtkflkmmbakccoaaGreatDoor

/- THE PLAIN FUNCTIONS: the plain form is read again: the same nodes. No program is named here. -/
namespace Go.Proofs.YtkflkmmbakccoaaGreatDoor

/-- A node's name in the plain form. -/
def nmB (ag : List Nat) (p : Nat) : ByteArray := ⟨(110 :: decL (rankOf ag p)).toArray⟩

theorem nmB_list (ag : List Nat) (p : Nat) : (nmB ag p).data.toList = 110 :: decL (rankOf ag p) := rfl

theorem decL_len3 {u : Nat} (h : u < 1000) : (decL u).length ≤ 3 := by
  rw [decL]
  split
  · simp
  · rw [decL]
    split
    · simp
    · rw [decL, dif_pos (by omega)]
      simp

theorem decL_dig (u : Nat) : ∀ b ∈ decL u, isWB (b.toNat : Int) = true := by
  induction u using Nat.strongRecOn with
  | _ u ih =>
    have key : ∀ d, d < 10 → isWB ((UInt8.ofNat (48 + d)).toNat : Int) = true := fun d hd => by
      rw [UInt8.toNat_ofNat', Nat.mod_eq_of_lt (by omega)]
      simp only [isWB, Bool.or_eq_true, Bool.and_eq_true, decide_eq_true_eq]
      omega
    intro b hb
    rw [decL] at hb
    split at hb
    · rename_i h
      rw [List.mem_singleton.1 hb]; exact key u h
    · rename_i h
      rcases List.mem_append.1 hb with hb | hb
      · exact ih (u / 10) (by omega) b hb
      · rw [List.mem_singleton.1 hb]; exact key _ (Nat.mod_lt _ (by omega))

theorem nmB_word {ag : List Nat} {p : Nat} (h : p < 1000) : isWordB (nmB ag p) = true := by
  have h1 := decL_len3 (u := rankOf ag p) (by have := rankOf_le ag p; omega)
  have hs : (nmB ag p).size = (decL (rankOf ag p)).length + 1 := by simp [nmB, ByteArray.size]
  unfold isWordB
  simp only [Bool.and_eq_true, decide_eq_true_eq, List.all_eq_true]
  refine ⟨⟨by omega, by omega⟩, fun b hb => ?_⟩
  rw [nmB_list] at hb
  rcases List.mem_cons.1 hb with rfl | hb
  · decide
  · exact decL_dig _ b hb

theorem nmB_inj {ag : List Nat} {x y : Nat} (hx : x ∈ ag) (hy : y ∈ ag) (h : nmB ag x = nmB ag y) : x = y := by
  have e : (nmB ag x).data.toList = (nmB ag y).data.toList := by rw [h]
  rw [nmB_list, nmB_list] at e
  exact rankOf_inj hx hy (decL_inj (List.cons.inj e).2)

/-- The name of a node that is come to again. -/
def nmO (ag : List Nat) (p : Nat) : Option ByteArray := if p ∈ ag then some (nmB ag p) else none

/-- Items of parts, as they are told. -/
def tfP (N : List NodeV) (ag : List Nat) (go : Nat → List Nat → Frst × List Nat) : List Nat → List ByteArray → List Nat → Frst × List Nat
  | [], _, met => (.nil, met)
  | p :: ps, keys, met =>
    if p ∈ met then (.cons (keys.headD ByteArray.empty) none 3 (nmB ag p) false .nil (tfP N ag go ps keys.tail met).1, (tfP N ag go ps keys.tail met).2)
    else (.cons (keys.headD ByteArray.empty) (nmO ag p) (nodeAt N p).kind (nodeAt N p).text false (go p met).1 (tfP N ag go ps keys.tail (go p met).2).1, (tfP N ag go ps keys.tail (go p met).2).2)

/-- What is in a node that is told first. -/
def tfM (N : List NodeV) (ag : List Nat) : Nat → Nat → List Nat → Frst × List Nat
  | 0, _, met => (.nil, met)
  | f + 1, id, met => tfP N ag (tfM N ag f) (nodeAt N id).parts (nodeAt N id).keys (id :: met)

theorem tfP_keys (N : List NodeV) (ag : List Nat) (go : Nat → List Nat → Frst × List Nat) (ps : List Nat) : ∀ (keys : List ByteArray) (met : List Nat), keys.length = ps.length → (tfP N ag go ps keys met).1.keysOf = keys := by
  induction ps with
  | nil => intro keys met h; cases keys with
    | nil => rfl
    | cons k ks => simp at h
  | cons p ps ih =>
    intro keys met h
    cases keys with
    | nil => simp at h
    | cons k ks =>
      unfold tfP
      split
      · simp only [Frst.keysOf, List.headD_cons, List.tail_cons]
        rw [ih ks _ (by simpa using h)]
      · simp only [Frst.keysOf, List.headD_cons, List.tail_cons]
        rw [ih ks _ (by simpa using h)]

theorem agP_fst (go : Nat → List Nat → List Nat × List Nat) (ps : List Nat) (m l : List Nat) : (agP go ps (m, l)).1 = (agP go ps (m, [])).1 := by rw [agP_app]

/-- What is told in the plain form is what the items write. -/
theorem tell_txt {N : List NodeV} (hW : Whole N) (ag : List Nat) (f : Nat) : ∀ id met, id < N.length → highOf N id < f → id ∉ met →
    (tfM N ag f id met).2 = (agM N f id met).1 ∧ (tellM N ag f id met).1 = itemT (nmO ag id) (nodeAt N id).kind (nodeAt N id).text ((tfM N ag f id met).1.txt [44, 32] ((nodeAt N id).kind == 2) true) := by
  induction f with
  | zero => intro id met _ h; omega
  | succ f ih =>
    intro id met hid hf hm
    have key : ∀ (ps : List Nat) (i : Nat) (met : List Nat) (st : List UInt8), (∀ p ∈ ps, p ∈ (nodeAt N id).parts) →
        (tfP N ag (tfM N ag f) ps ((nodeAt N id).keys.drop i) met).2 = (agP (agM N f) ps (met, [])).1 ∧
        (tellP N (tellM N ag f) id ps i (st, met)).1 = st ++ (tfP N ag (tfM N ag f) ps ((nodeAt N id).keys.drop i) met).1.txt [44, 32] ((nodeAt N id).kind == 2) (decide (i = 0)) := by
      intro ps
      induction ps with
      | nil => intro i met st _; exact ⟨rfl, by simp [tellP, tfP, Frst.txt_nil]⟩
      | cons p ps ihp =>
        intro i met st hp
        obtain ⟨h1, h2⟩ := hW.part hid (hp p (List.mem_cons_self ..))
        have hps : ∀ q ∈ ps, q ∈ (nodeAt N id).parts := fun q hq => hp q (List.mem_cons_of_mem _ hq)
        have hhd : ((nodeAt N id).keys.drop i).headD ByteArray.empty = (nodeAt N id).keys.getD i ByteArray.empty := by
          rw [List.headD_eq_head?_getD, List.head?_drop, List.getD_eq_getElem?_getD]
        have hl : leadL N (some (id, i)) = (if decide (i = 0) then [] else [44, 32]) ++ (if ((nodeAt N id).kind == 2) = true then textL ((nodeAt N id).keys.getD i ByteArray.empty) ++ [58, 32] else []) := by
          have q1 : (if 0 < i then ([44, 32] : List UInt8) else []) = (if decide (i = 0) then [] else [44, 32]) := by
            by_cases hi : i = 0
            · simp [hi]
            · simp [hi, Nat.pos_of_ne_zero hi]
          have q2 : (if (nodeAt N id).kind = 2 then textL ((nodeAt N id).keys.getD i ByteArray.empty) ++ [58, 32] else []) = (if ((nodeAt N id).kind == 2) = true then textL ((nodeAt N id).keys.getD i ByteArray.empty) ++ [58, 32] else []) := by
            by_cases h2 : (nodeAt N id).kind = 2
            · rw [if_pos h2, if_pos (by simp [h2])]
            · rw [if_neg h2, if_neg (by simp [h2])]
          unfold leadL
          rw [← q1, ← q2]
        by_cases hpm : p ∈ met
        · obtain ⟨a, b⟩ := ihp (i + 1) met (st ++ leadL N (some (id, i)) ++ nameL 42 ag p) hps
          have hf1 : ∃ g, f = g + 1 := ⟨f - 1, by omega⟩
          obtain ⟨g, rfl⟩ := hf1
          have e1 : tellM N ag (g + 1) p met = (nameL 42 ag p, met) := by rw [tellM, if_pos hpm]
          have e2 : agM N (g + 1) p met = (met, [p]) := by rw [agM, if_pos hpm]
          have et : tfP N ag (tfM N ag (g + 1)) (p :: ps) ((nodeAt N id).keys.drop i) met = (.cons ((nodeAt N id).keys.getD i ByteArray.empty) none 3 (nmB ag p) false .nil (tfP N ag (tfM N ag (g + 1)) ps ((nodeAt N id).keys.drop (i + 1)) met).1, (tfP N ag (tfM N ag (g + 1)) ps ((nodeAt N id).keys.drop (i + 1)) met).2) := by
            rw [tfP, if_pos hpm, hhd, List.tail_drop]
          rw [et]
          refine ⟨?_, ?_⟩
          · simp only [agP]
            rw [e2, agP_fst]
            exact a
          · simp only [tellP]
            rw [e1]
            simp only
            rw [b, Frst.txt_cons, hl]
            have hn : itemT none 3 (nmB ag p) (Frst.txt [44, 32] .nil (3 == 2) true) = nameL 42 ag p := by
              simp [itemT, nmB, nameL]
            rw [hn]
            simp [List.append_assoc]
        · obtain ⟨c, d⟩ := ih p met h1 (by omega) hpm
          obtain ⟨a, b⟩ := ihp (i + 1) (agM N f p met).1 (st ++ leadL N (some (id, i)) ++ (tellM N ag f p met).1) hps
          have et : tfP N ag (tfM N ag f) (p :: ps) ((nodeAt N id).keys.drop i) met = (.cons ((nodeAt N id).keys.getD i ByteArray.empty) (nmO ag p) (nodeAt N p).kind (nodeAt N p).text false (tfM N ag f p met).1 (tfP N ag (tfM N ag f) ps ((nodeAt N id).keys.drop (i + 1)) (agM N f p met).1).1, (tfP N ag (tfM N ag f) ps ((nodeAt N id).keys.drop (i + 1)) (agM N f p met).1).2) := by
            rw [tfP, if_neg hpm, hhd, List.tail_drop, c]
          rw [et]
          refine ⟨?_, ?_⟩
          · simp only [agP]
            rw [agP_fst]
            exact a
          · simp only [tellP]
            rw [tell_met, b, Frst.txt_cons, hl, d]
            simp [List.append_assoc]
    obtain ⟨a, b⟩ := key (nodeAt N id).parts 0 (id :: met) (headL ag id ++ openL N id) (fun p hp => hp)
    rw [List.drop_zero] at a b
    have et : tfM N ag (f + 1) id met = tfP N ag (tfM N ag f) (nodeAt N id).parts (nodeAt N id).keys (id :: met) := rfl
    rw [et]
    refine ⟨?_, ?_⟩
    · rw [a, agM, if_neg hm]
    · rw [tellM, if_neg hm]
      simp only
      rw [b]
      simp only [decide_true]
      have hk := (hW.node hid).kind
      have hh : headL ag id = (match nmO ag id with
        | none => []
        | some x => 38 :: (x.data.toList ++ [32])) := by
        unfold headL nmO
        by_cases hi : id ∈ ag
        · rw [if_pos hi, if_pos hi]
          simp [nameL, nmB]
        · rw [if_neg hi, if_neg hi]
      rw [hh]
      unfold itemT openL shutL
      by_cases h0 : (nodeAt N id).kind = 0
      · have hp := (hW.node hid).none h0
        rw [hp]
        cases nmO ag id <;> simp [h0, tfP, Frst.txt_nil]
      · have hkk : (nodeAt N id).kind = 1 ∨ (nodeAt N id).kind = 2 := by omega
        rcases hkk with h1 | h1
        · cases nmO ag id <;> simp [h1]
        · cases nmO ag id <;> simp [h1]

end Go.Proofs.YtkflkmmbakccoaaGreatDoor

/- THE PLAIN FUNCTIONS: the plain form is read again: the reader makes the same nodes of it. No program is named here. -/
namespace Go.Proofs.YtkflkmmbakccoaaGreatDoor

/-- What ends a run of numbers is a run of numbers. -/
theorem suffix_rng (n : Nat) : ∀ (l m : List Nat), rng n = l ++ m → m = rng m.length := by
  induction n with
  | zero =>
    intro l m h
    have : m = [] := by
      have h2 := congrArg List.length h
      simp [rng] at h2
      exact List.eq_nil_of_length_eq_zero (by omega)
    rw [this]; rfl
  | succ n ih =>
    intro l m h
    cases l with
    | nil => rw [List.nil_append] at h; rw [← h, rng_len]
    | cons a l =>
      rw [rng_succ, List.cons_append] at h
      exact ih l m (List.cons.inj h).2

theorem ag_suffix (N : List NodeV) (f : Nat) : ∀ id met, ∃ l, (agM N f id met).1 = l ++ met := by
  induction f with
  | zero => intro id met; exact ⟨[], rfl⟩
  | succ f ih =>
    intro id met
    rw [agM]
    split
    · exact ⟨[], rfl⟩
    · have key : ∀ (ps : List Nat) (st : List Nat × List Nat), ∃ l, (agP (agM N f) ps st).1 = l ++ st.1 := by
        intro ps
        induction ps with
        | nil => intro st; exact ⟨[], rfl⟩
        | cons p ps ihp =>
          intro st
          obtain ⟨l1, e1⟩ := ih p st.1
          obtain ⟨l2, e2⟩ := ihp ((agM N f p st.1).1, (agM N f p st.1).2 ++ st.2)
          refine ⟨l2 ++ l1, ?_⟩
          simp only [agP]
          rw [e2]
          simp only
          rw [e1, List.append_assoc]
      obtain ⟨l, e⟩ := key (nodeAt N id).parts (id :: met, [])
      exact ⟨l ++ [id], by rw [e]; simp⟩

theorem agP_suffix (N : List NodeV) (f : Nat) (ps : List Nat) : ∀ st : List Nat × List Nat, ∃ l, (agP (agM N f) ps st).1 = l ++ st.1 := by
  induction ps with
  | nil => intro st; exact ⟨[], rfl⟩
  | cons p ps ihp =>
    intro st
    obtain ⟨l1, e1⟩ := ag_suffix N f p st.1
    obtain ⟨l2, e2⟩ := ihp ((agM N f p st.1).1, (agM N f p st.1).2 ++ st.2)
    refine ⟨l2 ++ l1, ?_⟩
    simp only [agP]
    rw [e2]
    simp only
    rw [e1, List.append_assoc]

/-- Where the reader stands among the nodes N: c of them have begun, those of O are open. -/
structure Rd (N : List NodeV) (ag O : List Nat) (c : Nat) (t : PS) : Prop where
  len : t.nodes.length = c
  node : ∀ i, i < c → i ∉ O → t.nodes[i]? = N[i]?
  look : ∀ x, x < c → x ∈ ag → x ∉ O → lookM t.names (nmB ag x) = some x
  anch : t.anchors = rankOf ag c

theorem rankOf_succ (ag : List Nat) (c : Nat) : rankOf ag (c + 1) = rankOf ag c + (if c ∈ ag then 1 else 0) := by
  unfold rankOf
  rw [List.range_succ, List.filter_append, List.length_append]
  congr 1
  by_cases h : c ∈ ag
  · rw [if_pos h, List.filter_cons_of_pos (by simpa using h)]; rfl
  · rw [if_neg h, List.filter_cons_of_neg (by simpa using h)]; rfl

theorem rankOf_mono (ag : List Nat) {c d : Nat} (h : c ≤ d) : rankOf ag c ≤ rankOf ag d := by
  induction d with
  | zero => rw [Nat.le_zero.1 h]; exact Nat.le_refl _
  | succ d ih =>
    by_cases hc : c = d + 1
    · rw [hc]; exact Nat.le_refl _
    · have := ih (by omega)
      rw [rankOf_succ]
      omega

theorem lookM_other {names : List (ByteArray × Nat)} {x y : ByteArray} {i : Nat} (h : x ≠ y) : lookM ((y, i) :: names) x = lookM names x := by
  unfold lookM
  rw [List.find?_cons_of_neg (by simpa using fun e => h e.symm)]

theorem lookM_here (x : ByteArray) (i : Nat) (l : List (ByteArray × Nat)) : lookM ((x, i) :: l) x = some i := by simp [lookM]

theorem nmO_isSome (ag : List Nat) (p : Nat) : (if (nmO ag p).isSome then 1 else 0) = (if p ∈ ag then 1 else 0) := by
  unfold nmO
  split <;> simp

/-- A node has begun. -/
theorem Rd.beg {N : List NodeV} {ag O : List Nat} {c : Nat} {t : PS} (h : Rd N ag O c t) : Rd N ag (c :: O) (c + 1) (begun (nmO ag c) t) := by
  refine ⟨?_, fun i hi hO => ?_, fun x hx hag hO => ?_, ?_⟩
  · show (t.nodes ++ [NodeV.blank]).length = _
    rw [List.length_append, h.len]; rfl
  · have hic : i ≠ c := fun e => hO (by rw [e]; exact List.mem_cons_self ..)
    show (t.nodes ++ [NodeV.blank])[i]? = _
    rw [List.getElem?_append_left (by rw [h.len]; omega)]
    exact h.node i (by omega) (fun e => hO (List.mem_cons_of_mem _ e))
  · have hic : x ≠ c := fun e => hO (by rw [e]; exact List.mem_cons_self ..)
    exact h.look x (by omega) hag (fun e => hO (List.mem_cons_of_mem _ e))
  · show t.anchors + _ = _
    rw [h.anch, rankOf_succ, nmO_isSome]

/-- A node has ended: it is the node of N. -/
theorem Rd.fin {N : List NodeV} (hW : Whole N) {ag O : List Nat} {c c' : Nat} {t : PS} (h : Rd N ag (c :: O) c' t) (hc : c < c') (hcN : c < N.length) (hcO : c ∉ O) (hp : ∀ p ∈ (nodeAt N c).parts, p < c' ∧ p ∉ c :: O) {keys : List ByteArray} (hk : (nodeAt N c).kind = 2 → keys = (nodeAt N c).keys) :
    Rd N ag O c' (ended (nmO ag c) c (mkNode (nodeAt N c).kind (nodeAt N c).text keys (nodeAt N c).parts) t) := by
  have hn := hW.node hcN
  have hid : c < t.nodes.length := by rw [h.len]; exact hc
  have hgetp : ∀ p ∈ (nodeAt N c).parts, t.nodes[p]? = N[p]? := fun p hpp => h.node p (hp p hpp).1 (hp p hpp).2
  have hmk : measured t.nodes (mkNode (nodeAt N c).kind (nodeAt N c).text keys (nodeAt N c).parts) = nodeAt N c := by
    have e1 : (nodeAt N c).parts.foldl (fun a i => max a (highOf t.nodes i)) 0 = (nodeAt N c).parts.foldl (fun a i => max a (highOf N i)) 0 :=
      foldl_congr' _ _ _ _ (fun a x hx => by simp only [highOf, List.getD, hgetp x hx])
    have e2 : (nodeAt N c).parts.foldl (fun a i => min (a + heavyOf t.nodes i) 1000000000001) 1 = (nodeAt N c).parts.foldl (fun a i => min (a + heavyOf N i) 1000000000001) 1 :=
      foldl_congr' _ _ _ _ (fun a x hx => by simp only [heavyOf, List.getD, hgetp x hx])
    have hh := hn.high
    have hv := hn.heavy
    have hky := hn.keys
    have htx := hn.notext
    cases hnode : nodeAt N c with
    | mk kind text nkeys parts high heavy =>
      rw [hnode] at e1 e2 hh hv hky htx hk
      simp only at e1 e2 hh hv hky htx hk
      unfold measured mkNode
      simp only [NodeV.mk.injEq, true_and]
      refine ⟨?_, ?_, ?_, ?_⟩
      · by_cases h0 : kind = 0
        · rw [if_pos h0]
        · rw [if_neg h0, htx h0]
      · by_cases h2 : kind = 2
        · rw [if_pos h2, hk h2]
        · rw [if_neg h2] at hky ⊢
          exact (List.eq_nil_of_length_eq_zero hky).symm
      · rw [e1, hh]
      · rw [e2, hv]
  have hN : N[c]? = some (nodeAt N c) := by
    simp [nodeAt, List.getD, hcN]
  have hset : ∀ i, (t.nodes.set c (nodeAt N c))[i]? = if i = c then N[c]? else t.nodes[i]? := fun i => by
    rw [List.getElem?_set]
    by_cases hic : c = i
    · rw [if_pos hic, if_pos hic.symm, hN]; simp [hid]
    · rw [if_neg hic, if_neg (fun e => hic e.symm)]
  have hnodes : (ended (nmO ag c) c (mkNode (nodeAt N c).kind (nodeAt N c).text keys (nodeAt N c).parts) t).nodes = t.nodes.set c (nodeAt N c) := by
    have : (endM c (mkNode (nodeAt N c).kind (nodeAt N c).text keys (nodeAt N c).parts) t).nodes = t.nodes.set c (nodeAt N c) := by
      show t.nodes.set c (measured _ _) = _
      rw [hmk]
    cases hnm : nmO ag c with
    | none => exact this
    | some x => exact this
  refine ⟨?_, fun i hi hO => ?_, fun x hx hag hO => ?_, ?_⟩
  · rw [hnodes, List.length_set, h.len]
  · rw [hnodes, hset]
    by_cases hic : i = c
    · rw [if_pos hic, hic]
    · rw [if_neg hic]
      exact h.node i hi (fun e => by rcases List.mem_cons.1 e with e | e; exact hic e; exact hO e)
  · by_cases hxc : x = c
    · subst hxc
      have : nmO ag x = some (nmB ag x) := by unfold nmO; rw [if_pos hag]
      rw [this]
      exact lookM_here _ _ _
    · have h1 := h.look x hx hag (fun e => by rcases List.mem_cons.1 e with e | e; exact hxc e; exact hO e)
      by_cases hcg : c ∈ ag
      · have : nmO ag c = some (nmB ag c) := by unfold nmO; rw [if_pos hcg]
        rw [this]
        show lookM ((nmB ag c, c) :: t.names) _ = _
        rw [lookM_other (fun e => hxc (nmB_inj hag hcg e))]
        exact h1
      · have : nmO ag c = none := by unfold nmO; rw [if_neg hcg]
        rw [this]
        exact h1
  · have : (ended (nmO ag c) c (mkNode (nodeAt N c).kind (nodeAt N c).text keys (nodeAt N c).parts) t).anchors = t.anchors := by
      cases nmO ag c <;> rfl
    rw [this, h.anch]

/-- The reader makes N's nodes of N's items. -/
theorem tf_law {N : List NodeV} (hW : Whole N) (ag : List Nat) {B : Bud} (hBn : (N.length : Int) ≤ B.nodes) (hBa : (rankOf ag N.length : Int) ≤ B.anchors) (f : Nat) : ∀ (id : Nat) (O : List Nat) (t : PS) (lv : Int) (l : List Nat),
    id < N.length → highOf N id < f → (∀ x ∈ O, highOf N id < highOf N x) → Rd N ag O id t → rng N.length = l ++ (agM N f id (rng id)).1 → (∀ x ∈ (agM N f id (rng id)).2, x ∈ ag) → lv + (highOf N id : Int) - 1 ≤ B.depth →
    fitsI B (nmO ag id) (nodeAt N id).kind (nodeAt N id).text (tfM N ag f id (rng id)).1 lv t ∧ Rd N ag O (agM N f id (rng id)).1.length (after (nmO ag id) (nodeAt N id).kind (nodeAt N id).text (tfM N ag f id (rng id)).1 t) := by
  induction f with
  | zero => intro id O t lv l _ h; omega
  | succ f ih =>
    intro id O t lv l hid hf hO hR hsuf hag hlv
    have hn := hW.node hid
    have hid0 : id ∉ rng id := by rw [rng_mem]; omega
    have hh0 : highOf N id ≠ 0 := hW.all id hid
    have eag : agM N (f + 1) id (rng id) = agP (agM N f) (nodeAt N id).parts (rng (id + 1), []) := by rw [agM, if_neg hid0, rng_succ]
    have etf : tfM N ag (f + 1) id (rng id) = tfP N ag (tfM N ag f) (nodeAt N id).parts (nodeAt N id).keys (rng (id + 1)) := by rw [tfM, rng_succ]
    rw [eag] at hsuf hag ⊢
    rw [etf]
    have key : ∀ (ps : List Nat) (keys : List ByteArray) (c : Nat) (u : PS) (l : List Nat), (∀ p ∈ ps, p ∈ (nodeAt N id).parts) → Rd N ag (id :: O) c u → rng N.length = l ++ (agP (agM N f) ps (rng c, [])).1 → (∀ x ∈ (agP (agM N f) ps (rng c, [])).2, x ∈ ag) →
        (tfP N ag (tfM N ag f) ps keys (rng c)).1.fits B (lv + 1) u ∧ ((tfP N ag (tfM N ag f) ps keys (rng c)).1.run u).1 = ps ∧ Rd N ag (id :: O) (agP (agM N f) ps (rng c, [])).1.length ((tfP N ag (tfM N ag f) ps keys (rng c)).1.run u).2 ∧ (∀ p ∈ ps, p < (agP (agM N f) ps (rng c, [])).1.length) ∧ c ≤ (agP (agM N f) ps (rng c, [])).1.length := by
      intro ps
      induction ps with
      | nil => intro keys c u l _ hRu _ _; exact ⟨trivial, rfl, (by show Rd N ag (id :: O) (rng c).length u; rw [rng_len]; exact hRu), (fun p hp => by cases hp), by simp [agP, rng_len]⟩
      | cons p ps ihp =>
        intro keys c u l hp hRu hs ha
        obtain ⟨h1, h2⟩ := hW.part hid (hp p (List.mem_cons_self ..))
        have hps : ∀ q ∈ ps, q ∈ (nodeAt N id).parts := fun q hq => hp q (List.mem_cons_of_mem _ hq)
        have hpO : p ∉ id :: O := fun e => by
          rcases List.mem_cons.1 e with e | e
          · rw [e] at h2; omega
          · have := hO p e; omega
        obtain ⟨g, rfl⟩ : ∃ g, f = g + 1 := ⟨f - 1, by omega⟩
        have hap : ∀ m q : List Nat, agP (agM N (g + 1)) ps (m, q) = ((agP (agM N (g + 1)) ps (m, [])).1, (agP (agM N (g + 1)) ps (m, [])).2 ++ q) := fun m q => agP_app _ _ _ _
        by_cases hpc : p < c
        · have hpm : p ∈ rng c := rng_mem.2 hpc
          have e2 : agM N (g + 1) p (rng c) = (rng c, [p]) := by rw [agM, if_pos hpm]
          have e3 : agP (agM N (g + 1)) (p :: ps) (rng c, []) = ((agP (agM N (g + 1)) ps (rng c, [])).1, (agP (agM N (g + 1)) ps (rng c, [])).2 ++ [p]) := by
            simp only [agP, List.append_nil]
            rw [e2, hap]
          rw [e3] at hs ha ⊢
          have hpa : p ∈ ag := ha p (by simp)
          obtain ⟨i1, i2, i3, i4, i5⟩ := ihp keys.tail c u l hps hRu hs (fun x hx => ha x (by simp; exact .inl hx))
          have et : tfP N ag (tfM N ag (g + 1)) (p :: ps) keys (rng c) = (.cons (keys.headD ByteArray.empty) none 3 (nmB ag p) false .nil (tfP N ag (tfM N ag (g + 1)) ps keys.tail (rng c)).1, (tfP N ag (tfM N ag (g + 1)) ps keys.tail (rng c)).2) := by
            rw [tfP, if_pos hpm]
          have hlk := hRu.look p hpc hpa hpO
          have hau : after none 3 (nmB ag p) .nil u = u := by simp [after]
          rw [et]
          refine ⟨?_, ?_, ?_, ?_, i5⟩
          · refine fits_cons.2 ⟨⟨fun _ => ⟨rfl, nmB_word (by have := hW.len; omega), p, hlk, ?_⟩, fun h3 => absurd rfl h3⟩, by rw [hau]; exact i1⟩
            have : highOf u.nodes p = highOf N p := by simp only [highOf, List.getD, hRu.node p hpc hpO]
            rw [this]
            omega
          · rw [run_cons, hau, i2]
            simp [idOf, hlk]
          · rw [run_cons, hau]
            exact i3
          · intro q hq
            rcases List.mem_cons.1 hq with rfl | hq
            · simp only; omega
            · exact i4 q hq
        · have hpm : p ∉ rng c := by rw [rng_mem]; exact hpc
          have e3 : agP (agM N (g + 1)) (p :: ps) (rng c, []) = ((agP (agM N (g + 1)) ps ((agM N (g + 1) p (rng c)).1, [])).1, (agP (agM N (g + 1)) ps ((agM N (g + 1) p (rng c)).1, [])).2 ++ (agM N (g + 1) p (rng c)).2) := by
            simp only [agP, List.append_nil]
            rw [hap]
          rw [e3] at hs ha ⊢
          -- the number is the next one
          obtain ⟨l1, s1⟩ := agP_suffix N (g + 1) ps ((agM N (g + 1) p (rng c)).1, [])
          simp only at s1
          have hs1 : rng N.length = (l ++ l1) ++ (agM N (g + 1) p (rng c)).1 := by rw [hs]; simp only; rw [s1, List.append_assoc]
          have hpe : p = c := by
            have eg : (agM N (g + 1) p (rng c)).1 = (agP (agM N g) (nodeAt N p).parts (p :: rng c, [])).1 := by rw [agM, if_neg hpm]
            obtain ⟨l2, s2⟩ := agP_suffix N g (nodeAt N p).parts (p :: rng c, [])
            simp only at s2
            have h3 : rng N.length = (l ++ l1 ++ l2) ++ (p :: rng c) := by rw [hs1, eg, s2]; simp [List.append_assoc]
            have h4 := suffix_rng _ _ _ h3
            rw [List.length_cons, rng_len, rng_succ] at h4
            exact (List.cons.inj h4).1
          subst hpe
          have hm1 := suffix_rng _ _ _ hs1
          obtain ⟨j1, j2⟩ := ih p (id :: O) u (lv + 1) (l ++ l1) h1 (by omega) (fun x hx => by
            rcases List.mem_cons.1 hx with rfl | hx
            · exact h2
            · have := hO x hx; omega) hRu hs1 (fun x hx => ha x (by simp; exact .inr hx)) (by omega)
          rw [hm1] at hs ha ⊢
          obtain ⟨i1, i2, i3, i4, i5⟩ := ihp keys.tail _ _ l hps j2 hs (fun x hx => ha x (by simp; exact .inl hx))
          have ht2 : (tfM N ag (g + 1) p (rng p)).2 = rng (agM N (g + 1) p (rng p)).1.length := by
            rw [(tell_txt hW ag (g + 1) p (rng p) h1 (by omega) hpm).1]; exact hm1
          have et : tfP N ag (tfM N ag (g + 1)) (p :: ps) keys (rng p) = (.cons (keys.headD ByteArray.empty) (nmO ag p) (nodeAt N p).kind (nodeAt N p).text false (tfM N ag (g + 1) p (rng p)).1 (tfP N ag (tfM N ag (g + 1)) ps keys.tail (rng (agM N (g + 1) p (rng p)).1.length)).1, (tfP N ag (tfM N ag (g + 1)) ps keys.tail (rng (agM N (g + 1) p (rng p)).1.length)).2) := by
            rw [tfP, if_neg hpm, ht2]
          have hle : p + 1 ≤ (agM N (g + 1) p (rng p)).1.length := by
            have eg : (agM N (g + 1) p (rng p)).1 = (agP (agM N g) (nodeAt N p).parts (p :: rng p, [])).1 := by rw [agM, if_neg hpm]
            obtain ⟨l2, s2⟩ := agP_suffix N g (nodeAt N p).parts (p :: rng p, [])
            simp only at s2
            rw [eg, s2]
            simp [rng_len]
          rw [et]
          refine ⟨fits_cons.2 ⟨j1, i1⟩, ?_, ?_, ?_, by simp only; omega⟩
          · rw [run_cons, i2]
            have hk3 : (nodeAt N p).kind ≠ 3 := by have := (hW.node h1).kind; omega
            simp only [idOf, if_neg hk3, hRu.len]
          · rw [run_cons]
            exact i3
          · intro q hq
            rcases List.mem_cons.1 hq with rfl | hq
            · simp only; omega
            · exact i4 q hq
    have hbg := hR.beg
    obtain ⟨k1, k2, k3, k4, k5⟩ := key (nodeAt N id).parts (nodeAt N id).keys (id + 1) (begun (nmO ag id) t) l (fun p hp => hp) hbg hsuf hag
    have hk3 : (nodeAt N id).kind ≠ 3 := by have := hn.kind; omega
    have hkeys : (nodeAt N id).kind = 2 → (tfP N ag (tfM N ag f) (nodeAt N id).parts (nodeAt N id).keys (rng (id + 1))).1.keysOf = (nodeAt N id).keys := fun h2 => by
      refine tfP_keys _ _ _ _ _ _ ?_
      have := hn.keys
      rw [if_pos h2] at this
      exact this
    have hanch : id ∈ ag → (t.anchors : Int) < B.anchors := fun hia => by
      have h1 := rankOf_mono ag (c := id + 1) (d := N.length) (by omega)
      rw [rankOf_succ, if_pos hia] at h1
      rw [hR.anch]
      omega
    refine ⟨⟨fun h3 => absurd h3 hk3, fun _ => ⟨by omega, by rw [hR.len]; omega, fun x hx => ?_, hn.kind, fun h0 => ⟨hn.text, ?_⟩, fun h2 => ?_, k1⟩⟩, ?_⟩
    · unfold nmO at hx
      split at hx
      · rename_i hia
        cases hx
        exact ⟨nmB_word (by have := hW.len; omega), hanch hia⟩
      · cases hx
    · rw [hn.none h0]
      rfl
    · rw [hkeys h2]
      exact ⟨hn.words, hn.apart⟩
    · unfold after
      rw [if_neg hk3, k2, hR.len]
      refine Rd.fin hW k3 (by omega) hid (fun e => by have := hO id e; omega) (fun p hp => ⟨k4 p hp, fun e => ?_⟩) (fun h2 => hkeys h2)
      obtain ⟨_, h2⟩ := hW.part hid hp
      rcases List.mem_cons.1 e with e | e
      · rw [e] at h2; omega
      · have := hO p e; omega

end Go.Proofs.YtkflkmmbakccoaaGreatDoor

/- THE PLAIN FUNCTIONS: the plain form is a text that says the same. No program is named here. -/
namespace Go.Proofs.YtkflkmmbakccoaaGreatDoor

theorem nodup_sub_len : ∀ (l m : List Nat), l.Nodup → (∀ x ∈ l, x ∈ m) → l.length ≤ m.length
  | [], _, _, _ => by simp
  | x :: l, m, hn, hs => by
    have hx := hs x (List.mem_cons_self ..)
    obtain ⟨h1, h2⟩ := List.nodup_cons.1 hn
    have := nodup_sub_len l (m.erase x) h2 (fun y hy => by
      have hne : y ≠ x := fun e => h1 (e ▸ hy)
      exact (List.mem_erase_of_ne hne).2 (hs y (List.mem_cons_of_mem _ hy)))
    have hl := List.length_erase_of_mem hx
    have hp : 0 < m.length := List.length_pos_of_mem hx
    simp only [List.length_cons]
    omega

theorem rank_names {ag : List Nat} {S : List (ByteArray × Nat)} (h : ∀ x ∈ ag, x ∈ S.map (·.2)) (n : Nat) : rankOf ag n ≤ S.length := by
  unfold rankOf
  have := nodup_sub_len ((List.range n).filter (fun j => decide (j ∈ ag))) (S.map (·.2)) (namesL_nodup ag n) (fun x hx => by
    have := (List.mem_filter.1 hx).2
    exact h x (by simpa using this))
  simpa using this

section
variable {N : List NodeV} {S : List (ByteArray × Nat)} {B : Bud}

/-- The first node's item, and what the reader makes of it. -/
theorem again_item (hW : Whole N) (h0 : 0 < N.length) (hwalk : Walk1 N 101 0 0 N.length S) (hd : (highOf N 0 : Int) ≤ B.depth) (hBn : (N.length : Int) ≤ B.nodes) (hBa : (S.length : Int) ≤ B.anchors) :
    ∃ (nm : Option ByteArray) (kids : Frst), plainM N 0 = itemT nm (nodeAt N 0).kind (nodeAt N 0).text (kids.txt [44, 32] ((nodeAt N 0).kind == 2) true) ∧ fitsI B nm (nodeAt N 0).kind (nodeAt N 0).text kids 1 ⟨0, 0, [], 0, []⟩ ∧
      (after nm (nodeAt N 0).kind (nodeAt N 0).text kids ⟨0, 0, [], 0, []⟩).nodes = N ∧ (after nm (nodeAt N 0).kind (nodeAt N 0).text kids ⟨0, 0, [], 0, []⟩).anchors ≤ S.length := by
  obtain ⟨w1, w2⟩ := hwalk
  have hh := hW.high 0
  have e0 : rng 0 = [] := rfl
  rw [e0] at w1 w2
  have hrk := rank_names (ag := (agM N 101 0 []).2) w2 N.length
  have hR0 : Rd N (agM N 101 0 []).2 [] 0 ⟨0, 0, [], 0, []⟩ := ⟨rfl, (fun i hi => by omega), (fun x hx => by omega), rfl⟩
  obtain ⟨g1, g2⟩ := tf_law hW (agM N 101 0 []).2 (B := B) hBn (by omega) 101 0 [] ⟨0, 0, [], 0, []⟩ 1 [] h0 (by omega) (fun x hx => by cases hx) hR0 (by rw [e0, w1]; rfl) (fun x hx => by rw [e0] at hx; exact hx) (by omega)
  rw [e0] at g1 g2
  obtain ⟨_, t2⟩ := tell_txt hW (agM N 101 0 []).2 101 0 [] h0 (by omega) (by simp)
  rw [w1, rng_len] at g2
  refine ⟨nmO (agM N 101 0 []).2 0, (tfM N (agM N 101 0 []).2 101 0 []).1, t2, g1, ?_, by rw [g2.anch]; exact hrk⟩
  apply List.ext_getElem?
  intro i
  by_cases hi : i < N.length
  · exact g2.node i hi (by simp)
  · rw [List.getElem?_eq_none (by rw [g2.len]; omega), List.getElem?_eq_none (by omega)]

/-- The plain form, read again. -/
theorem again_read (hW : Whole N) (h0 : 0 < N.length) (hwalk : Walk1 N 101 0 0 N.length S) (hD : B.depth ≤ 20) (hd : (highOf N 0 : Int) ≤ B.depth) (hBn : (N.length : Int) ≤ B.nodes) (hBa : (S.length : Int) ≤ B.anchors) :
    ∃ t, textM ⟨(plainM N 0).toArray⟩ B ⟨0, 0, [], 0, []⟩ = .ok () t ∧ t.nodes = N ∧ t.anchors ≤ S.length := by
  obtain ⟨nm, kids, e, hf, hn, ha⟩ := again_item hW h0 hwalk hd hBn hBa
  obtain ⟨a, b, ht⟩ := text_one (t := ⟨0, 0, [], 0, []⟩) hD rfl hf
  rw [e]
  exact ⟨_, ht, hn, ha⟩

/-- The plain form, read again in a line with blanks about it. -/
theorem again_read2 (hW : Whole N) (h0 : 0 < N.length) (hwalk : Walk1 N 101 0 0 N.length S) (hD : B.depth ≤ 20) (hd : (highOf N 0 : Int) ≤ B.depth) (hBn : (N.length : Int) ≤ B.nodes) (hBa : (S.length : Int) ≤ B.anchors) :
    ∃ t, textM ⟨([10, 10] ++ (plainM N 0 ++ [32, 32, 10, 32])).toArray⟩ B ⟨0, 0, [], 0, []⟩ = .ok () t ∧ t.nodes = N ∧ t.anchors ≤ S.length := by
  obtain ⟨nm, kids, e, hf, hn, ha⟩ := again_item hW h0 hwalk hd hBn hBa
  rw [e]
  generalize hT : itemT nm (nodeAt N 0).kind (nodeAt N 0).text (kids.txt [44, 32] ((nodeAt N 0).kind == 2) true) = T
  obtain ⟨s, hs⟩ : ∃ s : ByteArray, s = ⟨([10, 10] ++ (T ++ [32, 32, 10, 32])).toArray⟩ := ⟨_, rfl⟩
  have hat : At s 0 ([10, 10] ++ (T ++ [32, 32, 10, 32])) := by rw [hs]; exact At.all _
  have hsz : s.size = T.length + 6 := by rw [hs]; simp [ByteArray.size]
  rw [← hs]
  obtain ⟨p1, p2⟩ := hat.app
  obtain ⟨q1, q2⟩ := p2.app
  obtain ⟨b0, b1, p3⟩ := p1.head
  obtain ⟨b2, b3, _⟩ := p3.head
  have q1' : At s 2 T := q1
  have q2' : At s (2 + T.length) [32, 32, 10, 32] := q2
  have q1t : At s 2 (itemT nm (nodeAt N 0).kind (nodeAt N 0).text (kids.txt [44, 32] ((nodeAt N 0).kind == 2) true)) := by rw [hT]; exact q1'
  obtain ⟨f1, f2⟩ := item_first (w := []) (by rw [List.append_nil]; exact q1t)
  have hlt : 2 < s.size := kindAt_lt (by omega)
  have hk1 : kindAt s 2 ≠ 1 := by omega
  have hnl : nlGo s 0 0 = (0, 2) := by
    rw [nlGo_nl s 0 0 b0 b1, nlGo_nl s 1 1 b2 b3]
    exact nlGo_head (k := 2) hlt f1 hk1
  obtain ⟨_, _, r1⟩ := q2'.head
  obtain ⟨_, _, r2⟩ := r1.head
  obtain ⟨c1, c2, r3⟩ := r2.head
  obtain ⟨c3, c4, _⟩ := r3.head
  have hsk : skipBl s (2 + T.length) = 2 + T.length + 1 + 1 := by
    rw [skip_one q2', skip_one r1]
    exact skip_at (by rw [c2]; decide)
  obtain ⟨a, b, ht⟩ := text_flow (s := s) (sep := [44, 32]) (.inr rfl) hD (t := ⟨0, 0, [], 0, []⟩) rfl hnl hf q1t (by
    rw [hT, hsk]
    unfold lineOver
    rw [kindAt_byte c1 c2]
    rfl) (by
    rw [hT, hsk, nlGo_nl s _ _ c1 c2, nlGo_bl s _ _ c3 c4, nlGo_end s _ _ (by omega)]
    simp only
    rw [kindAt, if_neg (by omega)])
  exact ⟨_, ht, hn, ha⟩

end

end Go.Proofs.YtkflkmmbakccoaaGreatDoor
