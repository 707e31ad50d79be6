/- PARTS: K5, Mod24, Mod25, K9, S0. -/
import Derived.Test.YtkflkmmbakccoaaGreatDoorJ19
import Derived.Test.YtkflkmmbakccoaaGreatDoorJ16
import Derived.Test.YtkflkmmbakccoaaGreatDoorJ27
import Derived.Test.YtkflkmmbakccoaaGreatDoorJ29
import Derived.ChangeMaps5

/- WALKS: package grafterkeep: pick. -/
namespace Go.Proofs.YtkflkmmbakccoaaGreatDoor
open Go.RowKit Go.Maps

/-- Which of n numbers a raw one speaks of. -/
def pickM (c n : Int) : Int := if c < 0 then -(c + 1).tmod n else c % n

theorem pickM_bd {c n : Int} (hn : 0 < n) : 0 ≤ pickM c n ∧ pickM c n < n := by
  unfold pickM
  split
  · rw [← Int.neg_tmod]
    exact ⟨Int.tmod_nonneg n (by omega), Int.tmod_lt_of_pos _ hn⟩
  · exact ⟨Int.emod_nonneg _ (by omega), Int.emod_lt_of_pos _ hn⟩

set_option maxHeartbeats 400000 in
theorem kPick_any (c n : Int) (hc : -9223372036854775808 ≤ c ∧ c ≤ 9223372036854775807) (hn : 0 < n ∧ n ≤ 100000) (w : World) :
    Calls Tryz.prog 17 #[.int .i64 c, .int .i64 n] w fun e w' => e = .returned (.int .i64 (pickM c n)) ∧ w' = w := by
  obtain ⟨c1, c2⟩ := hc
  obtain ⟨n1, n2⟩ := hn
  have hb := pickM_bd (c := c) n1
  by_cases h0 : c < 0
  · have HP : Hid (pickM c n = -(c + 1).tmod n) := by unfold Hid pickM; rw [if_pos h0]
    rw [HP.out] at hb
    go_enter Tryz.func17, Tryz.ntmps17
    go_wp2_with fail
    go_ret
    rw [HP.out]
    exact ⟨rfl, rfl⟩
  · have HP : Hid (pickM c n = c % n) := by unfold Hid pickM; rw [if_neg h0]
    rw [HP.out] at hb
    go_enter Tryz.func17, Tryz.ntmps17
    go_wp2_with fail
    go_ret
    rw [HP.out]
    exact ⟨rfl, rfl⟩

end Go.Proofs.YtkflkmmbakccoaaGreatDoor

/- THE PLAIN FUNCTIONS: what is unfolded, as a tree: how it is written, how heavy it is. No program is named here. -/
namespace Go.Proofs.YtkflkmmbakccoaaGreatDoor

/-- Items of parts. -/
def frL (N : List NodeV) (go : Nat → Frst) : List Nat → List ByteArray → Frst
  | [], _ => .nil
  | p :: ps, keys => .cons (keys.headD ByteArray.empty) none (nodeAt N p).kind (nodeAt N p).text false (go p) (frL N go ps keys.tail)

/-- What is in a node, each place with a node of its own. -/
def kidsF (N : List NodeV) : Nat → Nat → Frst
  | 0, _ => .nil
  | f + 1, id => frL N (kidsF N f) (nodeAt N id).parts (nodeAt N id).keys

theorem frL_nil (N : List NodeV) (go : Nat → Frst) (ps : List Nat) (keys : List ByteArray) : frL N go ps keys = .nil ↔ ps = [] := by
  cases ps with
  | nil => simp [frL]
  | cons p ps => simp [frL]

theorem frL_keys (N : List NodeV) (go : Nat → Frst) (ps : List Nat) : ∀ keys : List ByteArray, keys.length = ps.length → (frL N go ps keys).keysOf = keys := by
  induction ps with
  | nil => intro keys h; cases keys with
    | nil => rfl
    | cons k ks => simp at h
  | cons p ps ih =>
    intro keys h
    cases keys with
    | nil => simp at h
    | cons k ks =>
      simp only [frL, Frst.keysOf, List.headD_cons, List.tail_cons]
      rw [ih ks (by simpa using h)]

/-- What is unfolded is written as its tree is. -/
theorem unf_txt {N : List NodeV} (hW : Whole N) (f : Nat) : ∀ id, id < N.length → highOf N id < f → unfM N f id = itemT none (nodeAt N id).kind (nodeAt N id).text ((kidsF N f id).txt [44, 32] ((nodeAt N id).kind == 2) true) := by
  induction f with
  | zero => intro id _ h; omega
  | succ f ih =>
    intro id hid hf
    have hk := (hW.node hid).kind
    have key : ∀ (ps : List Nat) (i : Nat), (∀ p ∈ ps, p ∈ (nodeAt N id).parts) → unfP N (unfM N f) id ps i = (frL N (kidsF N f) ps ((nodeAt N id).keys.drop i)).txt [44, 32] ((nodeAt N id).kind == 2) (decide (i = 0)) := by
      intro ps
      induction ps with
      | nil => intro i _; rfl
      | cons p ps ihp =>
        intro i hp
        have hpm := hp p (List.mem_cons_self ..)
        obtain ⟨h1, h2⟩ := hW.part hid hpm
        simp only [unfP, frL, Frst.txt_cons]
        rw [ihp (i + 1) (fun q hq => hp q (List.mem_cons_of_mem _ hq)), ih p h1 (by omega), List.tail_drop]
        have hhd : ((nodeAt N id).keys.drop i).headD ByteArray.empty = (nodeAt N id).keys.getD i ByteArray.empty := by
          rw [List.headD_eq_head?_getD, List.head?_drop, List.getD_eq_getElem?_getD]
        rw [hhd]
        unfold leadL
        by_cases hi : i = 0
        · subst hi
          by_cases h2 : (nodeAt N id).kind = 2 <;> simp [h2]
        · by_cases h2 : (nodeAt N id).kind = 2 <;> simp [h2, hi, Nat.pos_of_ne_zero hi]
    unfold unfM
    rw [key (nodeAt N id).parts 0 (fun p hp => hp), List.drop_zero]
    have hkf : kidsF N (f + 1) id = frL N (kidsF N f) (nodeAt N id).parts (nodeAt N id).keys := rfl
    rw [hkf]
    simp only [decide_true]
    by_cases h0 : (nodeAt N id).kind = 0
    · have hp := (hW.node hid).none h0
      rw [hp]
      simp [openL, shutL, itemT, h0, frL, Frst.txt_nil]
    · obtain ⟨o1, o2⟩ := open_kind hk h0
      rw [o1, o2]
      unfold itemT
      have h3 : (nodeAt N id).kind ≠ 3 := by omega
      by_cases h2 : (nodeAt N id).kind = 2
      · simp [h2]
      · have h1 : (nodeAt N id).kind = 1 := by omega
        simp [h1]

theorem kids_tree {N : List NodeV} (hW : Whole N) (f : Nat) : ∀ id, id < N.length → highOf N id < f → (kidsF N f id).tree ∧ ((nodeAt N id).kind = 2 → (∀ x ∈ (kidsF N f id).keysOf, TokOk x) ∧ (kidsF N f id).keysOf.Nodup) ∧ ((nodeAt N id).kind = 0 → kidsF N f id = .nil) ∧ (kidsF N f id).hi + 1 = highOf N id := by
  induction f with
  | zero => intro id _ h; omega
  | succ f ih =>
    intro id hid hf
    have hn := hW.node hid
    have hkf : kidsF N (f + 1) id = frL N (kidsF N f) (nodeAt N id).parts (nodeAt N id).keys := rfl
    rw [hkf]
    refine ⟨?_, fun h2 => ?_, fun h0 => ?_, ?_⟩
    · have key : ∀ (ps : List Nat) (keys : List ByteArray), (∀ p ∈ ps, p ∈ (nodeAt N id).parts) → (frL N (kidsF N f) ps keys).tree := by
        intro ps
        induction ps with
        | nil => intro keys _; trivial
        | cons p ps ihp =>
          intro keys hp
          obtain ⟨h1, h2⟩ := hW.part hid (hp p (List.mem_cons_self ..))
          obtain ⟨a, b, c, _⟩ := ih p h1 (by omega)
          exact ⟨rfl, (hW.node h1).kind, fun h0 => ⟨(hW.node h1).text, c h0⟩, b, a, ihp _ (fun q hq => hp q (List.mem_cons_of_mem _ hq))⟩
      exact key _ _ (fun p hp => hp)
    · have hk := hn.keys
      rw [if_pos h2] at hk
      rw [frL_keys N _ _ _ hk]
      exact ⟨hn.words, hn.apart⟩
    · rw [frL_nil]; exact hn.none h0
    · have key : ∀ (ps : List Nat) (keys : List ByteArray) (a : Nat), (∀ p ∈ ps, p ∈ (nodeAt N id).parts) → max a (frL N (kidsF N f) ps keys).hi = ps.foldl (fun a i => max a (highOf N i)) a := by
        intro ps
        induction ps with
        | nil => intro keys a _; simp [frL, Frst.hi]
        | cons p ps ihp =>
          intro keys a hp
          obtain ⟨h1, h2⟩ := hW.part hid (hp p (List.mem_cons_self ..))
          obtain ⟨_, _, _, c⟩ := ih p h1 (by omega)
          simp only [frL, Frst.hi, List.foldl_cons]
          rw [← ihp keys.tail _ (fun q hq => hp q (List.mem_cons_of_mem _ hq)), c]
          omega
      have h := key (nodeAt N id).parts (nodeAt N id).keys 0 (fun p hp => hp)
      have hh := hn.high
      have e : highOf N id = (nodeAt N id).high := rfl
      rw [e, hh, ← h]
      omega

/-- What is unfolded has as many nodes as it weighs. -/
theorem kids_size {N : List NodeV} (hW : Whole N) (f : Nat) : ∀ id, id < N.length → highOf N id < f → heavyOf N id < 1000000000001 → 1 + (kidsF N f id).size = heavyOf N id := by
  induction f with
  | zero => intro id _ h; omega
  | succ f ih =>
    intro id hid hf hh
    have hkf : kidsF N (f + 1) id = frL N (kidsF N f) (nodeAt N id).parts (nodeAt N id).keys := rfl
    rw [hkf, hW.sum hid hh]
    have key : ∀ (ps : List Nat) (keys : List ByteArray), (∀ p ∈ ps, p ∈ (nodeAt N id).parts) → (frL N (kidsF N f) ps keys).size = (ps.map (heavyOf N)).sum := by
      intro ps
      induction ps with
      | nil => intro keys _; rfl
      | cons p ps ihp =>
        intro keys hp
        obtain ⟨h1, h2⟩ := hW.part hid (hp p (List.mem_cons_self ..))
        have h3 := hW.heavy_part hid hh (hp p (List.mem_cons_self ..))
        simp only [frL, Frst.size, List.map_cons, List.sum_cons]
        rw [ihp keys.tail (fun q hq => hp q (List.mem_cons_of_mem _ hq)), ← ih p h1 (by omega) (by omega)]
    rw [key _ _ (fun p hp => hp)]

/-- Each node that is come to writes so many bytes at most. -/
theorem unf_len {N : List NodeV} (hW : Whole N) (f : Nat) : ∀ id, id < N.length → highOf N id < f → heavyOf N id < 1000000000001 → (unfM N f id).length + 26 ≤ 49 * heavyOf N id := by
  induction f with
  | zero => intro id _ h; omega
  | succ f ih =>
    intro id hid hf hh
    have key : ∀ (ps : List Nat) (i : Nat), (∀ p ∈ ps, p ∈ (nodeAt N id).parts) → (unfP N (unfM N f) id ps i).length ≤ 49 * (ps.map (heavyOf N)).sum := by
      intro ps
      induction ps with
      | nil => intro i _; simp [unfP]
      | cons p ps ihp =>
        intro i hp
        obtain ⟨h1, h2⟩ := hW.part hid (hp p (List.mem_cons_self ..))
        have h3 := hW.heavy_part hid hh (hp p (List.mem_cons_self ..))
        have a := ih p h1 (by omega) (by omega)
        have b := ihp (i + 1) (fun q hq => hp q (List.mem_cons_of_mem _ hq))
        have c := leadL_len hW (p := id) (i := i) hid
        simp only [unfP, List.length_append, List.map_cons, List.sum_cons]
        omega
    have h1 := key (nodeAt N id).parts 0 (fun p hp => hp)
    have h2 := openL_len hW hid
    have h3 := shutL_len N id
    have h4 := hW.sum hid hh
    unfold unfM
    simp only [List.length_append]
    omega

end Go.Proofs.YtkflkmmbakccoaaGreatDoor

/- THE PLAIN FUNCTIONS: the plain form of a tree is the text that it was read from; what is unfolded is read again. No program is named here. -/
namespace Go.Proofs.YtkflkmmbakccoaaGreatDoor

theorem mk_kind (kind : Nat) (text : ByteArray) (keys : List ByteArray) (ids : List Nat) (h v : Nat) : ({ mkNode kind text keys ids with high := h, heavy := v } : NodeV).kind = kind := rfl
theorem mk_text (kind : Nat) (text : ByteArray) (keys : List ByteArray) (ids : List Nat) (h v : Nat) : ({ mkNode kind text keys ids with high := h, heavy := v } : NodeV).text = if kind = 0 then text else ByteArray.empty := rfl
theorem mk_keys (kind : Nat) (text : ByteArray) (keys : List ByteArray) (ids : List Nat) (h v : Nat) : ({ mkNode kind text keys ids with high := h, heavy := v } : NodeV).keys = if kind = 2 then keys else [] := rfl
theorem mk_parts (kind : Nat) (text : ByteArray) (keys : List ByteArray) (ids : List Nat) (h v : Nat) : ({ mkNode kind text keys ids with high := h, heavy := v } : NodeV).parts = ids := rfl

/-- A walk over a tree comes to nothing again. -/
theorem ag_tree {N : List NodeV} (F : Frst) : ∀ b f met l, F.tree → Stand N b (F.flat b) → F.hi < f → (∀ x ∈ met, x < b) → ∃ met', agP (agM N f) (F.ids b) (met, l) = (met', l) ∧ ∀ x ∈ met', x < b + F.size := by
  induction F with
  | nil => intro b f met l _ _ _ hm; exact ⟨met, rfl, fun x hx => by have := hm x hx; omega⟩
  | cons key nm kind text blw kids rest ih1 ih2 =>
    intro b f met l ht hst hf hm
    obtain ⟨_, _, _, _, h5, h6⟩ := ht
    unfold Frst.flat at hst
    obtain ⟨g1, g2⟩ := hst.cons
    obtain ⟨g3, g4⟩ := g2.app
    rw [Frst.flat_len] at g4
    unfold Frst.hi at hf
    obtain ⟨f, rfl⟩ : ∃ g, f = g + 1 := ⟨f - 1, by omega⟩
    obtain ⟨m1, e1, k1⟩ := ih1 (b + 1) f (b :: met) [] h5 g3 (by omega) (fun x hx => by
      rcases List.mem_cons.1 hx with rfl | hx
      · omega
      · have := hm x hx; omega)
    obtain ⟨m2, e2, k2⟩ := ih2 (b + 1 + kids.size) (f + 1) m1 l h6 g4 (by omega) k1
    refine ⟨m2, ?_, fun x hx => by have := k2 x hx; simp only [Frst.size]; omega⟩
    have e : agM N (f + 1) b met = (m1, []) := by
      rw [agM, if_neg (fun h => by have := hm b h; omega), nodeAt_get g1, mk_parts]
      exact e1
    simp only [Frst.ids, agP]
    rw [e]
    exact e2

/-- The plain form of a tree. -/
theorem tell_tree {N : List NodeV} (F : Frst) : ∀ b f met p i st, F.tree → Stand N b (F.flat b) → F.hi < f → (∀ x ∈ met, x < b) → ((nodeAt N p).kind = 2 → (nodeAt N p).keys.drop i = F.keysOf) →
    ∃ met', tellP N (tellM N [] f) p (F.ids b) i (st, met) = (st ++ F.txt [44, 32] ((nodeAt N p).kind == 2) (decide (i = 0)), met') ∧ ∀ x ∈ met', x < b + F.size := by
  induction F with
  | nil => intro b f met p i st _ _ _ hm _; exact ⟨met, by simp [Frst.ids, tellP, Frst.txt_nil], fun x hx => by have := hm x hx; omega⟩
  | cons key nm kind text blw kids rest ih1 ih2 =>
    intro b f met p i st ht hst hf hm hkeys
    obtain ⟨rfl, h2, h3, _, h5, h6⟩ := ht
    unfold Frst.flat at hst
    obtain ⟨g1, g2⟩ := hst.cons
    obtain ⟨g3, g4⟩ := g2.app
    rw [Frst.flat_len] at g4
    unfold Frst.hi at hf
    obtain ⟨f, rfl⟩ : ∃ g, f = g + 1 := ⟨f - 1, by omega⟩
    have hn := nodeAt_get g1
    obtain ⟨m1, e1, k1⟩ := ih1 (b + 1) f (b :: met) b 0 (headL [] b ++ openL N b) h5 g3 (by omega) (fun x hx => by
      rcases List.mem_cons.1 hx with rfl | hx
      · omega
      · have := hm x hx; omega) (fun hk => by rw [hn, mk_kind] at hk; rw [hn, mk_keys, if_pos hk, List.drop_zero])
    have e : tellM N [] (f + 1) b met = (itemT none kind text (kids.txt [44, 32] (kind == 2) true), m1) := by
      rw [tellM, if_neg (fun h => by have := hm b h; omega), hn, mk_parts]
      simp only
      rw [e1, hn, mk_kind]
      simp only [decide_true]
      congr 1
      have hh : headL [] b = [] := by simp [headL]
      rw [hh, List.nil_append]
      unfold openL shutL itemT
      rw [hn, mk_kind, mk_text]
      have hkk : kind = 0 ∨ kind = 1 ∨ kind = 2 := by omega
      rcases hkk with rfl | rfl | rfl
      · obtain ⟨_, rfl⟩ := h3 rfl
        simp [Frst.txt_nil]
      · simp
      · simp
    obtain ⟨m2, e2, k2⟩ := ih2 (b + 1 + kids.size) (f + 1) m1 p (i + 1) (st ++ leadL N (some (p, i)) ++ itemT none kind text (kids.txt [44, 32] (kind == 2) true)) h6 g4 (by omega) k1 (fun hk => by
      have := hkeys hk
      rw [← List.tail_drop, this]
      rfl)
    refine ⟨m2, ?_, fun x hx => by have := k2 x hx; simp only [Frst.size]; omega⟩
    simp only [Frst.ids, tellP]
    rw [e]
    simp only
    rw [e2, Frst.txt_cons]
    congr 1
    have hl : leadL N (some (p, i)) = (if decide (i = 0) then [] else [44, 32]) ++ (if ((nodeAt N p).kind == 2) = true then textL key ++ [58, 32] else []) := by
      have q1 : (if 0 < i then ([44, 32] : List UInt8) else []) = (if decide (i = 0) then [] else [44, 32]) := by
        by_cases hi : i = 0
        · simp [hi]
        · simp [hi, Nat.pos_of_ne_zero hi]
      have q2 : (if (nodeAt N p).kind = 2 then textL ((nodeAt N p).keys.getD i ByteArray.empty) ++ [58, 32] else []) = (if ((nodeAt N p).kind == 2) = true then textL key ++ [58, 32] else []) := by
        by_cases h2 : (nodeAt N p).kind = 2
        · have hd := hkeys h2
          have h0 : ((nodeAt N p).keys.drop i)[0]? = some key := by rw [hd]; rfl
          rw [List.getElem?_drop, Nat.add_zero] at h0
          have h1 : (nodeAt N p).keys.getD i ByteArray.empty = key := by
            rw [List.getD_eq_getElem?_getD, h0]
            rfl
          rw [if_pos h2, h1, if_pos (by simp [h2])]
        · rw [if_neg h2, if_neg (by simp [h2])]
      unfold leadL
      rw [← q1, ← q2]
    rw [hl]
    simp [List.append_assoc]

/-- A tree's plain form, of a tree that is read alone. -/
theorem plain_tree {kind : Nat} {text : ByteArray} {kids : Frst} (ht : (Frst.cons ByteArray.empty none kind text false kids .nil).tree) (hh : kids.hi + 1 < 101) :
    plainM ((Frst.cons ByteArray.empty none kind text false kids .nil).flat 0) 0 = itemT none kind text (kids.txt [44, 32] (kind == 2) true) := by
  have hst : Stand ((Frst.cons ByteArray.empty none kind text false kids .nil).flat 0) 0 ((Frst.cons ByteArray.empty none kind text false kids .nil).flat 0) := fun i hi => by rw [Nat.zero_add]
  generalize hN : (Frst.cons ByteArray.empty none kind text false kids .nil).flat 0 = N at *
  rw [← hN] at hst
  have hst0 : Stand N 0 ((Frst.cons ByteArray.empty none kind text false kids .nil).flat 0) := by rw [hN] at hst ⊢; exact hst
  clear hst
  obtain ⟨m1, e1, _⟩ := ag_tree (N := N) (.cons ByteArray.empty none kind text false kids .nil) 0 101 [] [] ht hst0 (by simp only [Frst.hi]; omega) (fun x hx => by cases hx)
  simp only [Frst.ids, agP, List.append_nil] at e1
  have hag : (agM N 101 0 []).2 = [] := congrArg Prod.snd e1
  unfold plainM
  rw [hag]
  have hflat := hst0
  unfold Frst.flat at hflat
  obtain ⟨g1, _⟩ := hflat.cons
  -- a place with no key
  obtain ⟨m2, e2, _⟩ := tell_tree (N := N) (.cons ByteArray.empty none kind text false kids .nil) 0 101 [] N.length 0 [] ht hst0 (by simp only [Frst.hi]; omega) (fun x hx => by cases hx) (fun hk => by
    rw [show nodeAt N N.length = NodeV.blank by simp [nodeAt, List.getD]] at hk
    simp [NodeV.blank] at hk)
  have hb : nodeAt N N.length = NodeV.blank := by simp [nodeAt, List.getD]
  simp only [Frst.ids, tellP, List.nil_append] at e2
  have hl : leadL N (some (N.length, 0)) = [] := by simp [leadL, hb, NodeV.blank]
  rw [hl, List.nil_append] at e2
  have := congrArg Prod.fst e2
  simp only at this
  rw [this, hb]
  simp [Frst.txt_cons, Frst.txt_nil, NodeV.blank]

theorem nlGo_head {s : ByteArray} {k : Nat} (h : k < s.size) (h1 : byteAt s k ≠ 32) (h2 : kindAt s k ≠ 1) : nlGo s k k = (0, k) := by
  have h3 : byteAt s k ≠ 10 := fun e => h2 (by rw [kindAt_byte h e]; rfl)
  rw [nlGo_stop s k k h h3 h1, Nat.sub_self]

/-- A text that is one item alone is read. -/
theorem text_one {B : Bud} {nm : Option ByteArray} {kind : Nat} {text : ByteArray} {kids : Frst} {t : PS} (hD : B.depth ≤ 20) (htk : t.k = 0) (hfit : fitsI B nm kind text kids 1 t) :
    ∃ a b, textM ⟨(itemT nm kind text (kids.txt [44, 32] (kind == 2) true)).toArray⟩ B t = .ok () { after nm kind text kids t with k := a, ind := b } := by
  have hat := At.all (itemT nm kind text (kids.txt [44, 32] (kind == 2) true))
  have hsz : (⟨(itemT nm kind text (kids.txt [44, 32] (kind == 2) true)).toArray⟩ : ByteArray).size = (itemT nm kind text (kids.txt [44, 32] (kind == 2) true)).length := by simp [ByteArray.size]
  obtain ⟨f1, f2⟩ := item_first (w := []) (by rw [List.append_nil]; exact hat)
  have hlt : 0 < (⟨(itemT nm kind text (kids.txt [44, 32] (kind == 2) true)).toArray⟩ : ByteArray).size := kindAt_lt (by omega)
  have hend : ¬ 0 + (itemT nm kind text (kids.txt [44, 32] (kind == 2) true)).length < (⟨(itemT nm kind text (kids.txt [44, 32] (kind == 2) true)).toArray⟩ : ByteArray).size := by rw [hsz]; omega
  refine text_flow (.inr rfl) hD htk (nlGo_head hlt f1 (by omega)) hfit hat ?_ ?_
  · rw [skipBl_end _ _ hend]
    unfold lineOver
    rw [kindAt, if_neg hend]
    rfl
  · rw [skipBl_end _ _ hend, nlGo_end _ _ _ hend]
    simp only
    rw [kindAt, if_neg hend]

/-- What is unfolded is read again: as many nodes as it weighs, as high, and its plain form is its own. -/
theorem unf_read {N : List NodeV} (hW : Whole N) (h0 : 0 < N.length) (hd : (highOf N 0 : Int) ≤ 20) (hw : heavyOf N 0 ≤ 500) {B : Bud} (hD : B.depth = 20) (hN : B.nodes = 500) :
    ∃ t, textM ⟨(unfoldL N 0).toArray⟩ B ⟨0, 0, [], 0, []⟩ = .ok () t ∧ highOf t.nodes 0 = highOf N 0 ∧ t.nodes.length = heavyOf N 0 ∧ t.anchors = 0 ∧ heavyOf t.nodes 0 = heavyOf N 0 ∧ plainM t.nodes 0 = unfoldL N 0 := by
  have hh := hW.high 0
  obtain ⟨k1, k2, k3, k4⟩ := kids_tree hW 101 0 h0 (by omega)
  have ks := kids_size hW 101 0 h0 (by omega) (by omega)
  have ht := unf_txt hW 101 0 h0 (by omega)
  have hn := hW.node h0
  have htree : (Frst.cons ByteArray.empty none (nodeAt N 0).kind (nodeAt N 0).text false (kidsF N 101 0) .nil).tree := ⟨rfl, hn.kind, fun e => ⟨hn.text, k3 e⟩, k2, k1, trivial⟩
  have hfit := Frst.fits_tree (B := B) _ 1 ⟨0, 0, [], 0, []⟩ htree (by simp only [Frst.hi]; rw [hD]; omega) (by simp only [Frst.size]; rw [hN]; simp; omega)
  obtain ⟨a, b, e⟩ := text_one (B := B) (t := ⟨0, 0, [], 0, []⟩) (by omega) rfl (fits_cons.1 hfit).1
  have hrun := Frst.run_tree _ ⟨0, 0, [], 0, []⟩ htree
  rw [run_cons] at hrun
  have haf := congrArg Prod.snd hrun
  simp only [Frst.run, List.nil_append, List.length_nil] at haf
  have hu : unfoldL N 0 = itemT none (nodeAt N 0).kind (nodeAt N 0).text ((kidsF N 101 0).txt [44, 32] ((nodeAt N 0).kind == 2) true) := ht
  rw [hu]
  refine ⟨_, e, ?_⟩
  rw [haf]
  simp only
  have hfl : (Frst.cons ByteArray.empty none (nodeAt N 0).kind (nodeAt N 0).text false (kidsF N 101 0) .nil).flat 0 = { mkNode (nodeAt N 0).kind (nodeAt N 0).text (kidsF N 101 0).keysOf ((kidsF N 101 0).ids 1) with high := (kidsF N 101 0).hi + 1, heavy := (kidsF N 101 0).hv 1 } :: (kidsF N 101 0).flat 1 := by
    simp [Frst.flat]
  refine ⟨?_, ?_, trivial, ?_, plain_tree htree (by omega)⟩
  · rw [hfl, ← k4]; rfl
  · rw [Frst.flat_len]; simp only [Frst.size]; omega
  · rw [hfl]
    show (kidsF N 101 0).hv 1 = _
    rw [Frst.hv_size _ 1 (by omega)]
    omega

end Go.Proofs.YtkflkmmbakccoaaGreatDoor

/- WALKS: package grafterkeep: Weighs. -/
namespace Go.Proofs.YtkflkmmbakccoaaGreatDoor
open Go.RowKit Go.Maps

theorem unfV_yes {N : List NodeV} {z : ByteArray} (hz : z = ⟨(unfoldL N 0).toArray⟩) {m : Int} (h : (z.size : Int) ≤ m) : unfV N m = .tuple #[.string z, .int .i64 0] := by
  unfold unfV
  rw [if_pos (by rw [hz] at h; simpa [ByteArray.size] using h), hz]
theorem unfV_no {N : List NodeV} {z : ByteArray} (hz : z = ⟨(unfoldL N 0).toArray⟩) {m : Int} (h : m < (z.size : Int)) : unfV N m = .tuple #[.string ⟨#[]⟩, .int .i64 9] := by
  unfold unfV
  rw [if_neg (by rw [hz] at h; simp [ByteArray.size] at h; omega)]

set_option maxRecDepth 20000 in
set_option maxHeartbeats 4000000 in
theorem kWeighs_any (s : ByteArray) (hs : s.size ≤ 9223372036854775807) (cut : Int) (hc : -9223372036854775808 ≤ cut ∧ cut ≤ 9223372036854775807) (w : World) (N0 : Nat) (hT : TabW N0 w) (hN0 : N0 ≤ w.heap.size)
    (HK : Hid (Calls Tryz.prog 13 #[] w fun e w' => e = .returned (.bool true) ∧ But [] w w')) :
    Calls Tryz.prog 11 #[.string s, .int .i64 cut] w fun e w' => e = .returned (.bool true) ∧ But [] w w' := by
  have HT : Hid _ := hT
  clear hT
  go_enter Tryz.func11, Tryz.ntmps11
  go_wp2_with fail
  refine Calls.mono HK.out ?_
  rintro e w1 ⟨rfl, hb1⟩
  have HR : Hid _ := kRead_any s hs w1
  go_wp2_with fail
  refine Calls.mono HR.out ?_
  intro e w2 hp
  cases hm : loadM s maxB with
  | bad er pl =>
    rw [hm] at hp
    obtain ⟨rfl, hb2⟩ := hp
    clear hm HR
    go_wp2_with fail
    go_ret
    exact ⟨rfl, hb1.trans hb2 (by simp)⟩
  | ok u t =>
    rw [hm] at hp
    obtain ⟨E, nv, rows, d, rfl, hI, hr, hd, hb2⟩ := hp
    obtain ⟨hWh, hpos, hh0, _, _, hdep, _, _⟩ := load_all hm
    obtain ⟨_, _, _, hwt⟩ := load_ok hm
    have HM : Hid (∀ W, But [] w2 W → Calls Tryz.prog 15 #[.pointer (some ⟨d, 0, none⟩)] W fun e w' => e = .returned (budV (measM t)) ∧ But [] W w') := fun W hW => dMeasure_any E t nv rows W (hI.frame hW (by simp)) hr d (hW.blk hd (by simp))
    have hB2 : But [] w w2 := hb1.trans hb2 (by simp)
    have HU : Hid (∀ W, But [] w2 W → ∀ most : Int, -9223372036854775808 ≤ most → most ≤ 9223372036854775807 → Calls Tryz.prog 24 #[.pointer (some ⟨d, 0, none⟩), .int .i64 most] W fun e w' => e = .returned (unfV t.nodes (mostM most)) ∧ But [] W w') := fun W hW most h1 h2 =>
      dUnfold_any E t nv rows W (hI.frame hW (by simp)) hr hWh N0 (HT.out.below ((hB2.trans hW (by simp)).below hN0 (by simp))) (Nat.le_trans hN0 (hB2.trans hW (by simp)).size) d (hW.blk hd (by simp)) most h1 h2
    obtain ⟨z, hz⟩ : ∃ z : ByteArray, z = ⟨(unfoldL t.nodes 0).toArray⟩ := ⟨_, rfl⟩
    have hzl : z.size = (unfoldL t.nodes 0).length := by rw [hz]; simp [ByteArray.size]
    have hlen : (heavyOf t.nodes 0) ≤ 100 → z.size ≤ 20000 := fun h => by
      have := unf_len hWh 101 0 hpos (by have := hWh.high 0; omega) (by omega)
      have e : unfoldL t.nodes 0 = unfM t.nodes 101 0 := rfl
      rw [hzl, e]
      omega
    have HA : Hid (heavyOf t.nodes 0 ≤ 500 → z.size ≤ 1000 → ∃ t2, loadM z maxB = .ok () t2 ∧ measM t2 = ⟨(highOf t.nodes 0 : Int), (heavyOf t.nodes 0 : Int), 0, (heavyOf t.nodes 0 : Int)⟩ ∧ plainM t2.nodes 0 = unfoldL t.nodes 0) := fun h1 h2 => by
      obtain ⟨t2, e1, e2, e3, e4, e5, e6⟩ := unf_read hWh hpos (by simpa [maxB] using hdep) h1 (B := maxB) rfl rfl
      refine ⟨t2, load_of (by decide) h2 (by rw [hz]; exact e1) (by rw [e5]; simp only [maxB]; omega), ?_, e6⟩
      unfold measM
      rw [e2, e3, e4, e5]
      rfl
    have hme : measM t = ⟨(highOf t.nodes 0 : Int), (t.nodes.length : Int), (t.anchors : Int), (heavyOf t.nodes 0 : Int)⟩ := rfl
    simp only [maxB] at hwt
    rw [hme] at HM
    have HUZ : Hid (z = ⟨(unfoldL t.nodes 0).toArray⟩) := hz
    clear hme hm HR hI hd hr hdep hb1 hb2 hzl hz HK
    generalize hhv : heavyOf t.nodes 0 = hv at *
    generalize hhi : highOf t.nodes 0 = hi at *
    generalize t.nodes.length = nn at *
    generalize t.anchors = an at *
    clear hhv hhi hh0 hpos
    have HB2 : Hid _ := hB2
    clear hB2
    have HM2 : Hid _ := HM.out w2 (But.refl [] w2)
    go_wp2_with fail
    refine Calls.mono HM2.out ?_
    rintro e w3 ⟨rfl, hb3⟩
    have hb4 : But [] w2 (w3.alloc (.cells #[.int .i64 (hi : Int), .int .i64 (nn : Int), .int .i64 (an : Int), .int .i64 (hv : Int)] 29)) := hb3.alloc _
    have hB4 : Blk (w3.alloc (.cells #[.int .i64 (hi : Int), .int .i64 (nn : Int), .int .i64 (an : Int), .int .i64 (hv : Int)] 29)) w3.heap.size #[.int .i64 (hi : Int), .int .i64 (nn : Int), .int .i64 (an : Int), .int .i64 (hv : Int)] 29 := blk_new _ _ _
    have HU4 : Hid _ := HU.out (w3.alloc (.cells #[.int .i64 (hi : Int), .int .i64 (nn : Int), .int .i64 (an : Int), .int .i64 (hv : Int)] 29)) hb4 20005 (by omega) (by omega)
    clear HM2 HM hb3
    have hmo : mostM 20005 = 20000 := by decide
    rw [hmo] at HU4
    clear hmo
    by_cases hz2 : z.size ≤ 20000
    · rw [unfV_yes HUZ.out (by omega)] at HU4
      go_wp2_with fail
      refine Calls.mono HU4.out ?_
      rintro e w5 ⟨rfl, hb5⟩
      have hB5 := hb5.blk hB4 (by simp)
      have hb25 : But [] w2 w5 := hb4.trans hb5 (by simp)
      have HPK : Hid _ := kPick_any cut ((z.size : Int) + 3) hc (by omega) w5
      have hpk := pickM_bd (c := cut) (n := (z.size : Int) + 3) (by omega)
      generalize pickM cut ((z.size : Int) + 3) = pk at *
      clear hb4 hB4 hb5 HU4
      go_wp2_with fail
      refine Calls.mono HPK.out ?_
      rintro e w6 ⟨rfl, hw6⟩
      rw [hw6]
      clear hw6 HPK
      have HU5 : Hid _ := HU.out w5 hb25 pk (by omega) (by omega)
      clear HU
      by_cases hzk : (z.size : Int) ≤ pk
      · rw [unfV_yes HUZ.out (by unfold mostM; split <;> omega)] at HU5
        go_wp2_with fail
        refine Calls.mono HU5.out ?_
        rintro e w7 ⟨rfl, hb7⟩
        have hB7 := hb7.blk hB5 (by simp)
        have y0 := hB7.cell (i := 0) rfl
        have y3 := hB7.cell (i := 3) rfl
        have hb27 : But [] w2 w7 := hb25.trans hb7 (by simp)
        clear HU5 hb7 hB5 hb25 hlen
        by_cases hz3 : 1000 < z.size
        · go_wp2_with fail
          go_ret
          exact ⟨rfl, HB2.out.trans hb27 (by simp)⟩
        · by_cases hv3 : 500 < hv
          · go_wp2_with fail
            go_ret
            exact ⟨rfl, HB2.out.trans hb27 (by simp)⟩
          · obtain ⟨t2, a1, a2, a3⟩ := HA.out (by omega) (by omega)
            have HR : Hid _ := kRead_any z (by omega) w7
            have HA1 : Hid _ := a1
            have HA2 : Hid _ := a2
            have HA3 : Hid (⟨(plainM t2.nodes 0).toArray⟩ = z) := by unfold Hid; rw [a3, HUZ.out]
            have HW2 : Hid _ := load_whole2 a1
            clear a1 a2 a3 HA
            go_wp2_with fail
            refine Calls.mono HR.out ?_
            intro e w8 hp
            rw [HA1.out] at hp
            obtain ⟨E2, nv2, rows2, dd, rfl, hI2, hr2, hd2, hb8⟩ := hp
            have hB8 := hb8.blk hB7 (by simp)
            have hb28 : But [] w2 w8 := hb27.trans hb8 (by simp)
            have hBw8 : But [] w w8 := HB2.out.trans hb28 (by simp)
            have HM8 : Hid _ := dMeasure_any E2 t2 nv2 rows2 w8 hI2 hr2 dd hd2
            rw [HA2.out] at HM8
            have HP8 : Hid (∀ W, But [] w8 W → Calls Tryz.prog 19 #[.pointer (some ⟨dd, 0, none⟩)] W fun e w' => e = .returned (.string z) ∧ But [] W w') := fun W hW => by
              have := dPlain_any E2 t2 nv2 rows2 W (hI2.frame hW (by simp)) hr2 HW2.out N0 (HT.out.below ((hBw8.trans hW (by simp)).below hN0 (by simp))) (Nat.le_trans hN0 (hBw8.trans hW (by simp)).size) dd (hW.blk hd2 (by simp))
              rw [HA3.out] at this
              exact this
            clear HR HA1 HA2 HA3 HW2 hI2 hr2 hd2 y0 y3 hB7 hb27 hb8
            go_wp2_with fail
            refine Calls.mono HM8.out ?_
            rintro e w9 ⟨rfl, hb9⟩
            have hb9a : But [] w8 (w9.alloc (.cells #[.int .i64 (hi : Int), .int .i64 (hv : Int), .int .i64 0, .int .i64 (hv : Int)] 29)) := hb9.alloc _
            have hB9 : Blk (w9.alloc (.cells #[.int .i64 (hi : Int), .int .i64 (hv : Int), .int .i64 0, .int .i64 (hv : Int)] 29)) w9.heap.size #[.int .i64 (hi : Int), .int .i64 (hv : Int), .int .i64 0, .int .i64 (hv : Int)] 29 := blk_new _ _ _
            have hB9m := hb9a.blk hB8 (by simp)
            have HP9 : Hid _ := HP8.out _ hb9a
            clear HM8 HP8 hb9 hB8
            go_wp2_with fail
            refine Calls.mono HP9.out ?_
            rintro e w10 ⟨rfl, hb10⟩
            have hB10 := hb10.blk hB9 (by simp)
            have hB10m := hb10.blk hB9m (by simp)
            have HB10 : Hid (But [] w w10) := (hBw8.trans hb9a (by simp)).trans hb10 (by simp)
            have y0 := hB10m.cell (i := 0) rfl
            have y3 := hB10m.cell (i := 3) rfl
            have n0 := hB10.cell (i := 0) rfl
            have n1 := hB10.cell (i := 1) rfl
            have n2 := hB10.cell (i := 2) rfl
            have n3 := hB10.cell (i := 3) rfl
            clear HP9 hb9a hB9 hB9m hb10 hB10 hB10m hBw8 hb28 HB2 HT HUZ
            go_wp2_with fail
            go_ret
            exact ⟨rfl, HB10.out⟩
      · rw [unfV_no HUZ.out (by unfold mostM; split <;> omega)] at HU5
        go_wp2_with fail
        refine Calls.mono HU5.out ?_
        rintro e w7 ⟨rfl, hb7⟩
        have hB7 := hb7.blk hB5 (by simp)
        have y0 := hB7.cell (i := 0) rfl
        have y3 := hB7.cell (i := 3) rfl
        have hb27 : But [] w2 w7 := hb25.trans hb7 (by simp)
        clear HU5 hb7 hB5 hb25 hlen
        by_cases hz3 : 1000 < z.size
        · go_wp2_with fail
          go_ret
          exact ⟨rfl, HB2.out.trans hb27 (by simp)⟩
        · by_cases hv3 : 500 < hv
          · go_wp2_with fail
            go_ret
            exact ⟨rfl, HB2.out.trans hb27 (by simp)⟩
          · obtain ⟨t2, a1, a2, a3⟩ := HA.out (by omega) (by omega)
            have HR : Hid _ := kRead_any z (by omega) w7
            have HA1 : Hid _ := a1
            have HA2 : Hid _ := a2
            have HA3 : Hid (⟨(plainM t2.nodes 0).toArray⟩ = z) := by unfold Hid; rw [a3, HUZ.out]
            have HW2 : Hid _ := load_whole2 a1
            clear a1 a2 a3 HA
            go_wp2_with fail
            refine Calls.mono HR.out ?_
            intro e w8 hp
            rw [HA1.out] at hp
            obtain ⟨E2, nv2, rows2, dd, rfl, hI2, hr2, hd2, hb8⟩ := hp
            have hB8 := hb8.blk hB7 (by simp)
            have hb28 : But [] w2 w8 := hb27.trans hb8 (by simp)
            have hBw8 : But [] w w8 := HB2.out.trans hb28 (by simp)
            have HM8 : Hid _ := dMeasure_any E2 t2 nv2 rows2 w8 hI2 hr2 dd hd2
            rw [HA2.out] at HM8
            have HP8 : Hid (∀ W, But [] w8 W → Calls Tryz.prog 19 #[.pointer (some ⟨dd, 0, none⟩)] W fun e w' => e = .returned (.string z) ∧ But [] W w') := fun W hW => by
              have := dPlain_any E2 t2 nv2 rows2 W (hI2.frame hW (by simp)) hr2 HW2.out N0 (HT.out.below ((hBw8.trans hW (by simp)).below hN0 (by simp))) (Nat.le_trans hN0 (hBw8.trans hW (by simp)).size) dd (hW.blk hd2 (by simp))
              rw [HA3.out] at this
              exact this
            clear HR HA1 HA2 HA3 HW2 hI2 hr2 hd2 y0 y3 hB7 hb27 hb8
            go_wp2_with fail
            refine Calls.mono HM8.out ?_
            rintro e w9 ⟨rfl, hb9⟩
            have hb9a : But [] w8 (w9.alloc (.cells #[.int .i64 (hi : Int), .int .i64 (hv : Int), .int .i64 0, .int .i64 (hv : Int)] 29)) := hb9.alloc _
            have hB9 : Blk (w9.alloc (.cells #[.int .i64 (hi : Int), .int .i64 (hv : Int), .int .i64 0, .int .i64 (hv : Int)] 29)) w9.heap.size #[.int .i64 (hi : Int), .int .i64 (hv : Int), .int .i64 0, .int .i64 (hv : Int)] 29 := blk_new _ _ _
            have hB9m := hb9a.blk hB8 (by simp)
            have HP9 : Hid _ := HP8.out _ hb9a
            clear HM8 HP8 hb9 hB8
            go_wp2_with fail
            refine Calls.mono HP9.out ?_
            rintro e w10 ⟨rfl, hb10⟩
            have hB10 := hb10.blk hB9 (by simp)
            have hB10m := hb10.blk hB9m (by simp)
            have HB10 : Hid (But [] w w10) := (hBw8.trans hb9a (by simp)).trans hb10 (by simp)
            have y0 := hB10m.cell (i := 0) rfl
            have y3 := hB10m.cell (i := 3) rfl
            have n0 := hB10.cell (i := 0) rfl
            have n1 := hB10.cell (i := 1) rfl
            have n2 := hB10.cell (i := 2) rfl
            have n3 := hB10.cell (i := 3) rfl
            clear HP9 hb9a hB9 hB9m hb10 hB10 hB10m hBw8 hb28 HB2 HT HUZ
            go_wp2_with fail
            go_ret
            exact ⟨rfl, HB10.out⟩
    · rw [unfV_no HUZ.out (by omega)] at HU4
      have h100 : 100 < hv := by
        by_cases h : hv ≤ 100
        · exact absurd (hlen h) hz2
        · omega
      clear hlen hz2
      go_wp2_with fail
      refine Calls.mono HU4.out ?_
      rintro e w5 ⟨rfl, hb5⟩
      have hB5 := hb5.blk hB4 (by simp)
      have y3 := hB5.cell (i := 3) rfl
      have HB5 : Hid (But [] w w5) := HB2.out.trans (hb4.trans hb5 (by simp)) (by simp)
      clear hb4 hB4 hb5 hB5 HU4 HU HB2
      go_wp2_with fail
      go_ret
      exact ⟨ret_bool (decide_eq_true (by omega)), HB5.out⟩

end Go.Proofs.YtkflkmmbakccoaaGreatDoor

/- THE STATEMENTS' GROUND: the laid table, where no error is laid. -/
namespace Go.Proofs.YtkflkmmbakccoaaGreatDoor
open Go.ChangeShapes Go.WideShapes Go.ChangeAt Go.WideElems Go.RowKit Go.Deep

set_option maxRecDepth 100000 in
theorem tabw_of_laid {W : World} (h : laidMetH Tryz.prog Rows.leastRow.laid W) : TabW W.heap.size W := by
  have h0 : laidMet Tryz.prog Rows.leastRow.laid W := by
    rw [MakeChecks.laidMetH_plain _ _ _ (by kernel_rfl)] at h
    exact h
  have h1 : laidMet Tryz.prog [("internal/strconv.uint64pow10", Lib.tabData .u64 Lib.pow10Tab)] W := by
    rw [← pow_data]
    exact h0.tail.tail
  have p1 : Lib.TabIs Tryz.prog W "internal/strconv.uint64pow10" .u64 Lib.pow10Tab := Lib.tabIs_of_head g_pow (t := 220) (e := 191) (n := 20) (by kernel_rfl) (by kernel_rfl) (by kernel_rfl) (by kernel_rfl) (by kernel_rfl) h1
  exact ⟨p1, var_lt g_pow p1⟩

/-- The door's own heap meets the condition. -/
theorem doorW_met (os : Os) (args : Array Value) : laidMetH Tryz.prog Rows.leastRow.laid ((World.doorLaid Tryz.prog 4000 os).forCall (fun _ _ => 0) ⟨#[], args, []⟩).memory :=
  laidMetH_of_parts3 (fuel := 8) (laidMet_of_run' 8 (by kernel_rfl) (by kernel_rfl)) (by kernel_rfl) (by kernel_rfl)

theorem maxLen_le : maxLen ≤ 9223372036854775807 := by decide

end Go.Proofs.YtkflkmmbakccoaaGreatDoor
