/- PARTS: Mod17, Mod18. -/
import Derived.Test.YtkflkmmbakccoaaGreatDoorJ17

/- THE PLAIN FUNCTIONS: the reader reads what is written in one line. No program is named here. -/
namespace Go.Proofs.YtkflkmmbakccoaaGreatDoor

/-- A value in a line. -/
def valT (kind : Nat) (text : ByteArray) (inner : List UInt8) : List UInt8 := if kind = 0 then textL text else if kind = 1 then 91 :: (inner ++ [93]) else 123 :: (inner ++ [125])

theorem itemT_val (nm : Option ByteArray) (kind : Nat) (text : ByteArray) (inner : List UInt8) (h : kind ≠ 3) : itemT nm kind text inner = (match nm with
  | none => []
  | some x => 38 :: (x.data.toList ++ [32])) ++ valT kind text inner := by
  unfold itemT valT
  rw [if_neg h]
  cases nm <;> rfl

/-- The rounds inside brackets read these items. -/
def InLaw (s : ByteArray) (B : Bud) (sep : List UInt8) (F : Frst) : Prop :=
  ∀ (f : Nat) (lv : Int) (m : Bool) (keys : List ByteArray) (parts : List Nat) (n : Nat) (t : PS) (k : Nat), F ≠ .nil → F.hgt ≤ f → F.len ≤ n → F.fits B lv t →
    (m = true → (∀ x ∈ F.keysOf, TokOk x) ∧ (keys ++ F.keysOf).Nodup) → skipBl s t.k = k → At s k (F.txt sep m true ++ [if m then 125 else 93]) →
    inLoop s (flowM s B f lv) m (if m then 12 else 10) n keys parts t = .ok (keys ++ (if m then F.keysOf else []), parts ++ (F.run t).1) { (F.run t).2 with k := k + (F.txt sep m true).length + 1 }

section
variable {s : ByteArray} {B : Bud} {sep : List UInt8}

theorem brackets_at {kids : Frst} (hin : kids ≠ .nil → InLaw s B sep kids) {f : Nat} {lv : Int} {m : Bool} {t : PS} (hf : kids.hgt ≤ f) (hfit : kids.fits B lv t) (hk : m = true → (∀ x ∈ kids.keysOf, TokOk x) ∧ kids.keysOf.Nodup)
    (h : At s (t.k + 1) (kids.txt sep m true ++ [if m then 125 else 93])) :
    bracketsM s (flowM s B f lv) m (if m then 12 else 10) t = .ok (if m then kids.keysOf else [], (kids.run t).1) { (kids.run t).2 with k := t.k + 1 + (kids.txt sep m true).length + 1 } := by
  unfold bracketsM
  simp only
  by_cases hn : kids = .nil
  · subst hn
    simp only [Frst.txt, List.nil_append] at h
    obtain ⟨h1, h2, _⟩ := h.head
    have hsk : skipBl s (t.k + 1) = t.k + 1 := skip_at (by rw [h2]; cases m <;> decide)
    rw [hsk, if_pos (by rw [kindAt_byte h1 h2]; cases m <;> rfl)]
    cases m <;> rfl
  · obtain ⟨a, b⟩ := txt_first hn h
    have hsk : skipBl s (t.k + 1) = t.k + 1 := skip_at a
    have hl := h.le (by simp)
    have hlen := Frst.len_txt sep kids m true
    simp only [List.length_append, List.length_cons, List.length_nil] at hl
    rw [hsk, if_neg (by cases m <;> simp <;> omega)]
    rw [hin hn f lv m [] [] (s.size + 1) { t with k := t.k + 1 } (t.k + 1) hn hf (by omega) (Frst.fits_k1 _ hfit) (fun e => by simpa using hk e) hsk h]
    rw [Frst.run_k1]
    simp

theorem value_at {kids : Frst} (hin : kids ≠ .nil → InLaw s B sep kids) {kind : Nat} {text : ByteArray} {f id : Nat} {lv : Int} {t : PS} {k : Nat} (hk2 : kind ≤ 2) (h0 : kind = 0 → TokOk text ∧ kids = .nil) (hk : kind = 2 → (∀ x ∈ kids.keysOf, TokOk x) ∧ kids.keysOf.Nodup)
    (hf : kids.hgt ≤ f) (hfit : kids.fits B (lv + 1) t) (hs : skipBl s t.k = k) (h : At s k (valT kind text (kids.txt sep (kind == 2) true))) (hw : isWB (byteAt s (k + (valT kind text (kids.txt sep (kind == 2) true)).length)) = false) :
    valueS s (flowM s B f) id lv t = .ok () { endM id (mkNode kind text kids.keysOf (kids.run t).1) (kids.run t).2 with k := k + (valT kind text (kids.txt sep (kind == 2) true)).length } := by
  unfold valueS
  simp only
  rw [hs]
  have hkk : kind = 0 ∨ kind = 1 ∨ kind = 2 := by omega
  rcases hkk with rfl | rfl | rfl
  · obtain ⟨ht, rfl⟩ := h0 rfl
    simp only [valT, if_true] at h hw ⊢
    obtain ⟨a, b, c⟩ := text_at ht h hw
    rw [if_pos a, readM_at (k := k) (by show skipBl s k = k; rw [← hs, skipBl_idem]) b]
    rfl
  · simp only [valT, if_neg (show ¬ (1 : Nat) = 0 by omega), if_true] at h hw ⊢
    obtain ⟨h1, h2, h3⟩ := At.head (show At s k (91 :: _) from h)
    have hkd : kindAt s k = 9 := by rw [kindAt_byte h1 h2]; rfl
    rw [if_neg (by omega), if_pos hkd]
    have e := brackets_at (m := false) (t := { t with k := k }) hin hf (Frst.fits_k1 k hfit) (fun e => by cases e) h3
    simp only [Bool.false_eq_true, if_false] at e
    rw [e, Res.bind_ok, Frst.run_k1]
    simp only [List.length_cons, List.length_append, List.length_nil]
    rw [show k + 1 + (kids.txt sep false true).length + 1 = k + ((kids.txt sep (1 == 2) true).length + (0 + 1) + 1) by show _ = k + ((kids.txt sep false true).length + (0 + 1) + 1); omega]
    rfl
  · simp only [valT, if_neg (show ¬ (2 : Nat) = 0 by omega), if_neg (show ¬ (2 : Nat) = 1 by omega)] at h hw ⊢
    obtain ⟨h1, h2, h3⟩ := At.head (show At s k (123 :: _) from h)
    have hkd : kindAt s k = 11 := by rw [kindAt_byte h1 h2]; rfl
    rw [if_neg (by omega), if_neg (by omega), if_pos hkd]
    have e := brackets_at (m := true) (t := { t with k := k }) hin hf (Frst.fits_k1 k hfit) (fun _ => hk rfl) h3
    simp only [if_true] at e
    rw [e, Res.bind_ok, Frst.run_k1]
    simp only [List.length_cons, List.length_append, List.length_nil]
    rw [show k + 1 + (kids.txt sep true true).length + 1 = k + ((kids.txt sep (2 == 2) true).length + (0 + 1) + 1) by show _ = k + ((kids.txt sep true true).length + (0 + 1) + 1); omega]
    rfl

theorem beginM_go {lv : Int} {t : PS} (h1 : lv ≤ B.depth) (h2 : (t.nodes.length : Int) < B.nodes) : beginM B lv t = .ok t.nodes.length { t with nodes := t.nodes ++ [NodeV.blank] } := by
  unfold beginM
  rw [if_neg (by omega), if_neg (by omega)]

theorem isWB_32 : isWB 32 = false := by decide

/-- A name, and what stands behind it. -/
theorem named_at {x : ByteArray} {lv : Int} {rest : Nat → PS → Res Unit} {t t' : PS} (hx : isWordB x = true) (h1 : lv ≤ B.depth) (h2 : (t.nodes.length : Int) < B.nodes) (h3 : (t.anchors : Int) < B.anchors) (h : At s t.k (38 :: (x.data.toList ++ [32])))
    (hr : rest t.nodes.length { begun (some x) t with k := t.k + 1 + x.data.toList.length } = .ok () t') :
    namedM s B lv rest t = .ok t.nodes.length { t' with names := (x, t.nodes.length) :: t'.names } := by
  unfold namedM
  rw [beginM_go h1 h2, Res.bind_ok]
  simp only
  rw [if_neg (by omega)]
  obtain ⟨_, _, g3⟩ := h.head
  obtain ⟨g4, g5⟩ := g3.app
  obtain ⟨_, g6, _⟩ := g5.head
  obtain ⟨a, b, c⟩ := word_at hx g4 (by rw [g6]; decide)
  rw [wordM_at (k := t.k + 1) (skip_at c) a b, Res.bind_ok]
  have e : ({ t with k := t.k + 1 + x.data.toList.length, nodes := t.nodes ++ [NodeV.blank], anchors := t.anchors + 1 } : PS) = { begun (some x) t with k := t.k + 1 + x.data.toList.length } := rfl
  rw [e, hr]
  rfl

/-- The first number of an item. -/
def idOf (kind : Nat) (text : ByteArray) (t : PS) : Nat := if kind = 3 then (lookM t.names text).getD 0 else t.nodes.length

/-- Where the reader stands behind an item. -/
def after (nm : Option ByteArray) (kind : Nat) (text : ByteArray) (kids : Frst) (t : PS) : PS :=
  if kind = 3 then t else ended nm t.nodes.length (mkNode kind text kids.keysOf (kids.run (begun nm t)).1) (kids.run (begun nm t)).2

theorem run_cons (key : ByteArray) (nm : Option ByteArray) (kind : Nat) (text : ByteArray) (blw : Bool) (kids rest : Frst) (t : PS) :
    (Frst.cons key nm kind text blw kids rest).run t = (idOf kind text t :: (rest.run (after nm kind text kids t)).1, (rest.run (after nm kind text kids t)).2) := by
  rw [Frst.run]
  unfold idOf after
  by_cases h : kind = 3
  · rw [if_pos h, if_pos h, if_pos h]
  · rw [if_neg h, if_neg h, if_neg h]

/-- Nothing bars the reader from an item. -/
def fitsI (B : Bud) (nm : Option ByteArray) (kind : Nat) (text : ByteArray) (kids : Frst) (lv : Int) (t : PS) : Prop :=
    (kind = 3 → nm = none ∧ isWordB text = true ∧ (∃ i, lookM t.names text = some i ∧ lv + (highOf t.nodes i : Int) - 1 ≤ B.depth)) ∧
    (kind ≠ 3 → lv ≤ B.depth ∧ (t.nodes.length : Int) < B.nodes ∧ (∀ x, nm = some x → isWordB x = true ∧ (t.anchors : Int) < B.anchors) ∧ kind ≤ 2 ∧ (kind = 0 → TokOk text ∧ kids = .nil) ∧
      (kind = 2 → (∀ x ∈ kids.keysOf, TokOk x) ∧ kids.keysOf.Nodup) ∧ kids.fits B (lv + 1) (begun nm t))

theorem fits_cons {key : ByteArray} {nm : Option ByteArray} {kind : Nat} {text : ByteArray} {blw : Bool} {kids rest : Frst} {lv : Int} {t : PS} :
    (Frst.cons key nm kind text blw kids rest).fits B lv t ↔ fitsI B nm kind text kids lv t ∧ rest.fits B lv (after nm kind text kids t) := by
  rw [Frst.fits]
  unfold fitsI after
  by_cases h3 : kind = 3
  · rw [if_pos h3]
    constructor
    · intro h
      obtain ⟨a, b, c, d⟩ := h.1 h3
      exact ⟨⟨fun _ => ⟨a, b, c⟩, fun h => absurd h3 h⟩, d⟩
    · intro h
      obtain ⟨a, b, c⟩ := h.1.1 h3
      exact ⟨fun _ => ⟨a, b, c, h.2⟩, fun h => absurd h3 h⟩
  · rw [if_neg h3]
    constructor
    · intro h
      obtain ⟨a, b, c, d, e, f, g, i⟩ := h.2 h3
      exact ⟨⟨fun h => absurd h h3, fun _ => ⟨a, b, c, d, e, f, g⟩⟩, i⟩
    · intro h
      obtain ⟨a, b, c, d, e, f, g⟩ := h.1.2 h3
      exact ⟨fun h => absurd h h3, fun _ => ⟨a, b, c, d, e, f, g, h.2⟩⟩

theorem fitsI_k {nm : Option ByteArray} {kind : Nat} {text : ByteArray} {kids : Frst} {lv : Int} {t : PS} (a b : Nat) (h : fitsI B nm kind text kids lv t) : fitsI B nm kind text kids lv { t with k := a, ind := b } := by
  have := Frst.fits_k B (.cons ByteArray.empty nm kind text false kids .nil) lv t a b (fits_cons.2 ⟨h, trivial⟩)
  exact (fits_cons.1 this).1

theorem after_k (nm : Option ByteArray) (kind : Nat) (text : ByteArray) (kids : Frst) (t : PS) (a b : Nat) : after nm kind text kids { t with k := a, ind := b } = { after nm kind text kids t with k := a, ind := b } := by
  have := Frst.run_k (.cons ByteArray.empty nm kind text false kids .nil) t a b
  rw [run_cons, run_cons] at this
  exact congrArg (fun r : List Nat × PS => r.2) this

theorem after_ind (nm : Option ByteArray) (kind : Nat) (text : ByteArray) (kids : Frst) (t : PS) : (after nm kind text kids t).ind = t.ind := by
  have h := congrArg PS.ind (after_k nm kind text kids t t.k t.ind)
  exact h

theorem after_k1 (nm : Option ByteArray) (kind : Nat) (text : ByteArray) (kids : Frst) (t : PS) (a : Nat) : after nm kind text kids { t with k := a } = { after nm kind text kids t with k := a } := by
  have h := after_k nm kind text kids t a t.ind
  have e := after_ind nm kind text kids t
  rw [show ({ t with k := a } : PS) = { t with k := a, ind := t.ind } from rfl, h]
  cases hr : after nm kind text kids t
  rw [hr] at e
  simp only at e
  subst e
  rfl

/-- The value that stands behind a name, or with none. -/
theorem val_at {kids : Frst} (hin : kids ≠ .nil → InLaw s B sep kids) {nm : Option ByteArray} {kind : Nat} {text : ByteArray} {f : Nat} {lv : Int} {t u : PS} {k : Nat} (h3 : kind ≠ 3) (hfit : fitsI B nm kind text kids lv t) (hf : kids.hgt ≤ f) (a : Nat) (hu : u = { begun nm t with k := a })
    (hs : skipBl s a = k) (h : At s k (valT kind text (kids.txt sep (kind == 2) true))) (hw : isWB (byteAt s (k + (valT kind text (kids.txt sep (kind == 2) true)).length)) = false) :
    valueS s (flowM s B f) t.nodes.length lv u = .ok () { endM t.nodes.length (mkNode kind text kids.keysOf (kids.run (begun nm t)).1) (kids.run (begun nm t)).2 with k := k + (valT kind text (kids.txt sep (kind == 2) true)).length } := by
  obtain ⟨_, _, _, g4, g5, g6, g7⟩ := hfit.2 h3
  subst hu
  rw [value_at hin g4 g5 g6 hf (Frst.fits_k1 a g7) hs h hw, Frst.run_k1]
  rfl

/-- One item in a line is read. -/
theorem item_at {kids : Frst} (hin : kids ≠ .nil → InLaw s B sep kids) {nm : Option ByteArray} {kind : Nat} {text : ByteArray} {f : Nat} {lv : Int} {t : PS} {k : Nat} (hf : kind ≠ 3 → kids.hgt + 1 ≤ f) (hfit : fitsI B nm kind text kids lv t)
    (hs : skipBl s t.k = k) (h : At s k (itemT nm kind text (kids.txt sep (kind == 2) true))) (hw : isWB (byteAt s (k + (itemT nm kind text (kids.txt sep (kind == 2) true)).length)) = false) :
    flowM s B f lv t = .ok (idOf kind text t) { after nm kind text kids t with k := k + (itemT nm kind text (kids.txt sep (kind == 2) true)).length } := by
  by_cases h3 : kind = 3
  · obtain ⟨rfl, hword, i, hi, hd⟩ := hfit.1 h3
    unfold itemT at h hw ⊢
    simp only [h3, if_true, List.nil_append] at h hw ⊢
    obtain ⟨g1, g2, g4⟩ := h.head
    have hkd : kindAt s k = 7 := by rw [kindAt_byte g1 g2]; rfl
    obtain ⟨a, b, c⟩ := word_at hword g4 (by rw [List.length_cons] at hw; rw [show k + 1 + text.data.toList.length = k + (text.data.toList.length + 1) by omega]; exact hw)
    have key : flowM s B f lv t = aliasM s B lv { t with k := k } := by
      cases f with
      | zero => unfold flowM flowS; simp only; rw [hs, if_pos hkd]
      | succ f => unfold flowM flowS; simp only; rw [hs, if_pos hkd]
    rw [key]
    unfold aliasM
    rw [wordM_at (k := k + 1) (skip_at c) a b, Res.bind_ok]
    simp only
    rw [hi]
    simp only
    rw [if_neg (by omega)]
    unfold idOf after
    rw [if_pos rfl, if_pos rfl, hi]
    simp only [Option.getD_some, List.length_cons]
    rw [show k + 1 + text.data.toList.length = k + (text.data.toList.length + 1) by omega]
  · obtain ⟨f, rfl⟩ : ∃ g, f = g + 1 := ⟨f - 1, by have := hf h3; omega⟩
    have hf' : kids.hgt ≤ f := by have := hf h3; omega
    obtain ⟨g1, g2, g3, _⟩ := hfit.2 h3
    rw [itemT_val _ _ _ _ h3] at h hw ⊢
    unfold idOf
    rw [if_neg h3]
    cases nm with
    | none =>
      simp only [List.nil_append] at h hw ⊢
      have hfst : At s k (itemT none kind text (kids.txt sep (kind == 2) true) ++ []) := by rw [itemT_val _ _ _ _ h3, List.append_nil]; exact h
      obtain ⟨p1, _⟩ := item_first hfst
      have p2 : kindAt s k = 2 ∨ kindAt s k = 3 ∨ kindAt s k = 9 ∨ kindAt s k = 11 := by
        obtain ⟨_, _, _, g4, _⟩ := hfit.2 h3
        have hkk : kind = 0 ∨ kind = 1 ∨ kind = 2 := by omega
        unfold valT at h
        rcases hkk with rfl | rfl | rfl
        · rw [if_pos rfl] at h
          have q := (text_first (w := []) (by rw [List.append_nil]; exact h)).1
          omega
        · obtain ⟨q1, q2, _⟩ := At.head (show At s k (91 :: _) from h)
          rw [kindAt_byte q1 q2]; exact .inr (.inr (.inl rfl))
        · obtain ⟨q1, q2, _⟩ := At.head (show At s k (123 :: _) from h)
          rw [kindAt_byte q1 q2]; exact .inr (.inr (.inr rfl))
      unfold flowM flowS
      simp only
      rw [hs, if_neg (by omega), if_neg (by omega), if_pos p2, beginM_go (t := { t with k := k }) g1 g2, Res.bind_ok]
      have hv := val_at hin (nm := none) (t := t) h3 hfit hf' k rfl (by rw [← hs, skipBl_idem]) h hw
      show (valueS s (flowM s B f) t.nodes.length lv { begun none t with k := k }).bind _ = _
      rw [hv, Res.bind_ok]
      unfold after
      rw [if_neg h3]
      rfl
    | some x =>
      simp only [List.cons_append, List.append_assoc, List.nil_append] at h hw ⊢
      obtain ⟨q1, q2, q3⟩ := h.head
      obtain ⟨q4, q5⟩ := q3.app
      have hkd : kindAt s k = 8 := by rw [kindAt_byte q1 q2]; rfl
      obtain ⟨g4, g5⟩ := g3 x rfl
      obtain ⟨_, q7⟩ := At.app (a := [32]) q5
      have hne : byteAt s (k + 1 + x.data.toList.length + 1) ≠ 32 := (item_first (nm := none) (kind := kind) (text := text) (inner := kids.txt sep (kind == 2) true) (w := []) (by rw [itemT_val _ _ _ _ h3, List.append_nil]; exact q7)).1
      have hsk : skipBl s (k + 1 + x.data.toList.length) = k + 1 + x.data.toList.length + 1 := by
        rw [skip_one (w := valT kind text (kids.txt sep (kind == 2) true)) q5]
        exact skip_at hne
      have hL : k + (38 :: (x.data.toList ++ 32 :: valT kind text (kids.txt sep (kind == 2) true))).length = k + 1 + x.data.toList.length + 1 + (valT kind text (kids.txt sep (kind == 2) true)).length := by
        simp only [List.length_cons, List.length_append]; omega
      have hv := val_at hin (nm := some x) (t := t) (u := { begun (some x) t with k := k + 1 + x.data.toList.length }) h3 hfit hf' (k + 1 + x.data.toList.length) rfl hsk q7 (by rw [← hL]; exact hw)
      unfold flowM flowS
      simp only
      rw [hs, if_neg (by omega), if_pos hkd]
      rw [named_at (x := x) (t := { t with k := k }) (rest := fun id v => valueS s (flowM s B f) id lv v) g4 g1 g2 g5 (by
        show At s k (38 :: (x.data.toList ++ [32]))
        refine At.of (a := [38]) ?_ ?_
        · exact (At.app (a := [38]) h).1
        · exact At.of q4 (At.app (a := [32]) q5).1) hv]
      unfold after
      rw [if_neg h3, hL]
      rfl

/-- The rounds inside brackets read what is written. -/
theorem in_law (hsep : sep = [44] ∨ sep = [44, 32]) (F : Frst) : InLaw s B sep F := by
  induction F with
  | nil => intro f lv m keys parts n t k h; exact absurd rfl h
  | cons key nm kind text blw kids rest ih1 ih2 =>
    intro f lv m keys parts n t k _ hf hn hfit hkeys hs h
    obtain ⟨hI, hR⟩ := fits_cons.1 hfit
    have hfI : kind ≠ 3 → kids.hgt + 1 ≤ f := fun h3 => by
      unfold Frst.hgt at hf
      rw [if_neg h3] at hf
      omega
    have hfR : rest.hgt ≤ f := by
      unfold Frst.hgt at hf
      split at hf
      · exact hf
      · omega
    obtain ⟨n, rfl⟩ : ∃ g, n = g + 1 := ⟨n - 1, by unfold Frst.len at hn; omega⟩
    have hnR : rest.len ≤ n := by unfold Frst.len at hn; omega
    rw [run_cons]
    rw [Frst.txt_cons] at h ⊢
    simp only [if_true, List.nil_append] at h ⊢
    -- the key
    have hkey : ∃ k1 k2 keys1, (if m then keyM s keys t else .ok keys t) = .ok keys1 { t with k := k1 } ∧ skipBl s k1 = k2 ∧ k2 = k + (if m then textL key ++ [58, 32] else []).length ∧ keys1 = keys ++ (if m then [key] else []) ∧ At s k2 ((itemT nm kind text (kids.txt sep (kind == 2) true) ++ rest.txt sep m false) ++ [if m then 125 else 93]) := by
      cases m with
      | false =>
        simp only [Bool.false_eq_true, if_false, List.nil_append] at h ⊢
        refine ⟨t.k, k, keys, rfl, hs, ?_, ?_, h⟩ <;> simp
      | true =>
        simp only [if_true, List.append_assoc, List.cons_append, List.nil_append] at h hkeys ⊢
        obtain ⟨p1, p2⟩ := h.app
        obtain ⟨p3, p4, p5⟩ := p2.head
        obtain ⟨p6, p7, p8⟩ := p5.head
        have hkt : TokOk key := (hkeys trivial).1 key (by unfold Frst.keysOf; exact List.mem_cons_self ..)
        obtain ⟨a, b, c⟩ := text_at hkt p1 (by rw [p4]; decide)
        have hnot : key ∉ keys := by
          have := (hkeys trivial).2
          unfold Frst.keysOf at this
          rw [List.nodup_append] at this
          intro hm
          exact this.2.2 key hm key (List.mem_cons_self ..) rfl
        refine ⟨_, _, _, keyM_at hs a b hnot p4 p3, ?_, rfl, rfl, ?_⟩
        · rw [skip_one p5]
          rw [skip_at (item_first p8).1]
          simp only [List.length_append, List.length_cons, List.length_nil]; omega
        · simp only [List.length_append, List.length_cons, List.length_nil]
          rw [show k + ((textL key).length + (0 + 1 + 1)) = k + (textL key).length + 1 + 1 by omega]
          exact p8
    obtain ⟨k1, k2, keys1, e1, e2, e3, e4, h2⟩ := hkey
    rw [List.append_assoc] at h2
    obtain ⟨h5, h6⟩ := h2.app
    have hnext : isWB (byteAt s (k2 + (itemT nm kind text (kids.txt sep (kind == 2) true)).length)) = false := by
      cases rest with
      | nil =>
        rw [Frst.txt_nil] at h6
        obtain ⟨_, g, _⟩ := h6.head
        rw [g]
        cases m <;> decide
      | cons =>
        rw [Frst.txt_cons] at h6
        rcases hsep with rfl | rfl
        · obtain ⟨_, g, _⟩ := At.head (show At s _ (44 :: _) from h6)
          rw [g]; decide
        · obtain ⟨_, g, _⟩ := At.head (show At s _ (44 :: _) from h6)
          rw [g]; decide
    have hit := item_at (fun _ => ih1) (t := { t with k := k1 }) hfI (fitsI_k k1 t.ind hI) e2 h5 hnext
    rw [after_k1] at hit
    unfold inLoop
    rw [e1, Res.bind_ok, hit, Res.bind_ok]
    simp only
    have hid : idOf kind text { t with k := k1 } = idOf kind text t := rfl
    rw [hid]
    have hRk : rest.fits B lv { after nm kind text kids t with k := k2 + (itemT nm kind text (kids.txt sep (kind == 2) true)).length + 1 } := Frst.fits_k1 _ hR
    cases hrest : rest with
    | nil =>
      rw [hrest, Frst.txt_nil] at h6
      obtain ⟨g1, g2, _⟩ := h6.head
      have hsk : skipBl s (k2 + (itemT nm kind text (kids.txt sep (kind == 2) true)).length) = k2 + (itemT nm kind text (kids.txt sep (kind == 2) true)).length := skip_at (by rw [g2]; cases m <;> decide)
      have hkd : kindAt s (k2 + (itemT nm kind text (kids.txt sep (kind == 2) true)).length) = if m then 12 else 10 := by rw [kindAt_byte g1 g2]; cases m <;> rfl
      rw [hsk, if_neg (by rw [hkd]; cases m <;> simp), expectM_at hsk hkd, Res.bind_ok]
      rw [e4, e3]
      simp only [Frst.run, Frst.txt_nil, Frst.keysOf, List.length_append, List.length_nil]
      cases m <;> simp <;> omega
    | cons key' nm' kind' text' blw' kids' rest' =>
      have hne : rest ≠ .nil := by rw [hrest]; exact fun e => by cases e
      have hsp : rest.txt sep m false = sep ++ rest.txt sep m true := by rw [hrest, Frst.txt_cons, Frst.txt_cons]; simp
      rw [← hrest]
      rw [hsp, List.append_assoc] at h6
      obtain ⟨c1, c2⟩ := h6.app
      have hb : byteAt s (k2 + (itemT nm kind text (kids.txt sep (kind == 2) true)).length) = 44 ∧ k2 + (itemT nm kind text (kids.txt sep (kind == 2) true)).length < s.size := by
        rcases hsep with rfl | rfl
        · obtain ⟨g1, g, _⟩ := c1.head; exact ⟨g, g1⟩
        · obtain ⟨g1, g, _⟩ := c1.head; exact ⟨g, g1⟩
      have hsk : skipBl s (k2 + (itemT nm kind text (kids.txt sep (kind == 2) true)).length) = k2 + (itemT nm kind text (kids.txt sep (kind == 2) true)).length := skip_at (by rw [hb.1]; decide)
      rw [hsk, if_pos (by rw [kindAt_byte hb.2 hb.1]; rfl)]
      have hsk2 : skipBl s (k2 + (itemT nm kind text (kids.txt sep (kind == 2) true)).length + 1) = k2 + (itemT nm kind text (kids.txt sep (kind == 2) true)).length + sep.length := by
        have q := (txt_first hne c2).1
        rcases hsep with rfl | rfl
        · exact skip_at q
        · obtain ⟨_, _, c3⟩ := c1.head
          rw [skip_one c3]; exact skip_at q
      rw [ih2 f lv m keys1 (parts ++ [idOf kind text t]) n { after nm kind text kids t with k := k2 + (itemT nm kind text (kids.txt sep (kind == 2) true)).length + 1 } _ hne hfR hnR hRk (fun hm => by
        obtain ⟨a, b⟩ := hkeys hm
        rw [e4, if_pos hm]
        unfold Frst.keysOf at a b
        exact ⟨fun x hx => a x (List.mem_cons_of_mem _ hx), by simpa using b⟩) hsk2 c2]
      rw [Frst.run_k1, e4, e3, hsp]
      simp only [Frst.keysOf, List.length_append]
      cases m <;> simp <;> omega

end

end Go.Proofs.YtkflkmmbakccoaaGreatDoor

/- THE PLAIN FUNCTIONS: the reader reads what is written in lines. No program is named here. -/
namespace Go.Proofs.YtkflkmmbakccoaaGreatDoor

section
variable {s : ByteArray} {B : Bud} {sep : List UInt8}

theorem lineOver_wb {e : Nat} (h : lineOver s (skipBl s e) = true) : isWB (byteAt s e) = false := by
  cases hw : isWB (byteAt s e) with
  | false => rfl
  | true =>
    have he : e < s.size := by
      by_cases he : e < s.size
      · exact he
      · rw [byteAt_ge s e he] at hw; exact absurd hw (by decide)
    have hk : kindAt s e = 2 := by rw [kindAt_byte he rfl]; exact kindB_word hw
    rw [skip_at (isWB_ne hw)] at h
    unfold lineOver at h
    rw [hk] at h
    exact absurd h (by decide)

theorem nlGo_skip (a k : Nat) : skipBl s (nlGo s a k).2 = (nlGo s a k).2 := by
  by_cases h : k < s.size
  · by_cases h1 : byteAt s k = 10
    · rw [nlGo_nl s a k h h1]; exact nlGo_skip (k + 1) (k + 1)
    · by_cases h2 : byteAt s k = 32
      · rw [nlGo_bl s a k h h2]; exact nlGo_skip a (k + 1)
      · rw [nlGo_stop s a k h h1 h2]; exact skip_at h2
  · rw [nlGo_end s a k h]; exact skipBl_end s k h
termination_by s.size - k

theorem lineOver_not {q : Nat} (h : kindAt s q ≠ 0 ∧ kindAt s q ≠ 1) : lineOver s q = false := by
  unfold lineOver
  simp [h.1, h.2]

theorem lineOver_kind {q : Nat} (h : lineOver s q = true) : kindAt s q = 1 ∨ kindAt s q = 0 := by
  unfold lineOver at h
  simpa using h

/-- No block begins where an item stands alone in its line. -/
theorem ahead_item {nm : Option ByteArray} {kind : Nat} {text : ByteArray} {inner : List UInt8} {k : Nat} (h0 : kind = 0 → TokOk text) (h : At s k (itemT nm kind text inner)) (hend : lineOver s (skipBl s (k + (itemT nm kind text inner).length)) = true) : aheadM s k = false := by
  have hf := item_first (w := []) (by rw [List.append_nil]; exact h)
  unfold aheadM
  simp only
  rw [skip_at hf.1, if_neg (by omega)]
  by_cases hk : kindAt s k = 2 ∨ kindAt s k = 3
  · rw [if_pos hk]
    have hcase : nm = none ∧ kind = 0 := by
      unfold itemT at h
      cases nm with
      | some x =>
        obtain ⟨h1, h2, _⟩ := At.head (show At s k (38 :: _) from h)
        rw [kindAt_byte h1 h2] at hk
        rcases hk with hk | hk <;> exact absurd hk (by decide)
      | none =>
        refine ⟨rfl, ?_⟩
        simp only [List.nil_append] at h
        by_cases h3 : kind = 3
        · rw [if_pos h3] at h
          obtain ⟨h1, h2, _⟩ := At.head (show At s k (42 :: _) from h)
          rw [kindAt_byte h1 h2] at hk
          rcases hk with hk | hk <;> exact absurd hk (by decide)
        · rw [if_neg h3] at h
          by_cases h0 : kind = 0
          · exact h0
          · rw [if_neg h0] at h
            by_cases h1 : kind = 1
            · rw [if_pos h1] at h
              obtain ⟨h1, h2, _⟩ := At.head (show At s k (91 :: _) from h)
              rw [kindAt_byte h1 h2] at hk
              rcases hk with hk | hk <;> exact absurd hk (by decide)
            · rw [if_neg h1] at h
              obtain ⟨h1, h2, _⟩ := At.head (show At s k (123 :: _) from h)
              rw [kindAt_byte h1 h2] at hk
              rcases hk with hk | hk <;> exact absurd hk (by decide)
    obtain ⟨rfl, rfl⟩ := hcase
    have e : itemT none 0 text inner = textL text := by simp [itemT]
    rw [e] at h hend
    obtain ⟨_, b, _⟩ := text_at (h0 rfl) h (lineOver_wb hend)
    rw [b]
    simp only
    rcases lineOver_kind hend with g | g <;> rw [g] <;> decide
  · rw [if_neg hk]

/-- A whole text that is one item in one line. -/
theorem text_flow (hsep : sep = [44] ∨ sep = [44, 32]) {nm : Option ByteArray} {kind : Nat} {text : ByteArray} {kids : Frst} {k0 : Nat} {t : PS} (hD : B.depth ≤ 20) (htk : t.k = 0) (h1 : nlGo s 0 0 = (0, k0)) (hfit : fitsI B nm kind text kids 1 t) (h : At s k0 (itemT nm kind text (kids.txt sep (kind == 2) true)))
    (hend : lineOver s (skipBl s (k0 + (itemT nm kind text (kids.txt sep (kind == 2) true)).length)) = true)
    (hfin : kindAt s (nlGo s (skipBl s (k0 + (itemT nm kind text (kids.txt sep (kind == 2) true)).length)) (skipBl s (k0 + (itemT nm kind text (kids.txt sep (kind == 2) true)).length))).2 = 0) :
    ∃ a b, textM s B t = .ok () { after nm kind text kids t with k := a, ind := b } := by
  unfold textM nextM
  rw [htk, h1]
  simp only
  rw [if_neg (by omega)]
  have hf := item_first (w := []) (by rw [List.append_nil]; exact h)
  have hn : aheadM s k0 = false := ahead_item (fun h0 => ((hfit.2 (by omega)).2.2.2.2.1 h0).1) h hend
  have hg : kind ≠ 3 → kids.hgt + 1 ≤ 21 := fun h3 => by
    obtain ⟨a, _, _, _, _, _, b⟩ := hfit.2 h3
    have := Frst.hgt_le kids _ _ b
    omega
  unfold topM
  simp only
  rw [hn]
  simp only [Bool.false_eq_true, if_false]
  rw [item_at (fun _ => in_law hsep kids) (t := { t with k := k0, ind := 0 }) hg (fitsI_k k0 0 hfit) (skip_at hf.1) h (lineOver_wb hend), Res.bind_ok]
  unfold endLineM
  simp only
  rw [if_pos hend, Res.bind_ok]
  unfold nextM
  simp only
  rw [nlGo_skip, if_pos hfin, after_k]
  exact ⟨_, _, rfl⟩

end

/-- An end of a line: so many blanks, and may be a blank line. -/
def NlOk (nl : List UInt8) : Prop := nl = [10] ∨ nl = [32, 32, 10] ∨ nl = [32, 32, 10, 32, 10]

namespace Frst

/-- Items in lines. -/
def lns (sep nl : List UInt8) : Frst → Nat → Bool → List UInt8
  | .nil, _, _ => []
  | .cons key nm kind text blw kids rest, d, m =>
    List.replicate (2 * d) 32 ++ ((if m then textL key ++ [58] else [45]) ++ ((if blw then nl ++ kids.lns sep nl (d + 1) (kind == 2) else 32 :: (itemT nm kind text (kids.txt sep (kind == 2) true) ++ nl)) ++ rest.lns sep nl d m))

theorem lns_nil (sep nl : List UInt8) (d : Nat) (m : Bool) : lns sep nl .nil d m = [] := rfl
theorem lns_cons (sep nl : List UInt8) (key : ByteArray) (nm : Option ByteArray) (kind : Nat) (text : ByteArray) (blw : Bool) (kids rest : Frst) (d : Nat) (m : Bool) :
    lns sep nl (.cons key nm kind text blw kids rest) d m = List.replicate (2 * d) 32 ++ ((if m then textL key ++ [58] else [45]) ++ ((if blw then nl ++ kids.lns sep nl (d + 1) (kind == 2) else 32 :: (itemT nm kind text (kids.txt sep (kind == 2) true) ++ nl)) ++ rest.lns sep nl d m)) := rfl

/-- What may stand below: lists and maps that hold something and have no name. -/
def lok : Frst → Prop
  | .nil => True
  | .cons _ nm kind _ blw kids rest => (blw = true → nm = none ∧ (kind = 1 ∨ kind = 2) ∧ kids ≠ .nil ∧ kids.lok) ∧ rest.lok

end Frst

section
variable {s : ByteArray} {B : Bud} {sep nl : List UInt8}

theorem nl_at (hnl : NlOk nl) {p : Nat} {w : List UInt8} (h : At s p (nl ++ w)) : lineOver s (skipBl s p) = true ∧ nlGo s (skipBl s p) (skipBl s p) = nlGo s (p + nl.length) (p + nl.length) := by
  have one : ∀ q v, At s q (10 :: v) → lineOver s (skipBl s q) = true ∧ nlGo s (skipBl s q) (skipBl s q) = nlGo s (q + 1) (q + 1) ∧ skipBl s q = q := fun q v hq => by
    obtain ⟨h1, h2, _⟩ := hq.head
    have hs : skipBl s q = q := skip_at (by rw [h2]; decide)
    rw [hs]
    refine ⟨?_, nlGo_nl s q q h1 h2, rfl⟩
    unfold lineOver
    rw [kindAt_byte h1 h2]
    rfl
  rcases hnl with rfl | rfl | rfl
  · obtain ⟨a, b, _⟩ := one p _ h
    exact ⟨a, b⟩
  · obtain ⟨_, _, h3⟩ := h.head
    obtain ⟨_, _, h6⟩ := h3.head
    obtain ⟨a, b, _⟩ := one _ _ h6
    rw [skip_one h, skip_one h3]
    exact ⟨a, b⟩
  · obtain ⟨_, _, h3⟩ := h.head
    obtain ⟨_, _, h6⟩ := h3.head
    obtain ⟨a, b, _⟩ := one _ _ h6
    obtain ⟨_, _, h7⟩ := h6.head
    obtain ⟨g1, g2, h8⟩ := h7.head
    obtain ⟨g3, g4, _⟩ := h8.head
    rw [skip_one h, skip_one h3]
    refine ⟨a, b.trans ?_⟩
    rw [nlGo_bl s _ _ g1 g2, nlGo_nl s _ _ g3 g4]
    rfl

theorem nlGo_blanks (n : Nat) : ∀ (a p : Nat) (w : List UInt8), At s p (List.replicate n 32 ++ w) → nlGo s a p = nlGo s a (p + n) := by
  induction n with
  | zero => intro a p w _; rfl
  | succ n ih =>
    intro a p w h
    rw [List.replicate_succ, List.cons_append] at h
    obtain ⟨h1, h2, h3⟩ := h.head
    rw [nlGo_bl s a p h1 h2, ih a (p + 1) w h3, show p + 1 + n = p + (n + 1) by omega]

/-- The sign or the key with which a line begins. -/
def signT (m : Bool) (key : ByteArray) : List UInt8 := if m then textL key ++ [58] else [45]

theorem sign_first {k : Nat} {m : Bool} {key : ByteArray} {w : List UInt8} (h : At s k (signT m key ++ w)) : k < s.size ∧ byteAt s k ≠ 32 ∧ byteAt s k ≠ 10 ∧ (m = false → kindAt s k = 4) ∧ (m = true → kindAt s k = 2 ∨ kindAt s k = 3) := by
  unfold signT at h
  cases m with
  | false =>
    obtain ⟨h1, h2, _⟩ := At.head (show At s k (45 :: _) from h)
    refine ⟨h1, by rw [h2]; decide, by rw [h2]; decide, (fun _ => by rw [kindAt_byte h1 h2]; rfl), (fun e => by cases e)⟩
  | true =>
    simp only [if_true, List.append_assoc] at h
    obtain ⟨a, b⟩ := text_first h
    have hl : k < s.size := kindAt_lt (by omega)
    refine ⟨hl, b, fun e => ?_, (fun e => by cases e), fun _ => a⟩
    rw [kindAt_byte hl e] at a
    rcases a with a | a <;> exact absurd a (by decide)

/-- The indentation of a line. -/
theorem line_start {d p : Nat} {m : Bool} {key : ByteArray} {w : List UInt8} (h : At s p (List.replicate (2 * d) 32 ++ (signT m key ++ w))) : nlGo s p p = (2 * d, p + 2 * d) := by
  rw [nlGo_blanks (2 * d) p p _ h]
  obtain ⟨_, h2⟩ := h.app
  rw [List.length_replicate] at h2
  obtain ⟨a, b, c, _⟩ := sign_first h2
  rw [nlGo_stop s p _ a c b]
  congr 1
  omega

/-- The line's item, in the line itself: where the reader stands at the next line's first byte. -/
theorem inline_at (hsep : sep = [44] ∨ sep = [44, 32]) (hnl : NlOk nl) {nm : Option ByteArray} {kind : Nat} {text : ByteArray} {kids : Frst} {blk : Nat → Nat → PS → Res Unit} {d : Nat} {t : PS} {k : Nat} (hD : B.depth ≤ 20) (hfit : fitsI B nm kind text kids ((d : Int) + 2) t)
    (h : At s t.k (32 :: (itemT nm kind text (kids.txt sep (kind == 2) true) ++ nl))) (hk : k = t.k + 1 + (itemT nm kind text (kids.txt sep (kind == 2) true)).length + nl.length) :
    itemS s B blk d t = .ok (idOf kind text t) { after nm kind text kids t with k := (nlGo s k k).2, ind := (nlGo s k k).1 } := by
  obtain ⟨_, _, h3⟩ := h.head
  obtain ⟨h4, h5⟩ := h3.app
  obtain ⟨f1, f2⟩ := item_first h3
  have hs : skipBl s t.k = t.k + 1 := by rw [skip_one h]; exact skip_at f1
  obtain ⟨n1, n2⟩ := nl_at (w := []) hnl (by rw [List.append_nil]; exact h5)
  have hw := lineOver_wb n1
  have hg : kind ≠ 3 → kids.hgt + 1 ≤ 21 := fun h3 => by
    obtain ⟨a, _, _, _, _, _, b⟩ := hfit.2 h3
    have := Frst.hgt_le kids _ _ b
    omega
  unfold itemS
  simp only
  rw [hs, lineOver_not (by omega)]
  simp only [Bool.false_eq_true, if_false]
  by_cases h8 : kindAt s (t.k + 1) = 8
  · rw [if_pos h8]
    -- a name
    cases nm with
    | none =>
      exfalso
      unfold itemT at h4
      simp only [List.nil_append] at h4
      by_cases c3 : kind = 3
      · rw [if_pos c3] at h4
        obtain ⟨g1, g2, _⟩ := At.head (show At s _ (42 :: _) from h4)
        rw [kindAt_byte g1 g2] at h8; exact absurd h8 (by decide)
      · rw [if_neg c3] at h4
        by_cases c0 : kind = 0
        · rw [if_pos c0] at h4
          have := (text_first (w := []) (by rw [List.append_nil]; exact h4)).1
          omega
        · rw [if_neg c0] at h4
          by_cases c1 : kind = 1
          · rw [if_pos c1] at h4
            obtain ⟨g1, g2, _⟩ := At.head (show At s _ (91 :: _) from h4)
            rw [kindAt_byte g1 g2] at h8; exact absurd h8 (by decide)
          · rw [if_neg c1] at h4
            obtain ⟨g1, g2, _⟩ := At.head (show At s _ (123 :: _) from h4)
            rw [kindAt_byte g1 g2] at h8; exact absurd h8 (by decide)
    | some x =>
      have h3n : kind ≠ 3 := fun e => by have := (hfit.1 e).1; cases this
      obtain ⟨g1, g2, g3, _⟩ := hfit.2 h3n
      obtain ⟨g4, g5⟩ := g3 x rfl
      rw [itemT_val _ _ _ _ h3n] at h4 h5 n1 n2 hw hk
      simp only [List.cons_append, List.append_assoc, List.nil_append] at h4 h5 n1 n2 hw hk
      obtain ⟨q1, q2, q3⟩ := h4.head
      obtain ⟨q4, q5⟩ := q3.app
      have q7 : At s (t.k + 1 + 1 + x.data.toList.length + 1) (valT kind text (kids.txt sep (kind == 2) true)) := (At.app (a := [32]) q5).2
      have hf2 := item_first (nm := none) (kind := kind) (text := text) (inner := kids.txt sep (kind == 2) true) (w := []) (by rw [itemT_val _ _ _ _ h3n, List.append_nil]; exact q7)
      have hsk : skipBl s (t.k + 1 + 1 + x.data.toList.length) = t.k + 1 + 1 + x.data.toList.length + 1 := by
        rw [skip_one (w := valT kind text (kids.txt sep (kind == 2) true)) q5]
        exact skip_at hf2.1
      have hL : t.k + 1 + (38 :: (x.data.toList ++ 32 :: valT kind text (kids.txt sep (kind == 2) true))).length = t.k + 1 + 1 + x.data.toList.length + 1 + (valT kind text (kids.txt sep (kind == 2) true)).length := by
        simp only [List.length_cons, List.length_append]; omega
      rw [hL] at n1 n2 hw hk
      have hv := val_at (f := 21) (fun _ => in_law hsep kids) (nm := some x) (t := t) (u := { begun (some x) t with k := t.k + 1 + 1 + x.data.toList.length + 1 }) h3n hfit (by have := hg h3n; omega) (t.k + 1 + 1 + x.data.toList.length + 1) rfl (skip_at hf2.1) q7 hw
      have hrest : namedItemS s B blk d t.nodes.length { begun (some x) t with k := t.k + 1 + 1 + x.data.toList.length } = .ok () { endM t.nodes.length (mkNode kind text kids.keysOf (kids.run (begun (some x) t)).1) (kids.run (begun (some x) t)).2 with k := (nlGo s k k).2, ind := (nlGo s k k).1 } := by
        unfold namedItemS
        simp only
        rw [hsk, lineOver_not (by
          have := hf2.2
          exact ⟨by show kindAt s (t.k + 1 + 1 + x.data.toList.length + 1) ≠ 0; omega, by show kindAt s (t.k + 1 + 1 + x.data.toList.length + 1) ≠ 1; omega⟩)]
        simp only [Bool.false_eq_true, if_false]
        unfold valueM
        have hv' : valueS s (flowM s B 21) t.nodes.length ((d : Int) + 2) { begun (some x) t with k := t.k + 1 + 1 + x.data.toList.length + 1 } = _ := hv
        rw [hv', Res.bind_ok]
        unfold endLineM nextM
        simp only
        rw [if_pos n1, n2, ← hk]
      rw [named_at (x := x) (t := { t with k := t.k + 1 }) (rest := fun id v => namedItemS s B blk d id v) g4 g1 g2 g5 (by
        show At s (t.k + 1) (38 :: (x.data.toList ++ [32]))
        refine At.of (a := [38]) ?_ ?_
        · exact (At.app (a := [38]) h4).1
        · exact At.of q4 (At.app (a := [32]) q5).1) hrest]
      unfold after idOf
      rw [if_neg h3n, if_neg h3n]
      rfl
  · rw [if_neg h8]
    rw [item_at (fun _ => in_law hsep kids) (t := { t with k := t.k + 1 }) hg (fitsI_k (t.k + 1) t.ind hfit) (skip_at f1) h4 hw, Res.bind_ok]
    unfold endLineM nextM
    simp only
    rw [if_pos n1, Res.bind_ok, n2, ← hk, after_k1]
    rfl

end

end Go.Proofs.YtkflkmmbakccoaaGreatDoor
