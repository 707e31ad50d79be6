/- PARTS: Mod38, Mod39, Mod40, Mod24, Mod25. -/
import Derived.Test.YtkflkmmbakccoaaGreatDoorZ1
import Derived.Test.YtkflkmmbakccoaaGreatDoorJ18
import Derived.Test.YtkflkmmbakccoaaGreatDoorJ19
import Derived.Test.YtkflkmmbakccoaaGreatDoorJ16

/- THE PLAIN FUNCTIONS: the reader reads what is written in lines. No program is named here. -/
namespace Go.Proofs.YtkflkmmbakccoaaGreatDoor.Q

section
variable {s : ByteArray} {B : Bud} {sep : List UInt8}

/-- No block begins where an item stands alone in its line. -/
theorem ahead_item {nm : Option ByteArray} {kind : Nat} {text : ByteArray} {inner : List UInt8} {k : Nat} (h0 : kind = 0 ∨ kind = 4 → TokOk text) (h : At s k (itemT nm kind text inner)) (hend : lineOver s (skipBl s (k + (itemT nm kind text inner).length)) = true) : aheadM s k = false := by
  have hf := item_first (w := []) (by rw [List.append_nil]; exact h)
  unfold aheadM
  simp only
  rw [skip_at hf.1, if_neg (by omega)]
  by_cases hk : kindAt s k = 2 ∨ kindAt s k = 3
  · rw [if_pos hk]
    have hcase : nm = none ∧ (kind = 0 ∨ kind = 4) := by
      unfold itemT at h
      cases nm with
      | some x =>
        obtain ⟨h1, h2, _⟩ := At.head (show At s k (38 :: _) from h)
        rw [kindAt_byte h1 h2] at hk
        rcases hk with hk | hk <;> exact absurd hk (by decide)
      | none =>
        refine ⟨rfl, ?_⟩
        simp only [List.nil_append] at h
        by_cases h3 : kind = 3
        · rw [if_pos h3] at h
          obtain ⟨h1, h2, _⟩ := At.head (show At s k (42 :: _) from h)
          rw [kindAt_byte h1 h2] at hk
          rcases hk with hk | hk <;> exact absurd hk (by decide)
        · rw [if_neg h3] at h
          by_cases h0 : kind = 0
          · exact .inl h0
          · rw [if_neg h0] at h
            by_cases h4 : kind = 4
            · exact .inr h4
            · rw [if_neg h4] at h
              by_cases h1 : kind = 1
              · rw [if_pos h1] at h
                obtain ⟨h1, h2, _⟩ := At.head (show At s k (91 :: _) from h)
                rw [kindAt_byte h1 h2] at hk
                rcases hk with hk | hk <;> exact absurd hk (by decide)
              · rw [if_neg h1] at h
                obtain ⟨h1, h2, _⟩ := At.head (show At s k (123 :: _) from h)
                rw [kindAt_byte h1 h2] at hk
                rcases hk with hk | hk <;> exact absurd hk (by decide)
    obtain ⟨rfl, hkd⟩ := hcase
    rcases hkd with rfl | rfl
    · have e : itemT none 0 text inner = textL text := by simp [itemT]
      rw [e] at h hend
      obtain ⟨_, b, _⟩ := text_at (h0 (.inl rfl)) h (lineOver_wb hend)
      rw [b]
      simp only
      rcases lineOver_kind hend with g | g <;> rw [g] <;> decide
    · have e : itemT none 4 text inner = 34 :: (text.data.toList ++ [34]) := by simp [itemT]
      rw [e] at h hend
      obtain ⟨_, b, _⟩ := quote_at (h0 (.inr rfl)) h
      rw [b]
      simp only
      rcases lineOver_kind hend with g | g <;> rw [g] <;> decide
  · rw [if_neg hk]

/-- A whole text that is one item in one line. -/
theorem text_flow (hsep : sep = [44] ∨ sep = [44, 32]) {nm : Option ByteArray} {kind : Nat} {text : ByteArray} {kids : Frst} {k0 : Nat} {t : PS} (hD : B.depth ≤ 20) (htk : t.k = 0) (h1 : nlGo s 0 0 = (0, k0)) (hfit : fitsI B nm kind text kids 1 t) (h : At s k0 (itemT nm kind text (kids.txt sep (kind == 2) true)))
    (hend : lineOver s (skipBl s (k0 + (itemT nm kind text (kids.txt sep (kind == 2) true)).length)) = true)
    (hfin : kindAt s (nlGo s (skipBl s (k0 + (itemT nm kind text (kids.txt sep (kind == 2) true)).length)) (skipBl s (k0 + (itemT nm kind text (kids.txt sep (kind == 2) true)).length))).2 = 0) :
    ∃ a b, textM s B t = .ok () { after nm kind text kids t with k := a, ind := b } := by
  unfold textM nextM
  rw [htk, h1]
  simp only
  rw [if_neg (by omega)]
  have hf := item_first (w := []) (by rw [List.append_nil]; exact h)
  have hn : aheadM s k0 = false := ahead_item (fun h0 => ((hfit.2 (by omega)).2.2.2.2.1 h0).1) h hend
  have hg : kind ≠ 3 → kids.hgt + 1 ≤ 21 := fun h3 => by
    obtain ⟨a, _, _, _, _, _, b⟩ := hfit.2 h3
    have := Frst.hgt_le kids _ _ b
    omega
  unfold topM
  simp only
  rw [hn]
  simp only [Bool.false_eq_true, if_false]
  rw [item_at (fun _ => in_law hsep kids) (t := { t with k := k0, ind := 0 }) hg (fitsI_k k0 0 hfit) (skip_at hf.1) h (lineOver_wb hend), Res.bind_ok]
  unfold endLineM
  simp only
  rw [if_pos hend, Res.bind_ok]
  unfold nextM
  simp only
  rw [nlGo_skip, if_pos hfin, after_k]
  exact ⟨_, _, rfl⟩

end

namespace Frst

/-- Items in lines. -/
def lns (sep nl : List UInt8) : Frst → Nat → Bool → List UInt8
  | .nil, _, _ => []
  | .cons key nm kind text blw kids rest, d, m =>
    List.replicate (2 * d) 32 ++ ((if m then textL key ++ [58] else [45]) ++ ((if blw then nl ++ kids.lns sep nl (d + 1) (kind == 2) else 32 :: (itemT nm kind text (kids.txt sep (kind == 2) true) ++ nl)) ++ rest.lns sep nl d m))

theorem lns_nil (sep nl : List UInt8) (d : Nat) (m : Bool) : lns sep nl .nil d m = [] := rfl
theorem lns_cons (sep nl : List UInt8) (key : ByteArray) (nm : Option ByteArray) (kind : Nat) (text : ByteArray) (blw : Bool) (kids rest : Frst) (d : Nat) (m : Bool) :
    lns sep nl (.cons key nm kind text blw kids rest) d m = List.replicate (2 * d) 32 ++ ((if m then textL key ++ [58] else [45]) ++ ((if blw then nl ++ kids.lns sep nl (d + 1) (kind == 2) else 32 :: (itemT nm kind text (kids.txt sep (kind == 2) true) ++ nl)) ++ rest.lns sep nl d m)) := rfl

/-- What may stand below: lists and maps that hold something and have no name. -/
def lok : Frst → Prop
  | .nil => True
  | .cons _ nm kind _ blw kids rest => (blw = true → nm = none ∧ (kind = 1 ∨ kind = 2) ∧ kids ≠ .nil ∧ kids.lok) ∧ rest.lok

end Frst

section
variable {s : ByteArray} {B : Bud} {sep nl : List UInt8}

/-- The line's item, in the line itself: where the reader stands at the next line's first byte. -/
theorem inline_at (hsep : sep = [44] ∨ sep = [44, 32]) (hnl : NlOk nl) {nm : Option ByteArray} {kind : Nat} {text : ByteArray} {kids : Frst} {blk : Nat → Nat → PS → Res Unit} {d : Nat} {t : PS} {k : Nat} (hD : B.depth ≤ 20) (hfit : fitsI B nm kind text kids ((d : Int) + 2) t)
    (h : At s t.k (32 :: (itemT nm kind text (kids.txt sep (kind == 2) true) ++ nl))) (hk : k = t.k + 1 + (itemT nm kind text (kids.txt sep (kind == 2) true)).length + nl.length) :
    itemS s B blk d t = .ok (idOf kind text t) { after nm kind text kids t with k := (nlGo s k k).2, ind := (nlGo s k k).1 } := by
  obtain ⟨_, _, h3⟩ := h.head
  obtain ⟨h4, h5⟩ := h3.app
  obtain ⟨f1, f2⟩ := item_first h3
  have hs : skipBl s t.k = t.k + 1 := by rw [skip_one h]; exact skip_at f1
  obtain ⟨n1, n2⟩ := nl_at (w := []) hnl (by rw [List.append_nil]; exact h5)
  have hw := lineOver_wb n1
  have hg : kind ≠ 3 → kids.hgt + 1 ≤ 21 := fun h3 => by
    obtain ⟨a, _, _, _, _, _, b⟩ := hfit.2 h3
    have := Frst.hgt_le kids _ _ b
    omega
  unfold itemS
  simp only
  rw [hs, lineOver_not (by omega)]
  simp only [Bool.false_eq_true, if_false]
  by_cases h8 : kindAt s (t.k + 1) = 8
  · rw [if_pos h8]
    -- a name
    cases nm with
    | none =>
      exfalso
      unfold itemT at h4
      simp only [List.nil_append] at h4
      by_cases c3 : kind = 3
      · rw [if_pos c3] at h4
        obtain ⟨g1, g2, _⟩ := At.head (show At s _ (42 :: _) from h4)
        rw [kindAt_byte g1 g2] at h8; exact absurd h8 (by decide)
      · rw [if_neg c3] at h4
        by_cases c0 : kind = 0
        · rw [if_pos c0] at h4
          have := (text_first (w := []) (by rw [List.append_nil]; exact h4)).1
          omega
        · rw [if_neg c0] at h4
          by_cases c4 : kind = 4
          · rw [if_pos c4] at h4
            obtain ⟨g1, g2, _⟩ := At.head (show At s _ (34 :: _) from h4)
            rw [kindAt_byte g1 g2] at h8; exact absurd h8 (by decide)
          · rw [if_neg c4] at h4
            by_cases c1 : kind = 1
            · rw [if_pos c1] at h4
              obtain ⟨g1, g2, _⟩ := At.head (show At s _ (91 :: _) from h4)
              rw [kindAt_byte g1 g2] at h8; exact absurd h8 (by decide)
            · rw [if_neg c1] at h4
              obtain ⟨g1, g2, _⟩ := At.head (show At s _ (123 :: _) from h4)
              rw [kindAt_byte g1 g2] at h8; exact absurd h8 (by decide)
    | some x =>
      have h3n : kind ≠ 3 := fun e => by have := (hfit.1 e).1; cases this
      obtain ⟨g1, g2, g3, _⟩ := hfit.2 h3n
      obtain ⟨g4, g5⟩ := g3 x rfl
      rw [itemT_val _ _ _ _ h3n] at h4 h5 n1 n2 hw hk
      simp only [List.cons_append, List.append_assoc, List.nil_append] at h4 h5 n1 n2 hw hk
      obtain ⟨q1, q2, q3⟩ := h4.head
      obtain ⟨q4, q5⟩ := q3.app
      have q7 : At s (t.k + 1 + 1 + x.data.toList.length + 1) (valT kind text (kids.txt sep (kind == 2) true)) := (At.app (a := [32]) q5).2
      have hf2 := item_first (nm := none) (kind := kind) (text := text) (inner := kids.txt sep (kind == 2) true) (w := []) (by rw [itemT_val _ _ _ _ h3n, List.append_nil]; exact q7)
      have hsk : skipBl s (t.k + 1 + 1 + x.data.toList.length) = t.k + 1 + 1 + x.data.toList.length + 1 := by
        rw [skip_one (w := valT kind text (kids.txt sep (kind == 2) true)) q5]
        exact skip_at hf2.1
      have hL : t.k + 1 + (38 :: (x.data.toList ++ 32 :: valT kind text (kids.txt sep (kind == 2) true))).length = t.k + 1 + 1 + x.data.toList.length + 1 + (valT kind text (kids.txt sep (kind == 2) true)).length := by
        simp only [List.length_cons, List.length_append]; omega
      rw [hL] at n1 n2 hw hk
      have hv := val_at (f := 21) (fun _ => in_law hsep kids) (nm := some x) (t := t) (u := { begun (some x) t with k := t.k + 1 + 1 + x.data.toList.length + 1 }) h3n hfit (by have := hg h3n; omega) (t.k + 1 + 1 + x.data.toList.length + 1) rfl (skip_at hf2.1) q7 hw
      have hrest : namedItemS s B blk d t.nodes.length { begun (some x) t with k := t.k + 1 + 1 + x.data.toList.length } = .ok () { endM t.nodes.length (mkNode kind text kids.keysOf (kids.run (begun (some x) t)).1) (kids.run (begun (some x) t)).2 with k := (nlGo s k k).2, ind := (nlGo s k k).1 } := by
        unfold namedItemS
        simp only
        rw [hsk, lineOver_not (by
          have := hf2.2
          exact ⟨by show kindAt s (t.k + 1 + 1 + x.data.toList.length + 1) ≠ 0; omega, by show kindAt s (t.k + 1 + 1 + x.data.toList.length + 1) ≠ 1; omega⟩)]
        simp only [Bool.false_eq_true, if_false]
        unfold valueM
        have hv' : valueS s (flowM s B 21) t.nodes.length ((d : Int) + 2) { begun (some x) t with k := t.k + 1 + 1 + x.data.toList.length + 1 } = _ := hv
        rw [hv', Res.bind_ok]
        unfold endLineM nextM
        simp only
        rw [if_pos n1, n2, ← hk]
      rw [named_at (x := x) (t := { t with k := t.k + 1 }) (rest := fun id v => namedItemS s B blk d id v) g4 g1 g2 g5 (by
        show At s (t.k + 1) (38 :: (x.data.toList ++ [32]))
        refine At.of (a := [38]) ?_ ?_
        · exact (At.app (a := [38]) h4).1
        · exact At.of q4 (At.app (a := [32]) q5).1) hrest]
      unfold after idOf
      rw [if_neg h3n, if_neg h3n]
      rfl
  · rw [if_neg h8]
    rw [item_at (fun _ => in_law hsep kids) (t := { t with k := t.k + 1 }) hg (fitsI_k (t.k + 1) t.ind hfit) (skip_at f1) h4 hw, Res.bind_ok]
    unfold endLineM nextM
    simp only
    rw [if_pos n1, Res.bind_ok, n2, ← hk, after_k1]
    rfl

end

end Go.Proofs.YtkflkmmbakccoaaGreatDoor.Q

/- THE PLAIN FUNCTIONS: the reader reads a block of lines, and a text of lines. No program is named here. -/
namespace Go.Proofs.YtkflkmmbakccoaaGreatDoor.Q

section
variable {s : ByteArray} {B : Bud} {sep nl : List UInt8}

/-- Items in lines are read. -/
def BlkLaw (s : ByteArray) (B : Bud) (sep nl : List UInt8) (F : Frst) : Prop :=
  ∀ (f d : Nat) (m : Bool) (id : Nat) (keys : List ByteArray) (parts : List Nat) (n : Nat) (t : PS) (p p' : Nat), F ≠ .nil → F.hgt ≤ f → F.len ≤ n → F.lok → F.fits B ((d : Int) + 2) t →
    (m = true → (∀ x ∈ F.keysOf, TokOk x) ∧ (keys ++ F.keysOf).Nodup) → At s p (F.lns sep nl d m) → t.k = p + 2 * d → p' = p + (F.lns sep nl d m).length → (kindAt s (nlGo s p' p').2 = 0 ∨ (nlGo s p' p').1 < 2 * d) →
    blockLoop s (itemS s B (blockM s B f) d) id d m n keys parts t = .ok () (endM id { NodeV.blank with kind := if m then 2 else 1, keys := keys ++ (if m then F.keysOf else []), parts := parts ++ (F.run t).1 } { (F.run t).2 with k := (nlGo s p' p').2, ind := (nlGo s p' p').1 })

theorem lns_len (F : Frst) : ∀ d m, F.len ≤ (F.lns sep nl d m).length := by
  induction F with
  | nil => intro d m; simp [Frst.len]
  | cons key nm kind text blw kids rest _ ih =>
    intro d m
    have h1 := ih d m
    rw [Frst.lns_cons]
    unfold Frst.len
    have h2 : 1 ≤ (if m then textL key ++ [58] else [45]).length := by split <;> simp
    simp only [List.length_append]
    omega

/-- A line begins: its indentation, and with what. -/
theorem lns_first {F : Frst} {d p : Nat} {m : Bool} {w : List UInt8} (hF : F ≠ .nil) (h : At s p (F.lns sep nl d m ++ w)) : nlGo s p p = (2 * d, p + 2 * d) ∧ p + 2 * d < s.size ∧ byteAt s (p + 2 * d) ≠ 32 ∧ (m = false → kindAt s (p + 2 * d) = 4) ∧ (m = true → kindAt s (p + 2 * d) = 2 ∨ kindAt s (p + 2 * d) = 3) := by
  cases F with
  | nil => exact absurd rfl hF
  | cons key nm kind text blw kids rest =>
    rw [Frst.lns_cons] at h
    simp only [List.append_assoc] at h
    have h' : At s p (List.replicate (2 * d) 32 ++ (signT m key ++ ((if blw then nl ++ kids.lns sep nl (d + 1) (kind == 2) else 32 :: (itemT nm kind text (kids.txt sep (kind == 2) true) ++ nl)) ++ (rest.lns sep nl d m ++ w)))) := h
    obtain ⟨_, h2⟩ := h'.app
    rw [List.length_replicate] at h2
    obtain ⟨a, b, _, c, e⟩ := sign_first h2
    exact ⟨line_start h', a, b, c, e⟩

/-- An item behind its sign, in the line or below. -/
theorem item_line (hsep : sep = [44] ∨ sep = [44, 32]) (hnl : NlOk nl) (hD : B.depth ≤ 20) {nm : Option ByteArray} {kind : Nat} {text : ByteArray} {blw : Bool} {kids : Frst} (hkids : BlkLaw s B sep nl kids) {f d : Nat} {t : PS} {p1 : Nat} (hf : kind ≠ 3 → kids.hgt + 1 ≤ f)
    (hl : blw = true → nm = none ∧ (kind = 1 ∨ kind = 2) ∧ kids ≠ .nil ∧ kids.lok) (hfit : fitsI B nm kind text kids ((d : Int) + 2) t)
    (h : At s t.k (if blw then nl ++ kids.lns sep nl (d + 1) (kind == 2) else 32 :: (itemT nm kind text (kids.txt sep (kind == 2) true) ++ nl)))
    (hp : p1 = t.k + (if blw then nl ++ kids.lns sep nl (d + 1) (kind == 2) else 32 :: (itemT nm kind text (kids.txt sep (kind == 2) true) ++ nl)).length)
    (hend : kindAt s (nlGo s p1 p1).2 = 0 ∨ (nlGo s p1 p1).1 < 2 * (d + 1)) :
    itemS s B (blockM s B f) d t = .ok (idOf kind text t) { after nm kind text kids t with k := (nlGo s p1 p1).2, ind := (nlGo s p1 p1).1 } := by
  cases blw with
  | false =>
    simp only [Bool.false_eq_true, if_false] at h hp
    exact inline_at hsep hnl hD hfit h (by rw [hp]; simp only [List.length_cons, List.length_append]; omega)
  | true =>
    simp only [if_true] at h hp
    obtain ⟨rfl, hkd, hne, hlok⟩ := hl rfl
    have h3 : kind ≠ 3 := by omega
    obtain ⟨g1, g2, _, _, _, g6, g7⟩ := hfit.2 h3
    obtain ⟨f, rfl⟩ : ∃ g, f = g + 1 := ⟨f - 1, by have := hf h3; omega⟩
    have hfk : kids.hgt ≤ f := by have := hf h3; omega
    obtain ⟨n1, n2⟩ := nl_at hnl h
    obtain ⟨_, h4⟩ := h.app
    obtain ⟨c1, c2, c3, c4, c5⟩ := lns_first (w := []) hne (by rw [List.append_nil]; exact h4)
    have hkq : kindAt s (t.k + nl.length + 2 * (d + 1)) = 4 ∨ kindAt s (t.k + nl.length + 2 * (d + 1)) = 2 ∨ kindAt s (t.k + nl.length + 2 * (d + 1)) = 3 := by
      by_cases h2 : kind = 2
      · have := c5 (by simp [h2]); omega
      · have := c4 (by simp [h2]); omega
    unfold itemS
    simp only
    rw [n1]
    simp only [if_true]
    have hgb : goBelowM s (d + 1) { t with k := skipBl s t.k } = .ok () { t with k := t.k + nl.length + 2 * (d + 1), ind := 2 * (d + 1) } := by
      unfold goBelowM nextM
      simp only
      rw [n2, c1]
      simp only
      rw [skip_at c3, if_pos ⟨trivial, hkq⟩]
    rw [hgb, Res.bind_ok, beginM_go (t := { t with k := t.k + nl.length + 2 * (d + 1), ind := 2 * (d + 1) }) g1 g2, Res.bind_ok]
    unfold blockM
    simp only
    rw [skip_at c3]
    have hdec : decide (kindAt s (t.k + nl.length + 2 * (d + 1)) ≠ 4) = (kind == 2) := by
      by_cases h2 : kind = 2
      · have := c5 (by simp [h2])
        rw [show (kind == 2) = true by simp [h2], decide_eq_true_eq]; omega
      · have := c4 (by simp [h2])
        rw [show (kind == 2) = false by simp [h2], decide_eq_false_iff_not]; omega
    rw [hdec]
    have hle := h4.le (by
      cases kids with
      | nil => exact absurd rfl hne
      | cons => rw [Frst.lns_cons]; split <;> simp)
    have hlen := lns_len (sep := sep) (nl := nl) kids (d + 1) (kind == 2)
    have hlaw := hkids f (d + 1) (kind == 2) t.nodes.length [] [] (s.size + 1) { begun none t with k := t.k + nl.length + 2 * (d + 1), ind := 2 * (d + 1) } (t.k + nl.length) p1 hne hfk (by omega) hlok
      (Frst.fits_k B kids _ _ _ _ (by rw [show (((d + 1 : Nat) : Int) + 2) = (d : Int) + 2 + 1 by push_cast; omega]; exact g7)) (fun hm => by
        have := g6 (by simpa using hm)
        simpa using this) h4 rfl (by rw [hp, List.length_append]; omega) hend
    have hlaw' : blockLoop s (itemS s B (blockM s B f) (d + 1)) t.nodes.length (d + 1) (kind == 2) (s.size + 1) [] [] { t with k := t.k + nl.length + 2 * (d + 1), ind := 2 * (d + 1), nodes := t.nodes ++ [NodeV.blank] } = _ := hlaw
    rw [hlaw', Res.bind_ok, Frst.run_k]
    unfold idOf after
    rw [if_neg h3, if_neg h3]
    have hmk : (⟨if (kind == 2) = true then 2 else 1, ByteArray.empty, [] ++ (if (kind == 2) = true then kids.keysOf else []), [] ++ (kids.run (begun none t)).1, 0, 0⟩ : NodeV) = mkNode kind text kids.keysOf (kids.run (begun none t)).1 := by
      rcases hkd with rfl | rfl <;> rfl
    have hmk2 : ({ NodeV.blank with kind := if (kind == 2) = true then 2 else 1, keys := [] ++ (if (kind == 2) = true then kids.keysOf else []), parts := [] ++ (kids.run (begun none t)).1 } : NodeV) = mkNode kind text kids.keysOf (kids.run (begun none t)).1 := hmk
    simp only
    rw [hmk2]
    rfl

/-- The rounds of a block read what is written. -/
theorem blk_law (hsep : sep = [44] ∨ sep = [44, 32]) (hnl : NlOk nl) (hD : B.depth ≤ 20) (F : Frst) : BlkLaw s B sep nl F := by
  induction F with
  | nil => intro f d m id keys parts n t p p' h; exact absurd rfl h
  | cons key nm kind text blw kids rest ih1 ih2 =>
    intro f d m id keys parts n t p p' _ hf hn hlok hfit hkeys h ht hp' hend
    obtain ⟨hI, hR⟩ := fits_cons.1 hfit
    obtain ⟨hl1, hl2⟩ := hlok
    have hfI : kind ≠ 3 → kids.hgt + 1 ≤ f := fun h3 => by
      unfold Frst.hgt at hf
      rw [if_neg h3] at hf
      omega
    have hfR : rest.hgt ≤ f := by
      unfold Frst.hgt at hf
      split at hf
      · exact hf
      · omega
    obtain ⟨n, rfl⟩ : ∃ g, n = g + 1 := ⟨n - 1, by unfold Frst.len at hn; omega⟩
    have hnR : rest.len ≤ n := by unfold Frst.len at hn; omega
    obtain ⟨_, _, hb32, hsg1, hsg2⟩ := lns_first (F := .cons key nm kind text blw kids rest) (w := []) (fun e => by cases e) (by rw [List.append_nil]; exact h)
    rw [Frst.lns_cons] at h hp'
    obtain ⟨_, h2⟩ := h.app
    rw [List.length_replicate, ← ht] at h2
    rw [← ht] at hb32 hsg1 hsg2
    obtain ⟨h3, h4⟩ := h2.app
    obtain ⟨h5, h6⟩ := h4.app
    rw [run_cons]
    -- the sign
    have hsgn : (if m then keyM s keys t else (expectM s 4 t).bind fun _ t1 => .ok keys t1) = .ok (keys ++ (if m then [key] else [])) { t with k := t.k + (if m then textL key ++ [58] else [45]).length } := by
      cases m with
      | false =>
        simp only [Bool.false_eq_true, if_false]
        rw [expectM_at (skip_at hb32) (hsg1 rfl)]
        simp
      | true =>
        simp only [if_true] at h3 hkeys ⊢
        obtain ⟨p1, p2⟩ := h3.app
        obtain ⟨p3, p4, _⟩ := p2.head
        have hkt : TokOk key := (hkeys trivial).1 key (by unfold Frst.keysOf; exact List.mem_cons_self ..)
        obtain ⟨a, b, c⟩ := text_at hkt p1 (by rw [p4]; decide)
        have hnot : key ∉ keys := by
          have := (hkeys trivial).2
          unfold Frst.keysOf at this
          rw [List.nodup_append] at this
          intro hm
          exact this.2.2 key hm key (List.mem_cons_self ..) rfl
        rw [keyM_at (skip_at c) a b hnot p4 p3]
        simp only [List.length_append, List.length_cons, List.length_nil]
        rw [show t.k + (textL key).length + 1 = t.k + ((textL key).length + (0 + 1)) by omega]
    have hout : ∃ p1, p1 = t.k + (if m then textL key ++ [58] else [45]).length + (if blw then nl ++ kids.lns sep nl (d + 1) (kind == 2) else 32 :: (itemT nm kind text (kids.txt sep (kind == 2) true) ++ nl)).length := ⟨_, rfl⟩
    obtain ⟨p1, hp1⟩ := hout
    rw [← hp1] at h6
    have hpp : p' = p1 + (rest.lns sep nl d m).length := by
      rw [hp', hp1, ht]
      simp only [List.length_append, List.length_replicate]
      omega
    have hendI : kindAt s (nlGo s p1 p1).2 = 0 ∨ (nlGo s p1 p1).1 < 2 * (d + 1) := by
      cases hrest : rest with
      | nil =>
        rw [hrest, Frst.lns_nil] at hpp
        simp only [List.length_nil, Nat.add_zero] at hpp
        rw [hpp] at hend
        omega
      | cons =>
        have := (lns_first (w := []) (show rest ≠ .nil by rw [hrest]; exact fun e => by cases e) (by rw [List.append_nil]; exact h6)).1
        rw [this]
        right; simp only; omega
    have hit := item_line hsep hnl hD ih1 (t := { t with k := t.k + (if m then textL key ++ [58] else [45]).length }) hfI hl1 (fitsI_k _ t.ind hI) h5 hp1 hendI
    rw [after_k1] at hit
    unfold blockLoop
    rw [hsgn, Res.bind_ok, hit, Res.bind_ok]
    simp only
    rw [nlGo_skip]
    have hid : idOf kind text { t with k := t.k + (if m then textL key ++ [58] else [45]).length } = idOf kind text t := rfl
    rw [hid]
    cases hrest : rest with
    | nil =>
      rw [hrest, Frst.lns_nil] at hpp
      simp only [List.length_nil, Nat.add_zero] at hpp
      subst hpp
      rw [if_pos hend]
      simp only [Frst.run, Frst.keysOf]
    | cons key' nm' kind' text' blw' kids' rest' =>
      have hne : rest ≠ .nil := by rw [hrest]; exact fun e => by cases e
      rw [← hrest]
      obtain ⟨e1, e2, e3, e4, e5⟩ := lns_first (w := []) hne (by rw [List.append_nil]; exact h6)
      have hk0 : kindAt s (p1 + 2 * d) ≠ 0 := by
        cases m with
        | false => rw [e4 rfl]; omega
        | true => have := e5 rfl; omega
      rw [e1]
      simp only
      rw [if_neg (by omega), if_neg (by omega)]
      rw [ih2 f d m id (keys ++ (if m then [key] else [])) (parts ++ [idOf kind text t]) n { after nm kind text kids t with k := p1 + 2 * d, ind := 2 * d } p1 p' hne hfR hnR hl2 (Frst.fits_k B rest _ _ _ _ hR) (fun hm => by
        obtain ⟨a, b⟩ := hkeys hm
        rw [if_pos hm]
        unfold Frst.keysOf at a b
        exact ⟨fun x hx => a x (List.mem_cons_of_mem _ hx), by simpa using b⟩) h6 rfl hpp hend]
      rw [Frst.run_k]
      simp only [Frst.keysOf, List.append_assoc]
      cases m <;> rfl

/-- A whole text of lines. -/
theorem text_lines (hsep : sep = [44] ∨ sep = [44, 32]) (hnl : NlOk nl) (hD : B.depth ≤ 20) {F : Frst} {m : Bool} {t : PS} (hF : F ≠ .nil) (hl : F.lok) (htk : t.k = 0) (h1 : 1 ≤ B.depth) (h2 : (t.nodes.length : Int) < B.nodes) (hfit : F.fits B 2 (begun none t))
    (hkeys : m = true → (∀ x ∈ F.keysOf, TokOk x) ∧ F.keysOf.Nodup) (h : At s 0 (F.lns sep nl 0 m)) (hs : s.size = (F.lns sep nl 0 m).length) :
    ∃ a b, textM s B t = .ok () { endM t.nodes.length (mkNode (if m then 2 else 1) ByteArray.empty F.keysOf (F.run (begun none t)).1) (F.run (begun none t)).2 with k := a, ind := b } := by
  obtain ⟨c1, c2, c3, c4, c5⟩ := lns_first (w := []) hF (by rw [List.append_nil]; exact h)
  simp only [Nat.mul_zero, Nat.add_zero] at c1 c2 c3 c4 c5
  unfold textM nextM
  rw [htk, c1]
  simp only
  rw [if_neg (by omega)]
  have hah : aheadM s 0 = true := by
    unfold aheadM
    simp only
    rw [skip_at c3]
    cases m with
    | false => rw [if_pos (c4 rfl)]
    | true =>
      have hk := c5 rfl
      rw [if_neg (by omega), if_pos hk]
      cases F with
      | nil => exact absurd rfl hF
      | cons key nm kind text blw kids rest =>
        rw [Frst.lns_cons] at h
        simp only [Nat.mul_zero, List.replicate_zero, List.nil_append, if_true, List.append_assoc, List.cons_append] at h
        obtain ⟨p1, p2⟩ := h.app
        obtain ⟨p3, p4, _⟩ := p2.head
        have hkt : TokOk key := (hkeys rfl).1 key (by unfold Frst.keysOf; exact List.mem_cons_self ..)
        obtain ⟨_, b, _⟩ := text_at hkt p1 (by rw [p4]; decide)
        rw [b]
        simp only
        rw [skip_at (by rw [p4]; decide), kindAt_byte p3 p4]
        rfl
  unfold topM
  simp only
  rw [hah]
  simp only [if_true]
  rw [beginM_go (t := { t with k := 0, ind := 0 }) h1 h2, Res.bind_ok]
  unfold blockM
  simp only
  rw [skip_at c3]
  have hdec : decide (kindAt s 0 ≠ 4) = m := by
    cases m with
    | false => rw [decide_eq_false_iff_not]; have := c4 rfl; omega
    | true => rw [decide_eq_true_eq]; have := c5 rfl; omega
  rw [hdec]
  have hlen := lns_len (sep := sep) (nl := nl) F 0 m
  have hg : F.hgt ≤ 20 := by
    have := Frst.hgt_le F _ _ hfit
    omega
  have hfin : kindAt s (nlGo s (0 + (F.lns sep nl 0 m).length) (0 + (F.lns sep nl 0 m).length)).2 = 0 := by
    rw [nlGo_end s _ _ (by omega)]
    simp only
    rw [kindAt, if_neg (by omega)]
  have hlaw := blk_law hsep hnl hD F 20 0 m t.nodes.length [] [] (s.size + 1) { begun none t with k := 0, ind := 0 } 0 _ hF hg (by omega) hl (Frst.fits_k B F _ _ _ _ (by simpa using hfit)) (by simpa using hkeys) h rfl rfl (.inl hfin)
  have hlaw' : blockLoop s (itemS s B (blockM s B 20) 0) t.nodes.length 0 m (s.size + 1) [] [] { t with k := 0, ind := 0, nodes := t.nodes ++ [NodeV.blank] } = _ := hlaw
  rw [hlaw', Res.bind_ok, Frst.run_k]
  have hk0 : kindAt s (skipBl s (nlGo s (0 + (F.lns sep nl 0 m).length) (0 + (F.lns sep nl 0 m).length)).2) = 0 := by rw [nlGo_skip]; exact hfin
  have hmk : ({ NodeV.blank with kind := if m = true then 2 else 1, keys := [] ++ (if m = true then F.keysOf else []), parts := [] ++ (F.run (begun none t)).1 } : NodeV) = mkNode (if m then 2 else 1) ByteArray.empty F.keysOf (F.run (begun none t)).1 := by
    cases m <;> rfl
  simp only
  rw [hmk]
  show ∃ a b, (if kindAt s (skipBl s (nlGo s (0 + (F.lns sep nl 0 m).length) (0 + (F.lns sep nl 0 m).length)).2) = 0 then _ else _) = _
  rw [if_pos hk0]
  exact ⟨_, _, rfl⟩

end

end Go.Proofs.YtkflkmmbakccoaaGreatDoor.Q

/- THE PLAIN FUNCTIONS: trees: items without names. What the reader makes of them. No program is named here. -/
namespace Go.Proofs.YtkflkmmbakccoaaGreatDoor.Q

namespace Frst

/-- No item has a name or is an alias; texts and keys may stand in a node. -/
def tree : Frst → Prop
  | .nil => True
  | .cons _ nm kind text _ kids rest => nm = none ∧ (kind ≤ 2 ∨ kind = 4) ∧ (kind = 0 ∨ kind = 4 → TokOk text ∧ kids = .nil) ∧ (kind = 2 → (∀ x ∈ kids.keysOf, TokOk x) ∧ kids.keysOf.Nodup) ∧ kids.tree ∧ rest.tree

def size : Frst → Nat
  | .nil => 0
  | .cons _ _ _ _ _ kids rest => 1 + kids.size + rest.size

def hi : Frst → Nat
  | .nil => 0
  | .cons _ _ _ _ _ kids rest => max (kids.hi + 1) rest.hi

/-- What these items weigh, on top of so much, cut. -/
def hv : Frst → Nat → Nat
  | .nil, a => a
  | .cons _ _ _ _ _ kids rest, a => rest.hv (min (a + kids.hv 1) 1000000000001)

def ids : Frst → Nat → List Nat
  | .nil, _ => []
  | .cons _ _ _ _ _ kids rest, b => b :: rest.ids (b + 1 + kids.size)

/-- The nodes of items. -/
def flat : Frst → Nat → List NodeV
  | .nil, _ => []
  | .cons _ _ kind text _ kids rest, b => { mkNode kind text kids.keysOf (kids.ids (b + 1)) with high := kids.hi + 1, heavy := kids.hv 1 } :: (kids.flat (b + 1) ++ rest.flat (b + 1 + kids.size))

theorem flat_len (F : Frst) : ∀ b, (F.flat b).length = F.size := by
  induction F with
  | nil => intro b; rfl
  | cons key nm kind text blw kids rest ih1 ih2 =>
    intro b
    simp only [flat, size, List.length_cons, List.length_append, ih1, ih2]
    omega

end Frst

namespace Frst

theorem fold_hi {N : List NodeV} (F : Frst) : ∀ b a, Stand N b (F.flat b) → (F.ids b).foldl (fun a i => max a (highOf N i)) a = max a F.hi := by
  induction F with
  | nil => intro b a _; simp [ids, hi]
  | cons key nm kind text blw kids rest ih1 ih2 =>
    intro b a h
    unfold flat at h
    obtain ⟨h1, h2⟩ := h.cons
    obtain ⟨_, h4⟩ := h2.app
    rw [flat_len] at h4
    simp only [ids, List.foldl_cons, hi]
    rw [highOf_get h1, ih2 _ _ h4]
    simp only
    omega

theorem fold_hv {N : List NodeV} (F : Frst) : ∀ b a, Stand N b (F.flat b) → (F.ids b).foldl (fun a i => min (a + heavyOf N i) 1000000000001) a = F.hv a := by
  induction F with
  | nil => intro b a _; simp [ids, hv]
  | cons key nm kind text blw kids rest ih1 ih2 =>
    intro b a h
    unfold flat at h
    obtain ⟨h1, h2⟩ := h.cons
    obtain ⟨_, h4⟩ := h2.app
    rw [flat_len] at h4
    simp only [ids, List.foldl_cons, hv]
    rw [heavyOf_get h1, ih2 _ _ h4]

/-- The reader makes of a tree its nodes, in their order. -/
theorem run_tree (F : Frst) : ∀ t : PS, F.tree → F.run t = (F.ids t.nodes.length, { t with nodes := t.nodes ++ F.flat t.nodes.length }) := by
  induction F with
  | nil => intro t _; simp [run, ids, flat]
  | cons key nm kind text blw kids rest ih1 ih2 =>
    intro t h
    obtain ⟨rfl, h2, _, _, h5, h6⟩ := h
    rw [run_cons]
    have h3 : kind ≠ 3 := by omega
    have hb : begun none t = { t with nodes := t.nodes ++ [NodeV.blank] } := rfl
    have hl : (t.nodes ++ [NodeV.blank]).length = t.nodes.length + 1 := by simp
    have ha : after none kind text kids t = { t with nodes := t.nodes ++ ({ mkNode kind text kids.keysOf (kids.ids (t.nodes.length + 1)) with high := kids.hi + 1, heavy := kids.hv 1 } :: kids.flat (t.nodes.length + 1)) } := by
      unfold after
      rw [if_neg h3, hb, ih1 _ h5]
      simp only [hl]
      show endM _ _ _ = _
      unfold endM
      simp only
      have hst : Stand (t.nodes ++ [NodeV.blank] ++ kids.flat (t.nodes.length + 1)) (t.nodes.length + 1) (kids.flat (t.nodes.length + 1)) := by
        have := Stand.of_app (t.nodes ++ [NodeV.blank]) (kids.flat (t.nodes.length + 1)) []
        rw [hl, List.append_nil] at this
        exact this
      have e1 := fold_hi kids _ 0 hst
      have e2 := fold_hv kids _ 1 hst
      have em : measured (t.nodes ++ [NodeV.blank] ++ kids.flat (t.nodes.length + 1)) (mkNode kind text kids.keysOf (kids.ids (t.nodes.length + 1))) = { mkNode kind text kids.keysOf (kids.ids (t.nodes.length + 1)) with high := kids.hi + 1, heavy := kids.hv 1 } := by
        unfold measured
        have p : (mkNode kind text kids.keysOf (kids.ids (t.nodes.length + 1))).parts = kids.ids (t.nodes.length + 1) := rfl
        rw [p, e1, e2, Nat.zero_max]
        rfl
      rw [em, List.append_assoc, List.set_append_right _ _ (Nat.le_refl _), Nat.sub_self]
      rfl
    rw [ha, ih2 _ h6]
    have hid : idOf kind text t = t.nodes.length := by unfold idOf; rw [if_neg h3]
    rw [hid]
    have hl2 : (t.nodes ++ ({ mkNode kind text kids.keysOf (kids.ids (t.nodes.length + 1)) with high := kids.hi + 1, heavy := kids.hv 1 } :: kids.flat (t.nodes.length + 1))).length = t.nodes.length + 1 + kids.size := by
      simp only [List.length_append, List.length_cons, flat_len]; omega
    simp only [hl2, ids, flat, List.append_assoc, List.cons_append]

theorem fits_tree {B : Bud} (F : Frst) : ∀ (lv : Int) (t : PS), F.tree → lv + (F.hi : Int) ≤ B.depth + 1 → (t.nodes.length : Int) + (F.size : Int) ≤ B.nodes → F.fits B lv t := by
  induction F with
  | nil => intro lv t _ _ _; trivial
  | cons key nm kind text blw kids rest ih1 ih2 =>
    intro lv t h hd hn
    have hh := h
    obtain ⟨rfl, h2, h3, h4, h5, h6⟩ := h
    unfold hi at hd
    unfold size at hn
    push_cast at hd hn
    have hk3 : kind ≠ 3 := by omega
    refine fits_cons.2 ⟨⟨fun e => absurd e hk3, fun _ => ⟨by omega, by omega, (fun x e => by cases e), h2, h3, h4, ih1 _ _ h5 (by omega) ?_⟩⟩, ih2 _ _ h6 (by omega) ?_⟩
    · show (((t.nodes ++ [NodeV.blank]).length : Nat) : Int) + _ ≤ _
      rw [List.length_append, List.length_cons, List.length_nil]
      omega
    · have ha := run_tree (.cons key none kind text blw kids .nil) t ⟨rfl, h2, h3, h4, h5, trivial⟩
      rw [run_cons] at ha
      have := congrArg (fun r : List Nat × PS => r.2.nodes.length) ha
      simp only [run, flat, List.length_append, List.length_cons, flat_len, List.length_nil] at this
      rw [this]
      omega

theorem hv_size (F : Frst) : ∀ a, a + F.size ≤ 1000000000001 → F.hv a = a + F.size := by
  induction F with
  | nil => intro a _; simp [hv, size]
  | cons key nm kind text blw kids rest ih1 ih2 =>
    intro a h
    unfold size at h
    simp only [hv, size]
    rw [ih1 1 (by omega), Nat.min_eq_left (by omega), ih2 _ (by omega)]
    omega

end Frst

end Go.Proofs.YtkflkmmbakccoaaGreatDoor.Q

/- THE PLAIN FUNCTIONS: what is unfolded, as a tree: how it is written, how heavy it is. No program is named here. -/
namespace Go.Proofs.YtkflkmmbakccoaaGreatDoor

/-- Items of parts. -/
def frL (N : List NodeV) (go : Nat → Frst) : List Nat → List ByteArray → Frst
  | [], _ => .nil
  | p :: ps, keys => .cons (keys.headD ByteArray.empty) none (nodeAt N p).kind (nodeAt N p).text false (go p) (frL N go ps keys.tail)

/-- What is in a node, each place with a node of its own. -/
def kidsF (N : List NodeV) : Nat → Nat → Frst
  | 0, _ => .nil
  | f + 1, id => frL N (kidsF N f) (nodeAt N id).parts (nodeAt N id).keys

theorem frL_nil (N : List NodeV) (go : Nat → Frst) (ps : List Nat) (keys : List ByteArray) : frL N go ps keys = .nil ↔ ps = [] := by
  cases ps with
  | nil => simp [frL]
  | cons p ps => simp [frL]

theorem frL_keys (N : List NodeV) (go : Nat → Frst) (ps : List Nat) : ∀ keys : List ByteArray, keys.length = ps.length → (frL N go ps keys).keysOf = keys := by
  induction ps with
  | nil => intro keys h; cases keys with
    | nil => rfl
    | cons k ks => simp at h
  | cons p ps ih =>
    intro keys h
    cases keys with
    | nil => simp at h
    | cons k ks =>
      simp only [frL, Frst.keysOf, List.headD_cons, List.tail_cons]
      rw [ih ks (by simpa using h)]

/-- What is unfolded is written as its tree is. -/
theorem unf_txt {N : List NodeV} (hW : Whole N) (f : Nat) : ∀ id, id < N.length → highOf N id < f → unfM N f id = itemT none (nodeAt N id).kind (nodeAt N id).text ((kidsF N f id).txt [44, 32] ((nodeAt N id).kind == 2) true) := by
  induction f with
  | zero => intro id _ h; omega
  | succ f ih =>
    intro id hid hf
    have hk := (hW.node hid).kind
    have key : ∀ (ps : List Nat) (i : Nat), (∀ p ∈ ps, p ∈ (nodeAt N id).parts) → unfP N (unfM N f) id ps i = (frL N (kidsF N f) ps ((nodeAt N id).keys.drop i)).txt [44, 32] ((nodeAt N id).kind == 2) (decide (i = 0)) := by
      intro ps
      induction ps with
      | nil => intro i _; rfl
      | cons p ps ihp =>
        intro i hp
        have hpm := hp p (List.mem_cons_self ..)
        obtain ⟨h1, h2⟩ := hW.part hid hpm
        simp only [unfP, frL, Frst.txt_cons]
        rw [ihp (i + 1) (fun q hq => hp q (List.mem_cons_of_mem _ hq)), ih p h1 (by omega), List.tail_drop]
        have hhd : ((nodeAt N id).keys.drop i).headD ByteArray.empty = (nodeAt N id).keys.getD i ByteArray.empty := by
          rw [List.headD_eq_head?_getD, List.head?_drop, List.getD_eq_getElem?_getD]
        rw [hhd]
        unfold leadL
        by_cases hi : i = 0
        · subst hi
          by_cases h2 : (nodeAt N id).kind = 2 <;> simp [h2]
        · by_cases h2 : (nodeAt N id).kind = 2 <;> simp [h2, hi, Nat.pos_of_ne_zero hi]
    unfold unfM
    rw [key (nodeAt N id).parts 0 (fun p hp => hp), List.drop_zero]
    have hkf : kidsF N (f + 1) id = frL N (kidsF N f) (nodeAt N id).parts (nodeAt N id).keys := rfl
    rw [hkf]
    simp only [decide_true]
    by_cases h0 : (nodeAt N id).kind = 0
    · have hp := (hW.node hid).none h0
      rw [hp]
      simp [openL, shutL, itemT, h0, frL, Frst.txt_nil]
    · obtain ⟨o1, o2⟩ := open_kind hk h0
      rw [o1, o2]
      unfold itemT
      have h3 : (nodeAt N id).kind ≠ 3 := by omega
      by_cases h2 : (nodeAt N id).kind = 2
      · simp [h2]
      · have h1 : (nodeAt N id).kind = 1 := by omega
        simp [h1]

theorem kids_tree {N : List NodeV} (hW : Whole N) (f : Nat) : ∀ id, id < N.length → highOf N id < f → (kidsF N f id).tree ∧ ((nodeAt N id).kind = 2 → (∀ x ∈ (kidsF N f id).keysOf, TokOk x) ∧ (kidsF N f id).keysOf.Nodup) ∧ ((nodeAt N id).kind = 0 → kidsF N f id = .nil) ∧ (kidsF N f id).hi + 1 = highOf N id := by
  induction f with
  | zero => intro id _ h; omega
  | succ f ih =>
    intro id hid hf
    have hn := hW.node hid
    have hkf : kidsF N (f + 1) id = frL N (kidsF N f) (nodeAt N id).parts (nodeAt N id).keys := rfl
    rw [hkf]
    refine ⟨?_, fun h2 => ?_, fun h0 => ?_, ?_⟩
    · have key : ∀ (ps : List Nat) (keys : List ByteArray), (∀ p ∈ ps, p ∈ (nodeAt N id).parts) → (frL N (kidsF N f) ps keys).tree := by
        intro ps
        induction ps with
        | nil => intro keys _; trivial
        | cons p ps ihp =>
          intro keys hp
          obtain ⟨h1, h2⟩ := hW.part hid (hp p (List.mem_cons_self ..))
          obtain ⟨a, b, c, _⟩ := ih p h1 (by omega)
          exact ⟨rfl, (hW.node h1).kind, fun h0 => ⟨(hW.node h1).text, c h0⟩, b, a, ihp _ (fun q hq => hp q (List.mem_cons_of_mem _ hq))⟩
      exact key _ _ (fun p hp => hp)
    · have hk := hn.keys
      rw [if_pos h2] at hk
      rw [frL_keys N _ _ _ hk]
      exact ⟨hn.words, hn.apart⟩
    · rw [frL_nil]; exact hn.none h0
    · have key : ∀ (ps : List Nat) (keys : List ByteArray) (a : Nat), (∀ p ∈ ps, p ∈ (nodeAt N id).parts) → max a (frL N (kidsF N f) ps keys).hi = ps.foldl (fun a i => max a (highOf N i)) a := by
        intro ps
        induction ps with
        | nil => intro keys a _; simp [frL, Frst.hi]
        | cons p ps ihp =>
          intro keys a hp
          obtain ⟨h1, h2⟩ := hW.part hid (hp p (List.mem_cons_self ..))
          obtain ⟨_, _, _, c⟩ := ih p h1 (by omega)
          simp only [frL, Frst.hi, List.foldl_cons]
          rw [← ihp keys.tail _ (fun q hq => hp q (List.mem_cons_of_mem _ hq)), c]
          omega
      have h := key (nodeAt N id).parts (nodeAt N id).keys 0 (fun p hp => hp)
      have hh := hn.high
      have e : highOf N id = (nodeAt N id).high := rfl
      rw [e, hh, ← h]
      omega

/-- What is unfolded has as many nodes as it weighs. -/
theorem kids_size {N : List NodeV} (hW : Whole N) (f : Nat) : ∀ id, id < N.length → highOf N id < f → heavyOf N id < 1000000000001 → 1 + (kidsF N f id).size = heavyOf N id := by
  induction f with
  | zero => intro id _ h; omega
  | succ f ih =>
    intro id hid hf hh
    have hkf : kidsF N (f + 1) id = frL N (kidsF N f) (nodeAt N id).parts (nodeAt N id).keys := rfl
    rw [hkf, hW.sum hid hh]
    have key : ∀ (ps : List Nat) (keys : List ByteArray), (∀ p ∈ ps, p ∈ (nodeAt N id).parts) → (frL N (kidsF N f) ps keys).size = (ps.map (heavyOf N)).sum := by
      intro ps
      induction ps with
      | nil => intro keys _; rfl
      | cons p ps ihp =>
        intro keys hp
        obtain ⟨h1, h2⟩ := hW.part hid (hp p (List.mem_cons_self ..))
        have h3 := hW.heavy_part hid hh (hp p (List.mem_cons_self ..))
        simp only [frL, Frst.size, List.map_cons, List.sum_cons]
        rw [ihp keys.tail (fun q hq => hp q (List.mem_cons_of_mem _ hq)), ← ih p h1 (by omega) (by omega)]
    rw [key _ _ (fun p hp => hp)]

/-- Each node that is come to writes so many bytes at most. -/
theorem unf_len {N : List NodeV} (hW : Whole N) (f : Nat) : ∀ id, id < N.length → highOf N id < f → heavyOf N id < 1000000000001 → (unfM N f id).length + 26 ≤ 49 * heavyOf N id := by
  induction f with
  | zero => intro id _ h; omega
  | succ f ih =>
    intro id hid hf hh
    have key : ∀ (ps : List Nat) (i : Nat), (∀ p ∈ ps, p ∈ (nodeAt N id).parts) → (unfP N (unfM N f) id ps i).length ≤ 49 * (ps.map (heavyOf N)).sum := by
      intro ps
      induction ps with
      | nil => intro i _; simp [unfP]
      | cons p ps ihp =>
        intro i hp
        obtain ⟨h1, h2⟩ := hW.part hid (hp p (List.mem_cons_self ..))
        have h3 := hW.heavy_part hid hh (hp p (List.mem_cons_self ..))
        have a := ih p h1 (by omega) (by omega)
        have b := ihp (i + 1) (fun q hq => hp q (List.mem_cons_of_mem _ hq))
        have c := leadL_len hW (p := id) (i := i) hid
        simp only [unfP, List.length_append, List.map_cons, List.sum_cons]
        omega
    have h1 := key (nodeAt N id).parts 0 (fun p hp => hp)
    have h2 := openL_len hW hid
    have h3 := shutL_len N id
    have h4 := hW.sum hid hh
    unfold unfM
    simp only [List.length_append]
    omega

end Go.Proofs.YtkflkmmbakccoaaGreatDoor

/- THE PLAIN FUNCTIONS: the plain form of a tree is the text that it was read from; what is unfolded is read again. No program is named here. -/
namespace Go.Proofs.YtkflkmmbakccoaaGreatDoor

theorem mk_kind (kind : Nat) (text : ByteArray) (keys : List ByteArray) (ids : List Nat) (h v : Nat) : ({ mkNode kind text keys ids with high := h, heavy := v } : NodeV).kind = kind := rfl
theorem mk_text (kind : Nat) (text : ByteArray) (keys : List ByteArray) (ids : List Nat) (h v : Nat) : ({ mkNode kind text keys ids with high := h, heavy := v } : NodeV).text = if kind = 0 then text else ByteArray.empty := rfl
theorem mk_keys (kind : Nat) (text : ByteArray) (keys : List ByteArray) (ids : List Nat) (h v : Nat) : ({ mkNode kind text keys ids with high := h, heavy := v } : NodeV).keys = if kind = 2 then keys else [] := rfl
theorem mk_parts (kind : Nat) (text : ByteArray) (keys : List ByteArray) (ids : List Nat) (h v : Nat) : ({ mkNode kind text keys ids with high := h, heavy := v } : NodeV).parts = ids := rfl

/-- A walk over a tree comes to nothing again. -/
theorem ag_tree {N : List NodeV} (F : Frst) : ∀ b f met l, F.tree → Stand N b (F.flat b) → F.hi < f → (∀ x ∈ met, x < b) → ∃ met', agP (agM N f) (F.ids b) (met, l) = (met', l) ∧ ∀ x ∈ met', x < b + F.size := by
  induction F with
  | nil => intro b f met l _ _ _ hm; exact ⟨met, rfl, fun x hx => by have := hm x hx; omega⟩
  | cons key nm kind text blw kids rest ih1 ih2 =>
    intro b f met l ht hst hf hm
    obtain ⟨_, _, _, _, h5, h6⟩ := ht
    unfold Frst.flat at hst
    obtain ⟨g1, g2⟩ := hst.cons
    obtain ⟨g3, g4⟩ := g2.app
    rw [Frst.flat_len] at g4
    unfold Frst.hi at hf
    obtain ⟨f, rfl⟩ : ∃ g, f = g + 1 := ⟨f - 1, by omega⟩
    obtain ⟨m1, e1, k1⟩ := ih1 (b + 1) f (b :: met) [] h5 g3 (by omega) (fun x hx => by
      rcases List.mem_cons.1 hx with rfl | hx
      · omega
      · have := hm x hx; omega)
    obtain ⟨m2, e2, k2⟩ := ih2 (b + 1 + kids.size) (f + 1) m1 l h6 g4 (by omega) k1
    refine ⟨m2, ?_, fun x hx => by have := k2 x hx; simp only [Frst.size]; omega⟩
    have e : agM N (f + 1) b met = (m1, []) := by
      rw [agM, if_neg (fun h => by have := hm b h; omega), nodeAt_get g1, mk_parts]
      exact e1
    simp only [Frst.ids, agP]
    rw [e]
    exact e2

/-- The plain form of a tree. -/
theorem tell_tree {N : List NodeV} (F : Frst) : ∀ b f met p i st, F.tree → Stand N b (F.flat b) → F.hi < f → (∀ x ∈ met, x < b) → ((nodeAt N p).kind = 2 → (nodeAt N p).keys.drop i = F.keysOf) →
    ∃ met', tellP N (tellM N [] f) p (F.ids b) i (st, met) = (st ++ F.txt [44, 32] ((nodeAt N p).kind == 2) (decide (i = 0)), met') ∧ ∀ x ∈ met', x < b + F.size := by
  induction F with
  | nil => intro b f met p i st _ _ _ hm _; exact ⟨met, by simp [Frst.ids, tellP, Frst.txt_nil], fun x hx => by have := hm x hx; omega⟩
  | cons key nm kind text blw kids rest ih1 ih2 =>
    intro b f met p i st ht hst hf hm hkeys
    obtain ⟨rfl, h2, h3, _, h5, h6⟩ := ht
    unfold Frst.flat at hst
    obtain ⟨g1, g2⟩ := hst.cons
    obtain ⟨g3, g4⟩ := g2.app
    rw [Frst.flat_len] at g4
    unfold Frst.hi at hf
    obtain ⟨f, rfl⟩ : ∃ g, f = g + 1 := ⟨f - 1, by omega⟩
    have hn := nodeAt_get g1
    obtain ⟨m1, e1, k1⟩ := ih1 (b + 1) f (b :: met) b 0 (headL [] b ++ openL N b) h5 g3 (by omega) (fun x hx => by
      rcases List.mem_cons.1 hx with rfl | hx
      · omega
      · have := hm x hx; omega) (fun hk => by rw [hn, mk_kind] at hk; rw [hn, mk_keys, if_pos hk, List.drop_zero])
    have e : tellM N [] (f + 1) b met = (itemT none kind text (kids.txt [44, 32] (kind == 2) true), m1) := by
      rw [tellM, if_neg (fun h => by have := hm b h; omega), hn, mk_parts]
      simp only
      rw [e1, hn, mk_kind]
      simp only [decide_true]
      congr 1
      have hh : headL [] b = [] := by simp [headL]
      rw [hh, List.nil_append]
      unfold openL shutL itemT
      rw [hn, mk_kind, mk_text]
      have hkk : kind = 0 ∨ kind = 1 ∨ kind = 2 := by omega
      rcases hkk with rfl | rfl | rfl
      · obtain ⟨_, rfl⟩ := h3 rfl
        simp [Frst.txt_nil]
      · simp
      · simp
    obtain ⟨m2, e2, k2⟩ := ih2 (b + 1 + kids.size) (f + 1) m1 p (i + 1) (st ++ leadL N (some (p, i)) ++ itemT none kind text (kids.txt [44, 32] (kind == 2) true)) h6 g4 (by omega) k1 (fun hk => by
      have := hkeys hk
      rw [← List.tail_drop, this]
      rfl)
    refine ⟨m2, ?_, fun x hx => by have := k2 x hx; simp only [Frst.size]; omega⟩
    simp only [Frst.ids, tellP]
    rw [e]
    simp only
    rw [e2, Frst.txt_cons]
    congr 1
    have hl : leadL N (some (p, i)) = (if decide (i = 0) then [] else [44, 32]) ++ (if ((nodeAt N p).kind == 2) = true then textL key ++ [58, 32] else []) := by
      have q1 : (if 0 < i then ([44, 32] : List UInt8) else []) = (if decide (i = 0) then [] else [44, 32]) := by
        by_cases hi : i = 0
        · simp [hi]
        · simp [hi, Nat.pos_of_ne_zero hi]
      have q2 : (if (nodeAt N p).kind = 2 then textL ((nodeAt N p).keys.getD i ByteArray.empty) ++ [58, 32] else []) = (if ((nodeAt N p).kind == 2) = true then textL key ++ [58, 32] else []) := by
        by_cases h2 : (nodeAt N p).kind = 2
        · have hd := hkeys h2
          have h0 : ((nodeAt N p).keys.drop i)[0]? = some key := by rw [hd]; rfl
          rw [List.getElem?_drop, Nat.add_zero] at h0
          have h1 : (nodeAt N p).keys.getD i ByteArray.empty = key := by
            rw [List.getD_eq_getElem?_getD, h0]
            rfl
          rw [if_pos h2, h1, if_pos (by simp [h2])]
        · rw [if_neg h2, if_neg (by simp [h2])]
      unfold leadL
      rw [← q1, ← q2]
    rw [hl]
    simp [List.append_assoc]

/-- A tree's plain form, of a tree that is read alone. -/
theorem plain_tree {kind : Nat} {text : ByteArray} {kids : Frst} (ht : (Frst.cons ByteArray.empty none kind text false kids .nil).tree) (hh : kids.hi + 1 < 101) :
    plainM ((Frst.cons ByteArray.empty none kind text false kids .nil).flat 0) 0 = itemT none kind text (kids.txt [44, 32] (kind == 2) true) := by
  have hst : Stand ((Frst.cons ByteArray.empty none kind text false kids .nil).flat 0) 0 ((Frst.cons ByteArray.empty none kind text false kids .nil).flat 0) := fun i hi => by rw [Nat.zero_add]
  generalize hN : (Frst.cons ByteArray.empty none kind text false kids .nil).flat 0 = N at *
  rw [← hN] at hst
  have hst0 : Stand N 0 ((Frst.cons ByteArray.empty none kind text false kids .nil).flat 0) := by rw [hN] at hst ⊢; exact hst
  clear hst
  obtain ⟨m1, e1, _⟩ := ag_tree (N := N) (.cons ByteArray.empty none kind text false kids .nil) 0 101 [] [] ht hst0 (by simp only [Frst.hi]; omega) (fun x hx => by cases hx)
  simp only [Frst.ids, agP, List.append_nil] at e1
  have hag : (agM N 101 0 []).2 = [] := congrArg Prod.snd e1
  unfold plainM
  rw [hag]
  have hflat := hst0
  unfold Frst.flat at hflat
  obtain ⟨g1, _⟩ := hflat.cons
  -- a place with no key
  obtain ⟨m2, e2, _⟩ := tell_tree (N := N) (.cons ByteArray.empty none kind text false kids .nil) 0 101 [] N.length 0 [] ht hst0 (by simp only [Frst.hi]; omega) (fun x hx => by cases hx) (fun hk => by
    rw [show nodeAt N N.length = NodeV.blank by simp [nodeAt, List.getD]] at hk
    simp [NodeV.blank] at hk)
  have hb : nodeAt N N.length = NodeV.blank := by simp [nodeAt, List.getD]
  simp only [Frst.ids, tellP, List.nil_append] at e2
  have hl : leadL N (some (N.length, 0)) = [] := by simp [leadL, hb, NodeV.blank]
  rw [hl, List.nil_append] at e2
  have := congrArg Prod.fst e2
  simp only at this
  rw [this, hb]
  simp [Frst.txt_cons, Frst.txt_nil, NodeV.blank]

theorem nlGo_head {s : ByteArray} {k : Nat} (h : k < s.size) (h1 : byteAt s k ≠ 32) (h2 : kindAt s k ≠ 1) : nlGo s k k = (0, k) := by
  have h3 : byteAt s k ≠ 10 := fun e => h2 (by rw [kindAt_byte h e]; rfl)
  rw [nlGo_stop s k k h h3 h1, Nat.sub_self]

/-- A text that is one item alone is read. -/
theorem text_one {B : Bud} {nm : Option ByteArray} {kind : Nat} {text : ByteArray} {kids : Frst} {t : PS} (hD : B.depth ≤ 20) (htk : t.k = 0) (hfit : fitsI B nm kind text kids 1 t) :
    ∃ a b, textM ⟨(itemT nm kind text (kids.txt [44, 32] (kind == 2) true)).toArray⟩ B t = .ok () { after nm kind text kids t with k := a, ind := b } := by
  have hat := At.all (itemT nm kind text (kids.txt [44, 32] (kind == 2) true))
  have hsz : (⟨(itemT nm kind text (kids.txt [44, 32] (kind == 2) true)).toArray⟩ : ByteArray).size = (itemT nm kind text (kids.txt [44, 32] (kind == 2) true)).length := by simp [ByteArray.size]
  obtain ⟨f1, f2⟩ := item_first (w := []) (by rw [List.append_nil]; exact hat)
  have hlt : 0 < (⟨(itemT nm kind text (kids.txt [44, 32] (kind == 2) true)).toArray⟩ : ByteArray).size := kindAt_lt (by omega)
  have hend : ¬ 0 + (itemT nm kind text (kids.txt [44, 32] (kind == 2) true)).length < (⟨(itemT nm kind text (kids.txt [44, 32] (kind == 2) true)).toArray⟩ : ByteArray).size := by rw [hsz]; omega
  refine text_flow (.inr rfl) hD htk (nlGo_head hlt f1 (by omega)) hfit hat ?_ ?_
  · rw [skipBl_end _ _ hend]
    unfold lineOver
    rw [kindAt, if_neg hend]
    rfl
  · rw [skipBl_end _ _ hend, nlGo_end _ _ _ hend]
    simp only
    rw [kindAt, if_neg hend]

/-- What is unfolded is read again: as many nodes as it weighs, as high, and its plain form is its own. -/
theorem unf_read {N : List NodeV} (hW : Whole N) (h0 : 0 < N.length) (hd : (highOf N 0 : Int) ≤ 20) (hw : heavyOf N 0 ≤ 500) {B : Bud} (hD : B.depth = 20) (hN : B.nodes = 500) :
    ∃ t, textM ⟨(unfoldL N 0).toArray⟩ B ⟨0, 0, [], 0, []⟩ = .ok () t ∧ highOf t.nodes 0 = highOf N 0 ∧ t.nodes.length = heavyOf N 0 ∧ t.anchors = 0 ∧ heavyOf t.nodes 0 = heavyOf N 0 ∧ plainM t.nodes 0 = unfoldL N 0 := by
  have hh := hW.high 0
  obtain ⟨k1, k2, k3, k4⟩ := kids_tree hW 101 0 h0 (by omega)
  have ks := kids_size hW 101 0 h0 (by omega) (by omega)
  have ht := unf_txt hW 101 0 h0 (by omega)
  have hn := hW.node h0
  have htree : (Frst.cons ByteArray.empty none (nodeAt N 0).kind (nodeAt N 0).text false (kidsF N 101 0) .nil).tree := ⟨rfl, hn.kind, fun e => ⟨hn.text, k3 e⟩, k2, k1, trivial⟩
  have hfit := Frst.fits_tree (B := B) _ 1 ⟨0, 0, [], 0, []⟩ htree (by simp only [Frst.hi]; rw [hD]; omega) (by simp only [Frst.size]; rw [hN]; simp; omega)
  obtain ⟨a, b, e⟩ := text_one (B := B) (t := ⟨0, 0, [], 0, []⟩) (by omega) rfl (fits_cons.1 hfit).1
  have hrun := Frst.run_tree _ ⟨0, 0, [], 0, []⟩ htree
  rw [run_cons] at hrun
  have haf := congrArg Prod.snd hrun
  simp only [Frst.run, List.nil_append, List.length_nil] at haf
  have hu : unfoldL N 0 = itemT none (nodeAt N 0).kind (nodeAt N 0).text ((kidsF N 101 0).txt [44, 32] ((nodeAt N 0).kind == 2) true) := ht
  rw [hu]
  refine ⟨_, e, ?_⟩
  rw [haf]
  simp only
  have hfl : (Frst.cons ByteArray.empty none (nodeAt N 0).kind (nodeAt N 0).text false (kidsF N 101 0) .nil).flat 0 = { mkNode (nodeAt N 0).kind (nodeAt N 0).text (kidsF N 101 0).keysOf ((kidsF N 101 0).ids 1) with high := (kidsF N 101 0).hi + 1, heavy := (kidsF N 101 0).hv 1 } :: (kidsF N 101 0).flat 1 := by
    simp [Frst.flat]
  refine ⟨?_, ?_, trivial, ?_, plain_tree htree (by omega)⟩
  · rw [hfl, ← k4]; rfl
  · rw [Frst.flat_len]; simp only [Frst.size]; omega
  · rw [hfl]
    show (kidsF N 101 0).hv 1 = _
    rw [Frst.hv_size _ 1 (by omega)]
    omega

end Go.Proofs.YtkflkmmbakccoaaGreatDoor
