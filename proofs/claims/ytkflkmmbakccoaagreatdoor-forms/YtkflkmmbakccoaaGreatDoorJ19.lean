/- PARTS: Mod19, Mod20, Mod22, K0, K1. -/
import Derived.Test.YtkflkmmbakccoaaGreatDoorJ18
import Derived.Test.YtkflkmmbakccoaaGreatDoorJ17
import Derived.Test.YtkflkmmbakccoaaGreatDoorJ13

/- THE PLAIN FUNCTIONS: the reader reads a block of lines, and a text of lines. No program is named here. -/
namespace Go.Proofs.YtkflkmmbakccoaaGreatDoor

section
variable {s : ByteArray} {B : Bud} {sep nl : List UInt8}

/-- Items in lines are read. -/
def BlkLaw (s : ByteArray) (B : Bud) (sep nl : List UInt8) (F : Frst) : Prop :=
  ∀ (f d : Nat) (m : Bool) (id : Nat) (keys : List ByteArray) (parts : List Nat) (n : Nat) (t : PS) (p p' : Nat), F ≠ .nil → F.hgt ≤ f → F.len ≤ n → F.lok → F.fits B ((d : Int) + 2) t →
    (m = true → (∀ x ∈ F.keysOf, TokOk x) ∧ (keys ++ F.keysOf).Nodup) → At s p (F.lns sep nl d m) → t.k = p + 2 * d → p' = p + (F.lns sep nl d m).length → (kindAt s (nlGo s p' p').2 = 0 ∨ (nlGo s p' p').1 < 2 * d) →
    blockLoop s (itemS s B (blockM s B f) d) id d m n keys parts t = .ok () (endM id { NodeV.blank with kind := if m then 2 else 1, keys := keys ++ (if m then F.keysOf else []), parts := parts ++ (F.run t).1 } { (F.run t).2 with k := (nlGo s p' p').2, ind := (nlGo s p' p').1 })

theorem lns_len (F : Frst) : ∀ d m, F.len ≤ (F.lns sep nl d m).length := by
  induction F with
  | nil => intro d m; simp [Frst.len]
  | cons key nm kind text blw kids rest _ ih =>
    intro d m
    have h1 := ih d m
    rw [Frst.lns_cons]
    unfold Frst.len
    have h2 : 1 ≤ (if m then textL key ++ [58] else [45]).length := by split <;> simp
    simp only [List.length_append]
    omega

/-- A line begins: its indentation, and with what. -/
theorem lns_first {F : Frst} {d p : Nat} {m : Bool} {w : List UInt8} (hF : F ≠ .nil) (h : At s p (F.lns sep nl d m ++ w)) : nlGo s p p = (2 * d, p + 2 * d) ∧ p + 2 * d < s.size ∧ byteAt s (p + 2 * d) ≠ 32 ∧ (m = false → kindAt s (p + 2 * d) = 4) ∧ (m = true → kindAt s (p + 2 * d) = 2 ∨ kindAt s (p + 2 * d) = 3) := by
  cases F with
  | nil => exact absurd rfl hF
  | cons key nm kind text blw kids rest =>
    rw [Frst.lns_cons] at h
    simp only [List.append_assoc] at h
    have h' : At s p (List.replicate (2 * d) 32 ++ (signT m key ++ ((if blw then nl ++ kids.lns sep nl (d + 1) (kind == 2) else 32 :: (itemT nm kind text (kids.txt sep (kind == 2) true) ++ nl)) ++ (rest.lns sep nl d m ++ w)))) := h
    obtain ⟨_, h2⟩ := h'.app
    rw [List.length_replicate] at h2
    obtain ⟨a, b, _, c, e⟩ := sign_first h2
    exact ⟨line_start h', a, b, c, e⟩

/-- An item behind its sign, in the line or below. -/
theorem item_line (hsep : sep = [44] ∨ sep = [44, 32]) (hnl : NlOk nl) (hD : B.depth ≤ 20) {nm : Option ByteArray} {kind : Nat} {text : ByteArray} {blw : Bool} {kids : Frst} (hkids : BlkLaw s B sep nl kids) {f d : Nat} {t : PS} {p1 : Nat} (hf : kind ≠ 3 → kids.hgt + 1 ≤ f)
    (hl : blw = true → nm = none ∧ (kind = 1 ∨ kind = 2) ∧ kids ≠ .nil ∧ kids.lok) (hfit : fitsI B nm kind text kids ((d : Int) + 2) t)
    (h : At s t.k (if blw then nl ++ kids.lns sep nl (d + 1) (kind == 2) else 32 :: (itemT nm kind text (kids.txt sep (kind == 2) true) ++ nl)))
    (hp : p1 = t.k + (if blw then nl ++ kids.lns sep nl (d + 1) (kind == 2) else 32 :: (itemT nm kind text (kids.txt sep (kind == 2) true) ++ nl)).length)
    (hend : kindAt s (nlGo s p1 p1).2 = 0 ∨ (nlGo s p1 p1).1 < 2 * (d + 1)) :
    itemS s B (blockM s B f) d t = .ok (idOf kind text t) { after nm kind text kids t with k := (nlGo s p1 p1).2, ind := (nlGo s p1 p1).1 } := by
  cases blw with
  | false =>
    simp only [Bool.false_eq_true, if_false] at h hp
    exact inline_at hsep hnl hD hfit h (by rw [hp]; simp only [List.length_cons, List.length_append]; omega)
  | true =>
    simp only [if_true] at h hp
    obtain ⟨rfl, hkd, hne, hlok⟩ := hl rfl
    have h3 : kind ≠ 3 := by omega
    obtain ⟨g1, g2, _, _, _, g6, g7⟩ := hfit.2 h3
    obtain ⟨f, rfl⟩ : ∃ g, f = g + 1 := ⟨f - 1, by have := hf h3; omega⟩
    have hfk : kids.hgt ≤ f := by have := hf h3; omega
    obtain ⟨n1, n2⟩ := nl_at hnl h
    obtain ⟨_, h4⟩ := h.app
    obtain ⟨c1, c2, c3, c4, c5⟩ := lns_first (w := []) hne (by rw [List.append_nil]; exact h4)
    have hkq : kindAt s (t.k + nl.length + 2 * (d + 1)) = 4 ∨ kindAt s (t.k + nl.length + 2 * (d + 1)) = 2 ∨ kindAt s (t.k + nl.length + 2 * (d + 1)) = 3 := by
      by_cases h2 : kind = 2
      · have := c5 (by simp [h2]); omega
      · have := c4 (by simp [h2]); omega
    unfold itemS
    simp only
    rw [n1]
    simp only [if_true]
    have hgb : goBelowM s (d + 1) { t with k := skipBl s t.k } = .ok () { t with k := t.k + nl.length + 2 * (d + 1), ind := 2 * (d + 1) } := by
      unfold goBelowM nextM
      simp only
      rw [n2, c1]
      simp only
      rw [skip_at c3, if_pos ⟨trivial, hkq⟩]
    rw [hgb, Res.bind_ok, beginM_go (t := { t with k := t.k + nl.length + 2 * (d + 1), ind := 2 * (d + 1) }) g1 g2, Res.bind_ok]
    unfold blockM
    simp only
    rw [skip_at c3]
    have hdec : decide (kindAt s (t.k + nl.length + 2 * (d + 1)) ≠ 4) = (kind == 2) := by
      by_cases h2 : kind = 2
      · have := c5 (by simp [h2])
        rw [show (kind == 2) = true by simp [h2], decide_eq_true_eq]; omega
      · have := c4 (by simp [h2])
        rw [show (kind == 2) = false by simp [h2], decide_eq_false_iff_not]; omega
    rw [hdec]
    have hle := h4.le (by
      cases kids with
      | nil => exact absurd rfl hne
      | cons => rw [Frst.lns_cons]; split <;> simp)
    have hlen := lns_len (sep := sep) (nl := nl) kids (d + 1) (kind == 2)
    have hlaw := hkids f (d + 1) (kind == 2) t.nodes.length [] [] (s.size + 1) { begun none t with k := t.k + nl.length + 2 * (d + 1), ind := 2 * (d + 1) } (t.k + nl.length) p1 hne hfk (by omega) hlok
      (Frst.fits_k B kids _ _ _ _ (by rw [show (((d + 1 : Nat) : Int) + 2) = (d : Int) + 2 + 1 by push_cast; omega]; exact g7)) (fun hm => by
        have := g6 (by simpa using hm)
        simpa using this) h4 rfl (by rw [hp, List.length_append]; omega) hend
    have hlaw' : blockLoop s (itemS s B (blockM s B f) (d + 1)) t.nodes.length (d + 1) (kind == 2) (s.size + 1) [] [] { t with k := t.k + nl.length + 2 * (d + 1), ind := 2 * (d + 1), nodes := t.nodes ++ [NodeV.blank] } = _ := hlaw
    rw [hlaw', Res.bind_ok, Frst.run_k]
    unfold idOf after
    rw [if_neg h3, if_neg h3]
    have hmk : (⟨if (kind == 2) = true then 2 else 1, ByteArray.empty, [] ++ (if (kind == 2) = true then kids.keysOf else []), [] ++ (kids.run (begun none t)).1, 0, 0⟩ : NodeV) = mkNode kind text kids.keysOf (kids.run (begun none t)).1 := by
      rcases hkd with rfl | rfl <;> rfl
    have hmk2 : ({ NodeV.blank with kind := if (kind == 2) = true then 2 else 1, keys := [] ++ (if (kind == 2) = true then kids.keysOf else []), parts := [] ++ (kids.run (begun none t)).1 } : NodeV) = mkNode kind text kids.keysOf (kids.run (begun none t)).1 := hmk
    simp only
    rw [hmk2]
    rfl

/-- The rounds of a block read what is written. -/
theorem blk_law (hsep : sep = [44] ∨ sep = [44, 32]) (hnl : NlOk nl) (hD : B.depth ≤ 20) (F : Frst) : BlkLaw s B sep nl F := by
  induction F with
  | nil => intro f d m id keys parts n t p p' h; exact absurd rfl h
  | cons key nm kind text blw kids rest ih1 ih2 =>
    intro f d m id keys parts n t p p' _ hf hn hlok hfit hkeys h ht hp' hend
    obtain ⟨hI, hR⟩ := fits_cons.1 hfit
    obtain ⟨hl1, hl2⟩ := hlok
    have hfI : kind ≠ 3 → kids.hgt + 1 ≤ f := fun h3 => by
      unfold Frst.hgt at hf
      rw [if_neg h3] at hf
      omega
    have hfR : rest.hgt ≤ f := by
      unfold Frst.hgt at hf
      split at hf
      · exact hf
      · omega
    obtain ⟨n, rfl⟩ : ∃ g, n = g + 1 := ⟨n - 1, by unfold Frst.len at hn; omega⟩
    have hnR : rest.len ≤ n := by unfold Frst.len at hn; omega
    obtain ⟨_, _, hb32, hsg1, hsg2⟩ := lns_first (F := .cons key nm kind text blw kids rest) (w := []) (fun e => by cases e) (by rw [List.append_nil]; exact h)
    rw [Frst.lns_cons] at h hp'
    obtain ⟨_, h2⟩ := h.app
    rw [List.length_replicate, ← ht] at h2
    rw [← ht] at hb32 hsg1 hsg2
    obtain ⟨h3, h4⟩ := h2.app
    obtain ⟨h5, h6⟩ := h4.app
    rw [run_cons]
    -- the sign
    have hsgn : (if m then keyM s keys t else (expectM s 4 t).bind fun _ t1 => .ok keys t1) = .ok (keys ++ (if m then [key] else [])) { t with k := t.k + (if m then textL key ++ [58] else [45]).length } := by
      cases m with
      | false =>
        simp only [Bool.false_eq_true, if_false]
        rw [expectM_at (skip_at hb32) (hsg1 rfl)]
        simp
      | true =>
        simp only [if_true] at h3 hkeys ⊢
        obtain ⟨p1, p2⟩ := h3.app
        obtain ⟨p3, p4, _⟩ := p2.head
        have hkt : TokOk key := (hkeys trivial).1 key (by unfold Frst.keysOf; exact List.mem_cons_self ..)
        obtain ⟨a, b, c⟩ := text_at hkt p1 (by rw [p4]; decide)
        have hnot : key ∉ keys := by
          have := (hkeys trivial).2
          unfold Frst.keysOf at this
          rw [List.nodup_append] at this
          intro hm
          exact this.2.2 key hm key (List.mem_cons_self ..) rfl
        rw [keyM_at (skip_at c) a b hnot p4 p3]
        simp only [List.length_append, List.length_cons, List.length_nil]
        rw [show t.k + (textL key).length + 1 = t.k + ((textL key).length + (0 + 1)) by omega]
    have hout : ∃ p1, p1 = t.k + (if m then textL key ++ [58] else [45]).length + (if blw then nl ++ kids.lns sep nl (d + 1) (kind == 2) else 32 :: (itemT nm kind text (kids.txt sep (kind == 2) true) ++ nl)).length := ⟨_, rfl⟩
    obtain ⟨p1, hp1⟩ := hout
    rw [← hp1] at h6
    have hpp : p' = p1 + (rest.lns sep nl d m).length := by
      rw [hp', hp1, ht]
      simp only [List.length_append, List.length_replicate]
      omega
    have hendI : kindAt s (nlGo s p1 p1).2 = 0 ∨ (nlGo s p1 p1).1 < 2 * (d + 1) := by
      cases hrest : rest with
      | nil =>
        rw [hrest, Frst.lns_nil] at hpp
        simp only [List.length_nil, Nat.add_zero] at hpp
        rw [hpp] at hend
        omega
      | cons =>
        have := (lns_first (w := []) (show rest ≠ .nil by rw [hrest]; exact fun e => by cases e) (by rw [List.append_nil]; exact h6)).1
        rw [this]
        right; simp only; omega
    have hit := item_line hsep hnl hD ih1 (t := { t with k := t.k + (if m then textL key ++ [58] else [45]).length }) hfI hl1 (fitsI_k _ t.ind hI) h5 hp1 hendI
    rw [after_k1] at hit
    unfold blockLoop
    rw [hsgn, Res.bind_ok, hit, Res.bind_ok]
    simp only
    rw [nlGo_skip]
    have hid : idOf kind text { t with k := t.k + (if m then textL key ++ [58] else [45]).length } = idOf kind text t := rfl
    rw [hid]
    cases hrest : rest with
    | nil =>
      rw [hrest, Frst.lns_nil] at hpp
      simp only [List.length_nil, Nat.add_zero] at hpp
      subst hpp
      rw [if_pos hend]
      simp only [Frst.run, Frst.keysOf]
    | cons key' nm' kind' text' blw' kids' rest' =>
      have hne : rest ≠ .nil := by rw [hrest]; exact fun e => by cases e
      rw [← hrest]
      obtain ⟨e1, e2, e3, e4, e5⟩ := lns_first (w := []) hne (by rw [List.append_nil]; exact h6)
      have hk0 : kindAt s (p1 + 2 * d) ≠ 0 := by
        cases m with
        | false => rw [e4 rfl]; omega
        | true => have := e5 rfl; omega
      rw [e1]
      simp only
      rw [if_neg (by omega), if_neg (by omega)]
      rw [ih2 f d m id (keys ++ (if m then [key] else [])) (parts ++ [idOf kind text t]) n { after nm kind text kids t with k := p1 + 2 * d, ind := 2 * d } p1 p' hne hfR hnR hl2 (Frst.fits_k B rest _ _ _ _ hR) (fun hm => by
        obtain ⟨a, b⟩ := hkeys hm
        rw [if_pos hm]
        unfold Frst.keysOf at a b
        exact ⟨fun x hx => a x (List.mem_cons_of_mem _ hx), by simpa using b⟩) h6 rfl hpp hend]
      rw [Frst.run_k]
      simp only [Frst.keysOf, List.append_assoc]
      cases m <;> rfl

/-- A whole text of lines. -/
theorem text_lines (hsep : sep = [44] ∨ sep = [44, 32]) (hnl : NlOk nl) (hD : B.depth ≤ 20) {F : Frst} {m : Bool} {t : PS} (hF : F ≠ .nil) (hl : F.lok) (htk : t.k = 0) (h1 : 1 ≤ B.depth) (h2 : (t.nodes.length : Int) < B.nodes) (hfit : F.fits B 2 (begun none t))
    (hkeys : m = true → (∀ x ∈ F.keysOf, TokOk x) ∧ F.keysOf.Nodup) (h : At s 0 (F.lns sep nl 0 m)) (hs : s.size = (F.lns sep nl 0 m).length) :
    ∃ a b, textM s B t = .ok () { endM t.nodes.length (mkNode (if m then 2 else 1) ByteArray.empty F.keysOf (F.run (begun none t)).1) (F.run (begun none t)).2 with k := a, ind := b } := by
  obtain ⟨c1, c2, c3, c4, c5⟩ := lns_first (w := []) hF (by rw [List.append_nil]; exact h)
  simp only [Nat.mul_zero, Nat.add_zero] at c1 c2 c3 c4 c5
  unfold textM nextM
  rw [htk, c1]
  simp only
  rw [if_neg (by omega)]
  have hah : aheadM s 0 = true := by
    unfold aheadM
    simp only
    rw [skip_at c3]
    cases m with
    | false => rw [if_pos (c4 rfl)]
    | true =>
      have hk := c5 rfl
      rw [if_neg (by omega), if_pos hk]
      cases F with
      | nil => exact absurd rfl hF
      | cons key nm kind text blw kids rest =>
        rw [Frst.lns_cons] at h
        simp only [Nat.mul_zero, List.replicate_zero, List.nil_append, if_true, List.append_assoc, List.cons_append] at h
        obtain ⟨p1, p2⟩ := h.app
        obtain ⟨p3, p4, _⟩ := p2.head
        have hkt : TokOk key := (hkeys rfl).1 key (by unfold Frst.keysOf; exact List.mem_cons_self ..)
        obtain ⟨_, b, _⟩ := text_at hkt p1 (by rw [p4]; decide)
        rw [b]
        simp only
        rw [skip_at (by rw [p4]; decide), kindAt_byte p3 p4]
        rfl
  unfold topM
  simp only
  rw [hah]
  simp only [if_true]
  rw [beginM_go (t := { t with k := 0, ind := 0 }) h1 h2, Res.bind_ok]
  unfold blockM
  simp only
  rw [skip_at c3]
  have hdec : decide (kindAt s 0 ≠ 4) = m := by
    cases m with
    | false => rw [decide_eq_false_iff_not]; have := c4 rfl; omega
    | true => rw [decide_eq_true_eq]; have := c5 rfl; omega
  rw [hdec]
  have hlen := lns_len (sep := sep) (nl := nl) F 0 m
  have hg : F.hgt ≤ 20 := by
    have := Frst.hgt_le F _ _ hfit
    omega
  have hfin : kindAt s (nlGo s (0 + (F.lns sep nl 0 m).length) (0 + (F.lns sep nl 0 m).length)).2 = 0 := by
    rw [nlGo_end s _ _ (by omega)]
    simp only
    rw [kindAt, if_neg (by omega)]
  have hlaw := blk_law hsep hnl hD F 20 0 m t.nodes.length [] [] (s.size + 1) { begun none t with k := 0, ind := 0 } 0 _ hF hg (by omega) hl (Frst.fits_k B F _ _ _ _ (by simpa using hfit)) (by simpa using hkeys) h rfl rfl (.inl hfin)
  have hlaw' : blockLoop s (itemS s B (blockM s B 20) 0) t.nodes.length 0 m (s.size + 1) [] [] { t with k := 0, ind := 0, nodes := t.nodes ++ [NodeV.blank] } = _ := hlaw
  rw [hlaw', Res.bind_ok, Frst.run_k]
  have hk0 : kindAt s (skipBl s (nlGo s (0 + (F.lns sep nl 0 m).length) (0 + (F.lns sep nl 0 m).length)).2) = 0 := by rw [nlGo_skip]; exact hfin
  have hmk : ({ NodeV.blank with kind := if m = true then 2 else 1, keys := [] ++ (if m = true then F.keysOf else []), parts := [] ++ (F.run (begun none t)).1 } : NodeV) = mkNode (if m then 2 else 1) ByteArray.empty F.keysOf (F.run (begun none t)).1 := by
    cases m <;> rfl
  simp only
  rw [hmk]
  show ∃ a b, (if kindAt s (skipBl s (nlGo s (0 + (F.lns sep nl 0 m).length) (0 + (F.lns sep nl 0 m).length)).2) = 0 then _ else _) = _
  rw [if_pos hk0]
  exact ⟨_, _, rfl⟩

end

end Go.Proofs.YtkflkmmbakccoaaGreatDoor

/- THE PLAIN FUNCTIONS: trees: items without names. What the reader makes of them. No program is named here. -/
namespace Go.Proofs.YtkflkmmbakccoaaGreatDoor

namespace Frst

/-- No item has a name or is an alias; texts and keys may stand in a node. -/
def tree : Frst → Prop
  | .nil => True
  | .cons _ nm kind text _ kids rest => nm = none ∧ kind ≤ 2 ∧ (kind = 0 → TokOk text ∧ kids = .nil) ∧ (kind = 2 → (∀ x ∈ kids.keysOf, TokOk x) ∧ kids.keysOf.Nodup) ∧ kids.tree ∧ rest.tree

def size : Frst → Nat
  | .nil => 0
  | .cons _ _ _ _ _ kids rest => 1 + kids.size + rest.size

def hi : Frst → Nat
  | .nil => 0
  | .cons _ _ _ _ _ kids rest => max (kids.hi + 1) rest.hi

/-- What these items weigh, on top of so much, cut. -/
def hv : Frst → Nat → Nat
  | .nil, a => a
  | .cons _ _ _ _ _ kids rest, a => rest.hv (min (a + kids.hv 1) 1000000000001)

def ids : Frst → Nat → List Nat
  | .nil, _ => []
  | .cons _ _ _ _ _ kids rest, b => b :: rest.ids (b + 1 + kids.size)

/-- The nodes of items. -/
def flat : Frst → Nat → List NodeV
  | .nil, _ => []
  | .cons _ _ kind text _ kids rest, b => { mkNode kind text kids.keysOf (kids.ids (b + 1)) with high := kids.hi + 1, heavy := kids.hv 1 } :: (kids.flat (b + 1) ++ rest.flat (b + 1 + kids.size))

theorem flat_len (F : Frst) : ∀ b, (F.flat b).length = F.size := by
  induction F with
  | nil => intro b; rfl
  | cons key nm kind text blw kids rest ih1 ih2 =>
    intro b
    simp only [flat, size, List.length_cons, List.length_append, ih1, ih2]
    omega

end Frst

/-- These nodes stand from b on. -/
def Stand (N : List NodeV) (b : Nat) (L : List NodeV) : Prop := ∀ i, i < L.length → N[b + i]? = L[i]?

theorem Stand.app {N : List NodeV} {b : Nat} {L M : List NodeV} (h : Stand N b (L ++ M)) : Stand N b L ∧ Stand N (b + L.length) M := by
  refine ⟨fun i hi => ?_, fun i hi => ?_⟩
  · rw [h i (by rw [List.length_append]; omega), List.getElem?_append_left hi]
  · have := h (L.length + i) (by rw [List.length_append]; omega)
    rw [← Nat.add_assoc] at this
    rw [this, List.getElem?_append_right (by omega), Nat.add_sub_cancel_left]

theorem Stand.cons {N : List NodeV} {b : Nat} {n : NodeV} {L : List NodeV} (h : Stand N b (n :: L)) : N[b]? = some n ∧ Stand N (b + 1) L :=
  ⟨by have := h 0 (by simp); simpa using this, (Stand.app (L := [n]) h).2⟩

theorem Stand.of_app (A L C : List NodeV) : Stand (A ++ (L ++ C)) A.length L := by
  intro i hi
  rw [List.getElem?_append_right (by omega), Nat.add_sub_cancel_left, List.getElem?_append_left hi]

theorem highOf_get {N : List NodeV} {b : Nat} {n : NodeV} (h : N[b]? = some n) : highOf N b = n.high := by
  simp [highOf, List.getD, h]
theorem heavyOf_get {N : List NodeV} {b : Nat} {n : NodeV} (h : N[b]? = some n) : heavyOf N b = n.heavy := by
  simp [heavyOf, List.getD, h]
theorem nodeAt_get {N : List NodeV} {b : Nat} {n : NodeV} (h : N[b]? = some n) : nodeAt N b = n := by
  simp [nodeAt, List.getD, h]

namespace Frst

theorem fold_hi {N : List NodeV} (F : Frst) : ∀ b a, Stand N b (F.flat b) → (F.ids b).foldl (fun a i => max a (highOf N i)) a = max a F.hi := by
  induction F with
  | nil => intro b a _; simp [ids, hi]
  | cons key nm kind text blw kids rest ih1 ih2 =>
    intro b a h
    unfold flat at h
    obtain ⟨h1, h2⟩ := h.cons
    obtain ⟨_, h4⟩ := h2.app
    rw [flat_len] at h4
    simp only [ids, List.foldl_cons, hi]
    rw [highOf_get h1, ih2 _ _ h4]
    simp only
    omega

theorem fold_hv {N : List NodeV} (F : Frst) : ∀ b a, Stand N b (F.flat b) → (F.ids b).foldl (fun a i => min (a + heavyOf N i) 1000000000001) a = F.hv a := by
  induction F with
  | nil => intro b a _; simp [ids, hv]
  | cons key nm kind text blw kids rest ih1 ih2 =>
    intro b a h
    unfold flat at h
    obtain ⟨h1, h2⟩ := h.cons
    obtain ⟨_, h4⟩ := h2.app
    rw [flat_len] at h4
    simp only [ids, List.foldl_cons, hv]
    rw [heavyOf_get h1, ih2 _ _ h4]

/-- The reader makes of a tree its nodes, in their order. -/
theorem run_tree (F : Frst) : ∀ t : PS, F.tree → F.run t = (F.ids t.nodes.length, { t with nodes := t.nodes ++ F.flat t.nodes.length }) := by
  induction F with
  | nil => intro t _; simp [run, ids, flat]
  | cons key nm kind text blw kids rest ih1 ih2 =>
    intro t h
    obtain ⟨rfl, h2, _, _, h5, h6⟩ := h
    rw [run_cons]
    have h3 : kind ≠ 3 := by omega
    have hb : begun none t = { t with nodes := t.nodes ++ [NodeV.blank] } := rfl
    have hl : (t.nodes ++ [NodeV.blank]).length = t.nodes.length + 1 := by simp
    have ha : after none kind text kids t = { t with nodes := t.nodes ++ ({ mkNode kind text kids.keysOf (kids.ids (t.nodes.length + 1)) with high := kids.hi + 1, heavy := kids.hv 1 } :: kids.flat (t.nodes.length + 1)) } := by
      unfold after
      rw [if_neg h3, hb, ih1 _ h5]
      simp only [hl]
      show endM _ _ _ = _
      unfold endM
      simp only
      have hst : Stand (t.nodes ++ [NodeV.blank] ++ kids.flat (t.nodes.length + 1)) (t.nodes.length + 1) (kids.flat (t.nodes.length + 1)) := by
        have := Stand.of_app (t.nodes ++ [NodeV.blank]) (kids.flat (t.nodes.length + 1)) []
        rw [hl, List.append_nil] at this
        exact this
      have e1 := fold_hi kids _ 0 hst
      have e2 := fold_hv kids _ 1 hst
      have em : measured (t.nodes ++ [NodeV.blank] ++ kids.flat (t.nodes.length + 1)) (mkNode kind text kids.keysOf (kids.ids (t.nodes.length + 1))) = { mkNode kind text kids.keysOf (kids.ids (t.nodes.length + 1)) with high := kids.hi + 1, heavy := kids.hv 1 } := by
        unfold measured
        have p : (mkNode kind text kids.keysOf (kids.ids (t.nodes.length + 1))).parts = kids.ids (t.nodes.length + 1) := rfl
        rw [p, e1, e2, Nat.zero_max]
        rfl
      rw [em, List.append_assoc, List.set_append_right _ _ (Nat.le_refl _), Nat.sub_self]
      rfl
    rw [ha, ih2 _ h6]
    have hid : idOf kind text t = t.nodes.length := by unfold idOf; rw [if_neg h3]
    rw [hid]
    have hl2 : (t.nodes ++ ({ mkNode kind text kids.keysOf (kids.ids (t.nodes.length + 1)) with high := kids.hi + 1, heavy := kids.hv 1 } :: kids.flat (t.nodes.length + 1))).length = t.nodes.length + 1 + kids.size := by
      simp only [List.length_append, List.length_cons, flat_len]; omega
    simp only [hl2, ids, flat, List.append_assoc, List.cons_append]

theorem fits_tree {B : Bud} (F : Frst) : ∀ (lv : Int) (t : PS), F.tree → lv + (F.hi : Int) ≤ B.depth + 1 → (t.nodes.length : Int) + (F.size : Int) ≤ B.nodes → F.fits B lv t := by
  induction F with
  | nil => intro lv t _ _ _; trivial
  | cons key nm kind text blw kids rest ih1 ih2 =>
    intro lv t h hd hn
    have hh := h
    obtain ⟨rfl, h2, h3, h4, h5, h6⟩ := h
    unfold hi at hd
    unfold size at hn
    push_cast at hd hn
    have hk3 : kind ≠ 3 := by omega
    refine fits_cons.2 ⟨⟨fun e => absurd e hk3, fun _ => ⟨by omega, by omega, (fun x e => by cases e), h2, h3, h4, ih1 _ _ h5 (by omega) ?_⟩⟩, ih2 _ _ h6 (by omega) ?_⟩
    · show (((t.nodes ++ [NodeV.blank]).length : Nat) : Int) + _ ≤ _
      rw [List.length_append, List.length_cons, List.length_nil]
      omega
    · have ha := run_tree (.cons key none kind text blw kids .nil) t ⟨rfl, h2, h3, h4, h5, trivial⟩
      rw [run_cons] at ha
      have := congrArg (fun r : List Nat × PS => r.2.nodes.length) ha
      simp only [run, flat, List.length_append, List.length_cons, flat_len, List.length_nil] at this
      rw [this]
      omega

theorem hv_size (F : Frst) : ∀ a, a + F.size ≤ 1000000000001 → F.hv a = a + F.size := by
  induction F with
  | nil => intro a _; simp [hv, size]
  | cons key nm kind text blw kids rest ih1 ih2 =>
    intro a h
    unfold size at h
    simp only [hv, size]
    rw [ih1 1 (by omega), Nat.min_eq_left (by omega), ih2 _ (by omega)]
    omega

end Frst

end Go.Proofs.YtkflkmmbakccoaaGreatDoor

/- THE PLAIN FUNCTIONS: a text is as heavy as it has nodes, at least. No program is named here. -/
namespace Go.Proofs.YtkflkmmbakccoaaGreatDoor

/-- A sum that stays below the cut is not cut. -/
theorem fold_min_lt (h : Nat → Nat) (c : Nat) (l : List Nat) : ∀ a, l.foldl (fun a i => min (a + h i) c) a < c → l.foldl (fun a i => min (a + h i) c) a = a + (l.map h).sum := by
  induction l with
  | nil => intro a _; simp
  | cons x l ih =>
    intro a hl
    simp only [List.foldl_cons] at hl ⊢
    have e := ih _ hl
    have hlt : min (a + h x) c < c := by
      rw [e] at hl
      omega
    rw [e, Nat.min_eq_left (by omega)]
    simp only [List.map_cons, List.sum_cons]
    omega

theorem sum_mem {l : List Nat} {x : Nat} (h : x ∈ l) : x ≤ l.sum := by
  induction l with
  | nil => cases h
  | cons y l ih =>
    simp only [List.sum_cons]
    rcases List.mem_cons.1 h with rfl | h
    · omega
    · have := ih h; omega

theorem Whole.sum {N : List NodeV} (hW : Whole N) {id : Nat} (hid : id < N.length) (h : heavyOf N id < 1000000000001) : heavyOf N id = 1 + ((nodeAt N id).parts.map (heavyOf N)).sum := by
  have e : heavyOf N id = (nodeAt N id).heavy := rfl
  have e2 := (hW.node hid).heavy
  rw [e, e2] at h ⊢
  exact fold_min_lt (heavyOf N) _ _ 1 h

theorem Whole.heavy_part {N : List NodeV} (hW : Whole N) {id p : Nat} (hid : id < N.length) (h : heavyOf N id < 1000000000001) (hp : p ∈ (nodeAt N id).parts) : heavyOf N p < heavyOf N id := by
  have e := hW.sum hid h
  have := sum_mem (List.mem_map_of_mem (f := heavyOf N) hp)
  omega

theorem ag_len {N : List NodeV} (hW : Whole N) (f : Nat) : ∀ id met, id < N.length → heavyOf N id < 1000000000001 → (agM N f id met).1.length ≤ met.length + heavyOf N id := by
  induction f with
  | zero => intro id met _ _; simp [agM]
  | succ f ih =>
    intro id met hid hh
    rw [agM]
    split
    · simp
    · have key : ∀ ps : List Nat, (∀ p ∈ ps, p < N.length ∧ heavyOf N p < 1000000000001) → ∀ st : List Nat × List Nat, (agP (agM N f) ps st).1.length ≤ st.1.length + (ps.map (heavyOf N)).sum := by
        intro ps
        induction ps with
        | nil => intro _ st; simp [agP]
        | cons p ps ihp =>
          intro hp st
          simp only [agP, List.map_cons, List.sum_cons]
          have h1 := ihp (fun q hq => hp q (List.mem_cons_of_mem _ hq)) ((agM N f p st.1).1, (agM N f p st.1).2 ++ st.2)
          have h2 := ih p st.1 (hp p (List.mem_cons_self ..)).1 (hp p (List.mem_cons_self ..)).2
          simp only at h1
          omega
      have h1 := key (nodeAt N id).parts (fun p hp => ⟨(hW.part hid hp).1, by have := hW.heavy_part hid hh hp; omega⟩) (id :: met, [])
      have h2 := hW.sum hid hh
      simp only [List.length_cons] at h1
      omega

/-- As heavy as it has nodes, at least. -/
theorem heavy_ge {N : List NodeV} (hW : Whole N) (h0 : 0 < N.length) {S : List (ByteArray × Nat)} {f : Nat} (h : Walk1 N f 0 0 N.length S) : N.length ≤ heavyOf N 0 := by
  have hl := hW.len
  by_cases hh : heavyOf N 0 < 1000000000001
  · have := ag_len hW f 0 (rng 0) h0 hh
    rw [h.1, rng_len, rng_len] at this
    omega
  · omega

end Go.Proofs.YtkflkmmbakccoaaGreatDoor

/- THE PLAIN FUNCTIONS: Load: what it is, what another budget does to it. -/
namespace Go.Proofs.YtkflkmmbakccoaaGreatDoor

theorem wf0 (s : ByteArray) : WF s ps0 := ⟨by simp [ps0], by simp [ps0], by simp [ps0], by simp [ps0], (fun p hp => by cases hp), (fun i => by simp [ps0, heavyOf, NodeV.blank]), (fun i => by simp [ps0, highOf, NodeV.blank])⟩

theorem okBud_iff {B : Bud} : okBud B = true ↔ (1 ≤ B.depth ∧ B.depth ≤ 20 ∧ 1 ≤ B.nodes ∧ B.nodes ≤ 500 ∧ 0 ≤ B.anchors ∧ B.anchors ≤ 100 ∧ 1 ≤ B.weight ∧ B.weight ≤ 1000000000000) := by
  simp only [okBud, Bool.and_eq_true, decide_eq_true_eq]
  omega

/-- What is let in. -/
theorem load_ok {s : ByteArray} {B : Bud} {u : Unit} {t : PS} (h : loadM s B = .ok u t) : okBud B = true ∧ s.size ≤ 1000 ∧ textM s B ps0 = .ok u t ∧ (heavyOf t.nodes 0 : Int) ≤ B.weight := by
  unfold loadM at h
  split at h
  · cases h
  · rename_i hok
    split at h
    · cases h
    · rename_i hl
      obtain ⟨v, t1, h1, h2⟩ := Res.bind_ok_iff h
      split at h2
      · cases h2
      · rename_i hw
        injection h2 with h3 h2
        subst h2
        exact ⟨by simpa using hok, by omega, h1, by omega⟩

theorem load_of {s : ByteArray} {B : Bud} {u : Unit} {t : PS} (h1 : okBud B = true) (h2 : s.size ≤ 1000) (h3 : textM s B ps0 = .ok u t) (h4 : (heavyOf t.nodes 0 : Int) ≤ B.weight) : loadM s B = .ok u t := by
  unfold loadM
  rw [h1]
  simp only [Bool.true_eq_false, if_false]
  rw [if_neg (by omega), h3, Res.bind_ok, if_neg (by omega)]

theorem load_bad {s : ByteArray} {B : Bud} {e p : Nat} (h1 : okBud B = true) (h2 : s.size ≤ 1000) (h3 : textM s B ps0 = .bad e p) : loadM s B = .bad e p := by
  unfold loadM
  rw [h1]
  simp only [Bool.true_eq_false, if_false]
  rw [if_neg (by omega), h3]
  rfl

theorem load_heavy {s : ByteArray} {B : Bud} {u : Unit} {t : PS} (h1 : okBud B = true) (h2 : s.size ≤ 1000) (h3 : textM s B ps0 = .ok u t) (h4 : B.weight < (heavyOf t.nodes 0 : Int)) : loadM s B = .bad 9 0 := by
  unfold loadM
  rw [h1]
  simp only [Bool.true_eq_false, if_false]
  rw [if_neg (by omega), h3, Res.bind_ok, if_pos h4]

theorem load_long {s : ByteArray} {B : Bud} (h1 : okBud B = true) (h2 : 1000 < s.size) : loadM s B = .bad 2 0 := by
  unfold loadM
  rw [h1]
  simp only [Bool.true_eq_false, if_false]
  rw [if_pos h2]

theorem load_not {s : ByteArray} {B : Bud} (h1 : okBud B = false) : loadM s B = .bad 1 0 := by
  unfold loadM
  rw [if_pos h1]

/-- What is let in is whole, its nodes in their order. -/
theorem load_all {s : ByteArray} {B : Bud} {u : Unit} {t : PS} (h : loadM s B = .ok u t) : Whole t.nodes ∧ 0 < t.nodes.length ∧ highOf t.nodes 0 ≠ 0 ∧ t.names.length ≤ t.anchors ∧ Walk1 t.nodes 101 0 0 t.nodes.length t.names ∧ (highOf t.nodes 0 : Int) ≤ B.depth ∧ (t.nodes.length : Int) ≤ B.nodes ∧ (t.anchors : Int) ≤ B.anchors := by
  obtain ⟨h1, h2, h3, h4⟩ := load_ok h
  have hb := okBud_iff.1 h1
  obtain ⟨a, b, c⟩ := textM_fin (s := s) (B := B) h2 (by omega) (by omega) (by omega) (wf0 s) rfl h3
  obtain ⟨f, g⟩ := textM_fall (B' := B) (by omega) (by omega) (by omega) (wf0 s) rfl rfl rfl h3 (by omega) (by omega)
  have hw : Whole t.nodes := ⟨a, b, c.nodes, c.high, c.heavy⟩
  have hf : (highOf t.nodes 0 : Int) ≤ B.depth ∧ (t.nodes.length : Int) ≤ B.nodes ∧ (t.anchors : Int) ≤ B.anchors := by
    rcases f with ⟨_, x⟩ | ⟨p, e, _⟩ | ⟨p, e, _⟩ | ⟨p, e, _⟩
    · exact x
    · rw [h3] at e; cases e
    · rw [h3] at e; cases e
    · rw [h3] at e; cases e
  refine ⟨hw, highOf_lt g, g, c.names, ?_, hf⟩
  exact textM_pre (by omega) (by omega) (by omega) (wf0 s) rfl rfl h3 101 (by have := hw.high 0; omega)

theorem load_whole2 {s : ByteArray} {B : Bud} {u : Unit} {t : PS} (h : loadM s B = .ok u t) : Whole t.nodes := (load_all h).1

/-- What is let in, under another budget. -/
theorem load_fall {s : ByteArray} {B B' : Bud} {u : Unit} {t : PS} (h : loadM s B = .ok u t) (hB : okBud B' = true) :
    (loadM s B' = .ok u t ∧ (highOf t.nodes 0 : Int) ≤ B'.depth ∧ (t.nodes.length : Int) ≤ B'.nodes ∧ (t.anchors : Int) ≤ B'.anchors ∧ (heavyOf t.nodes 0 : Int) ≤ B'.weight) ∨
    (∃ p, loadM s B' = .bad 4 p ∧ B'.depth < (highOf t.nodes 0 : Int)) ∨ (∃ p, loadM s B' = .bad 5 p ∧ B'.nodes < (t.nodes.length : Int)) ∨ (∃ p, loadM s B' = .bad 6 p ∧ B'.anchors < (t.anchors : Int)) ∨
    (loadM s B' = .bad 9 0 ∧ B'.weight < (heavyOf t.nodes 0 : Int)) := by
  obtain ⟨h1, h2, h3, h4⟩ := load_ok h
  have hb := okBud_iff.1 h1
  have hb' := okBud_iff.1 hB
  obtain ⟨f, g⟩ := textM_fall (B' := B') (by omega) (by omega) (by omega) (wf0 s) rfl rfl rfl h3 (by omega) (by omega)
  rcases f with ⟨e, x⟩ | ⟨p, e, x⟩ | ⟨p, e, x⟩ | ⟨p, e, x⟩
  · by_cases hw : B'.weight < (heavyOf t.nodes 0 : Int)
    · exact .inr (.inr (.inr (.inr ⟨load_heavy hB h2 e hw, hw⟩)))
    · exact .inl ⟨load_of hB h2 e (by omega), x.1, x.2.1, x.2.2, by omega⟩
  · exact .inr (.inl ⟨p, load_bad hB h2 e, x⟩)
  · exact .inr (.inr (.inl ⟨p, load_bad hB h2 e, x⟩))
  · exact .inr (.inr (.inr (.inl ⟨p, load_bad hB h2 e, x⟩)))

/-- A greater budget. -/
theorem load_greater {s : ByteArray} {B B' : Bud} (hB : okBud B = true) (hB' : okBud B' = true) (hle : BudLe B B') (hw : B.weight ≤ B'.weight) :
    (∃ u t, loadM s B = .ok u t ∧ loadM s B' = .ok u t) ∨ (∃ e p, loadM s B = .bad e p ∧ (e = 4 ∨ e = 5 ∨ e = 6 ∨ e = 9)) ∨ (∃ e p, loadM s B = .bad e p ∧ loadM s B' = .bad e p) := by
  by_cases hl : 1000 < s.size
  · exact .inr (.inr ⟨2, 0, load_long hB hl, load_long hB' hl⟩)
  · rcases textM_lets (s := s) hle ps0 with e | ⟨e, p, he, hc⟩
    · cases ht : textM s B ps0 with
      | bad e1 p1 => exact .inr (.inr ⟨e1, p1, load_bad hB (by omega) ht, load_bad hB' (by omega) (e ▸ ht)⟩)
      | ok u t =>
        by_cases h9 : B.weight < (heavyOf t.nodes 0 : Int)
        · exact .inr (.inl ⟨9, 0, load_heavy hB (by omega) ht h9, by omega⟩)
        · exact .inl ⟨u, t, load_of hB (by omega) ht (by omega), load_of hB' (by omega) (e ▸ ht) (by omega)⟩
    · exact .inr (.inl ⟨e, p, load_bad hB (by omega) he, by omega⟩)

theorem load_two {s : ByteArray} {B : Bud} {p : Nat} (hB : okBud B = true) (h : loadM s B = .bad 2 p) : 1000 < s.size := by
  by_cases hl : 1000 < s.size
  · exact hl
  · exfalso
    cases ht : textM s B ps0 with
    | bad e1 p1 =>
      rw [load_bad hB (by omega) ht] at h
      cases h
      exact absurd rfl (textM_errs ps0 _ _ ht).2.1
    | ok u t =>
      by_cases h9 : B.weight < (heavyOf t.nodes 0 : Int)
      · rw [load_heavy hB (by omega) ht h9] at h; cases h
      · rw [load_of hB (by omega) ht (by omega)] at h; cases h

end Go.Proofs.YtkflkmmbakccoaaGreatDoor

/- WALKS: package grafterkeep: most, read, known. -/
namespace Go.Proofs.YtkflkmmbakccoaaGreatDoor
open Go.RowKit Go.Maps

/-- The greatest budget. -/
def maxB : Bud := ⟨20, 500, 100, 1000000000000⟩

set_option maxHeartbeats 400000 in
theorem kMost_any (w : World) : Calls Tryz.prog 18 #[] w fun e w' => e = .returned (budV maxB) ∧ But [] w w' := by
  have hB : Blk (w.alloc (.cells #[.int .i64 0, .int .i64 0, .int .i64 0, .int .i64 0] 29)) w.heap.size #[.int .i64 0, .int .i64 0, .int .i64 0, .int .i64 0] 29 := blk_new _ _ _
  have c0 := hB.cell (i := 0) rfl
  have c1 := hB.cell (i := 1) rfl
  have c2 := hB.cell (i := 2) rfl
  have c3 := hB.cell (i := 3) rfl
  have f0 := hB.free 0
  have f1 := hB.free 1
  have f2 := hB.free 2
  have f3 := hB.free 3
  go_enter Tryz.func18, Tryz.ntmps18
  go_wp2_with fail
  refine bodyPost_ret (v := budV maxB) (by simp [results, Tryz.results18, go_sem, maxB]) rfl ⟨rfl, ?_⟩
  repeat (first | exact (But.refl [] w).alloc _ | refine But.setCell ?_ (.inr (Nat.le_refl _)) _)

/-- What read leaves. -/
def ReadPost (w : World) (r : Res Unit) (e : Ending) (w' : World) : Prop :=
  match r with
  | .ok _ t => ∃ E nv rows d, e = .returned (.pointer (some ⟨d, 0, none⟩)) ∧ PInv E t nv rows w' ∧ 0 < rows.length ∧ Blk w' d #[.pointer (some ⟨E.g, 0, none⟩)] 59 ∧ But [] w w'
  | .bad _ _ => e = .returned (.pointer none) ∧ But [] w w'

set_option maxHeartbeats 400000 in
theorem kRead_any (s : ByteArray) (hs : s.size ≤ 9223372036854775807) (w : World) : Calls Tryz.prog 14 #[.string s] w fun e w' => ReadPost w (loadM s maxB) e w' := by
  go_enter Tryz.func14, Tryz.ntmps14
  go_wp2_with fail
  refine (kMost_any w).mono ?_
  rintro e w1 ⟨rfl, hb1⟩
  have HL : Hid _ := load_any s maxB hs w1
  go_wp2_with fail
  refine Calls.mono HL.out ?_
  intro e w2 hp
  cases hm : loadM s maxB with
  | bad er pl =>
    rw [hm] at hp
    obtain ⟨rfl, hb2, he⟩ := hp
    have he2 : ((er : Int) != 0) = true := by simpa using he
    have HM : Hid (loadM s maxB = .bad er pl) := hm
    clear hm HL
    go_wp2_with fail
    go_ret
    rw [HM.out]
    exact ⟨rfl, hb1.trans hb2 (by simp)⟩
  | ok u t =>
    rw [hm] at hp
    obtain ⟨E, nv, rows, d, rfl, _, _, hI, hr, hd, _, _, hb2⟩ := hp
    have HM : Hid (loadM s maxB = .ok u t) := hm
    clear hm HL
    go_wp2_with fail
    go_ret
    rw [HM.out]
    exact ⟨E, nv, rows, d, rfl, hI, hr, hd, hb1.trans hb2 (by simp)⟩

end Go.Proofs.YtkflkmmbakccoaaGreatDoor
