/- PARTS: Mod41, Mod42, K11, K12. -/
import Derived.Test.YtkflkmmbakccoaaGreatDoorZ2
import Derived.Test.YtkflkmmbakccoaaGreatDoorZ1

/- THE PLAIN FUNCTIONS: what is made of raw numbers, in brackets and in lines. No program is named here. -/
namespace Go.Proofs.YtkflkmmbakccoaaGreatDoor.Q

/-- Which of n numbers a raw one speaks of. -/
def pk (c n : Int) : Int := if c < 0 then -(c + 1).tmod n else c % n

/-- The texts, in quotes (kind 4) or without (kind 0). -/
def wordK (j : Nat) : Nat × ByteArray :=
  if j = 0 then (0, ⟨#[120]⟩) else if j = 1 then (0, ⟨#[97, 98, 99]⟩) else if j = 2 then (4, ⟨#[97, 32, 98]⟩) else if j = 3 then (4, ⟨#[]⟩) else if j = 4 then (0, ⟨#[55, 46, 53]⟩) else if j = 5 then (4, ⟨#[91, 49, 44]⟩) else if j = 6 then (0, ⟨#[95]⟩) else (4, ⟨#[97, 98, 99]⟩)

/-- A key. -/
def keyK (i : Nat) : ByteArray := ⟨#[107, UInt8.ofNat (48 + i)]⟩

/-- What is made: its kind, text, what is in it, how many numbers are used up. -/
structure Mk where
  kind : Nat
  text : ByteArray
  kids : Frst
  used : Nat

def Mk.flow (m : Mk) : List UInt8 := itemT none m.kind m.text (m.kids.txt [44, 32] (m.kind == 2) true)
def Mk.box (m : Mk) : Bool := m.kind == 1 || m.kind == 2
def Mk.lines (m : Mk) (nl : List UInt8) (d : Nat) : List UInt8 := if m.box then m.kids.lns [44, 32] nl d (m.kind == 2) else []

def scal (c : Int) : Mk := ⟨(wordK (pk (c.tdiv 8) 8).toNat).1, (wordK (pk (c.tdiv 8) 8).toNat).2, .nil, 1⟩

/-- Items: so many, from the i-th on, so many numbers being used up. -/
def madeL (go : List Int → Mk) (raw : List Int) (blw : Bool) : Nat → Nat → Nat → Frst × Nat
  | 0, _, used => (.nil, used)
  | n + 1, i, used =>
    (.cons (keyK i) none (go (raw.drop used)).kind (go (raw.drop used)).text (blw && (go (raw.drop used)).box) (go (raw.drop used)).kids (madeL go raw blw n (i + 1) (used + (go (raw.drop used)).used)).1,
      (madeL go raw blw n (i + 1) (used + (go (raw.drop used)).used)).2)

def madeM : Nat → List Int → Mk
  | _, [] => ⟨0, ⟨#[120]⟩, .nil, 0⟩
  | 0, c :: _ => scal c
  | d + 1, c :: raw =>
    if pk c 8 < 3 then scal c
    else ⟨if 5 < pk c 8 then 2 else 1, ByteArray.empty, (madeL (madeM d) (c :: raw) (decide (pk (c.tdiv 64) 3 ≠ 0)) (1 + pk (c.tdiv 8) 3).toNat 0 1).1, (madeL (madeM d) (c :: raw) (decide (pk (c.tdiv 64) 3 ≠ 0)) (1 + pk (c.tdiv 8) 3).toNat 0 1).2⟩

theorem pk_bd {c n : Int} (hn : 0 < n) : 0 ≤ pk c n ∧ pk c n < n := by
  unfold pk
  split
  · rw [← Int.neg_tmod]
    exact ⟨Int.tmod_nonneg n (by omega), Int.tmod_lt_of_pos _ hn⟩
  · exact ⟨Int.emod_nonneg _ (by omega), Int.emod_lt_of_pos _ hn⟩

theorem wordK_ok (j : Nat) : ((wordK j).1 = 0 ∨ (wordK j).1 = 4) ∧ TokOk (wordK j).2 ∧ ((wordK j).1 = 0 → isWordB (wordK j).2 = true) := by
  unfold wordK
  repeat' split
  all_goals exact ⟨by decide, ⟨by decide, by decide⟩, by decide⟩

theorem keyK_ok {i : Nat} (h : i < 10) : TokOk (keyK i) ∧ isWordB (keyK i) = true := by
  have : i = 0 ∨ i = 1 ∨ i = 2 ∨ i = 3 ∨ i = 4 ∨ i = 5 ∨ i = 6 ∨ i = 7 ∨ i = 8 ∨ i = 9 := by omega
  rcases this with rfl | rfl | rfl | rfl | rfl | rfl | rfl | rfl | rfl | rfl <;> exact ⟨⟨by decide, by decide⟩, by decide⟩

theorem keyK_inj {i j : Nat} (hi : i < 10) (hj : j < 10) (h : keyK i = keyK j) : i = j := by
  have h1 : (keyK i).data.toList = (keyK j).data.toList := by rw [h]
  simp only [keyK] at h1
  have h2 : UInt8.ofNat (48 + i) = UInt8.ofNat (48 + j) := by simpa using h1
  have h3 := congrArg UInt8.toNat h2
  rw [UInt8.toNat_ofNat', UInt8.toNat_ofNat'] at h3
  omega

theorem madeL_keys (go : List Int → Mk) (raw : List Int) (blw : Bool) (n : Nat) : ∀ i used, (madeL go raw blw n i used).1.keysOf = (List.range n).map (fun j => keyK (i + j)) := by
  induction n with
  | zero => intro i used; rfl
  | succ n ih =>
    intro i used
    simp only [madeL, Frst.keysOf]
    rw [ih, List.range_succ_eq_map, List.map_cons, List.map_map]
    congr 1
    apply List.map_congr_left
    intro j _
    simp only [Function.comp]
    rw [show i + 1 + j = i + (j + 1) by omega]

theorem keys_nodup (n : Nat) (h : n ≤ 3) : ((List.range n).map (fun j => keyK (0 + j))).Nodup := by
  have : n = 0 ∨ n = 1 ∨ n = 2 ∨ n = 3 := by omega
  rcases this with rfl | rfl | rfl | rfl <;> decide

/-- What holds of all that is made with so many levels. -/
structure MkOk (d : Nat) (m : Mk) : Prop where
  kind : m.kind ≤ 2 ∨ m.kind = 4
  sc : m.kind = 0 ∨ m.kind = 4 → TokOk m.text ∧ m.kids = .nil
  bx : m.box = true → m.kids ≠ .nil
  keys : m.kind = 2 → (∀ x ∈ m.kids.keysOf, TokOk x) ∧ m.kids.keysOf.Nodup
  tree : m.kids.tree
  lok : m.kids.lok
  hi : m.kids.hi ≤ d
  size : 1 + m.kids.size ≤ 4 ^ d
  used : m.used ≤ 4 ^ d

theorem scal_ok (d : Nat) (c : Int) : MkOk d (scal c) := by
  obtain ⟨h1, h2, _⟩ := wordK_ok (pk (c.tdiv 8) 8).toNat
  have hp : 1 ≤ 4 ^ d := Nat.one_le_pow _ _ (by omega)
  refine ⟨?_, fun _ => ⟨h2, rfl⟩, fun hb => ?_, fun hk => ?_, trivial, trivial, ?_, ?_, hp⟩
  · show (wordK _).1 ≤ 2 ∨ (wordK _).1 = 4
    omega
  · exfalso
    unfold Mk.box scal at hb
    rcases h1 with h1 | h1 <;> simp [h1] at hb
  · exfalso
    have : (wordK (pk (c.tdiv 8) 8).toNat).1 = 2 := hk
    omega
  · show (0 : Nat) ≤ d
    omega
  · exact hp

theorem madeL_ok {d : Nat} {go : List Int → Mk} (hg : ∀ r, MkOk d (go r)) (raw : List Int) (blw : Bool) (n : Nat) : ∀ i used, (madeL go raw blw n i used).1.tree ∧ (madeL go raw blw n i used).1.lok ∧ (madeL go raw blw n i used).1.hi ≤ d + 1 ∧ (madeL go raw blw n i used).1.size ≤ n * 4 ^ d ∧ (madeL go raw blw n i used).2 ≤ used + n * 4 ^ d := by
  induction n with
  | zero => intro i used; exact ⟨trivial, trivial, Nat.zero_le _, by simp [madeL, Frst.size], by simp [madeL]⟩
  | succ n ih =>
    intro i used
    have m := hg (raw.drop used)
    obtain ⟨a1, a2, a3, a4, a5⟩ := ih (i + 1) (used + (go (raw.drop used)).used)
    simp only [madeL]
    refine ⟨⟨rfl, m.kind, m.sc, m.keys, m.tree, a1⟩, ⟨fun hb => ?_, a2⟩, ?_, ?_, ?_⟩
    · simp only [Bool.and_eq_true] at hb
      have hbx := hb.2
      refine ⟨rfl, ?_, m.bx hbx, m.lok⟩
      simpa [Mk.box] using hbx
    · simp only [Frst.hi]
      have := m.hi
      omega
    · simp only [Frst.size]
      have := m.size
      rw [Nat.succ_mul]
      omega
    · have := m.used
      rw [Nat.succ_mul]
      omega

theorem madeM_ok (d : Nat) : ∀ raw, MkOk d (madeM d raw) := by
  induction d with
  | zero =>
    intro raw
    cases raw with
    | nil => exact ⟨.inl (by decide), fun _ => ⟨⟨by decide, by decide⟩, rfl⟩, (fun h => by cases h), (fun h => by cases h), trivial, trivial, by decide, by decide, by decide⟩
    | cons c raw => exact scal_ok 0 c
  | succ d ih =>
    intro raw
    have hp : 1 ≤ 4 ^ d := Nat.one_le_pow _ _ (by omega)
    cases raw with
    | nil =>
      have hnil : madeM (d + 1) [] = ⟨0, ⟨#[120]⟩, .nil, 0⟩ := rfl
      rw [hnil]
      exact ⟨.inl (by decide), fun _ => ⟨⟨by decide, by decide⟩, rfl⟩, (fun h => by cases h), (fun h => by cases h), trivial, trivial, Nat.zero_le _, by simp only [Frst.size]; rw [Nat.pow_succ]; omega, Nat.zero_le _⟩
    | cons c raw =>
      unfold madeM
      by_cases h3 : pk c 8 < 3
      · rw [if_pos h3]; exact scal_ok _ c
      · rw [if_neg h3]
        have hn := pk_bd (c := c.tdiv 8) (n := 3) (by omega)
        have hn3 : (1 + pk (c.tdiv 8) 3).toNat ≤ 3 := by omega
        have hn1 : 1 ≤ (1 + pk (c.tdiv 8) 3).toNat := by omega
        obtain ⟨a1, a2, a3, a4, a5⟩ := madeL_ok ih (c :: raw) (decide (pk (c.tdiv 64) 3 ≠ 0)) (1 + pk (c.tdiv 8) 3).toNat 0 1
        have hk := madeL_keys (madeM d) (c :: raw) (decide (pk (c.tdiv 64) 3 ≠ 0)) (1 + pk (c.tdiv 8) 3).toNat 0 1
        generalize (1 + pk (c.tdiv 8) 3).toNat = n at *
        have hm : n * 4 ^ d ≤ 3 * 4 ^ d := Nat.mul_le_mul_right _ hn3
        refine ⟨?_, fun h => ?_, fun _ => ?_, fun _ => ?_, a1, a2, a3, ?_, ?_⟩
        · simp only; split <;> omega
        · exfalso
          simp only at h
          split at h <;> omega
        · simp only
          obtain ⟨n, rfl⟩ : ∃ g, n = g + 1 := ⟨n - 1, by omega⟩
          unfold madeL
          exact fun e => by cases e
        · simp only
          rw [hk]
          refine ⟨fun x hx => ?_, keys_nodup n hn3⟩
          obtain ⟨j, hj, rfl⟩ := List.mem_map.1 hx
          exact (keyK_ok (by have := List.mem_range.1 hj; omega)).1
        · simp only
          rw [Nat.pow_succ]
          omega
        · simp only
          rw [Nat.pow_succ]
          omega

/-- A text that is one item alone is read. -/
theorem text_one {B : Bud} {nm : Option ByteArray} {kind : Nat} {text : ByteArray} {kids : Frst} {t : PS} (hD : B.depth ≤ 20) (htk : t.k = 0) (hfit : fitsI B nm kind text kids 1 t) :
    ∃ a b, textM ⟨(itemT nm kind text (kids.txt [44, 32] (kind == 2) true)).toArray⟩ B t = .ok () { after nm kind text kids t with k := a, ind := b } := by
  have hat := At.all (itemT nm kind text (kids.txt [44, 32] (kind == 2) true))
  have hsz : (⟨(itemT nm kind text (kids.txt [44, 32] (kind == 2) true)).toArray⟩ : ByteArray).size = (itemT nm kind text (kids.txt [44, 32] (kind == 2) true)).length := by simp [ByteArray.size]
  obtain ⟨f1, f2⟩ := item_first (w := []) (by rw [List.append_nil]; exact hat)
  have hlt : 0 < (⟨(itemT nm kind text (kids.txt [44, 32] (kind == 2) true)).toArray⟩ : ByteArray).size := kindAt_lt (by omega)
  have hend : ¬ 0 + (itemT nm kind text (kids.txt [44, 32] (kind == 2) true)).length < (⟨(itemT nm kind text (kids.txt [44, 32] (kind == 2) true)).toArray⟩ : ByteArray).size := by rw [hsz]; omega
  refine text_flow (.inr rfl) hD htk (nlGo_head hlt f1 (by omega)) hfit hat ?_ ?_
  · rw [skipBl_end _ _ hend]
    unfold lineOver
    rw [kindAt, if_neg hend]
    rfl
  · rw [skipBl_end _ _ hend, nlGo_end _ _ _ hend]
    simp only
    rw [kindAt, if_neg hend]

/-- What is made says the same in brackets and in lines. -/
theorem forms_read {B : Bud} (hD : B.depth = 20) (hN : B.nodes = 500) {m : Mk} (h : MkOk 4 m) {nl : List UInt8} (hnl : NlOk nl) :
    ∃ t1 t2, textM ⟨m.flow.toArray⟩ B ⟨0, 0, [], 0, []⟩ = .ok () t1 ∧ textM ⟨(if m.box then m.lines nl 0 else m.flow).toArray⟩ B ⟨0, 0, [], 0, []⟩ = .ok () t2 ∧ t2.nodes = t1.nodes ∧ t1.anchors = 0 ∧ t2.anchors = 0 ∧ heavyOf t1.nodes 0 = t1.nodes.length ∧ t1.nodes.length ≤ 256 := by
  have hs := h.size
  have htree : (Frst.cons ByteArray.empty none m.kind m.text false m.kids .nil).tree := ⟨rfl, h.kind, h.sc, h.keys, h.tree, trivial⟩
  have hhi := h.hi
  have hfit := Frst.fits_tree (B := B) _ 1 ⟨0, 0, [], 0, []⟩ htree (by simp only [Frst.hi]; rw [hD]; omega) (by simp only [Frst.size]; rw [hN]; simp; omega)
  have hfi := (fits_cons.1 hfit).1
  obtain ⟨a, b, e⟩ := text_one (B := B) (t := ⟨0, 0, [], 0, []⟩) (by omega) rfl hfi
  have hrun := Frst.run_tree _ ⟨0, 0, [], 0, []⟩ htree
  rw [run_cons] at hrun
  have haf := congrArg Prod.snd hrun
  simp only [Frst.run, List.nil_append, List.length_nil] at haf
  have hnodes : (after none m.kind m.text m.kids ⟨0, 0, [], 0, []⟩).nodes = (Frst.cons ByteArray.empty none m.kind m.text false m.kids .nil).flat 0 := by rw [haf]
  have hanch : (after none m.kind m.text m.kids ⟨0, 0, [], 0, []⟩).anchors = 0 := by rw [haf]
  have hlen : ((Frst.cons ByteArray.empty none m.kind m.text false m.kids .nil).flat 0).length = 1 + m.kids.size := by rw [Frst.flat_len]; simp [Frst.size]
  have hheavy : heavyOf ((Frst.cons ByteArray.empty none m.kind m.text false m.kids .nil).flat 0) 0 = 1 + m.kids.size := by
    show m.kids.hv 1 = _
    exact Frst.hv_size _ 1 (by omega)
  have f1 : ∀ a b, textM ⟨m.flow.toArray⟩ B ⟨0, 0, [], 0, []⟩ = .ok () { after none m.kind m.text m.kids ⟨0, 0, [], 0, []⟩ with k := a, ind := b } → True := fun _ _ _ => trivial
  by_cases hb : m.box = true
  · rw [if_pos hb]
    have hkd : m.kind = 1 ∨ m.kind = 2 := by simpa [Mk.box] using hb
    obtain ⟨g1, g2, _, _, _, _, g7⟩ := hfi.2 (by omega)
    have hl : m.lines nl 0 = m.kids.lns [44, 32] nl 0 (m.kind == 2) := by unfold Mk.lines; rw [if_pos hb]
    rw [hl]
    obtain ⟨a2, b2, e2⟩ := text_lines (s := ⟨(m.kids.lns [44, 32] nl 0 (m.kind == 2)).toArray⟩) (B := B) (F := m.kids) (m := (m.kind == 2)) (t := ⟨0, 0, [], 0, []⟩) (.inr rfl) hnl (by omega) (h.bx hb) h.lok rfl g1 g2 g7 (fun hm => h.keys (by simpa using hm)) (At.all _) (by simp [ByteArray.size])
    refine ⟨_, _, e, e2, ?_, hanch, ?_, ?_, ?_⟩
    · show (endM 0 (mkNode (if (m.kind == 2) = true then 2 else 1) ByteArray.empty m.kids.keysOf (m.kids.run (begun none ⟨0, 0, [], 0, []⟩)).1) (m.kids.run (begun none ⟨0, 0, [], 0, []⟩)).2).nodes = (after none m.kind m.text m.kids ⟨0, 0, [], 0, []⟩).nodes
      have hmk : ∀ ids, mkNode (if (m.kind == 2) = true then 2 else 1) ByteArray.empty m.kids.keysOf ids = mkNode m.kind m.text m.kids.keysOf ids := fun ids => by
        rcases hkd with hk | hk <;> simp [mkNode, hk]
      have hk3 : ¬ m.kind = 3 := by omega
      unfold after
      rw [if_neg hk3, hmk]
      rfl
    · have : (m.kids.run (begun none ⟨0, 0, [], 0, []⟩)).2.anchors = 0 := by
        have hrt := Frst.run_tree m.kids (begun none ⟨0, 0, [], 0, []⟩) h.tree
        rw [hrt]
        rfl
      exact this
    · show heavyOf (after none m.kind m.text m.kids ⟨0, 0, [], 0, []⟩).nodes 0 = (after none m.kind m.text m.kids ⟨0, 0, [], 0, []⟩).nodes.length
      rw [hnodes, hlen, hheavy]
    · show (after none m.kind m.text m.kids ⟨0, 0, [], 0, []⟩).nodes.length ≤ 256
      rw [hnodes, hlen]
      omega
  · rw [if_neg hb]
    refine ⟨_, _, e, e, rfl, hanch, hanch, ?_, ?_⟩
    · show heavyOf (after none m.kind m.text m.kids ⟨0, 0, [], 0, []⟩).nodes 0 = (after none m.kind m.text m.kids ⟨0, 0, [], 0, []⟩).nodes.length
      rw [hnodes, hlen, hheavy]
    · show (after none m.kind m.text m.kids ⟨0, 0, [], 0, []⟩).nodes.length ≤ 256
      rw [hnodes, hlen]
      omega

end Go.Proofs.YtkflkmmbakccoaaGreatDoor.Q

/- THE PLAIN FUNCTIONS: what is made of raw numbers, item by item; how long it is; with other ends of lines. No program is named here. -/
namespace Go.Proofs.YtkflkmmbakccoaaGreatDoor.Q

theorem madeL_used (go : List Int → Mk) (raw : List Int) (blw : Bool) (n : Nat) : ∀ i u, (madeL go raw blw (n + 1) i u).2 = (madeL go raw blw n i u).2 + (go (raw.drop (madeL go raw blw n i u).2)).used := by
  induction n with
  | zero => intro i u; simp [madeL]
  | succ n ih =>
    intro i u
    rw [madeL, ih]
    conv => rhs; rw [madeL]

theorem madeL_txt (go : List Int → Mk) (raw : List Int) (blw : Bool) (m : Bool) (n : Nat) : ∀ i u b, (madeL go raw blw (n + 1) i u).1.txt [44, 32] m b =
    (madeL go raw blw n i u).1.txt [44, 32] m b ++ ((if n = 0 ∧ b = true then [] else [44, 32]) ++ ((if m then textL (keyK (i + n)) ++ [58, 32] else []) ++ (go (raw.drop (madeL go raw blw n i u).2)).flow)) := by
  induction n with
  | zero =>
    intro i u b
    simp only [madeL, Frst.txt_cons, Frst.txt_nil, Mk.flow, Nat.add_zero]
    cases b <;> simp
  | succ n ih =>
    intro i u b
    rw [madeL, Frst.txt_cons, ih]
    conv => rhs; rw [madeL, Frst.txt_cons]
    simp only [Bool.false_eq_true, and_false, if_false, Nat.add_eq_zero_iff, Nat.one_ne_zero, false_and]
    rw [show i + 1 + n = i + (n + 1) by omega]
    simp [List.append_assoc]

theorem madeL_lns (go : List Int → Mk) (raw : List Int) (blw : Bool) (m : Bool) (d : Nat) (nl : List UInt8) (n : Nat) : ∀ i u, (madeL go raw blw (n + 1) i u).1.lns [44, 32] nl d m =
    (madeL go raw blw n i u).1.lns [44, 32] nl d m ++ (List.replicate (2 * d) 32 ++ ((if m then textL (keyK (i + n)) ++ [58] else [45]) ++ (if (blw && (go (raw.drop (madeL go raw blw n i u).2)).box) = true then nl ++ (go (raw.drop (madeL go raw blw n i u).2)).lines nl (d + 1) else 32 :: ((go (raw.drop (madeL go raw blw n i u).2)).flow ++ nl)))) := by
  induction n with
  | zero =>
    intro i u
    have e0 : (madeL go raw blw 0 i u).2 = u := rfl
    have e1 : (madeL go raw blw 0 i u).1 = .nil := rfl
    have e2 : (madeL go raw blw (0 + 1) i u).1 = .cons (keyK i) none (go (raw.drop u)).kind (go (raw.drop u)).text (blw && (go (raw.drop u)).box) (go (raw.drop u)).kids .nil := rfl
    rw [e0, e1, e2, Frst.lns_cons, Frst.lns_nil, List.nil_append, List.append_nil, Nat.add_zero]
    congr 2
    by_cases hb : (blw && (go (raw.drop u)).box) = true
    · rw [if_pos hb, if_pos hb]
      have : (go (raw.drop u)).box = true := by simp only [Bool.and_eq_true] at hb; exact hb.2
      unfold Mk.lines
      rw [if_pos this]
    · rw [if_neg hb, if_neg hb]
      rfl
  | succ n ih =>
    intro i u
    rw [madeL, Frst.lns_cons, ih]
    conv => rhs; rw [madeL, Frst.lns_cons]
    rw [show i + 1 + n = i + (n + 1) by omega]
    simp [List.append_assoc]

theorem keyK_txt {i : Nat} (h : i < 10) : textL (keyK i) = [107, UInt8.ofNat (48 + i)] := by
  unfold textL
  rw [if_pos (keyK_ok h).2]
  rfl

theorem scal_flow (c : Int) : (scal c).flow.length ≤ 5 := by
  have key : ∀ j, (Mk.flow ⟨(wordK j).1, (wordK j).2, .nil, 1⟩).length ≤ 5 := fun j => by
    unfold wordK
    repeat' split
    all_goals decide
  exact key _

theorem flow_box {m : Mk} (h : m.box = true) : m.flow = (if m.kind = 2 then 123 else 91) :: (m.kids.txt [44, 32] (m.kind == 2) true ++ [if m.kind = 2 then 125 else 93]) := by
  have hkd : m.kind = 1 ∨ m.kind = 2 := by simpa [Mk.box] using h
  unfold Mk.flow itemT
  rcases hkd with hk | hk <;> simp [hk]

theorem madeL_txt_len {go : List Int → Mk} {M : Nat} (hg : ∀ r, (go r).flow.length ≤ M) (raw : List Int) (blw m : Bool) (n : Nat) (hn : n ≤ 10) : ((madeL go raw blw n 0 1).1.txt [44, 32] m true).length ≤ n * (M + 6) := by
  induction n with
  | zero => simp [madeL, Frst.txt_nil]
  | succ n ih =>
    rw [madeL_txt]
    have h1 := hg (raw.drop (madeL go raw blw n 0 1).2)
    have h2 := ih (by omega)
    rw [keyK_txt (by omega)]
    simp only [List.length_append]
    have h3 : ∀ (q : Prop) [Decidable q], (if q then [] else ([44, 32] : List UInt8)).length ≤ 2 := fun q _ => by split <;> simp
    have h4 : (if m = true then ([107, UInt8.ofNat (48 + (0 + n))] : List UInt8) ++ [58, 32] else []).length ≤ 4 := by split <;> simp
    rw [Nat.succ_mul]
    refine Nat.le_trans (Nat.add_le_add h2 (Nat.add_le_add (h3 _) (Nat.add_le_add h4 h1))) ?_
    omega

theorem flow_len (d : Nat) : ∀ raw, (madeM d raw).flow.length ≤ 10 * 4 ^ (d + 1) := by
  induction d with
  | zero =>
    intro raw
    cases raw with
    | nil => decide
    | cons c raw =>
      have := scal_flow c
      show (scal c).flow.length ≤ _
      omega
  | succ d ih =>
    intro raw
    have hp : 1 ≤ 4 ^ (d + 1) := Nat.one_le_pow _ _ (by omega)
    cases raw with
    | nil =>
      have : (madeM (d + 1) []).flow.length = 1 := rfl
      rw [this, Nat.pow_succ]
      omega
    | cons c raw =>
      by_cases h3 : pk c 8 < 3
      · have : madeM (d + 1) (c :: raw) = scal c := by rw [madeM, if_pos h3]
        rw [this]
        have := scal_flow c
        rw [Nat.pow_succ]
        omega
      · have hbx : (madeM (d + 1) (c :: raw)).box = true := by
          rw [madeM, if_neg h3]
          unfold Mk.box
          simp only
          split <;> rfl
        rw [flow_box hbx]
        have hn := pk_bd (c := c.tdiv 8) (n := 3) (by omega)
        have hk : (madeM (d + 1) (c :: raw)).kids = (madeL (madeM d) (c :: raw) (decide (pk (c.tdiv 64) 3 ≠ 0)) (1 + pk (c.tdiv 8) 3).toNat 0 1).1 := by rw [madeM, if_neg h3]
        rw [hk]
        have h1 := madeL_txt_len ih (c :: raw) (decide (pk (c.tdiv 64) 3 ≠ 0)) ((madeM (d + 1) (c :: raw)).kind == 2) (1 + pk (c.tdiv 8) 3).toNat (by omega)
        have h2 : (1 + pk (c.tdiv 8) 3).toNat * (10 * 4 ^ (d + 1) + 6) ≤ 3 * (10 * 4 ^ (d + 1) + 6) := Nat.mul_le_mul_right _ (by omega)
        simp only [List.length_cons, List.length_append, List.length_nil]
        rw [Nat.pow_succ 4 (d + 1)]
        omega

theorem madeL_lns_len {go : List Int → Mk} {M L d : Nat} (hd : d ≤ 4) (hg : ∀ r, (go r).flow.length ≤ M) (hl : ∀ r, ((go r).lines [10] (d + 1)).length ≤ L) (raw : List Int) (blw m : Bool) (n : Nat) (hn : n ≤ 10) : ((madeL go raw blw n 0 1).1.lns [44, 32] [10] d m).length ≤ n * (M + L + 13) := by
  induction n with
  | zero => simp [madeL, Frst.lns_nil]
  | succ n ih =>
    rw [madeL_lns]
    have h1 := hg (raw.drop (madeL go raw blw n 0 1).2)
    have h0 := hl (raw.drop (madeL go raw blw n 0 1).2)
    have h2 := ih (by omega)
    rw [keyK_txt (by omega)]
    simp only [List.length_append, List.length_replicate]
    have h4 : (if m = true then ([107, UInt8.ofNat (48 + (0 + n))] : List UInt8) ++ [58] else [45]).length ≤ 3 := by split <;> simp
    have hmul : (n + 1) * (M + L + 13) = n * (M + L + 13) + (M + L + 13) := Nat.succ_mul _ _
    rw [hmul]
    by_cases hb : (blw && (go (raw.drop (madeL go raw blw n 0 1).2)).box) = true
    · rw [if_pos hb]
      simp only [List.length_append, List.length_cons, List.length_nil]
      omega
    · rw [if_neg hb]
      simp only [List.length_append, List.length_cons, List.length_nil]
      omega

theorem lines_len (d : Nat) : ∀ raw e, e + d ≤ 4 → ((madeM d raw).lines [10] e).length ≤ 100 * 4 ^ (d + 1) := by
  induction d with
  | zero =>
    intro raw e _
    have hnb : (madeM 0 raw).box = false := by
      cases raw with
      | nil => rfl
      | cons c raw =>
        show (scal c).box = false
        have h1 := (wordK_ok (pk (c.tdiv 8) 8).toNat).1
        unfold Mk.box scal
        rcases h1 with h1 | h1 <;> simp [h1]
    unfold Mk.lines
    rw [hnb]
    simp
  | succ d ih =>
    intro raw e he
    have hp : 1 ≤ 4 ^ (d + 1) := Nat.one_le_pow _ _ (by omega)
    by_cases hbx : (madeM (d + 1) raw).box = true
    · unfold Mk.lines
      rw [if_pos hbx]
      cases raw with
      | nil => cases hbx
      | cons c raw =>
        by_cases h3 : pk c 8 < 3
        · exfalso
          have : madeM (d + 1) (c :: raw) = scal c := by rw [madeM, if_pos h3]
          rw [this] at hbx
          have h1 := (wordK_ok (pk (c.tdiv 8) 8).toNat).1
          unfold Mk.box scal at hbx
          rcases h1 with h1 | h1 <;> simp [h1] at hbx
        · have hn := pk_bd (c := c.tdiv 8) (n := 3) (by omega)
          have hk : (madeM (d + 1) (c :: raw)).kids = (madeL (madeM d) (c :: raw) (decide (pk (c.tdiv 64) 3 ≠ 0)) (1 + pk (c.tdiv 8) 3).toNat 0 1).1 := by rw [madeM, if_neg h3]
          rw [hk]
          have h1 := madeL_lns_len (d := e) (by omega) (flow_len d) (fun r => ih r (e + 1) (by omega)) (c :: raw) (decide (pk (c.tdiv 64) 3 ≠ 0)) ((madeM (d + 1) (c :: raw)).kind == 2) (1 + pk (c.tdiv 8) 3).toNat (by omega)
          have h2 : (1 + pk (c.tdiv 8) 3).toNat * (10 * 4 ^ (d + 1) + 100 * 4 ^ (d + 1) + 13) ≤ 3 * (10 * 4 ^ (d + 1) + 100 * 4 ^ (d + 1) + 13) := Nat.mul_le_mul_right _ (by omega)
          rw [Nat.pow_succ 4 (d + 1)]
          omega
    · unfold Mk.lines
      rw [if_neg hbx]
      simp

/-- Each end of a line is another. -/
def nlSub (nl l : List UInt8) : List UInt8 := l.flatMap (fun b => if b = 10 then nl else [b])

theorem nlSub_app (nl a b : List UInt8) : nlSub nl (a ++ b) = nlSub nl a ++ nlSub nl b := by simp [nlSub]
theorem nlSub_cons (nl : List UInt8) (c : UInt8) (b : List UInt8) : nlSub nl (c :: b) = (if c = 10 then nl else [c]) ++ nlSub nl b := by simp [nlSub]
theorem nlSub_nil (nl : List UInt8) : nlSub nl [] = [] := rfl

theorem nlSub_none (nl : List UInt8) (l : List UInt8) (h : ∀ b ∈ l, b ≠ 10) : nlSub nl l = l := by
  induction l with
  | nil => rfl
  | cons c l ih =>
    rw [nlSub_cons, if_neg (h c (List.mem_cons_self ..)), ih (fun b hb => h b (List.mem_cons_of_mem _ hb))]
    rfl

theorem textL_no {x : ByteArray} (h : TokOk x) : ∀ b ∈ textL x, b ≠ 10 := by
  intro b hb
  unfold textL at hb
  split at hb
  · exact (h.2 b hb).1
  · rcases List.mem_cons.1 hb with rfl | hb
    · decide
    · rcases List.mem_append.1 hb with hb | hb
      · exact (h.2 b hb).1
      · rw [List.mem_singleton.1 hb]; decide

theorem item_no {kind : Nat} {text : ByteArray} {inner : List UInt8} (h : kind ≤ 2 ∨ kind = 4) (h0 : kind = 0 ∨ kind = 4 → TokOk text) (hi : ∀ b ∈ inner, b ≠ 10) : ∀ b ∈ itemT none kind text inner, b ≠ 10 := by
  intro b hb
  unfold itemT at hb
  simp only [List.nil_append] at hb
  rw [if_neg (by omega)] at hb
  split at hb
  · rename_i hk; exact textL_no (h0 (.inl hk)) b hb
  · split at hb
    · rename_i hk
      rcases List.mem_cons.1 hb with rfl | hb
      · decide
      · rcases List.mem_append.1 hb with hb | hb
        · exact ((h0 (.inr hk)).2 b hb).1
        · rw [List.mem_singleton.1 hb]; decide
    · split at hb
      · rcases List.mem_cons.1 hb with rfl | hb
        · decide
        · rcases List.mem_append.1 hb with hb | hb
          · exact hi b hb
          · rw [List.mem_singleton.1 hb]; decide
      · rcases List.mem_cons.1 hb with rfl | hb
        · decide
        · rcases List.mem_append.1 hb with hb | hb
          · exact hi b hb
          · rw [List.mem_singleton.1 hb]; decide

theorem txt_no (F : Frst) : ∀ m b, F.tree → (m = true → ∀ x ∈ F.keysOf, TokOk x) → ∀ c ∈ F.txt [44, 32] m b, c ≠ 10 := by
  induction F with
  | nil => intro m b _ _ c hc; cases hc
  | cons key nm kind text blw kids rest ih1 ih2 =>
    intro m b ht hk c hc
    obtain ⟨rfl, h2, h3, h4, h5, h6⟩ := ht
    rw [Frst.txt_cons] at hc
    rcases List.mem_append.1 hc with hc | hc
    · cases b
      · simp at hc; rcases hc with rfl | rfl <;> decide
      · simp at hc
    · rcases List.mem_append.1 hc with hc | hc
      · cases m
        · simp at hc
        · simp only [if_true] at hc
          rcases List.mem_append.1 hc with hc | hc
          · exact textL_no (hk rfl key (by unfold Frst.keysOf; exact List.mem_cons_self ..)) c hc
          · simp at hc; rcases hc with rfl | rfl <;> decide
      · rcases List.mem_append.1 hc with hc | hc
        · exact item_no h2 (fun h0 => (h3 h0).1) (ih1 _ _ h5 (fun hm => (h4 (by simpa using hm)).1)) c hc
        · exact ih2 m false h6 (fun hm x hx => hk hm x (by unfold Frst.keysOf; exact List.mem_cons_of_mem _ hx)) c hc

theorem lns_sub (nl : List UInt8) (F : Frst) : ∀ d m, F.tree → (m = true → ∀ x ∈ F.keysOf, TokOk x) → nlSub nl (F.lns [44, 32] [10] d m) = F.lns [44, 32] nl d m := by
  induction F with
  | nil => intro d m _ _; rfl
  | cons key nm kind text blw kids rest ih1 ih2 =>
    intro d m ht hk
    obtain ⟨rfl, h2, h3, h4, h5, h6⟩ := ht
    rw [Frst.lns_cons, Frst.lns_cons, nlSub_app, nlSub_app, nlSub_app, ih2 d m h6 (fun hm x hx => hk hm x (by unfold Frst.keysOf; exact List.mem_cons_of_mem _ hx))]
    have e1 : nlSub nl (List.replicate (2 * d) 32) = List.replicate (2 * d) 32 := nlSub_none _ _ (fun b hb => by rw [(List.mem_replicate.1 hb).2]; decide)
    have e2 : nlSub nl (if m = true then textL key ++ [58] else [45]) = (if m = true then textL key ++ [58] else [45]) := nlSub_none _ _ (fun b hb => by
      cases m
      · simp at hb; rw [hb]; decide
      · simp only [if_true] at hb
        rcases List.mem_append.1 hb with hb | hb
        · exact textL_no (hk rfl key (by unfold Frst.keysOf; exact List.mem_cons_self ..)) b hb
        · simp at hb; rw [hb]; decide)
    have e3 : nlSub nl [10] = nl := by simp [nlSub]
    rw [e1, e2]
    congr 3
    cases blw
    · simp only [Bool.false_eq_true, if_false]
      rw [nlSub_cons, if_neg (by decide), nlSub_app, e3, nlSub_none nl (itemT none kind text _) (item_no h2 (fun h0 => (h3 h0).1) (txt_no kids _ _ h5 (fun hm => (h4 (by simpa using hm)).1)))]
      rfl
    · simp only [if_true]
      rw [nlSub_app, e3, ih1 (d + 1) _ h5 (fun hm => (h4 (by simpa using hm)).1)]

theorem made_sub {d : Nat} {m : Mk} (h : MkOk d m) (nl : List UInt8) (e : Nat) : nlSub nl (m.lines [10] e) = m.lines nl e ∧ nlSub nl m.flow = m.flow := by
  refine ⟨?_, nlSub_none _ _ (item_no h.kind (fun h0 => (h.sc h0).1) (txt_no m.kids _ _ h.tree (fun hm => (h.keys (by simpa using hm)).1)))⟩
  unfold Mk.lines
  by_cases hb : m.box = true
  · rw [if_pos hb, if_pos hb]
    exact lns_sub nl m.kids e _ h.tree (fun hm => (h.keys (by simpa using hm)).1)
  · rw [if_neg hb, if_neg hb]; rfl

theorem lines_ne {d : Nat} {m : Mk} (h : MkOk d m) (nl : List UInt8) (e : Nat) (hb : m.box = true) : m.lines nl e ≠ [] := by
  unfold Mk.lines
  rw [if_pos hb]
  have hne := h.bx hb
  cases hk : m.kids with
  | nil => exact absurd hk hne
  | cons key nm kind text blw kids rest =>
    rw [Frst.lns_cons]
    intro h0
    simp only [List.append_eq_nil_iff] at h0
    have := h0.2.1
    split at this <;> simp at this

end Go.Proofs.YtkflkmmbakccoaaGreatDoor.Q

/- WALKS: package grafterkeep: two; raw numbers that came in. -/
namespace Go.Proofs.YtkflkmmbakccoaaGreatDoor
open Go.RowKit Go.Maps

/-- A digit. -/
def dgB (n : Nat) : ByteArray := bK [UInt8.ofNat (48 + n)]

set_option maxRecDepth 100000 in
theorem dig_run (w : World) : ∀ d : Nat, d < 10 → (Instr.slice 9 (.string ⟨#[48, 49, 50, 51, 52, 53, 54, 55, 56, 57]⟩) (some (.int .i64 (d : Int))) (some (.int .i64 ((d : Int) + 1))) none).run Tryz.prog w = .ok (.string (dgB d)) w := by
  intro d hd
  have : d = 0 ∨ d = 1 ∨ d = 2 ∨ d = 3 ∨ d = 4 ∨ d = 5 ∨ d = 6 ∨ d = 7 ∨ d = 8 ∨ d = 9 := by omega
  rcases this with rfl | rfl | rfl | rfl | rfl | rfl | rfl | rfl | rfl | rfl <;> rfl

set_option maxRecDepth 20000 in
set_option maxHeartbeats 400000 in
theorem kTwo_any (n : Nat) (hn : n < 10) (w : World) :
    Calls Tryz.prog 23 #[.int .i64 (n : Int)] w fun e w' => e = .returned (.string (dgB n)) ∧ w' = w := by
  have hr := dig_run w n hn
  have hm : (n : Int) % 10 = (n : Int) := by omega
  have hr2 : (Instr.slice 9 (.string ⟨#[48, 49, 50, 51, 52, 53, 54, 55, 56, 57]⟩) (some (.int .i64 ((n : Int) % 10))) (some (.int .i64 ((n : Int) % 10 + 1))) none).run Tryz.prog w = .ok (.string (dgB n)) w := by
    rw [hm]; exact hr
  clear hr hm
  go_enter Tryz.func23, Tryz.ntmps23
  go_wp2_with fail
  go_ret
  exact ⟨rfl, rfl⟩

theorem pk_eq (c n : Int) : Q.pk c n = pickM c n := rfl

/-- Raw numbers that came in. -/
structure RawOk (w : World) (v : Value) (raw : List Int) : Prop where
  shape : ∃ a cap, v = .slice a raw.length cap ∧ raw.length ≤ cap ∧ cap ≤ 18000000000000 ∧ (0 < raw.length → ∃ pb off, a = some ⟨pb, off, none⟩ ∧ pb < w.heap.size ∧ ∀ i (hi : i < raw.length), w.cell? ⟨pb, off + i, none⟩ = some (.int .i64 (raw[i])))
  num : ∀ x ∈ raw, -9223372036854775808 ≤ x ∧ x ≤ 9223372036854775807

theorem RawOk.but {w w' : World} {v : Value} {raw : List Int} (h : RawOk w v raw) (hb : But [] w w') : RawOk w' v raw := by
  obtain ⟨a, cap, rfl, h1, h2, h3⟩ := h.shape
  refine ⟨⟨a, cap, rfl, h1, h2, fun hp => ?_⟩, h.num⟩
  obtain ⟨pb, off, rfl, hlt, hc⟩ := h3 hp
  refine ⟨pb, off, rfl, Nat.lt_of_lt_of_le hlt hb.size, fun i hi => ?_⟩
  rw [← hc i hi]
  simp only [World.cell?]
  rw [hb.block pb hlt (by simp)]

end Go.Proofs.YtkflkmmbakccoaaGreatDoor

/- WALKS: package grafterkeep: made. -/
namespace Go.Proofs.YtkflkmmbakccoaaGreatDoor
open Go.RowKit Go.Maps

/-- What made leaves. -/
def MadePost (d : Nat) (raw : List Int) (e : Nat) (w : World) (en : Ending) (w' : World) : Prop :=
  ∃ fl ln : ByteArray, en = .returned (.agg #[.string fl, .string ln, .int .i64 ((Q.madeM d raw).used : Int)]) ∧ But [] w w' ∧ fl = bK (Q.madeM d raw).flow ∧ ln = bK ((Q.madeM d raw).lines [10] e)

theorem made_flow_size {d : Nat} (hd : d ≤ 4) (raw : List Int) : (bK (Q.madeM d raw).flow).size ≤ 10240 := by
  rw [bK_size]
  have h1 := Q.flow_len d raw
  have h2 : 4 ^ (d + 1) ≤ 4 ^ 5 := Nat.pow_le_pow_right (by omega) (by omega)
  omega
theorem made_lines_size {d : Nat} (hd : d ≤ 4) (raw : List Int) (e : Nat) (he : e + d ≤ 4) : (bK ((Q.madeM d raw).lines [10] e)).size ≤ 102400 := by
  rw [bK_size]
  have h1 := Q.lines_len d raw e he
  have h2 : 4 ^ (d + 1) ≤ 4 ^ 5 := Nat.pow_le_pow_right (by omega) (by omega)
  omega

set_option maxRecDepth 20000 in
set_option maxHeartbeats 1000000 in
/-- Nothing is left of the raw numbers. -/
theorem kMade_nil (d e : Nat) (w : World) (v : Value) (hv : RawOk w v []) :
    Calls Tryz.prog 22 #[v, .int .i64 (e : Int), .int .i64 (d : Int)] w fun en w' => MadePost d [] e w en w' := by
  obtain ⟨a, cap, rfl, _, _, _⟩ := hv.shape
  have HM : Hid (Q.madeM d [] = ⟨0, ⟨#[120]⟩, .nil, 0⟩) := by unfold Hid; cases d <;> rfl
  simp only [List.length_nil]
  go_enter Tryz.func22, Tryz.ntmps22
  go_wp2_with fail
  refine bodyPost_ret (v := .agg #[.string ⟨#[120]⟩, .string ⟨#[]⟩, .int .i64 0]) (by simp [results, Tryz.results22, go_sem]) rfl ?_
  refine ⟨⟨#[120]⟩, ⟨#[]⟩, by rw [HM.out]; rfl, alloc_but _ _, by rw [HM.out]; rfl, by rw [HM.out]; rfl⟩

theorem tdiv_bd {c k : Int} (hk : 1 ≤ k) (h : -9223372036854775808 ≤ c ∧ c ≤ 9223372036854775807) : -9223372036854775808 ≤ c.tdiv k ∧ c.tdiv k ≤ 9223372036854775807 := by
  rcases Int.le_total 0 c with h0 | h0
  · have e := Int.tdiv_eq_ediv_of_nonneg (b := k) h0
    have h1 := Int.ediv_nonneg h0 (show 0 ≤ k by omega)
    have h2 := Int.ediv_le_self k h0
    omega
  · have e : c.tdiv k = -((-c).tdiv k) := by rw [Int.neg_tdiv]; omega
    have e2 := Int.tdiv_eq_ediv_of_nonneg (b := k) (show 0 ≤ -c by omega)
    have h1 := Int.ediv_nonneg (show 0 ≤ -c by omega) (show 0 ≤ k by omega)
    have h2 := Int.ediv_le_self k (show 0 ≤ -c by omega)
    omega

/-- A text and how it is written. -/
theorem scal_is (d : Nat) (c : Int) (raw : List Int) (hs : pickM c 8 < 3 ∨ d = 0) : Q.madeM d (c :: raw) = Q.scal c := by
  cases d with
  | zero => rfl
  | succ d =>
    have : Q.pk c 8 < 3 := by rw [pk_eq]; omega
    rw [Q.madeM, if_pos this]

/-- The texts as they are written. -/
def wds : List ByteArray := [⟨#[120]⟩, ⟨#[97, 98, 99]⟩, ⟨#[34, 97, 32, 98, 34]⟩, ⟨#[34, 34]⟩, ⟨#[55, 46, 53]⟩, ⟨#[34, 91, 49, 44, 34]⟩, ⟨#[95]⟩, ⟨#[34, 97, 98, 99, 34]⟩]

theorem wds_flow : ∀ j, j < 8 → bK (Q.Mk.flow ⟨(Q.wordK j).1, (Q.wordK j).2, .nil, 1⟩) = wds.getD j ByteArray.empty := by
  intro j hj
  have : j = 0 ∨ j = 1 ∨ j = 2 ∨ j = 3 ∨ j = 4 ∨ j = 5 ∨ j = 6 ∨ j = 7 := by omega
  rcases this with rfl | rfl | rfl | rfl | rfl | rfl | rfl | rfl <;> decide +kernel

theorem scal_post {c : Int} {d e : Nat} {raw : List Int} (hs : pickM c 8 < 3 ∨ d = 0) {j : Nat} (hj : pickM (c.tdiv 8) 8 = (j : Int)) (hj8 : j < 8) {w w' : World} (hb : But [] w w') : MadePost d (c :: raw) e w (.returned (.agg #[.string (wds.getD j ByteArray.empty), .string ⟨#[]⟩, .int .i64 1])) w' := by
  have hm := scal_is d c raw hs
  have hjn : (Q.pk (c.tdiv 8) 8).toNat = j := by rw [pk_eq, hj]; simp
  unfold MadePost
  rw [hm]
  refine ⟨wds.getD j ByteArray.empty, ⟨#[]⟩, rfl, hb, ?_, ?_⟩
  · rw [← wds_flow j hj8]
    unfold Q.scal
    rw [hjn]
  · have h1 := (Q.wordK_ok j).1
    have : (Q.scal c).box = false := by
      unfold Q.Mk.box Q.scal
      rw [hjn]
      rcases h1 with h1 | h1 <;> simp [h1]
    unfold Q.Mk.lines
    rw [this]
    rfl

set_option maxRecDepth 20000 in
set_option maxHeartbeats 1000000 in
/-- A text is made. -/
theorem kMade_scal (d e : Nat) (w : World) (v : Value) (c : Int) (raw : List Int) (hv : RawOk w v (c :: raw)) (hs : pickM c 8 < 3 ∨ d = 0) (hd : d ≤ 4) :
    Calls Tryz.prog 22 #[v, .int .i64 (e : Int), .int .i64 (d : Int)] w fun en w' => MadePost d (c :: raw) e w en w' := by
  obtain ⟨a, cap, rfl, hcap, hcap2, h3⟩ := hv.shape
  obtain ⟨pb, off, rfl, hlt, hc⟩ := h3 (by simp)
  have hcb := hv.num c (List.mem_cons_self ..)
  obtain ⟨n, hn⟩ : ∃ n, n = (c :: raw).length := ⟨_, rfl⟩
  have hn1 : 1 ≤ n := by rw [hn]; simp
  have hn2 : n ≤ cap := by rw [hn]; exact hcap
  rw [← hn]
  obtain ⟨W, hW⟩ : ∃ W, W = w.alloc (.cells #[.string ⟨#[]⟩, .string ⟨#[]⟩, .int .i64 0] 44) := ⟨_, rfl⟩
  have hbW : But [] w W := by rw [hW]; exact alloc_but _ _
  have hc0 : W.cell? ⟨pb, off, none⟩ = some (.int .i64 c) := by
    have h0 := hc 0 (by simp)
    simp only [List.getElem_cons_zero, Nat.add_zero] at h0
    rw [← h0]
    simp only [World.cell?]
    rw [hbW.block pb hlt (by simp)]
  have hBW : Blk W w.heap.size #[.string ⟨#[]⟩, .string ⟨#[]⟩, .int .i64 0] 44 := by rw [hW]; exact blk_new _ _ _
  have hk8 := pickM_bd (c := c) (n := 8) (by omega)
  have HPK : Hid (∀ W : World, Calls Tryz.prog 17 #[.int .i64 c, .int .i64 8] W fun e w' => e = .returned (.int .i64 (pickM c 8)) ∧ w' = W) := fun W => kPick_any c 8 hcb (by omega) W
  have hdv := tdiv_bd (c := c) (k := 8) (by omega) hcb
  obtain ⟨j, hj, hj8⟩ : ∃ j : Nat, pickM (c.tdiv 8) 8 = (j : Int) ∧ j < 8 := by
    have := pickM_bd (c := c.tdiv 8) (n := 8) (by omega)
    exact ⟨(pickM (c.tdiv 8) 8).toNat, by omega, by omega⟩
  have HPJ : Hid (∀ W : World, Calls Tryz.prog 17 #[.int .i64 (c.tdiv 8), .int .i64 8] W fun e w' => e = .returned (.int .i64 (j : Int)) ∧ w' = W) := fun W => by
    rw [← hj]; exact kPick_any (c.tdiv 8) 8 hdv (by omega) W
  have HPO : Hid (∀ w', But [] w w' → MadePost d (c :: raw) e w (.returned (.agg #[.string (wds.getD j ByteArray.empty), .string ⟨#[]⟩, .int .i64 1])) w') := fun w' hb => scal_post hs hj hj8 hb
  have HW : Hid _ := hW
  clear hW hc h3 hv hcap hj
  have hks : pickM c 8 < 3 ∨ (¬ pickM c 8 < 3 ∧ d = 0) := by omega
  clear hs
  generalize pickM c 8 = kk at *
  have hz : w.heap.size < W.heap.size := hBW.lt
  obtain ⟨V, hV⟩ : ∃ V, V = W.alloc (.cells #[.string ⟨#[120]⟩, .string ⟨#[97, 98, 99]⟩, .string ⟨#[34, 97, 32, 98, 34]⟩, .string ⟨#[34, 34]⟩, .string ⟨#[55, 46, 53]⟩, .string ⟨#[34, 91, 49, 44, 34]⟩, .string ⟨#[95]⟩, .string ⟨#[34, 97, 98, 99, 34]⟩] 9) := ⟨_, rfl⟩
  have hbV : But [] w V := by rw [hV]; exact hbW.alloc _
  have hBV : Blk V w.heap.size #[.string ⟨#[]⟩, .string ⟨#[]⟩, .int .i64 0] 44 := by rw [hV]; exact blk_old hBW
  have hSV : Blk V W.heap.size #[.string ⟨#[120]⟩, .string ⟨#[97, 98, 99]⟩, .string ⟨#[34, 97, 32, 98, 34]⟩, .string ⟨#[34, 34]⟩, .string ⟨#[55, 46, 53]⟩, .string ⟨#[34, 91, 49, 44, 34]⟩, .string ⟨#[95]⟩, .string ⟨#[34, 97, 98, 99, 34]⟩] 9 := by rw [hV]; exact blk_new _ _ _
  have HV : Hid _ := hV
  have hx : V.cell? ⟨W.heap.size, j, none⟩ = some (.string (wds.getD j ByteArray.empty)) := by
    refine hSV.cell ?_
    have : j = 0 ∨ j = 1 ∨ j = 2 ∨ j = 3 ∨ j = 4 ∨ j = 5 ∨ j = 6 ∨ j = 7 := by omega
    rcases this with rfl | rfl | rfl | rfl | rfl | rfl | rfl | rfl <;> rfl
  generalize wds.getD j ByteArray.empty = x at *
  have k0 := hBV.cell (i := 0) rfl
  have k1 := hBV.cell (i := 1) rfl
  have k2 := hBV.cell (i := 2) rfl
  have f0 := hBV.free 0
  have f1 := hBV.free 1
  have f2 := hBV.free 2
  have hBF := ((hBV.set 0 (.string x)).set 1 (.string ⟨#[]⟩)).set 2 (.int .i64 1)
  have hbF : But [] w (((V.setCell ⟨w.heap.size, 0, none⟩ (.string x)).setCell ⟨w.heap.size, 1, none⟩ (.string ⟨#[]⟩)).setCell ⟨w.heap.size, 2, none⟩ (.int .i64 1)) := ((hbV.setCell (.inr (Nat.le_refl _)) _).setCell (.inr (Nat.le_refl _)) _).setCell (.inr (Nat.le_refl _)) _
  have r0 := hBF.cell (i := 0) rfl
  have r1 := hBF.cell (i := 1) rfl
  have r2 := hBF.cell (i := 2) rfl
  have HBF : Hid _ := hbF
  clear hV hBW hbW hbV hSV hbF
  rcases hks with hk3 | ⟨hk3, hd0⟩
  all_goals
    try subst hd0
    go_enter Tryz.func22, Tryz.ntmps22
    go_upto_region 1 with fail
    rw [← HW.out]
    go_wp2_with fail
    refine Calls.mono (HPK.out W) ?_
    rintro e0 w1 ⟨rfl, hw1⟩
    rw [hw1]
    clear hw1
    go_wp2_with fail
    rw [← HV.out]
    refine Calls.mono (HPJ.out V) ?_
    rintro e0 w1 ⟨rfl, hw1⟩
    rw [hw1]
    clear hw1
    go_wp2_with fail
    refine bodyPost_ret (v := .agg #[.string x, .string ⟨#[]⟩, .int .i64 1]) (by simp [results, Tryz.results22, go_sem, r0, r1, r2]) rfl ?_
    exact HPO.out _ HBF.out

end Go.Proofs.YtkflkmmbakccoaaGreatDoor
