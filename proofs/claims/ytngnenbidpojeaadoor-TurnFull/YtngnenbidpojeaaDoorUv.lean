/-
  Turns that fail, and turns that send, without memory.
-/
import Derived.Test.YtngnenbidpojeaaDoorWUl
import Derived.Test.YtngnenbidpojeaaDoorW39
namespace Go.Proofs.YtngnenbidpojeaaDoor
set_option maxRecDepth 100000
open Go.RowKit
set_option linter.unusedVariables false
/-- A program that refuses at once. -/
def pg21 : Pg := ⟨[], [⟨21, 0⟩]⟩
theorem okp21 : OkP pg21 := fun x hx => by
  simp [pg21] at hx
  subst hx
  exact i64_lit (by decide)
/-- An actor with these letters, tries and poison. -/
def trA (L : List Lt) (k : Int) (P : List Lt) : Ac := ⟨newJ, L, ⟨[109, 101], [], []⟩, k, P⟩
theorem res21 (l : Lt) (hl : l.formed = true) : resI pg21 (stJ newJ) l 0 = (Rsl.none 1, 12) := by
  have hm : mayI pg21 l 0 = true := by unfold mayI; rw [hl]; rfl
  unfold resI
  rw [if_pos hm]
  rfl
theorem take21 (l : Lt) (t : List Lt) (hl : l.formed = true) (k : Int) (hk : k = 0 ∨ k = 1) : takeA pg21 (trA (l :: t) k []) 0 = (trA (l :: t) (k + 1) [], ⟨false, false, 12, 1, []⟩, 0) := by
  have hs : soundA k (l :: t).length [] = true := (soundA_iff _ _ _).2 ⟨by omega, by omega, by simp, by simp, by simp⟩
  unfold takeA trA
  simp only
  rw [if_pos ⟨hs, rfl, by omega⟩, res21 l hl]
  unfold takeR
  rw [if_neg (by decide)]
  simp only
  rw [if_pos (by omega)]
  rfl
theorem take21p (l : Lt) (t : List Lt) (hl : l.formed = true) : takeA pg21 (trA (l :: t) 2 []) 0 = (trA t 0 [l], ⟨false, true, 12, 1, []⟩, 0) := by
  have hs : soundA 2 (l :: t).length [] = true := (soundA_iff _ _ _).2 ⟨by omega, by omega, by simp, by simp, by simp⟩
  unfold takeA trA
  simp only
  rw [if_pos ⟨hs, rfl, by omega⟩, res21 l hl]
  unfold takeR
  rw [if_neg (by decide)]
  simp only
  rw [if_neg (by omega), if_neg (by simp)]
  rfl
theorem push_first (l : Lt) (hl : l.formed = true) : pushAc (newA [109, 101]) l = trA [l] 0 [] := by
  unfold pushAc newA trA pushL
  simp [hl]
theorem push_more (l : Lt) (t : List Lt) (x : Lt) : ∃ t', pushAc (trA (l :: t) 0 []) x = trA (l :: t') 0 [] := by
  unfold pushAc trA pushL
  simp only
  split
  · exact ⟨t ++ [x], rfl⟩
  · exact ⟨t, rfl⟩
theorem lim_tr (L : List Lt) (k : Int) (P : List Lt) : Lim (trA L k P) 0 0 := ⟨fun y hy => by simp [trA] at hy, Nat.le_refl _⟩
/-- A program that sends s letters to one key. -/
def pgS (s : Nat) : Pg := ⟨[[98]], (List.replicate s [(⟨1, 3⟩ : In), ⟨1, 4⟩, ⟨17, 0⟩]).flatten⟩
theorem okpS (s : Nat) : OkP (pgS s) := fun x hx => by
  simp only [pgS, List.mem_flatten, List.mem_replicate] at hx
  obtain ⟨l, ⟨-, rfl⟩, hx⟩ := hx
  simp at hx
  rcases hx with rfl | rfl | rfl <;> exact i64_lit (by decide)
theorem pgS_next (s : Nat) : (pgS (s + 1)).code = (pgS s).code ++ [⟨1, 3⟩, ⟨1, 4⟩, ⟨17, 0⟩] := by
  simp only [pgS]
  rw [List.replicate_succ', List.flatten_append]
  simp
/-- The empty letter. -/
def ltZ : Lt := ⟨[], 0, 0, []⟩
theorem resS : ∀ s : Nat, s ≤ 4 → ∃ R, resI (pgS s) (stJ newJ) ltZ 0 = (R, 0) ∧ R.sent.length = s ∧ (∀ x ∈ R.sent, x.to = [98]) ∧ R.tm = []
  | 0, _ => ⟨_, rfl, rfl, by simp [Mc.start], rfl⟩
  | 1, _ => ⟨_, rfl, rfl, by decide, rfl⟩
  | 2, _ => ⟨_, rfl, rfl, by decide, rfl⟩
  | 3, _ => ⟨_, rfl, rfl, by decide, rfl⟩
  | 4, _ => ⟨_, rfl, rfl, by decide, rfl⟩
  | n + 5, h => by omega
/-- n letters to one key. -/
structure InO (o : Ob) (n : Nat) : Prop where
  own : o.own = [109, 101]
  len : o.L.length = n
  keys : o.K = if n = 0 then [] else [⟨[98], n⟩]
theorem InO.new : InO ⟨[109, 101], [], []⟩ 0 := ⟨rfl, rfl, rfl⟩
theorem InO.ser {o : Ob} {n : Nat} (h : InO o n) : ser o.K [98] = n := by
  rw [h.keys]
  by_cases h0 : n = 0
  · rw [if_pos h0]; simp [YtngnenbidpojeaaDoor.ser, h0]
  · rw [if_neg h0]; simp [YtngnenbidpojeaaDoor.ser]
theorem InO.serB {o : Ob} {n : Nat} (h : InO o n) : SerB o n := fun y hy => by
  rw [h.keys] at hy
  split at hy
  · simp at hy
  · simp at hy; subst hy; exact Nat.le_refl _
theorem InO.kl {o : Ob} {n : Nat} (h : InO o n) : o.K.length ≤ 1 := by
  rw [h.keys]
  split <;> simp
theorem InO.okS {o : Ob} {n : Nat} (h : InO o n) : okSnd o [98] = decide (n ≠ 32) := by
  have := h.kl
  unfold okSnd
  rw [h.len, show decide (o.K.length ≠ 64) = true from decide_eq_true (by omega), show isKey [98] = true from rfl]
  simp
theorem InO.snd {o : Ob} {n : Nat} (h : InO o n) (kind : Int) (args : List Int) : InO (sendO o [98] kind args) (n + 1) := by
  refine ⟨h.own, ?_, ?_⟩
  · simp [sendO, h.len]
  · have hs := h.ser
    simp only [sendO]
    rw [hs, h.keys]
    by_cases h0 : n = 0
    · subst h0; simp [setK]
    · rw [if_neg h0]; simp [setK]
theorem InO.sendL : ∀ (l : List Sn) (o : Ob) (n : Nat), InO o n → n ≤ 32 → (∀ x ∈ l, x.to = [98]) → (n + l.length ≤ 32 → ∃ q, sendL o l = some q ∧ InO q (n + l.length)) ∧ (32 < n + l.length → sendL o l = none)
  | [], o, n, h, hn, _ => ⟨fun _ => ⟨o, rfl, h⟩, fun h' => by simp at h'; omega⟩
  | x :: l, o, n, h, hn, hx => by
    have h1 : x.to = [98] := hx x (by simp)
    rw [YtngnenbidpojeaaDoor.sendL, h1, h.okS]
    by_cases h32 : n = 32
    · rw [if_neg (by simp [h32])]
      exact ⟨fun h' => by simp at h'; omega, fun _ => rfl⟩
    · rw [if_pos (by simp [h32])]
      have := InO.sendL l _ _ (h.snd x.kind [x.arg]) (by omega) (fun y hy => hx y (by simp [hy]))
      rw [List.length_cons, show n + (l.length + 1) = n + 1 + l.length by omega]
      exact this
/-- An actor with that outbox. -/
def fuA (o : Ob) (L : List Lt) : Ac := ⟨newJ, L, o, 0, []⟩
theorem takeF {o : Ob} {n s : Nat} (h : InO o n) (hn : n ≤ 32) (hs : s ≤ 4) :
    (n + s ≤ 32 → ∃ j q k, takeA (pgS s) (fuA o [ltZ]) 0 = (⟨j, [], q, 0, []⟩, ⟨true, false, 0, k, []⟩, 0) ∧ InO q (n + s)) ∧ (32 < n + s → takeA (pgS s) (fuA o [ltZ]) 0 = (fuA o [ltZ], ocN, 8)) := by
  obtain ⟨R, hR, hl, ht, htm⟩ := resS s hs
  have hf : formedP (pgS s) = true := by
    match s, hs with
    | 0, _ => rfl
    | 1, _ => rfl
    | 2, _ => rfl
    | 3, _ => rfl
    | 4, _ => rfl
    | n + 5, h => omega
  obtain ⟨a1, a2⟩ := InO.sendL R.sent o n h hn ht
  rw [hl] at a1 a2
  unfold takeA fuA
  simp only
  rw [if_pos ⟨rfl, hf, by omega⟩, hR]
  unfold takeR
  simp only [if_true]
  constructor
  · intro hns
    obtain ⟨q, hq, hQ⟩ := a1 hns
    rw [hq, htm]
    exact ⟨_, q, R.k, rfl, hQ⟩
  · intro hns
    rw [a2 hns]
theorem lim_fu {o : Ob} {n : Nat} (h : InO o n) (L : List Lt) : Lim (fuA o L) n 0 := ⟨h.serB, Nat.le_refl _⟩
theorem push_fu (o : Ob) : pushAc (fuA o []) ltZ = fuA o [ltZ] := rfl
section
variable {w0 w w' : World} {p pj pi po : Nat} {a : Ac} {v : Value}
theorem AP.putO (h : AP w0 w p pj pi po a) {o : Ob} {ys' : List Yq} (hO : IsO w' po o.own o.K ys') (hm : ys'.map ot = o.L) (k : Kept [po] w w') (g : GoodO o) : AP w0 w' p pj pi po ⟨a.j, a.inb, o, a.tries, a.poi⟩ := by
  obtain ⟨v, hp, hv, hg⟩ := h
  exact ⟨v, hp.putO hO hm k, hv.turn (hp.tt (k.mono (by simp))) (by decide) (by decide), ⟨hg.j, hg.i8, hg.inb, g, hg.poi⟩⟩
/-- One letter without arguments is sent. -/
theorem sendF {o : Ob} (h : AP w0 w p pj pi po (fuA o [])) {n : Nat} (hI : InO o n) (hn : n < 32) : Calls Tryd.prog 11 #[Ptr po, Sv [98], .int .i64 0, .slice none 0 0] w fun e w' => (∃ r, e = .returned (.tuple #[r, .int .i64 0])) ∧ AP w0 w' p pj pi po (fuA (sendO o [98] 0 []) []) ∧ Kept [po] w w' := by
  have h' := h
  obtain ⟨v, hp, hv, hg⟩ := h
  have g := hg.out
  obtain ⟨ys, h5, hy⟩ := hp.o
  have h5 : IsO w po o.own o.K ys := h5
  have hy : ys.map ot = o.L := hy
  have hyl : ys.length = n := by rw [← hI.len, ← hy, List.length_map]
  have hkl := hI.kl
  have hse := hI.ser
  have g' : GoodO o := g
  refine (send20_ok h5 g'.rise g'.ne.1 (by have := g'.ne.2; omega) [98] ⟨o.own, ser o.K [98] + 1, 0, []⟩ none 0 rfl (by simp) (fun W _ => ReadsJ.nil W) rfl rfl (by omega) (by omega) (by omega)).mono ?_
  rintro e w1 ⟨rfl, a1, c1, hO1, k1, -⟩
  have hG : GoodO (sendO o [98] 0 []) := GoodO.send g' rfl (i64_lit (by decide)) (by simp) (by simp) (by rw [hI.len]; exact hn) (by omega) (by unfold U64; omega)
  exact ⟨⟨_, rfl⟩, h'.putO (o := sendO o [98] 0 []) hO1 (by simp [sendO, hy, ot]) k1 hG, k1⟩
end
end Go.Proofs.YtngnenbidpojeaaDoor
