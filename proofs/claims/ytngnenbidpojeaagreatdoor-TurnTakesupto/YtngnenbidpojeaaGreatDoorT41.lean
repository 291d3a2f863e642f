import Derived.Deep.DeepCutAuto
import Derived.ChangeKeysEq
import Derived.Deep.RegionLaw
import Derived.Test.YtngnenbidpojeaaGreatDoorT12
import Derived.Test.YtngnenbidpojeaaGreatDoorT16
import Derived.Test.YtngnenbidpojeaaGreatDoorT23
import Derived.Test.YtngnenbidpojeaaGreatDoorT25
import Derived.Test.YtngnenbidpojeaaGreatDoorT26
import Derived.Test.YtngnenbidpojeaaGreatDoorT31
import Derived.Test.YtngnenbidpojeaaGreatDoorT32
/-
 InterpEvents' walk.
-/
namespace Go.Proofs.YtngnenbidpojeaaGreatDoor
open Go.RowKit
set_option maxRecDepth 100000
set_option linter.unusedVariables false
theorem doA_len (b : List Int) : ∀ (l : List Ev), (doA b l).length = b.length := fun l => by
 induction l generalizing b with
 | nil => rfl
 | cons e l ih => show (doA (b.set e.r e.v) l).length = _; rw [ih, List.length_set]
structure RunF (reg : List Int) (now : Int) (R : Rsl × Int) : Prop where
 k : R.1.k ≤ 500
 sent : R.1.sent.length ≤ 4
 err : R.2 ≠ 0 → R.1 = Rsl.none R.1.k ∧ (R.1.k = 500 ∨ R.2 ≠ 11)
 ok : R.2 = 0 → R.1.reg = doA reg R.1.ev ∧ (∀ e ∈ R.1.ev, e.r ≤ 7) ∧ (∀ t ∈ R.1.tm, t.can = false → now ≤ t.due ∧ 1 ≤ t.per)
theorem run_facts {p : Pg} {l : Lt} {now : Int} {reg : List Int} (hO : OkP p) : RunF reg now (resI p reg l now) := by
 unfold resI
 by_cases hm : mayI p l now = true
 ·rw [if_pos hm]
  have hf := run_fine (l := l) (formed_named (may_parts hm).1 hO).1 500 0 _ (Fine.start (reg0 := reg) (now := now))
  cases hr : runI p l now 500 0 (Mc.start reg) with
  | ok m k =>
   rw [hr] at hf
   obtain ⟨h1, h2⟩ := hf
   exact ⟨by show k ≤ 500; omega, h1.sent, fun h => absurd rfl h, fun _ => ⟨h1.reg, h1.ev, h1.tm⟩⟩
  | err e k =>
   rw [hr] at hf
   obtain ⟨h1, h2, h3⟩ := hf
   refine ⟨by show k ≤ 500; omega, by show 0 ≤ 4; omega, fun _ => ⟨rfl, ?_⟩, fun h => ?_⟩
   ·show k = 500 ∨ e ≠ 11
    by_cases h11 : e = 11
    ·exact .inl (by have := h2 h11; omega)
    ·exact .inr h11
   ·have h : e = 0 := h
    omega
 ·rw [if_neg hm]
  exact ⟨by show 0 ≤ 500; omega, by show 0 ≤ 4; omega, fun _ => ⟨rfl, .inr (by decide)⟩, fun h => absurd h (by decide)⟩
section
variable {w : World}
end
section
variable {w : World}
set_option maxHeartbeats 2000000 in
theorem same24 {a a' : Option Addr} {c c' : Nat} {C : List Tm} (h : ReadsR 5 w (.slice a C.length c) (rowT C)) (h' : ReadsR 5 w (.slice a' C.length c') (rowT C)) : Calls Tryz.prog 42 #[.slice a C.length c, .slice a' C.length c'] w fun e w' => e = .returned (.bool true) ∧ Kept [] w w' := by
 have H := Hid.mk h
 have H' := Hid.mk h'
 have hl : C.length ≤ 9223372036854775807 := by
  obtain ⟨_, _, e, h2, h3⟩ := h.form
  rw [rowT_length] at h2
  omega
 clear h h'
 go_enter Tryz.func42, Tryz.ntmps42
 go_wp2_with fail
 go_loopw [13] (fun i wr => ∃ j : Nat, i = .int .i64 (j : Int) ∧ j ≤ C.length ∧ Hid (Kept [] w wr)) (fun i _ => C.length - (intOf i).toNat)
 case atStart => exact ⟨0, rfl, by omega, Hid.mk (Kept.refl [] w)⟩
 case round =>
  obtain ⟨j, rfl, hj, HK⟩ := hrel
  by_cases hlt : j < C.length
  ·have hltI : (j : Int) < (C.length : Int) := by omega
   have hj0 : (0 : Int) ≤ (j : Int) := by omega
   have hy : C[j]? = some C[j] := List.getElem?_eq_getElem hlt
   have KD := HK.out.drew
   obtain ⟨b, o, c1, e1, s0, s1, s2, s3, s4⟩ := rowT_at_N (H.out.keep KD) hy
   obtain ⟨b', o', c2, e2, r0, r1, r2, r3, r4⟩ := rowT_at_N (H'.out.keep KD) hy
   simp only [Value.slice.injEq, true_and] at e1 e2
   obtain ⟨rfl, rfl⟩ := e1
   obtain ⟨rfl, rfl⟩ := e2
   have HN := Hid.mk KD
   clear KD hy
   generalize C[j].nm = tn at *
   generalize C[j].due = td at *
   generalize C[j].per = tp at *
   generalize C[j].kind = tk at *
   generalize C[j].can = tcn at *
   go_wp2_with fail
   go_region
   go_wp2_with fail
   go_roundw
   case rel => exact ⟨j + 1, by go_num, by omega, HN⟩
   case measure => simp [intOf]; omega
  ·have hltI : ¬ (j : Int) < (C.length : Int) := by omega
   go_wp2_with fail
   go_ret
   exact ⟨rfl, HK.out⟩
end
section
variable {w : World}
set_option maxHeartbeats 4000000 in
theorem timers25 {a : Option Addr} {c : Nat} {C : List Tm} (h : ReadsR 5 w (.slice a C.length c) (rowT C)) (hl : C.length ≤ 900) : Calls Tryz.prog 43 #[.slice a C.length c] w fun e w' => ∃ a' c', e = .returned (.slice a' C.length c') ∧ Out 193 5 w w' (.slice a' C.length c') (rowT C) := by
 have H := Hid.mk h
 clear h
 have HO : Hid (Out 193 5 w w (.slice none 0 0) (rowT (C.take 0))) := Hid.mk (Out.nil (Kept.refl [] w))
 go_enter Tryz.func43, Tryz.ntmps43
 go_wp2_with fail
 go_loopw [3, 7] (fun u i wr => ∃ (j : Nat) (a' : Option Addr) (c' : Nat), i = .int .i64 (j : Int) ∧ j ≤ C.length ∧ u = .slice a' j c' ∧ Hid (Out 193 5 w wr (.slice a' j c') (rowT (C.take j)))) (fun _ i _ => C.length - (intOf i).toNat)
 case atStart => exact ⟨0, none, 0, rfl, by omega, rfl, HO⟩
 case round =>
  obtain ⟨j, a', c', rfl, hj, rfl, HR⟩ := hrel
  by_cases hlt : j < C.length
  ·have hltI : (j : Int) < (C.length : Int) := by omega
   have hj0 : (0 : Int) ≤ (j : Int) := by omega
   have hy : C[j]? = some C[j] := List.getElem?_eq_getElem hlt
   obtain ⟨b, o, c1, e1, s0, s1, s2, s3, s4⟩ := rowT_at_N (H.out.keep HR.out.kept) hy
   simp only [Value.slice.injEq, true_and] at e1
   obtain ⟨rfl, rfl⟩ := e1
   have htl : (rowT (C.take j)).length = j := by rw [rowT_length, List.length_take]; omega
   obtain ⟨ad, cc, w2, hrun, hO⟩ := HR.out.more rt47F [.string ⟨C[j].nm.toArray⟩, .bool C[j].can, .int .i64 C[j].due, .int .i64 C[j].per, .int .i64 C[j].kind] rfl (by simp [Value.oneCell']) (by rw [htl]; omega) 193 (0, 0) 46
   rw [htl] at hrun hO
   have e9 : rowT (C.take (j + 1)) = rowT (C.take j) ++ [[.string ⟨C[j].nm.toArray⟩, .bool C[j].can, .int .i64 C[j].due, .int .i64 C[j].per, .int .i64 C[j].kind]] := by
    have e8 : C.take (j + 1) = C.take j ++ [C[j]] := by rw [List.take_add_one, hy]; rfl
    rw [e8]
    simp only [rowT, List.map_append, List.map_cons, List.map_nil]
   rw [← e9] at hO
   have HN := Hid.mk hO
   clear hO e9 hy htl
   generalize C[j].nm = tn at *
   generalize C[j].due = td at *
   generalize C[j].per = tp at *
   generalize C[j].kind = tk at *
   generalize C[j].can = tcn at *
   have hrun : (Builtin.append_ #[46, 46] 46 #[.slice a' j c', .slice (some ⟨wr.heap.size, 0, none⟩) 1 1]).run Tryz.prog (wr.alloc (.cells #[.string ⟨tn.toArray⟩, .bool tcn, .int .i64 td, .int .i64 tp, .int .i64 tk] 193)) = .ok (.slice ad (j + 1) cc) w2 := hrun
   go_wp2_with (at_builtin; refine wpList_append_run 46 46 (.tmp 10) (.tmp 15) rfl (by rfl) _ _ rfl rfl _ _ hrun ?_)
   go_roundw
   case rel => exact ⟨j + 1, ad, cc, by go_num, by omega, rfl, HN⟩
   case measure => simp [intOf]; omega
  ·have hltI : ¬ (j : Int) < (C.length : Int) := by omega
   obtain rfl : j = C.length := by omega
   have HR2 : Hid (Out 193 5 w wr (.slice a' C.length c') (rowT C)) := by
    have := HR.out
    rw [List.take_length] at this
    exact this
   go_wp2_with fail
   go_ret
   exact ⟨_, _, rfl, HR2.out⟩
end
theorem run_sound {reg : List Int} {p : Pg} {l : Lt} {now : Int} (hb : Base p l now) (hN : ∀ i ∈ p.code, Named i) (hT : ∀ i ∈ p.code, Told p i) : ∀ (f k : Nat) (m : Mc), Sound reg now k m → ∀ m' k', runI p l now f k m = .ok m' k' → Sound reg now k' m' ∧ k' ≤ k + f
 | 0, k, m, h, m', k', e => by
  unfold runI at e
  cases hc : p.code[m.at_]? with
  | none => rw [hc] at e; simp at e; obtain ⟨rfl, rfl⟩ := e; exact ⟨h, by omega⟩
  | some i => rw [hc] at e; cases e
 | f + 1, k, m, h, m', k', e => by
  unfold runI at e
  cases hc : p.code[m.at_]? with
  | none => rw [hc] at e; simp at e; obtain ⟨rfl, rfl⟩ := e; exact ⟨h, by omega⟩
  | some i =>
   rw [hc] at e
   dsimp only at e
   have hmem := List.mem_of_getElem? hc
   have hs := h.step hb (hN i hmem) (hT i hmem)
   cases ho : oneI p l now m i with
   | err x => rw [ho] at e; cases e
   | halt m2 =>
    rw [ho] at e hs
    simp at e
    obtain ⟨rfl, rfl⟩ := e
    exact ⟨hs, by omega⟩
   | go m2 =>
    rw [ho] at e hs
    obtain ⟨h1, h2⟩ := run_sound hb hN hT f (k + 1) m2 hs m' k' e
    exact ⟨h1, by omega⟩
theorem run_small {reg : List Int} {p : Pg} {l : Lt} {now : Int} (hO : OkP p) (hlo : l.ok) (hn : I64 now) (hr : ∀ z ∈ reg, I64 z) : (resI p reg l now).1.ev.length ≤ 900 ∧ (resI p reg l now).1.tm.length ≤ 900 := by
 unfold resI
 by_cases hm : mayI p l now = true
 ·rw [if_pos hm]
  obtain ⟨h1, h2, h3⟩ := may_parts hm
  obtain ⟨f1, f2, f3, f4⟩ := formed_parts h1
  obtain ⟨g1, g2⟩ := formed_named h1 hO
  cases hc : runI p l now 500 0 (Mc.start reg) with
  | ok m k =>
   obtain ⟨hs, hk⟩ := run_sound ⟨f3, hlo, h2, h3, hn⟩ g1 g2 500 0 _ (Sound.start (now := now) hr) m k hc
   have e1 := hs.wide.few
   have e2 := hs.few
   exact ⟨by show m.ev.length ≤ 900; omega, by show m.tm.length ≤ 900; omega⟩
  | err e k => exact ⟨by show 0 ≤ 900; omega, by show 0 ≤ 900; omega⟩
 ·rw [if_neg hm]
  exact ⟨by show 0 ≤ 900; omega, by show 0 ≤ 900; omega⟩
section
variable {w : World}
end
end Go.Proofs.YtngnenbidpojeaaGreatDoor
namespace Go.Proofs.YtngnenbidpojeaaGreatDoor
set_option maxRecDepth 100000
set_option linter.unusedVariables false
theorem resI_fit {reg : List Int} {p : Pg} {l : Lt} {now : Int} (hO : OkP p) (hlo : l.ok) (hn : I64 now) (hr : ∀ z ∈ reg, I64 z) : FitR (resI p reg l now).1 := by
 have hF := run_facts (p := p) (l := l) (now := now) (reg := reg) hO
 have hs := run_small hO hlo hn hr
 refine ⟨hs.1, hs.2, hF.sent, hF.k, ?_, ?_⟩ <;> (unfold resI; by_cases hm : mayI p l now = true)
 ·rw [if_pos hm]
  obtain ⟨h1, h2, h3⟩ := may_parts hm
  obtain ⟨f1, f2, f3, f4⟩ := formed_parts h1
  obtain ⟨g1, g2⟩ := formed_named h1 hO
  cases hc : runI p l now 500 0 (Mc.start reg) with
  | ok m k =>
   obtain ⟨hs, hk⟩ := run_sound ⟨f3, hlo, h2, h3, hn⟩ g1 g2 500 0 _ (Sound.start (now := now) hr) m k hc
   exact fun e he => ⟨hs.fine.ev e he, hs.wide.ev e he⟩
  | err e k => exact (fit_none 0 (by omega)).evs
 ·rw [if_neg hm]
  exact (fit_none 0 (by omega)).evs
 ·rw [if_pos hm]
  obtain ⟨h1, h2, h3⟩ := may_parts hm
  obtain ⟨f1, f2, f3, f4⟩ := formed_parts h1
  obtain ⟨g1, g2⟩ := formed_named h1 hO
  cases hc : runI p l now 500 0 (Mc.start reg) with
  | ok m k =>
   obtain ⟨hs, hk⟩ := run_sound ⟨f3, hlo, h2, h3, hn⟩ g1 g2 500 0 _ (Sound.start (now := now) hr) m k hc
   exact fun e he => ⟨((isKey_iff _).1 (hs.wide.sent e he).1).2, (hs.wide.sent e he).2⟩
  | err e k => exact (fit_none 0 (by omega)).snd
 ·rw [if_neg hm]
  exact (fit_none 0 (by omega)).snd
theorem doA_64 (l : List Ev) : ∀ (b : List Int), (∀ z ∈ b, I64 z) → (∀ e ∈ l, I64 e.v) → ∀ z ∈ doA b l, I64 z := by
 induction l with
 | nil => intro b h _; exact h
 | cons e l ih => intro b h he; exact ih _ (doE_I64 h (he e (by simp))) (fun y hy => he y (by simp [hy]))
theorem GoodJ.st64 {j : Jn} (h : GoodJ j) : ∀ z ∈ stJ j, I64 z := doA_64 _ _ h.b64 fun e he => (h.ev e he).2
theorem GoodJ.st8 {j : Jn} (h : GoodJ j) : (stJ j).length = 8 := (doA_len _ _).trans h.b8
theorem takeA_good {p : Pg} {a : Ac} {now : Int} {B V : Nat} (g : GoodP a) (hL : Lim a B V) (hB : B ≤ 1000000) (hV : V ≤ 1000000) (hO : OkP p) (hn : I64 now) :
  GoodP (takeA p a now).1 ∧ Lim (takeA p a now).1 (B + 4) (V + 900) := by
 have hS : ∀ {o : Ob} {B C : Nat}, SerB o B → B ≤ C → SerB o C := fun h hc y hy => by have := h y hy; omega
 have hL' : Lim a (B + 4) (V + 900) := ⟨hS hL.ser (by omega), by have := hL.ver; omega⟩
 unfold takeA
 split
 ·split
  ·exact ⟨g, hL'⟩
  ·rename_i x t hi
   exact takeR_good g hL hB hV hi (resI_fit hO (g.inb x (by rw [hi]; simp)).1 hn g.j.st64)
 ·exact ⟨g, hL'⟩
theorem len_le_wL (ls : List Lq) : ls.length ≤ wL ls := by
 unfold wL
 induction ls with
 | nil => simp
 | cons q l ih => simp only [List.length_cons, List.map_cons, List.sum_cons]; omega
theorem arg_le_wL {ls : List Lq} {q : Lq} (h : q ∈ ls) : q.x.args.length ≤ wL ls := by
 unfold wL
 induction ls with
 | nil => simp at h
 | cons y l ih =>
  simp only [List.map_cons, List.sum_cons]
  rcases List.mem_cons.1 h with rfl | h
  ·omega
  ·have := ih h; omega
theorem len_le_wT (ts : List (List UInt8)) : ts.length ≤ wT ts := by
 unfold wT
 induction ts with
 | nil => simp
 | cons q l ih => simp only [List.length_cons, List.map_cons, List.sum_cons]; omega
theorem text_le_wT {ts : List (List UInt8)} {t : List UInt8} (h : t ∈ ts) : t.length ≤ wT ts := by
 unfold wT
 induction ts with
 | nil => simp at h
 | cons y l ih =>
  simp only [List.map_cons, List.sum_cons]
  rcases List.mem_cons.1 h with rfl | h
  ·omega
  ·have := ih h; omega
inductive Way (n k : Nat) : Ac × Oc × Int → Prop where
 | no (a : Ac) (c : Int) (hc : c ≠ 0) (hn : a.inb.length = n) (hk : a.poi.length = k) : Way n k (a, ocN, c)
 | done (a : Ac) (s : Nat) (tm : List Tm) (hs : s ≤ 500) (hn : a.inb.length + 1 = n) (hk : a.poi.length = k) (ht : a.tries = 0) : Way n k (a, ⟨true, false, 0, s, tm⟩, 0)
 | fail (a : Ac) (e : Int) (s : Nat) (he : e ≠ 0) (hs : s ≤ 500) (hn : a.inb.length = n) (hk : a.poi.length = k) : Way n k (a, ⟨false, false, e, s, []⟩, 0)
 | pois (a : Ac) (e : Int) (s : Nat) (he : e ≠ 0) (hs : s ≤ 500) (hn : a.inb.length + 1 = n) (hk : a.poi.length = k + 1) (h8 : k ≤ 8) (ht : a.tries = 0) : Way n k (a, ⟨false, true, e, s, []⟩, 0)
theorem take_way {p : Pg} {a : Ac} {now : Int} (g : GoodP a) (hO : OkP p) (hn : I64 now) : Way a.inb.length a.poi.length (takeA p a now) := by
 unfold takeA
 split
 ·rename_i hsd
  have h8 := ((soundA_iff _ _ _).1 hsd.1).2.2.2.1
  split
  ·rename_i hi
   exact .no a 5 (by decide) rfl rfl
  ·rename_i x t hi
   have hF := resI_fit (p := p) (l := x) (reg := stJ a.j) (now := now) hO (g.inb x (by rw [hi]; simp)).1 hn g.j.st64
   have hl : t.length + 1 = a.inb.length := by rw [hi]; rfl
   generalize resI p (stJ a.j) x now = R at *
   unfold takeR
   by_cases h0 : R.2 = 0
   ·rw [if_pos h0]
    cases sendL a.out R.1.sent with
    | none => exact .no a 8 (by decide) rfl rfl
    | some o => exact .done _ _ _ hF.k hl rfl rfl
   ·rw [if_neg h0]
    split
    ·exact .fail _ _ _ h0 hF.k rfl rfl
    ·split
     ·exact .no a 8 (by decide) rfl rfl
     ·exact .pois _ _ _ h0 hF.k hl (by simp) h8 rfl
 ·exact .no a 1 (by decide) rfl rfl
theorem ofA_lim (key : List UInt8) (ls : List Lq) (ts : List (List UInt8)) (es : List Ep) (t : Int) (ps : List Lt) : Lim (ofA key ls ts es t ps) ts.length es.length := by
 have h1 := pushK_j (newA key) ls ls.length
 refine ⟨?_, ?_⟩
 ·have h0 : SerB (pushK (newA key) ls ls.length).out 0 := by rw [h1.2]; intro y hy; simp [newA] at hy
  exact sendK_ser h0 ts ts.length
 ·have h2 := (sendK_j (pushK (newA key) ls ls.length) ts ts.length).1
  have h3 : (sendK (pushK (newA key) ls ls.length) ts ts.length).j.ver = 0 := by rw [h2, h1.1]; rfl
  have := addR_ver (sendK (pushK (newA key) ls ls.length) ts ts.length).j es
  rw [h3] at this
  show (addR _ es).ver ≤ _
  omega
end Go.Proofs.YtngnenbidpojeaaGreatDoor
