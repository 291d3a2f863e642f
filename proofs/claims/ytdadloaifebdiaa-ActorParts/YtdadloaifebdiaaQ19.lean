import Derived.Test.YtdadloaifebdiaaQ05
import Derived.Test.YtdadloaifebdiaaQ11
import Derived.Test.YtdadloaifebdiaaQ13
import Derived.Test.YtdadloaifebdiaaQ16
import Derived.Test.YtdadloaifebdiaaQ18
/-
  Send of an outbox.
-/
namespace Go.Proofs.Ytdadloaifebdiaa
set_option maxRecDepth 100000
open Go.RowKit
set_option linter.unusedVariables false
section
variable {w : World} {p : Nat} {own : List UInt8} {K : List La} {qs : List Yq}
/-- A Send that there can't be. -/
theorem send20_arg (to : List UInt8) (kind : Int) (a : Option Addr) (n c : Nat) (pp : Option Addr) (hl : to.length ≤ 281474976710656) (own : Bool) (hO : Calls Try.prog 51 #[.pointer pp] w fun e w' => e = .returned (.bool own) ∧ w = w') (hn : n ≤ 1000000) (h : own = false ∨ isKey to = false ∨ 4 < n) :
    Calls Try.prog 19 #[.pointer pp, Sv to, .int .i64 kind, .slice a n c] w fun e w' => e = .returned (.tuple #[Uv 0, .int .i64 1]) ∧ w = w' := by
  have HK := Hid.mk (isKey26 (w := w) to hl)
  have HO := Hid.mk hO
  clear hO
  cases own with
  | false =>
    go_enter Try.func19, Try.ntmps19
    go_wp2_with fail
    refine HO.out.mono ?_
    rintro e w1 ⟨rfl, rfl⟩
    go_wp2_with fail
    go_ret2
    exact ⟨rfl, rfl⟩
  | true =>
    cases hk : isKey to with
    | false =>
      rw [hk] at HK
      clear h hk
      go_enter Try.func19, Try.ntmps19
      go_wp2_with fail
      refine HO.out.mono ?_
      rintro e w1 ⟨rfl, rfl⟩
      go_wp2_with fail
      refine HK.out.mono ?_
      rintro e w1 ⟨rfl, rfl⟩
      go_wp2_with fail
      go_ret2
      exact ⟨rfl, rfl⟩
    | true =>
      rw [hk] at HK h
      have g4 : (4 : Int) < (n : Int) := by rcases h with h | h | h; cases h; cases h; omega
      clear h hk
      go_enter Try.func19, Try.ntmps19
      go_wp2_with fail
      refine HO.out.mono ?_
      rintro e w1 ⟨rfl, rfl⟩
      go_wp2_with fail
      refine HK.out.mono ?_
      rintro e w1 ⟨rfl, rfl⟩
      go_wp2_with fail
      go_ret2
      exact ⟨rfl, rfl⟩
set_option maxHeartbeats 1000000 in
/-- A Send that finds no room, or no serial. -/
theorem send20_full (hB : IsO w p own K qs) (hup : Rise K) (hne : own ≠ []) (to : List UInt8) (kind : Int) (a : Option Addr) (n c : Nat) (hk : isKey to = true) (hn : n ≤ 4) (h : qs.length = 32 ∨ (hasK K to = false ∧ K.length = 64)) :
    Calls Try.prog 19 #[.pointer (some ⟨p, 0, none⟩), Sv to, .int .i64 kind, .slice a n c] w fun e w' => e = .returned (.tuple #[Uv 0, .int .i64 6]) ∧ Kept [] w w' := by
  have hkl := (isKey_iff to).1 hk
  have HK := Hid.mk (isKey26 (w := w) to (by omega))
  have HO := Hid.mk (owned34 hB)
  have ho : (!own.isEmpty) = true := by cases own with | nil => exact absurd rfl hne | cons _ _ => rfl
  rw [ho] at HO
  rw [hk] at HK
  have hc := hB.count
  have hl := hB.ln
  have g4 : ((4 : Int) < (n : Int)) = False := eq_false (by omega)
  by_cases h32 : qs.length = 32
  · rw [h32] at hc
    have hc : w.cell? ⟨p, 290, none⟩ = some (.int .i64 32) := hc
    clear h hB h32 hk hkl hl
    go_enter Try.func19, Try.ntmps19
    go_wp2_with fail
    refine HO.out.mono ?_
    rintro e w1 ⟨rfl, rfl⟩
    go_wp2_with fail
    refine HK.out.mono ?_
    rintro e w1 ⟨rfl, rfl⟩
    go_wp2_with fail
    go_ret2
    exact ⟨rfl, Kept.refl [] _⟩
  · have h2 : hasK K to = false ∧ K.length = 64 := by rcases h with h | h; exact absurd h h32; exact h
    have HN := Hid.mk (hasNext58 hB hup to)
    rw [h2.1, h2.2] at HN
    have e : (if (false : Bool) = true then decide (ser K to < 18446744073709551615) else decide ((64 : Nat) < 64)) = false := by simp
    rw [e] at HN
    have g32 : ((qs.length : Int) == 32) = false := by simp; omega
    clear h hB h32 hk hkl hl h2 e
    go_enter Try.func19, Try.ntmps19
    go_wp2_with fail
    refine HO.out.mono ?_
    rintro e w1 ⟨rfl, rfl⟩
    go_wp2_with fail
    refine HK.out.mono ?_
    rintro e w1 ⟨rfl, rfl⟩
    go_wp2_with fail
    refine HN.out.mono ?_
    rintro e w1 ⟨rfl, k1⟩
    go_wp2_with fail
    go_ret2
    exact ⟨rfl, k1⟩
set_option maxHeartbeats 1000000 in
/-- A Send. -/
theorem send20_ok (hB : IsO w p own K qs) (hup : Rise K) (hne : own ≠ []) (hol : own.length ≤ 1000) (to : List UInt8) (x : Lt) (a : Option Addr) (c : Nat) (hk : isKey to = true) (hn : x.args.length ≤ 4) (hx : ∀ W, Kept [p] w W → ReadsJ W (.slice a x.args.length c) x.args) (hfr : x.fr = own) (hser : x.ser = ser K to + 1) (h32 : qs.length < 32) (h64 : hasK K to = true ∨ K.length < 64) (hs : ser K to + 1 < 18446744073709551616) :
    Calls Try.prog 19 #[.pointer (some ⟨p, 0, none⟩), Sv to, .int .i64 x.kind, .slice a x.args.length c] w fun e w' => e = .returned (.tuple #[Uv (ser K to + 1), .int .i64 0]) ∧ ∃ a' c', IsO w' p own (setK K to (ser K to + 1)) (qs ++ [⟨to, x, a', c'⟩]) ∧ Kept [p] w w' ∧ Fresh w (.slice a' x.args.length c') := by
  have hkl := (isKey_iff to).1 hk
  have HK := Hid.mk (isKey26 (w := w) to (by omega))
  have HO := Hid.mk (owned34 hB)
  have ho : (!own.isEmpty) = true := by cases own with | nil => exact absurd rfl hne | cons _ _ => rfl
  rw [ho] at HO
  rw [hk] at HK
  have hc := hB.count
  have g4 : ((4 : Int) < (x.args.length : Int)) = False := eq_false (by omega)
  have HN := Hid.mk (hasNext58 hB hup to)
  have e : (if hasK K to = true then decide (ser K to < 18446744073709551615) else decide (K.length < 64)) = true := by
    split
    · simp; omega
    · rename_i hno
      rcases h64 with h | h
      · exact absurd h hno
      · simpa using h
  rw [e] at HN
  have g32 : ((qs.length : Int) == 32) = false := by simp; omega
  have HX := Hid.mk hx
  have HC1 : Hid (∀ W, Calls Try.prog 54 #[Sv to] W fun e w' => e = .returned (Sv to) ∧ Kept [] W w') := fun W => clone32 to (by omega)
  have HNX : Hid (∀ W, Kept [] w W → Calls Try.prog 55 #[.pointer (some ⟨p, 0, none⟩), Sv to] W fun e w' => e = .returned (Uv (ser K to + 1)) ∧ IsO w' p own (setK K to (ser K to + 1)) qs ∧ Kept [p] W w') := fun W k => next59 (hB.kept0 k) hup to h64 hs
  have HBX : Hid (∃ cs1, w.heap[p]? = some (.cells cs1 108 (0, 0))) := by obtain ⟨cs1, hb1, -⟩ := hB.box; exact ⟨_, hb1⟩
  have hpl := hB.lt
  have HXP : Hid (∀ W, Kept [p] w W → ReadsJ W (.slice a x.args.length c) x.args) := fun W k => hx W k
  rw [← hser] at HNX ⊢
  rw [← hfr] at hol ⊢
  rw [← hfr] at HNX
  have HKS : Hid (∃ K', setK K to x.ser = K') := ⟨_, rfl⟩
  obtain ⟨K', hK'⟩ := HKS.out
  rw [hK'] at HNX ⊢
  clear hB hk hkl e hK' HKS hx hfr hser hup hne
  go_enter Try.func19, Try.ntmps19
  go_wp2_with fail
  refine HO.out.mono ?_
  rintro e w1 ⟨rfl, rfl⟩
  go_wp2_with fail
  refine HK.out.mono ?_
  rintro e w1 ⟨rfl, rfl⟩
  go_wp2_with fail
  refine HN.out.mono ?_
  rintro e w1 ⟨rfl, k1⟩
  go_wp2_with fail
  refine (HC1.out _).mono ?_
  rintro e w2 ⟨rfl, k2⟩
  have k02 := k1.trans k2 (by simp)
  go_wp2_with fail
  refine (HNX.out _ k02).mono ?_
  rintro e w3 ⟨rfl, hB3, k3⟩
  have c3 := hB3.owner
  have hp3 := hB3.lt
  have k03 : Kept [p] w w3 := (k02.mono (by simp)).trans k3 (by simp)
  go_wp2_with fail
  obtain ⟨W4, e4, k4, hz4, hb4⟩ := box1 w3 (.cells #[Sv x.fr, .int .u64 (x.ser : Int), .int .i64 x.kind, .slice a x.args.length c] 50)
  rw [e4]
  have k04 : Kept [p] w W4 := k03.trans k4 (by simp)
  have HC := Hid.mk (copy17 x a c (HXP.out _ k04) (by omega) (by omega))
  obtain ⟨y0, y1, y2, y3⟩ := cells4 hb4
  have HB4 := Hid.mk (hB3.kept0 k4)
  clear hB3 c3 e4
  refine HC.out.mono ?_
  rintro e w5 ⟨a5, c5, rfl, hO5, k5, hf5⟩
  have HP5 := Hid.mk (push60 ⟨to, x, a5, c5⟩ (HB4.out.kept0 k5) h32 hO5)
  go_wp2_with fail
  refine HP5.out.mono ?_
  rintro e w6 ⟨rfl, hB6, k6⟩
  go_wp2_with fail
  go_ret2
  refine ⟨rfl, a5, c5, hB6, (k04.trans k5 (by simp)).trans k6 (by simp), fun g hg => ?_⟩
  have := hf5 g hg
  have := k04.size
  omega
end
end Go.Proofs.Ytdadloaifebdiaa
/-
  The program's outbox and the document's, side by side.
-/
namespace Go.Proofs.Ytdadloaifebdiaa
set_option maxRecDepth 100000
open Go.RowKit
set_option linter.unusedVariables false
/-- What a call on an outbox may turn: blocks that are new since w0, of outboxes' own types. -/
def Turn (w0 w w' : World) : Prop := ∃ S, Kept S w w' ∧ ∀ g ∈ S, w0.heap.size ≤ g ∧ ∃ cs t, w.heap[g]? = some (.cells cs t (0, 0)) ∧ (t = 108 ∨ t = 92 ∨ t = 113 ∨ t = 134)
section
variable {w0 w w' : World} {p pf : Nat} {v u : Value} {own : List UInt8} {K : List La} {qs ms : List Yq}
theorem Turn.of0 (k : Kept [] w w') : Turn w0 w w' := ⟨[], k, by simp⟩
theorem Turn.kept0 (T : Turn w0 w w') (k : Kept [] w0 w) : Kept [] w0 w' := by
  obtain ⟨S, kS, hS⟩ := T
  exact k.trans kS (fun x hx => .inr (hS x hx).1)
theorem Turn.box (T : Turn w0 w w') {g : Nat} {cs : Array Value} {t : TypeId} (h : w.heap[g]? = some (.cells cs t (0, 0))) (ht : t ≠ 108 ∧ t ≠ 92 ∧ t ≠ 113 ∧ t ≠ 134) : w'.heap[g]? = some (.cells cs t (0, 0)) := by
  obtain ⟨S, kS, hS⟩ := T
  refine kS.keeps h (fun hm => ?_)
  obtain ⟨-, cs', t', h', ht'⟩ := hS g hm
  rw [h] at h'
  injection h' with h'
  injection h' with _ e
  subst e
  obtain ⟨a, b, c, d⟩ := ht
  rcases ht' with e | e | e | e
  · exact a e
  · exact b e
  · exact c e
  · exact d e
theorem Turn.ownsJ (T : Turn w0 w w') {x : Value} {l : List Int} (h : OwnsJ w x l) : OwnsJ w' x l := by
  obtain ⟨S, kS, hS⟩ := T
  refine h.kept kS (fun g hg hm => ?_)
  obtain ⟨-, cs', t', h', ht'⟩ := hS g hm
  exact ownsJ_ne h h' (by rcases ht' with rfl | rfl | rfl | rfl <;> decide) hg
theorem Turn.ofO (hB : IsO w p own K qs) (hp : w0.heap.size ≤ p) (k : Kept [p] w w') : Turn w0 w w' := by
  obtain ⟨cs, hb⟩ := hB.bx
  exact ⟨[p], k, fun g hg => by simp at hg; subst hg; exact ⟨hp, _, _, hb, .inl rfl⟩⟩
theorem Turn.ofF (hF : IsF w0 w pf v u own K ms) (k : Kept (footF pf v u) w w') : Turn w0 w w' := by
  refine ⟨_, k, fun g hg => ?_⟩
  rcases mem_footF.1 hg with h | h | h
  · subst h
    exact ⟨hF.fr, _, _, hF.box, .inr (.inl rfl)⟩
  · refine ⟨hF.ys.fr g h, ?_⟩
    rcases ownR_form hF.ys.own with ⟨rfl, -⟩ | ⟨g1, cap, cur, rfl, hb⟩
    · simp [Value.ownBlock] at h
    · simp [Value.ownBlock] at h
      subst h
      exact ⟨_, _, hb, .inr (.inr (.inl rfl))⟩
  · refine ⟨hF.fru g h, ?_⟩
    rcases ownR_form hF.ks with ⟨rfl, -⟩ | ⟨g1, cap, cur, rfl, hb⟩
    · simp [Value.ownBlock] at h
    · simp [Value.ownBlock] at h
      subst h
      exact ⟨_, _, hb, .inr (.inr (.inr rfl))⟩
end
/-- The program's outbox at p, the document's at pf: both are o; no serial above B. -/
structure Two (w0 w : World) (p pf : Nat) (o : Ob) (B : Nat) : Prop where
  isO : ∃ qs, IsO w p o.own o.K qs ∧ qs.map ot = o.L
  isF : ∃ v u ms, IsF w0 w pf v u o.own o.K ms ∧ ms.map ot = o.L
  hp : w0.heap.size ≤ p
  good : GoodO o
  bnd : ∀ y ∈ o.K, y.s ≤ B
section
variable {w0 w w' : World} {p pf : Nat} {o : Ob} {B : Nat}
theorem Two.kept0 (T : Two w0 w p pf o B) (k : Kept [] w w') : Two w0 w' p pf o B := by
  obtain ⟨⟨qs, hO, hq⟩, ⟨v, u, ms, hF, hm⟩, hp, g, b⟩ := T
  exact ⟨⟨qs, hO.kept0 k, hq⟩, ⟨v, u, ms, hF.kept0 k, hm⟩, hp, g, b⟩
theorem Two.mono {B' : Nat} (T : Two w0 w p pf o B) (h : B ≤ B') : Two w0 w p pf o B' := ⟨T.isO, T.isF, T.hp, T.good, fun y hy => Nat.le_trans (T.bnd y hy) h⟩
theorem GoodO.fit {qs : List Yq} (g : GoodO o) (h : qs.map ot = o.L) : Fitq qs := fun y hy => by
  have hm : ot y ∈ o.L := by rw [← h]; exact List.mem_map.2 ⟨y, hy, rfl⟩
  obtain ⟨h1, h2, h3, h4⟩ := g.lets _ hm
  obtain ⟨z, hz, e⟩ := (has_mem g.rise).1 h4
  have hk := (isKey_iff _).1 (g.key z hz).1
  have h2' : y.q.x.fr.length ≤ 40 ∧ y.q.x.args.length ≤ 4 := by have h3 := h2; simp only [ot, Lt.formed, Bool.and_eq_true] at h3; exact ⟨of_decide_eq_true h3.1, of_decide_eq_true h3.2⟩
  have e' : z.k = y.to := e
  rw [← e']
  omega
theorem GoodO.ne (g : GoodO o) : o.own ≠ [] ∧ o.own.length ≤ 40 := by
  have := (isKey_iff _).1 g.own
  refine ⟨fun e => ?_, this.2⟩
  rw [e] at this
  simp at this
theorem Two.serLe (T : Two w0 w p pf o B) (to : List UInt8) : ser o.K to ≤ B := by
  cases h : hasK o.K to with
  | false => rw [(has_not h).1]; omega
  | true =>
    obtain ⟨s, h1, h2⟩ := has_at h
    rw [h2]
    exact T.bnd _ (List.mem_of_getElem? h1)
theorem two_ser33 (T : Two w0 w p pf o B) (to : List UInt8) : Calls Try.prog 58 #[.pointer (some ⟨pf, 0, none⟩), Sv to] w fun e w' => e = .returned (Uv (ser o.K to)) ∧ Kept [] w w' := by
  obtain ⟨⟨qs, hO, hq⟩, ⟨v, u, ms, hF, hm⟩, hp, g, b⟩ := T
  obtain ⟨a, c, rfl, -, -⟩ := rowK_form hF.krow
  exact serial33 (cells3 hF.box).2.2 hF.krow to (by have := g.kn; omega)
theorem two_send (T : Two w0 w p pf o B) (k0 : Kept [] w0 w) (to : List UInt8) (kind : Int) (args : List Int) (a : Option Addr) (c : Nat) (hx : ReadsJ w0 (.slice a args.length c) args) (hto : to.length ≤ 1000) (hn : args.length ≤ 1000) (hk : I64 kind) (ha : ∀ z ∈ args, I64 z) (hB : B < 4611686018427387904) :
    Calls Try.prog 19 #[.pointer (some ⟨p, 0, none⟩), Sv to, .int .i64 kind, .slice a args.length c] w fun e w1 => ∃ (s : Nat) (er : Int) (o' : Ob), e = .returned (.tuple #[Uv s, .int .i64 er]) ∧ Turn w0 w w1 ∧ ∀ W, Kept [] w1 W → Calls Try.prog 20 #[.pointer (some ⟨pf, 0, none⟩), Sv to, .int .i64 kind, .slice a args.length c] W fun e' w2 => e' = .returned (.tuple #[Uv s, .int .i64 er]) ∧ Turn w0 W w2 ∧ Two w0 w2 p pf o' (B + 1) := by
  have T0 := T
  obtain ⟨⟨qs, hO, hq⟩, ⟨v, u, ms, hF, hm⟩, hp, g, b⟩ := T
  have hown : (!o.own.isEmpty) = true := by have := g.ne.1; cases h : o.own with | nil => exact absurd h this | cons _ _ => rfl
  have hql : qs.length = o.L.length := by rw [← hq, List.length_map]
  have hml : ms.length = o.L.length := by rw [← hm, List.length_map]
  by_cases h1 : isKey to = false ∨ 4 < args.length
  · refine (send20_arg to kind a args.length c _ (by omega) true (by have := owned34 hO; rwa [hown] at this) (by omega) (.inr h1)).mono ?_
    rintro e w1 ⟨rfl, rfl⟩
    refine ⟨0, 1, o, rfl, .of0 (Kept.refl [] _), fun W kW => ?_⟩
    refine (send29_arg to kind a args.length c _ (by omega) (by omega) h1).mono ?_
    rintro e w2 ⟨rfl, rfl⟩
    exact ⟨rfl, .of0 (Kept.refl [] _), (T0.kept0 kW).mono (by omega)⟩
  · have hkey : isKey to = true := by cases h : isKey to with | true => rfl | false => exact absurd (.inl h) h1
    have h4 : args.length ≤ 4 := by have : ¬ 4 < args.length := fun h => h1 (.inr h); omega
    by_cases h2 : o.L.length = 32 ∨ (hasK o.K to = false ∧ o.K.length = 64)
    · refine (send20_full hO g.rise g.ne.1 to kind a args.length c hkey h4 (by rw [hql]; exact h2)).mono ?_
      rintro e w1 ⟨rfl, k1⟩
      refine ⟨0, 6, o, rfl, .of0 k1, fun W kW => ?_⟩
      have kk := k1.trans kW (by simp)
      refine (send29_full (hF.kept0 kk) g.kn (by have := g.ln; omega) to kind a args.length c hkey h4 (by rw [hml]; exact h2)).mono ?_
      rintro e w2 ⟨rfl, rfl⟩
      exact ⟨rfl, .of0 (Kept.refl [] _), (T0.kept0 kk).mono (by omega)⟩
    · have h32 : o.L.length < 32 := by have := g.ln; have : o.L.length ≠ 32 := fun h => h2 (.inl h); omega
      have h64 : hasK o.K to = true ∨ o.K.length < 64 := by
        cases h : hasK o.K to with
        | true => exact .inl rfl
        | false => right; have := g.kn; have : o.K.length ≠ 64 := fun h' => h2 (.inr ⟨h, h'⟩); omega
      have hs := T0.serLe to
      refine (send20_ok hO g.rise g.ne.1 (by have := g.ne.2; omega) to ⟨o.own, ser o.K to + 1, kind, args⟩ a c hkey h4 (fun W kW => hx.kept ((k0.trans kW (fun x hx => .inr (by simp at hx; subst hx; exact hp)))) (by simp)) rfl rfl (by omega) h64 (by omega)).mono ?_
      rintro e w1 ⟨rfl, a1, c1, hO1, k1, hf1⟩
      refine ⟨ser o.K to + 1, 0, sendO o to kind args, rfl, .ofO hO hp k1, fun W kW => ?_⟩
      have hF1 := (hF.besides hO k1).kept0 kW
      have hOW := hO1.kept0 kW
      have kw0 : Kept [] w0 W := ((Turn.ofO hO hp k1).kept0 k0).trans kW (by simp)
      refine (send29_ok hF1 g.kn kw0.size to ⟨o.own, ser o.K to + 1, kind, args⟩ a c hkey h4 (fun W2 kW2 => hx.kept ((Turn.ofF hF1 kW2).kept0 kw0) (by simp)) rfl rfl (by omega) h64 (by omega)).mono ?_
      rintro e w2 ⟨rfl, v2, u2, a2, c2, hF2, k2⟩
      refine ⟨rfl, .ofF hF1 k2, ⟨⟨_, hOW.besides hF1 k2, ?_⟩, ⟨_, _, _, hF2, ?_⟩, hp, g.send hkey hk ha h4 h32 h64 (by show _ < _; omega), fun y hy => ?_⟩⟩
      · simp [sendO, hq, ot]
      · simp [sendO, hm, ot]
      · rcases setK_mem hy with rfl | hy
        · show ser o.K to + 1 ≤ _; omega
        · have := b y hy; omega
end
end Go.Proofs.Ytdadloaifebdiaa
/-
  SameAll: lists of letters that are held against each other.
-/
namespace Go.Proofs.Ytdadloaifebdiaa
open Go.RowKit
set_option linter.unusedVariables false
instance : DecidableEq Lt := fun x y => decidable_of_iff _ (sameL_iff x y)
section
variable {w : World}
end
end Go.Proofs.Ytdadloaifebdiaa
/-
  Unpack, and the document's.
-/
namespace Go.Proofs.Ytdadloaifebdiaa
open Go.RowKit
set_option linter.unusedVariables false
/-- Letters in memory of their own: the slice v owns the letters qs, each one's Args are a row of its own; all of it new since w0. -/
structure OwnL (w0 w : World) (v : Value) (qs : List Lq) : Prop where
  own : OwnsR 50 4 w v (CQ qs)
  args : ∀ q ∈ qs, OwnsJ w q.sl q.x.args
  fr : Fresh w0 v
  fra : ∀ q ∈ qs, Fresh w0 q.sl
theorem OwnL.nil (w0 w : World) : OwnL w0 w (.slice none 0 0) [] := ⟨OwnsR.nil 50 4 w, by simp, fresh_nil w0 0, by simp⟩
theorem OwnL.kept {S : List Nat} {w0 w w' : World} {v : Value} {qs : List Lq} (h : OwnL w0 w v qs) (k : Kept S w w') (hS : ∀ y ∈ S, v.ownBlock ≠ some y ∧ ∀ q ∈ qs, q.sl.ownBlock ≠ some y) : OwnL w0 w' v qs :=
  ⟨h.own.kept k (fun g hg hm => (hS g hm).1 hg), fun q hq => (h.args q hq).kept k (fun g hg hm => (hS g hm).2 q hq hg), h.fr, h.fra⟩
theorem OwnL.kept0 {w0 w w' : World} {v : Value} {qs : List Lq} (h : OwnL w0 w v qs) (k : Kept [] w w') : OwnL w0 w' v qs := h.kept k (by simp)
theorem OwnL.row {w0 w : World} {v : Value} {qs : List Lq} (h : OwnL w0 w v qs) : RowQ w v qs := h.own.reads (CQ_wide qs)
theorem OwnL.vals {w0 w : World} {v : Value} {qs : List Lq} (h : OwnL w0 w v qs) : ValsQ w qs := fun q hq => (h.args q hq).reads
/-- 'append(v, letter)'. -/
theorem OwnL.app {w0 w : World} {v : Value} {qs : List Lq} (h : OwnL w0 w v qs) (q : Lq) (hq : OwnsJ w q.sl q.x.args) (hf : Fresh w0 q.sl) (hs : w0.heap.size ≤ w.heap.size) (hn : qs.length ≤ 900000) : ∃ ad c w', (Builtin.append_ #[22, 22] 22 #[v, .slice (some ⟨w.heap.size, 0, none⟩) 1 1]).run Try.prog (w.alloc (.cells #[Sv q.x.fr, .int .u64 (q.x.ser : Int), .int .i64 q.x.kind, q.sl] 50)) = .ok (.slice ad (qs.length + 1) c) w' ∧ OwnL w0 w' (.slice ad (qs.length + 1) c) (qs ++ [q]) ∧ Kept v.ownBlock.toList w w' := by
  obtain ⟨ad, c, w', hrun, ho, k, hN⟩ := append_rowR rt28 h.own (cellsQ q) rfl (fun u hu => by simp [cellsQ] at hu; rcases hu with rfl | rfl | rfl | rfl <;> rfl) (by rw [CQ_length]; exact hn) 50 (0, 0) 22
  rw [CQ_length] at *
  refine ⟨ad, c, w', hrun, ⟨?_, fun y hy => ?_, fun g hg => ?_, fun y hy => ?_⟩, k⟩
  · rw [CQ_append]; exact ho
  · have hy' : OwnsJ w y.sl y.x.args := by
      rcases List.mem_append.1 hy with hy | hy
      · exact h.args y hy
      · simp at hy; subst hy; exact hq
    exact hy'.kept k (fun g hg hm => by rw [Option.mem_toList] at hm; exact own_apart hy' h.own (by decide) hg hm)
  · rcases hN g hg with h1 | h1
    · exact h.fr g h1
    · omega
  · rcases List.mem_append.1 hy with hy | hy
    · exact h.fra y hy
    · simp at hy; subst hy; exact hf
theorem OwnL.elder {w0 w1 w : World} {v : Value} {qs : List Lq} (h : OwnL w1 w v qs) (hs : w0.heap.size ≤ w1.heap.size) : OwnL w0 w v qs :=
  ⟨h.own, h.args, fun g hg => Nat.le_trans hs (h.fr g hg), fun q hq g hg => Nat.le_trans hs (h.fra q hq g hg)⟩
/-- What Unpack answers. -/
def UnAt (w : World) (l : List UInt8) (e : Ending) (w' : World) : Prop :=
  ∃ (v : Value) (qs : List Lq), e = .returned (.tuple #[v, .int .i64 (if (decP l).isSome = true then 0 else 2)]) ∧ qs.map (·.x) = (decP l).getD [] ∧ OwnL w w' v qs ∧ Kept [] w w'
theorem unAt_none {w w' : World} {l : List UInt8} (h : decP l = none) (k : Kept [] w w') : UnAt w l (.returned (.tuple #[.slice none 0 0, .int .i64 2])) w' := by
  unfold UnAt
  rw [h]
  exact ⟨_, [], rfl, rfl, OwnL.nil w w', k⟩
theorem unAt_some {w w' : World} {l : List UInt8} {v : Value} {qs : List Lq} (h : decP l = some (qs.map (·.x))) (ho : OwnL w w' v qs) (k : Kept [] w w') : UnAt w l (.returned (.tuple #[v, .int .i64 0])) w' := by
  unfold UnAt
  rw [h]
  exact ⟨v, qs, rfl, rfl, ho, k⟩
section
variable {w : World}
end
end Go.Proofs.Ytdadloaifebdiaa
