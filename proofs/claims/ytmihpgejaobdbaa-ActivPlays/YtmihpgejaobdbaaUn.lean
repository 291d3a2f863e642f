/-
  unlink and link.
-/
import Derived.Test.YtmihpgejaobdbaaWt
import Derived.BigRegion
import Derived.Deep.RegionHeld3
namespace Go.Proofs.Ytmihpgejaobdbaa
set_option maxRecDepth 100000
open Go.RowKit
set_option linter.unusedVariables false
theorem set_set {w : World} {b o c p : Nat} {u v : Value} (hn : ¬ (b = c ∧ o = p)) (hc : w.cell? ⟨c, p, none⟩ = some v) : (w.setCell ⟨b, o, none⟩ u).cell? ⟨c, p, none⟩ = some v := by
  rw [World.cell?_setCell_other _ _ _ _ (fun e => hn (by injection e with e1 e2; exact ⟨e1, e2⟩))]
  exact hc
set_option maxHeartbeats 4000000 in
theorem unlink20 {w : World} {n x y : Nd} (k : Nat) (bn : Bk w n.1 3 51) (hn : n.2 = 0) (c1 : w.cell? ⟨n.1, 1, none⟩ = some (Nd.pt x)) (c2 : w.cell? ⟨n.1, 2, none⟩ = some (Nd.pt y))
    {mx my : Nat} {tx ty : TypeId} (bx : Bk w x.1 mx tx) (by' : Bk w y.1 my ty) (hx : x.2 + 2 < mx) (hy : y.2 + 1 < my) (nx : x.1 ≠ n.1) (ny : y.1 ≠ n.1) (nxy : ¬ (x.1 = y.1 ∧ x.2 + 2 = y.2 + 1)) :
    Calls Try.prog 20 #[Nd.pt n] w fun e w' => e = .returned (.tuple #[]) ∧ Wrt w w' [(Nd.ad n 2, .pointer none), (Nd.ad n 1, .pointer none), (Nd.ad y 1, Nd.pt x), (Nd.ad x 2, Nd.pt y)] := by
  obtain ⟨n, n0⟩ := n
  obtain ⟨xb, xo⟩ := x
  obtain ⟨yb, yo⟩ := y
  simp only at hn bx by' hx hy nx ny nxy c1 c2 bn
  subst hn
  obtain ⟨a1, h1⟩ := bx.cell hx
  obtain ⟨a2, h2⟩ := by'.cell hy
  have f1 := bn.free 1
  have f2 := bn.free 2
  have fx := bx.free (xo + 2)
  have fy := by'.free (yo + 1)
  have h2' := set_set (u := .pointer (some ⟨yb, yo, none⟩)) nxy h2
  have by2 := by'.set ⟨xb, xo + 2, none⟩ (.pointer (some ⟨yb, yo, none⟩)) rfl
  have fy2 := by2.free (yo + 1)
  have W0 := (((Wrt.refl w).set h1 (by simp) (.pointer (some ⟨yb, yo, none⟩)))).set h2' (by simp; intro h e; exact nxy ⟨h, by omega⟩) (.pointer (some ⟨xb, xo, none⟩))
  have HW := Hid.mk W0
  have HB := Hid.mk bn
  have HC1 := Hid.mk c1
  have HC2 := Hid.mk c2
  have HN := Hid.mk nx
  have HM := Hid.mk ny
  clear W0
  go_enter Try.func20, Try.ntmps20
  go_wp2_with fail
  go_region
  have W1 := HW.out.drew
  have nm := HM.out
  have nn := HN.out
  generalize (World.drew _) = w1 at W1 ⊢
  have b1 := W1.shape _ _ _ HB.out
  have g1 := b1.free 1
  have g2 := b1.free 2
  have d1 : w1.cell? ⟨n, 1, none⟩ = some (Nd.pt (xb, xo)) := (W1.cell _ (by simp <;> omega)).trans HC1.out
  have d2 : w1.cell? ⟨n, 2, none⟩ = some (Nd.pt (yb, yo)) := (W1.cell _ (by simp <;> omega)).trans HC2.out
  have W2 := W1.set d1 (by simp <;> omega) (.pointer none)
  have d2' := set_set (u := .pointer none) (b := n) (o := 1) (by omega) d2
  have W3 := W2.set d2' (by simp <;> omega) (.pointer none)
  have HW3 := Hid.mk W3
  clear W1 W2 W3 HW h2' fy2 by2 h1 h2 fx fy f1 f2 c1 c2 d2'
  go_wp2_with fail
  refine bodyPost_end (results_none rfl _ _ _) rfl ?_
  exact ⟨rfl, HW3.out⟩
set_option maxHeartbeats 4000000 in
theorem link21 {w : World} {O : Nat} {n x : Nd} (bn : Bk w n.1 3 51) (hn : n.2 = 0) (bO : Bk w O 4 53) (c1 : w.cell? ⟨O, 2, none⟩ = some (Nd.pt x))
    {mx : Nat} {tx : TypeId} (bx : Bk w x.1 mx tx) (hx : x.2 + 2 < mx) (nO : n.1 ≠ O) (nx : x.1 ≠ n.1) (nxO : ¬ (x.1 = O ∧ x.2 + 2 = 2)) :
    Calls Try.prog 21 #[Pp O, Nd.pt n] w fun e w' => e = .returned (.tuple #[]) ∧ Wrt w w' [(Nd.ad (O, 1) 1, Nd.pt n), (Nd.ad x 2, Nd.pt n), (Nd.ad n 2, Nd.pt (O, 1)), (Nd.ad n 1, Nd.pt x)] := by
  obtain ⟨n, n0⟩ := n
  obtain ⟨xb, xo⟩ := x
  simp only at hn bx hx nx nO nxO c1 bn
  subst hn
  obtain ⟨u1, h1⟩ := bn.cell (i := 1) (by omega)
  obtain ⟨u2, h2⟩ := bn.cell (i := 2) (by omega)
  obtain ⟨v1, h3⟩ := bx.cell hx
  have f1 := bn.free 1
  have f2 := bn.free 2
  have W1 := (Wrt.refl w).set h1 (by simp) (Nd.pt (xb, xo))
  have h2' := set_set (u := Nd.pt (xb, xo)) (b := n) (o := 1) (by omega) h2
  have W2 := (W1.set h2' (by simp) (Nd.pt (O, 1))).drew
  have HW := Hid.mk W2
  have HB := Hid.mk bn
  have HBX := Hid.mk bx
  have HBO := Hid.mk bO
  have HC := Hid.mk c1
  have H3 := Hid.mk h3
  have HN := Hid.mk nO
  have HX := Hid.mk nx
  have HXO := Hid.mk nxO
  clear W1 W2 bn bx bO h3
  go_enter Try.func21, Try.ntmps21
  go_wp2_with fail
  go_region
  have W1 := HW.out
  have nm := HX.out
  have nn := HN.out
  have no := HXO.out
  generalize (World.drew _) = w1 at W1 ⊢
  have bn := W1.shape _ _ _ HB.out
  have bx := W1.shape _ _ _ HBX.out
  have bO := W1.shape _ _ _ HBO.out
  have d1 : w1.cell? ⟨n, 1, none⟩ = some (Nd.pt (xb, xo)) := W1.puts (⟨n, 1, none⟩, Nd.pt (xb, xo)) (by simp)
  have d2 : w1.cell? ⟨n, 2, none⟩ = some (Nd.pt (O, 1)) := W1.puts (⟨n, 2, none⟩, Nd.pt (O, 1)) (by simp)
  have d3 : w1.cell? ⟨xb, xo + 2, none⟩ = some v1 := (W1.cell _ (by simp <;> omega)).trans H3.out
  have d4 : w1.cell? ⟨O, 2, none⟩ = some (Nd.pt (xb, xo)) := (W1.cell _ (by simp <;> omega)).trans HC.out
  have d4' := set_set (u := Nd.pt (n, 0)) (b := xb) (o := xo + 2) HXO.out d4
  have W3 := W1.set d3 (by simp <;> omega) (Nd.pt (n, 0))
  have W4 := (W3.set d4' (by simp <;> omega) (Nd.pt (n, 0))).drew
  have g1 := bx.free (xo + 2)
  have g2 := (bO.set ⟨xb, xo + 2, none⟩ (Nd.pt (n, 0)) rfl).free 2
  have g0 := bO.free 2
  have HW4 := Hid.mk W4
  clear HW W1 W3 W4 h1 h2 h2' f1 f2 c1 bn bx bO
  go_wp2_with fail
  go_region
  go_wp2_with fail
  refine bodyPost_end (results_none rfl _ _ _) rfl ?_
  exact ⟨rfl, HW4.out⟩
end Go.Proofs.Ytmihpgejaobdbaa
