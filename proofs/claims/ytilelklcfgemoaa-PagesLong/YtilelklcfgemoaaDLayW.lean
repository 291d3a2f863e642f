/-
  lay: one write, behind the others.
-/
import Derived.Test.YtilelklcfgemoaaDLay
namespace Go.Proofs.Ytilelklcfgemoaa
open Go.RowKit
set_option linter.unusedVariables false
/-- 'copy' into the bytes of a write. -/
theorem copy_w (w : World) (r : Nat) (i : Int) (L : List UInt8) (hL : L.length = 256) (a : Option Addr) (n cap : Nat) (p : List UInt8) (hR : w.heap[r]? = some (.cells (wcells i L).toArray 77 (0, 0))) (hr : Reads w (.slice a n cap) p) (hn : p.length = n) (h1 : n = 256) :
    ∃ w', (Builtin.copy_ #[31, 31] 3 #[.slice (some ⟨r, 1, none⟩) 256 256, .slice a n cap]).run Try.prog w = .ok (goInt n) w' ∧ w'.heap[r]? = some (.cells (wcells i p).toArray 77 (0, 0)) ∧ Kept [r] w w' := by
  obtain ⟨i0, hi, hz0, hz1, hz2⟩ := info_parts inf5
  have hs : (Try.prog.info? 5).map (·.size) = some 1 := by rw [hi]; simp [hz1]
  rcases reads_cases hr with ⟨a', c', he, rfl, _⟩ | ⟨b, q, c', he, hh1, hh2, hc⟩
  · simp at hn; omega
  · injection he with e1 e2 e3
    subst e1 e2 e3
    have hrun := run_copy_row (P := Try.prog) w 31 31 3 5 r 1 256 256 ⟨b, q, none⟩ p.length cap (wcells i L).toArray 77 (C8 p) Try.underlying31 hs hR (by rw [C8_length, h1]; rfl) (fun j v hv => by
      simp only [C8, List.getElem?_map, Option.map_eq_some_iff] at hv
      obtain ⟨u, hu, rfl⟩ := hv
      have hadd : (⟨b, q, Option.none⟩ : Addr).add j = ⟨b, q + j, Option.none⟩ := by unfold Addr.add; split <;> simp_all
      rw [hadd]
      exact hc j u hu) (by rw [List.size_toArray, wcells_length _ _ hL, C8_length, h1]; omega) (C8_one p)
    rw [C8_length] at hrun
    refine ⟨_, hrun, ?_, ⟨rfl, rfl, rfl, by simp [World.setRow], fun k hk hn => setRow_other w r k _ (by intro e; subst e; simp at hn)⟩⟩
    rw [setRow_heap w r _ _ 77 _ hR]
    have e : (wcells i L).take 1 ++ C8 p ++ (wcells i L).drop (1 + p.length) = wcells i p := by
      rw [List.drop_of_length_le (by rw [wcells_length _ _ hL, h1]; omega)]
      simp [wcells]
    rw [e]
/-- Behind the append and its store: the writes are laid, the last ones not yet told. -/
structure Mid (w w4 : World) (F : List Nat) (p i : Nat) (s : St) (l : List UInt8) (vd : Value) (g : Nat) (v3 : Value) : Prop where
  box : w4.heap[p]? = some (.cells #[v3, .slice (some ⟨g, 0, none⟩) s.nb s.nb, .int .i64 s.fuse, .bool s.down] 59 (0, 0))
  own : w4.ownsRow 0 77 257 v3 (s.ws.length + 1) (wsC s.ws ++ wcells (i : Int) l)
  last : w4.heap[g]? = some (.cells (lastC s.ws s.nb).toArray 3 (0, 0))
  pg : p ≠ g
  ap : v3.ownBlock ≠ some p
  ag : v3.ownBlock ≠ some g
  kept : Kept F w w4
  new : NewF w F (p :: g :: v3.ownBlock.toList)
  pF : p ∈ F
  gF : g ∈ F
theorem Mid.drew {w w4 : World} {F : List Nat} {p i : Nat} {s : St} {l : List UInt8} {vd : Value} {g : Nat} {v3 : Value} (h : Mid w w4 F p i s l vd g v3) : Mid w w4.drew F p i s l vd g v3 := ⟨h.box, h.own.drew, h.last, h.pg, h.ap, h.ag, h.kept.drew, h.new, h.pF, h.gF⟩
theorem mid_of (w w2 w2' w3 : World) (F : List Nat) (p i : Nat) (s : St) (l : List UInt8) (vd : Value) (g g2 cap2 : Nat) (hF : F = p :: g :: vd.ownBlock.toList) (hK2 : Kept [] w w2) (hk : Kept [] w2 w2') (hbox : w2.heap[p]? = some (.cells #[vd, .slice (some ⟨g, 0, none⟩) s.nb s.nb, .int .i64 s.fuse, .bool s.down] 59 (0, 0)))
    (hlast : w2.heap[g]? = some (.cells (lastC s.ws s.nb).toArray 3 (0, 0))) (hpg : p ≠ g) (hap : vd.ownBlock ≠ some p) (hag : vd.ownBlock ≠ some g)
    (hown3 : w3.ownsRow 0 77 257 (.slice (some ⟨g2, 0, none⟩) (s.ws.length + 1) cap2) (s.ws.length + 1) (wsC s.ws ++ wcells (i : Int) l)) (hgrow3 : w2'.grownBy w3 vd.ownBlock) (hat3 : vd.ownBlock = some g2 ∨ g2 = w2'.heap.size) :
    Mid w (w3.setCell ⟨p, 0, none⟩ (.slice (some ⟨g2, 0, none⟩) (s.ws.length + 1) cap2)) F p i s l vd g (.slice (some ⟨g2, 0, none⟩) (s.ws.length + 1) cap2) := by
  have hp2 := lt_of_block hbox
  have hg2 := lt_of_block hlast
  have hs := hk.size
  have hs2 := hK2.size
  have hpl : p < w2'.heap.size := by omega
  have hgl : g < w2'.heap.size := by omega
  have hne1 : g2 ≠ p := fun e => by
    rcases hat3 with h | h
    · exact hap (by rw [h, e])
    · omega
  have hne2 : g2 ≠ g := fun e => by
    rcases hat3 with h | h
    · exact hag (by rw [h, e])
    · omega
  have hbox3 : w3.heap[p]? = some (.cells #[vd, .slice (some ⟨g, 0, none⟩) s.nb s.nb, .int .i64 s.fuse, .bool s.down] 59 (0, 0)) := by
    rw [hgrow3.block p hpl (fun e => hap e.symm)]; exact hk.keeps hbox (by simp)
  have hlast3 : w3.heap[g]? = some (.cells (lastC s.ws s.nb).toArray 3 (0, 0)) := by
    rw [hgrow3.block g hgl (fun e => hag e.symm)]; exact hk.keeps hlast (by simp)
  have kF : Kept F w w3 := ((hK2.mono (by simp)).trans (hk.mono (T := F) (by simp)) (fun x hx => .inl hx)).grown hgrow3 (fun k hk => .inl (by rw [hF]; simp [hk]))
  refine ⟨?_, ownsRow_setCell_other hown3 (by simpa [Value.ownBlock] using hne1) _, ?_, hpg, by simpa [Value.ownBlock] using hne1, by simpa [Value.ownBlock] using hne2, kF.setCell (.inl (by rw [hF]; simp)) _, ?_, by rw [hF]; simp, by rw [hF]; simp⟩
  · rw [heap_setCell_same w3 p 0 _ 59 _ hbox3]; rfl
  · rw [heap_setCell_other _ _ _ _ (fun e => hpg e.symm)]; exact hlast3
  · intro x hx
    simp only [Value.ownBlock, Option.toList_some, List.mem_cons, List.not_mem_nil, or_false] at hx
    rcases hx with rfl | rfl | rfl
    · exact .inl (by rw [hF]; simp)
    · exact .inl (by rw [hF]; simp)
    · rcases hat3 with h | h
      · exact .inl (by rw [hF]; simp [h])
      · exact .inr (by omega)
theorem Mid.done {w w4 : World} {F : List Nat} {p i : Nat} {s : St} {l : List UInt8} {vd : Value} {g : Nat} {v3 : Value} (h : Mid w w4 F p i s l vd g v3) (hok : s.ok) (hi : i < s.nb) (hl : l.length = 256) :
    ∃ F', IsD (w4.setCell ⟨g, i, none⟩ (.int .i64 ((s.ws.length + 1 : Nat) : Int))) F' p { s with ws := s.ws ++ [(i, l)] } ∧ Kept F w (w4.setCell ⟨g, i, none⟩ (.int .i64 ((s.ws.length + 1 : Nat) : Int))) ∧ NewF w F F' := by
  refine ⟨_, ⟨v3, g, rfl, ?_, ?_, ?_, h.pg, h.ap, h.ag, ⟨hok.nb, hok.ws.snoc hi hl, hok.fuse, hok.top⟩⟩, h.kept.setCell (.inl h.gF) _, h.new⟩
  · rw [heap_setCell_other _ _ _ _ h.pg]; exact h.box
  · show World.ownsRow _ 0 77 257 v3 (s.ws ++ [(i, l)]).length (wsC (s.ws ++ [(i, l)]))
    rw [wsC_snoc, List.length_append]
    exact ownsRow_setCell_other h.own h.ag _
  · show _ = some (Obj.cells (lastC (s.ws ++ [(i, l)]) s.nb).toArray 3 (0, 0))
    rw [heap_setCell_same _ g i _ 3 _ h.last, lastC_snoc]
    simp
set_option maxRecDepth 100000 in
set_option maxHeartbeats 400000 in
theorem lay_walk_D (F : List Nat) (p i : Nat) (s : St) (a : Option Addr) (n cap : Nat) (l : List UInt8) (w : World) (hD : IsD w F p s) (hi : i < s.nb) (hn : Hid (l.length = n)) (h1 : Hid (n = 256)) (hr : Reads w (.slice a n cap) l) (hb : s.ws.length ≤ 100000) :
    Calls Try.prog 38 #[.pointer (some ⟨p, 0, none⟩), .int .i64 (i : Int), .slice a n cap] w fun e w' => e = .returned (.tuple #[]) ∧ ∃ F', IsD w' F' p { s with ws := s.ws ++ [(i, l)] } ∧ Kept F w w' ∧ NewF w F F' := by
  go_enter Try.func38, Try.ntmps38
  refine wp_seq_k fun K hK => ?_
  refine wp_region_lit ?_
  refine wpList_move rfl _ rfl (.int .i64 (i : Int)) rfl ?_
  refine wpList_build rfl 77 0 _ rfl (.int .i64 (i : Int)) rfl (run_build (i : Int) w) ?_
  refine wpList_alloc rfl 77 rfl (run_allocw w) ?_
  refine wpList_store rfl 77 _ _ rfl (.pointer (some ⟨w.heap.size, 0, none⟩)) (.agg (wcells (i : Int) (zs 256)).toArray) rfl rfl (run_storeAt_new w 77 _ _ (by rw [List.size_toArray, wcells_length _ _ (zs_length 256)]; exact size56) (by rw [List.size_toArray, List.size_toArray, wcells_length _ _ (zs_length 256), wcells_length _ _ (zs_length 256)]) (all_oneCell_toArray (wcells_one _ _))) ?_
  refine wpList_nil (hK _ _ ?_)
  clear hK K
  have hR1 := heap_alloc_new w (.cells (wcells (i : Int) (zs 256)).toArray 77)
  have hK1 := (Kept.refl [] w).alloc (.cells (wcells (i : Int) (zs 256)).toArray 77)
  have hD1 := hD.kept hK1 (by simp)
  have hr1 := hr.kept hK1 (by simp)
  have hrF : ∀ x ∈ F, x ≠ w.heap.size := fun x hx => by have := hD.lt x hx; omega
  generalize w.alloc (.cells (wcells (i : Int) (zs 256)).toArray 77) = w1 at hR1 hK1 hD1 hr1
  generalize hrr : w.heap.size = r at hR1 hrF
  have HR : Hid (w.heap.size = r) := hrr
  generalize Value.agg (wcells (i : Int) (zs 256)).toArray = Z
  clear hrr hr
  obtain ⟨w2, hrun, hR2, hk2⟩ := copy_w w1 r (i : Int) (zs 256) (zs_length 256) a n cap l hR1 hr1 hn.out h1.out
  have hK2 : Kept [] w w2 := hK1.trans hk2 (fun x hx => .inr (by have := HR.out; simp at hx; omega))
  have hD2 := hD1.kept hk2 (fun x hx => by simpa using hrF x hx)
  clear hK1 hR1 hk2 hD1 hr1
  go_wp2_with fail
  obtain ⟨vd, g, hF, hbox, hown, hlast, hpg, hap, hag, hok⟩ := hD2
  have hcp : w2.drew.cell? ⟨p, 0, none⟩ = some vd := (cells4 hbox).1
  have hpr : p ≠ r := hrF p (by rw [hF]; simp)
  refine wp_region_any (by kernel_rfl) ?_
  change wpAny _ _ _ _ _ _ _ (World.drew _)
  refine wpAny_take (i := 0) (v := .pointer (some ⟨p, 0, none⟩)) rfl (by kernel_rfl) (by kernel_rfl) (by kernel_rfl) (fun _ _ _ h => h) (Or.inl ⟨by rfl, fun w => by go_simp⟩) ?_
  refine wpAny_take (i := 1) (v := .pointer (some ⟨p, 0, none⟩)) rfl (by kernel_rfl) (by kernel_rfl) (by kernel_rfl) (fun _ _ _ h => h) (Or.inl ⟨by rfl, fun w => by go_simp⟩) ?_
  refine wpAny_take (i := 2) (v := .pointer (some ⟨p, 0, none⟩)) rfl (by kernel_rfl) (by kernel_rfl) (by kernel_rfl) (fun _ _ _ h => h) (Or.inl ⟨by rfl, fun w => by go_simp⟩) ?_
  refine wpAny_take (i := 3) (v := .pointer (some ⟨p, 0, none⟩)) rfl (by kernel_rfl) (by kernel_rfl) (by kernel_rfl) (fun _ _ _ h => h) (Or.inl ⟨by rfl, fun w => by go_simp⟩) ?_
  have hl256 : l.length = 256 := by rw [hn.out, h1.out]
  have hsz : (wcells (i : Int) l).toArray.size = 257 := by rw [List.size_toArray, wcells_length _ _ hl256]
  have hld := load56 w2.drew r (i : Int) l hl256 hR2
  have hbl := run_buildw (wcells (i : Int) l).toArray hsz w2.drew
  have hone : ∀ u ∈ (wcells (i : Int) l).toArray.toList, u.oneCell' = true := wcells_one _ _
  have hCl : Hid ((wcells (i : Int) l).toArray.toList = wcells (i : Int) l) := rfl
  obtain ⟨i0, hi0, hz0, hz1, hz2⟩ := info_parts inf56
  have hz3 : (Value.agg (wcells 0 (zs 256)).toArray).cells.size = 257 := by show (wcells 0 (zs 256)).toArray.size = 257; rw [List.size_toArray, wcells_length _ _ (zs_length 256)]
  generalize Value.agg (wcells 0 (zs 256)).toArray = Zz at hz0 hz3
  generalize hC : (wcells (i : Int) l).toArray = C at hsz hld hbl hone hCl
  have HC : Hid ((wcells (i : Int) l).toArray = C) := hC
  clear hC
  have hcp2 : (w2.drew.alloc (.cells C 77)).cell? ⟨p, 0, none⟩ = some vd := by rw [World.cell?_alloc_lt _ _ _ (World.block_lt_of_cell? _ _ hcp)]; exact hcp
  go_simp
  refine wpAny_ready (rs := [4, 5]) (by kernel_rfl) (by simp) ?_
  refine AllReady.cons rfl (fun K hK => ?a1) (AllReady.cons rfl (fun K hK => ?a2) AllReady.nil)
  case' a1 =>
    refine step_load (by kernel_rfl) 57 (.tmp 16) (by kernel_rfl) (.pointer (some ⟨p, 0, none⟩)) (by kernel_rfl) (load47 _ _ _ hcp) (hK _ _ ?_)
    clear hK K
    go_simp
    refine wpAny_ready (rs := [5]) (by kernel_rfl) (by simp) (AllReady.cons rfl (fun K hK => ?_) AllReady.nil)
    refine step_load (by kernel_rfl) 77 (.tmp 6) (by kernel_rfl) (.pointer (some ⟨r, 0, none⟩)) (by kernel_rfl) hld (hK _ _ ?_)
    clear hK K
    go_simp
    refine wpAny_ready (rs := [6]) (by kernel_rfl) (by simp) (AllReady.cons rfl (fun K hK => ?_) AllReady.nil)
    refine step_buildSlice (by kernel_rfl) 57 1 0 (.tmp 18) (by kernel_rfl) (.agg C) (by kernel_rfl) hbl (hK _ _ ?_)
    clear hK K
    go_simp
  case' a2 =>
    refine step_load (by kernel_rfl) 77 (.tmp 6) (by kernel_rfl) (.pointer (some ⟨r, 0, none⟩)) (by kernel_rfl) hld (hK _ _ ?_)
    clear hK K
    go_simp
    refine wpAny_ready (rs := [4, 6]) (by kernel_rfl) (by simp) ?_
    refine AllReady.cons rfl (fun K hK => ?b1) (AllReady.cons rfl (fun K hK => ?b2) AllReady.nil)
    case' b1 =>
      refine step_load (by kernel_rfl) 57 (.tmp 16) (by kernel_rfl) (.pointer (some ⟨p, 0, none⟩)) (by kernel_rfl) (load47 _ _ _ hcp) (hK _ _ ?_)
      clear hK K
      go_simp
      refine wpAny_ready (rs := [6]) (by kernel_rfl) (by simp) (AllReady.cons rfl (fun K hK => ?_) AllReady.nil)
      refine step_buildSlice (by kernel_rfl) 57 1 0 (.tmp 18) (by kernel_rfl) (.agg C) (by kernel_rfl) hbl (hK _ _ ?_)
      clear hK K
      go_simp
    case' b2 =>
      refine step_buildSlice (by kernel_rfl) 57 1 0 (.tmp 18) (by kernel_rfl) (.agg C) (by kernel_rfl) hbl (hK _ _ ?_)
      clear hK K
      go_simp
      refine wpAny_ready (rs := [4]) (by kernel_rfl) (by simp) (AllReady.cons rfl (fun K hK => ?_) AllReady.nil)
      refine step_load (by kernel_rfl) 57 (.tmp 16) (by kernel_rfl) (.pointer (some ⟨p, 0, none⟩)) (by kernel_rfl) (load47 _ _ _ hcp2) (hK _ _ ?_)
      clear hK K
      go_simp
  all_goals
    refine wpAny_ready (rs := [7]) (by kernel_rfl) (by simp) (AllReady.cons rfl (fun K hK => ?_) AllReady.nil)
    refine step_append_lies _ (by rfl) (.tmp 17) (.tmp 19) 57 (by rfl) 0 77 i0 _ 257 264 Try.underlying57 hi0 hz0 hz1 hz2 hz3 (by omega) vd s.ws.length (wsC s.ws) (by rfl) (hown.drew.alloc _) ⟨w2.heap.size, 0, none⟩ 1 1 C.toList (by rfl) (by simp [hsz]) (World.news_of_block (cs := C) (t := 77) (fr := (0, 0)) (heap_alloc_new w2.drew _)) hone (by omega) (by unfold maxLen; omega) (by omega) (by omega) (w2.heap.size + 1) (by simp) ?_
    intro g2 cap2 w3 hown3 hgrow3 hat3 hlt3
    refine hK _ _ ?_
    clear hK K
    go_simp
    have hM := mid_of w w2 _ w3 F p i s l vd g g2 cap2 hF hK2 ((Kept.refl [] w2).drew.alloc _) hbox hlast hpg hap hag (by rw [← hCl.out]; exact hown3) hgrow3 (by rcases hat3 with h | h; exact .inl h; exact .inr (by rw [h]; simp))
    have hc3 : w3.cell? ⟨p, 0, none⟩ = some vd ∧ w3.frozen? ⟨p, 0, none⟩ = false := by
      have hb3 : w3.heap[p]? = some (.cells #[vd, .slice (some ⟨g, 0, none⟩) s.nb s.nb, .int .i64 s.fuse, .bool s.down] 59 (0, 0)) := by
        rw [hgrow3.block p (by have := lt_of_block hbox; simp; omega) (fun e => hap e.symm)]; exact ((Kept.refl [] w2).drew.alloc _).keeps hbox (by simp)
      exact ⟨(cells4 hb3).1, free4 hb3 0⟩
    obtain ⟨hc3, hf3⟩ := hc3
    clear hown3 hgrow3 hat3 hlt3 hcp2 hbl hld hown
    refine wpAny_take (i := 8) (v := .pointer (some ⟨p, 0, none⟩)) rfl (by kernel_rfl) (by kernel_rfl) (by kernel_rfl) (fun _ _ _ h => h) (Or.inl ⟨by rfl, fun w => by go_simp⟩) ?_
    refine wpAny_take (i := 9) (v := .pointer (some ⟨p, 0, none⟩)) rfl (by kernel_rfl) (by kernel_rfl) (by kernel_rfl) (fun _ _ _ h => h) (Or.inl ⟨by rfl, fun w => by go_simp⟩) ?_
    go_simp
    refine wpAny_ready (rs := [10]) (by kernel_rfl) (by simp) (AllReady.cons rfl (fun K hK => ?_) AllReady.nil)
    refine step_store (by kernel_rfl) 57 (.tmp 22) (.tmp 20) (by kernel_rfl) (.pointer (some ⟨p, 0, none⟩)) (.slice (some ⟨g2, 0, none⟩) (s.ws.length + 1) cap2) (by kernel_rfl) (by kernel_rfl) (store47 _ _ vd _ _ _ hc3 hf3) (hK _ _ ?_)
    clear hK K hc3 hf3
    go_simp
    refine wpAny_done (by kernel_rfl) ?_ _
    generalize w3.setCell ⟨p, 0, none⟩ (.slice (some ⟨g2, 0, none⟩) (s.ws.length + 1) cap2) = w4 at hM
    obtain ⟨c0, c1, c2, c3⟩ := cells4 hM.box
    have hcg : w4.cell? ⟨g, i, none⟩ = some (.int .i64 (lastN s.ws i : Int)) := by
      rw [cell_of_row w4 g i _ 3 (0, 0) hM.last]
      simpa using lastC_at s.ws s.nb i hi
    have hfg := free4 hM.last i
    have hin : (i : Int) < (s.nb : Int) := by omega
    obtain ⟨F', hD5, hK5, hN5⟩ := hM.done hok hi hl256
    have hfin : Hid (∃ F', IsD (w4.setCell ⟨g, i, none⟩ (.int .i64 ((s.ws.length + 1 : Nat) : Int))).drew F' p { s with ws := s.ws ++ [(i, l)] } ∧ Kept F w (w4.setCell ⟨g, i, none⟩ (.int .i64 ((s.ws.length + 1 : Nat) : Int))).drew ∧ NewF w F F') := ⟨F', hD5.kept (Kept.refl [] _).drew (by simp), hK5.drew, hN5⟩
    clear hD5 hK5 hN5 F'
    generalize lastN s.ws i = y at hcg
    clear hbox hlast hR2 hcp
    have hnb : s.nb ≤ 65536 := hok.nb
    go_wp2_with fail
    go_region
    go_end0
    exact ⟨rfl, hfin.out⟩
/-- lay, whatever the slice. -/
theorem lay_any (F : List Nat) (p i : Nat) (s : St) (v : Value) (l : List UInt8) (w : World) (hD : IsD w F p s) (hi : i < s.nb) (hl : l.length = 256) (hr : Reads w v l) (hb : s.ws.length ≤ 100000) :
    Calls Try.prog 38 #[.pointer (some ⟨p, 0, none⟩), .int .i64 (i : Int), v] w fun e w' => e = .returned (.tuple #[]) ∧ ∃ F', IsD w' F' p { s with ws := s.ws ++ [(i, l)] } ∧ Kept F w w' ∧ NewF w F F' := by
  have hr' := hr
  obtain ⟨a, cap, rfl, h2, h3, h4, h5⟩ := hr
  exact lay_walk_D F p i s a l.length cap l w hD hi rfl hl hr' hb
end Go.Proofs.Ytilelklcfgemoaa
