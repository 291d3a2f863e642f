import Derived.Test.YtgpbhlfdlkemjaaGreatH09
/-
 write: a text is laid into its blocks, the first one last.
-/
namespace Go.Proofs.YtgpbhlfdlkemjaaGreat
open Go.RowKit Go.Shelf
set_option linter.unusedVariables false
attribute [local go_sem] Oper.semAt_some
theorem IsD.allCells {w:World}{F:List Nat}{p:Nat}{s:St} (h:IsD w F p s):∀x∈F,∃cs t fr,w.heap[x]?=some (.cells cs t fr):=by
 obtain ⟨vd,g,rfl,h1,h2,h3,h4,h5,h6,h7⟩:=h
 intro x hx
 simp only [List.mem_cons,Option.mem_toList] at hx
 rcases hx with rfl|rfl|hx
 ·exact ⟨_,_,_,h1⟩
 ·exact ⟨_,_,_,h3⟩
 ·rcases h2.2 with ⟨rfl,_⟩|⟨g',cap,cur,rfl,_,hg,_⟩
  ·simp [Value.ownBlock] at hx
  ·simp [Value.ownBlock] at hx
   subst hx
   exact ⟨_,_,_,hg⟩
def B1 (w:World) (b:Nat) (t:TypeId) (v:Value):Prop:=w.heap[b]?=some (.cells #[v] t (0,0))
theorem B1.kept {S:List Nat}{w w':World}{b:Nat}{t:TypeId}{v:Value} (h:B1 w b t v) (k:Kept S w w') (hn:b∉S):B1 w' b t v:=k.keeps h hn
theorem B1.lt {w:World}{b:Nat}{t:TypeId}{v:Value} (h:B1 w b t v):b<w.heap.size:=lt_of_block h
theorem B1.cell {w:World}{b:Nat}{t:TypeId}{v:Value} (h:B1 w b t v):w.cell? ⟨b,0,none⟩=some v:=by unfold B1 at h;simp [World.cell?,h]
theorem B1.free {w:World}{b:Nat}{t:TypeId}{v:Value} (h:B1 w b t v):w.frozen? ⟨b,0,none⟩=false:=by unfold B1 at h;simp [World.frozen?,h]
theorem B1.set {w:World}{b:Nat}{t:TypeId}{v:Value} (h:B1 w b t v) (u:Value):B1 (w.setCell ⟨b,0,none⟩ u) b t u∧Kept [b] w (w.setCell ⟨b,0,none⟩ u):=by
 refine ⟨?_,(Kept.refl [b] w).setCell (.inl (by simp)) u⟩
 unfold B1
 rw [heap_setCell_same w b 0 _ t _ h]
 rfl
def Wm (w0:World) (F:List Nat) (q b6 b10:Nat) (s:St) (t:Bool) (nm:Nat) (bs:List Nat) (l:List UInt8) (e:Int) (pre:List Nat) (W:World):Prop :=
 ∃sk Fk,wrAll s (gw t nm bs l 0 pre)=(e,sk)∧IsD W Fk q sk∧Kept (b6::b10::F) w0 W∧NewF w0 F Fk
theorem Wm.own {w0:World}{F:List Nat}{q b6 b10:Nat}{s:St}{t:Bool}{nm:Nat}{bs:List Nat}{l:List UInt8}{e:Int}{pre:List Nat}{A B:World}{row:Option Nat} (h:Wm w0 F q b6 b10 s t nm bs l e pre A) (hg:A.grownBy B row) (hr:∀r,row=some r→w0.heap.size≤r∧∃o:Obj,A.heap[r]?=some o∧o.isCells=false):Wm w0 F q b6 b10 s t nm bs l e pre B:=by
 obtain ⟨sk,Fk,h1,h2,h3,h4⟩:=h
 refine ⟨sk,Fk,h1,h2.kept ((Kept.refl row.toList A).grown hg (fun x hx=>.inl (by rw [Option.mem_toList];exact hx))) (fun x hx hm=>?_),h3.grown hg (fun x hx=>.inr (hr x hx).1),h4⟩
 rw [Option.mem_toList] at hm
 obtain ⟨cs,ty,fr,hc⟩:=h2.allCells x hx
 obtain ⟨_,o,ho,hn⟩:=hr x hm
 rw [hc] at ho
 cases ho
 cases hn
theorem B1.own {A B:World}{b:Nat}{t:TypeId}{v:Value}{row:Option Nat} (h:B1 A b t v) (hg:A.grownBy B row) (hr:∀r,row=some r→∃o:Obj,A.heap[r]?=some o∧o.isCells=false):B1 B b t v:=by
 unfold B1 at *
 rw [hg.block b (lt_of_block h) (fun e=>?_)]
 ·exact h
 ·obtain ⟨o,ho,hn⟩:=hr b e.symm
  rw [h] at ho
  cases ho
  cases hn
def WriteAt (F:List Nat) (q:Nat) (s:St) (nm:Nat) (bs:List Nat) (l:List UInt8) (w:World) (e:Ending) (w':World):Prop :=
 ∃(t:Bool) (F':List Nat),e=.returned (.int .i64 (wrAll s (wsOf t nm bs l bs.length)).1)∧IsD w' F' q (wrAll s (wsOf t nm bs l bs.length)).2∧Kept F w w'∧NewF w F F'
set_option maxRecDepth 100000 in
set_option maxHeartbeats 2000000 in
theorem write_all {w:World}{F:List Nat}{p q:Nat}{s:St} (hD:IsD w F q s) (c0:w.cell? ⟨p,0,none⟩=some (.pointer (some ⟨q,0,none⟩))) (hpF:p∉F) (hd:s.down=false) (a1:Option Addr) (c1:Nat) (bs:List Nat) (hr1:ReadsI w (.slice a1 bs.length c1) bs) (hv1:∀g,(Value.slice a1 bs.length c1).ownBlock=some g→g∉F)
  (a2:Option Addr) (c2:Nat) (l:List UInt8) (hr2:Reads w (.slice a2 l.length c2) l) (hv2:∀g,(Value.slice a2 l.length c2).ownBlock=some g→g∉F) (hlen:bs.length=bks l.length) (hlong:l.length≤20000) (hin:∀x∈bs,x<s.nb) (nm:Nat) (hnm:bs.head?=some nm) (hws:s.ws.length≤90000) :
  Calls Tryz.prog 170 #[.pointer (some ⟨p,0,none⟩),.slice a1 bs.length c1,.slice a2 l.length c2] w fun e w'=>WriteAt F q s nm bs l w e w':=by
 have hnb:=hD.ok.nb
 have hp:0<bs.length:=by rw [hlen];exact bks_pos _
 have hsm:∀x∈bs,x<65536:=fun x hx=>by have:=hin x hx;omega
 obtain ⟨g,o,cc,hv,hc0⟩:=hr1.at 0 (bs.getD 0 0) (by rw [List.getD_eq_getElem?_getD,List.getElem?_eq_getElem hp];rfl)
 injection hv with e1 e2 e3
 subst e1 e3
 have hn0:bs.getD 0 0=nm:=by
  rw [List.getD_eq_getElem?_getD,←List.head?_eq_getElem?,hnm]
  rfl
 rw [hn0] at hc0
 have hnmb:nm<s.nb:=hin nm (List.mem_of_mem_head? (by rw [hnm];rfl))
 have hcs:∀j,j<bs.length→w.cell? ⟨g,o+j,none⟩=some (.int .i64 (bs.getD j 0:Int)):=fun j hj=>by
  obtain ⟨g',o',c',hv',hcj⟩:=hr1.at j (bs.getD j 0) (by rw [List.getD_eq_getElem?_getD,List.getElem?_eq_getElem hj];rfl)
  injection hv' with e1
  injection e1 with e1
  injection e1 with e1 e2
  subst e1 e2
  exact hcj
 have hplt:p<w.heap.size:=World.block_lt_of_cell? _ _ c0
 have hglt:g<w.heap.size:=World.block_lt_of_cell? _ _ hc0
 refine (callsIn_wide (n:=6)).1 ?_
 have fin:∀(t:Bool) (F':List Nat) (w':World) (e:Int),(wrAll s (wsOf t nm bs l bs.length)).1=e→IsD w' F' q (wrAll s (wsOf t nm bs l bs.length)).2→Kept F w w'→NewF w F F'→WriteAt F q s nm bs l w (.returned (.int .i64 e)) w':=fun t F' w' e h0 h1 h2 h3=>⟨t,F',by rw [h0],h1,h2,h3⟩
 generalize WriteAt F q s nm bs l w=Z at fin ⊢
 refine callsIn_of_wp_marks Tryz.func170 rfl trivial ?_ rfl
 simp only [Tryz.ntmps170,List.size_toArray,List.length_cons,List.length_nil,Nat.reduceAdd,Nat.reduceSub,Array.replicate_succ,Array.replicate_zero,List.push_toArray,List.append_toArray,List.nil_append,List.cons_append]
 have Hlen:=Hid.mk hlen
 have hc0':∀o1 o2 o3,(((w.alloc o1).alloc o2).alloc o3).cell? ⟨g,o,none⟩=some (.int .i64 (nm:Int)):=fun o1 o2 o3=>by
  have k:Kept [] w (((w.alloc o1).alloc o2).alloc o3):=((kept_alloc w _).alloc _).alloc _
  rw [k.cell (p:=⟨g,o,none⟩) hglt (by simp)]
  exact hc0
 have hpi:¬(bs.length:Int)≤0:=by omega
 have kW:Kept [] w ((((w.alloc (.cells #[.pointer (some ⟨p,0,none⟩)] 26)).alloc (.cells #[.slice a2 l.length c2] 48)).alloc (.cells #[.int .i64 0] 27)).alloc (.cells #[.int .i64 (nm:Int)] 3)):=(((kept_alloc w _).alloc _).alloc _).alloc _
 have b3:B1 ((((w.alloc (.cells #[.pointer (some ⟨p,0,none⟩)] 26)).alloc (.cells #[.slice a2 l.length c2] 48)).alloc (.cells #[.int .i64 0] 27)).alloc (.cells #[.int .i64 (nm:Int)] 3)) w.heap.size 26 (.pointer (some ⟨p,0,none⟩)):=by
  have h:B1 (w.alloc (.cells #[.pointer (some ⟨p,0,none⟩)] 26)) w.heap.size 26 (.pointer (some ⟨p,0,none⟩)):=heap_alloc_new w _
  exact h.kept (((kept_alloc _ _).alloc _).alloc _) (by simp)
 have b5:B1 ((((w.alloc (.cells #[.pointer (some ⟨p,0,none⟩)] 26)).alloc (.cells #[.slice a2 l.length c2] 48)).alloc (.cells #[.int .i64 0] 27)).alloc (.cells #[.int .i64 (nm:Int)] 3)) (w.heap.size+1) 48 (.slice a2 l.length c2):=by
  have h:=heap_alloc_new (w.alloc (.cells #[.pointer (some ⟨p,0,none⟩)] 26)) (.cells #[.slice a2 l.length c2] 48)
  rw [World.size_alloc] at h
  exact B1.kept h ((kept_alloc _ _).alloc _) (by simp)
 have b6:B1 ((((w.alloc (.cells #[.pointer (some ⟨p,0,none⟩)] 26)).alloc (.cells #[.slice a2 l.length c2] 48)).alloc (.cells #[.int .i64 0] 27)).alloc (.cells #[.int .i64 (nm:Int)] 3)) (w.heap.size+1+1) 27 (.int .i64 0):=by
  have h:=heap_alloc_new ((w.alloc (.cells #[.pointer (some ⟨p,0,none⟩)] 26)).alloc (.cells #[.slice a2 l.length c2] 48)) (.cells #[.int .i64 0] 27)
  rw [World.size_alloc,World.size_alloc] at h
  exact B1.kept h (kept_alloc _ _) (by simp)
 have b7:B1 ((((w.alloc (.cells #[.pointer (some ⟨p,0,none⟩)] 26)).alloc (.cells #[.slice a2 l.length c2] 48)).alloc (.cells #[.int .i64 0] 27)).alloc (.cells #[.int .i64 (nm:Int)] 3)) (w.heap.size+1+1+1) 3 (.int .i64 (nm:Int)):=by
  have h:=heap_alloc_new (((w.alloc (.cells #[.pointer (some ⟨p,0,none⟩)] 26)).alloc (.cells #[.slice a2 l.length c2] 48)).alloc (.cells #[.int .i64 0] 27)) (.cells #[.int .i64 (nm:Int)] 3)
  rw [World.size_alloc,World.size_alloc,World.size_alloc] at h
  exact h
 have hT:=turn_any (hD.kept kW (by simp)) (by rw [kW.cell hplt (by simp)];exact c0) hd nm hnmb
 have hO:=Hid.mk hr1
 clear hlen hr1
 gi_wp2_with fail
 refine ⟨trivial,(callsIn_wide.2 hT).mono ?_⟩
 rintro e w1 ⟨t,rfl,k1⟩
 have hDW:=(hD.kept kW (by simp)).kept k1 (by simp)
 have kw1:=kW.trans k1 (by simp)
 have b3:=b3.kept k1 (by simp)
 have b5:=b5.kept k1 (by simp)
 have b6:=b6.kept k1 (by simp)
 have b7:=b7.kept k1 (by simp)
 have hsz:w.heap.size+1+1+1<w1.heap.size:=b7.lt
 clear hT k1 kW hc0'
 obtain ⟨B3,hB3⟩:∃B3,Hid (w.heap.size=B3):=⟨_,rfl⟩
 obtain ⟨B5,hB5⟩:∃B5,Hid (w.heap.size+1=B5):=⟨_,rfl⟩
 obtain ⟨B6,hB6⟩:∃B6,Hid (w.heap.size+1+1=B6):=⟨_,rfl⟩
 obtain ⟨B7,hB7⟩:∃B7,Hid (w.heap.size+1+1+1=B7):=⟨_,rfl⟩
 rw [hB7.out,hB6.out,hB5.out,hB3.out]
 rw [hB3.out] at b3
 rw [hB5.out] at b5
 rw [hB6.out] at b6
 rw [hB7.out] at b7 hsz
 have kW0:Kept [] w1 (((w1.alloc (.cells #[.bool t] 4)).alloc (.cells #[.int .i64 0] 3)).alloc (.cells #[.slice (some ⟨g,o,none⟩) bs.length c1] 41)):=((kept_alloc w1 _).alloc _).alloc _
 have b8:B1 (((w1.alloc (.cells #[.bool t] 4)).alloc (.cells #[.int .i64 0] 3)).alloc (.cells #[.slice (some ⟨g,o,none⟩) bs.length c1] 41)) w1.heap.size 4 (.bool t):=by
  have h:B1 (w1.alloc (.cells #[.bool t] 4)) w1.heap.size 4 (.bool t):=heap_alloc_new w1 _
  exact h.kept ((kept_alloc _ _).alloc _) (by simp)
 have b10:B1 (((w1.alloc (.cells #[.bool t] 4)).alloc (.cells #[.int .i64 0] 3)).alloc (.cells #[.slice (some ⟨g,o,none⟩) bs.length c1] 41)) (w1.heap.size+1) 3 (.int .i64 0):=by
  have h:=heap_alloc_new (w1.alloc (.cells #[.bool t] 4)) (.cells #[.int .i64 0] 3)
  rw [World.size_alloc] at h
  exact B1.kept h (kept_alloc _ _) (by simp)
 have bS:B1 (((w1.alloc (.cells #[.bool t] 4)).alloc (.cells #[.int .i64 0] 3)).alloc (.cells #[.slice (some ⟨g,o,none⟩) bs.length c1] 41)) (w1.heap.size+1+1) 41 (.slice (some ⟨g,o,none⟩) bs.length c1):=by
  have h:=heap_alloc_new ((w1.alloc (.cells #[.bool t] 4)).alloc (.cells #[.int .i64 0] 3)) (.cells #[.slice (some ⟨g,o,none⟩) bs.length c1] 41)
  rw [World.size_alloc,World.size_alloc] at h
  exact h
 have hD0:=hDW.kept kW0 (by simp)
 have b3:=b3.kept kW0 (by simp)
 have b5:=b5.kept kW0 (by simp)
 have b6:=b6.kept kW0 (by simp)
 have b7:=b7.kept kW0 (by simp)
 have kw0:=kw1.trans kW0 (by simp)
 gi_wp2_with fail
 refine ⟨trivial,(backward_in 5 _ _ _ _).mono ?_⟩
 rintro e w0 ⟨rfl,rfl⟩
 rw [World.size_alloc,World.size_alloc]
 obtain ⟨B8,hB8⟩:∃B8,Hid (w1.heap.size=B8):=⟨_,rfl⟩
 obtain ⟨B10,hB10⟩:∃B10,Hid (w1.heap.size+1=B10):=⟨_,rfl⟩
 obtain ⟨BS,hBS⟩:∃BS,Hid (w1.heap.size+1+1=BS):=⟨_,rfl⟩
 rw [hBS.out] at bS ⊢
 rw [hB10.out] at b10 ⊢
 rw [hB8.out] at b8 hsz ⊢
 generalize ((w1.alloc (.cells #[.bool t] 4)).alloc (.cells #[.int .i64 0] 3)).alloc (.cells #[.slice (some ⟨g,o,none⟩) bs.length c1] 41)=w0 at kW0 b8 b10 bS hD0 b3 b5 b6 b7 kw0 ⊢
 clear kW0 kw1 hDW
 have hFlt:=hD.lt
 have hneF:∀x,w.heap.size≤x→x∉F:=fun x h hm=>by have:=hFlt x hm;omega
 have e3:=hB3.out
 have e5:=hB5.out
 have e6:=hB6.out
 have e7:=hB7.out
 have e8:=hB8.out
 have e10:=hB10.out
 have eS:=hBS.out
 have hrk:∀W,Kept (B6::B10::F) w0 W→Reads W (.slice a2 l.length c2) l:=fun W k=>by
  by_cases hl:l=[]
  ·subst hl
   obtain ⟨a,cap,hv,h2,h3,h4,_⟩:=hr2
   exact ⟨a,cap,hv,h2,h3,h4,by simp⟩
  ·refine (hr2.kept kw0 (by simp)).kept k (fun x hx=>?_)
   obtain ⟨y,hy,hlt⟩:=hr2.lt hl
   rw [hx] at hy
   injection hy with hy
   simp only [List.mem_cons,not_or]
   exact ⟨by omega,by omega,hv2 x hx⟩
 have keep:Hid (∀W,Kept (B6::B10::F) w0 W→B1 W B3 26 (.pointer (some ⟨p,0,none⟩))∧B1 W B5 48 (.slice a2 l.length c2)∧B1 W B7 3 (.int .i64 (nm:Int))∧B1 W B8 4 (.bool t)∧W.cell? ⟨p,0,none⟩=some (.pointer (some ⟨q,0,none⟩))∧Reads W (.slice a2 l.length c2) l∧W.heap[BS]?=w0.heap[BS]?∧W.heap[g]?=w0.heap[g]?):=fun W k=>by
  refine ⟨b3.kept k ?_,b5.kept k ?_,b7.kept k ?_,b8.kept k ?_,?_,hrk W k,k.block BS bS.lt ?_,k.block g (Nat.lt_of_lt_of_le hglt kw0.size) ?_⟩
  ·simp only [List.mem_cons,not_or];exact ⟨by omega,by omega,hneF _ (by omega)⟩
  ·simp only [List.mem_cons,not_or];exact ⟨by omega,by omega,hneF _ (by omega)⟩
  ·simp only [List.mem_cons,not_or];exact ⟨by omega,by omega,hneF _ (by omega)⟩
  ·simp only [List.mem_cons,not_or];exact ⟨by omega,by omega,hneF _ (by omega)⟩
  ·rw [k.cell (p:=⟨p,0,none⟩) (Nat.lt_of_lt_of_le hplt kw0.size) (by simp only [List.mem_cons,not_or];exact ⟨by omega,by omega,hpF⟩),kw0.cell hplt (by simp)]
   exact c0
  ·simp only [List.mem_cons,not_or];exact ⟨by omega,by omega,hneF _ (by omega)⟩
  ·simp only [List.mem_cons,not_or];exact ⟨by omega,by omega,hv1 g rfl⟩
 have hcs0:∀j,j<bs.length→w0.cell? ⟨g,o+j,none⟩=some (.int .i64 (bs.getD j 0:Int)):=fun j hj=>by
  rw [kw0.cell (p:=⟨g,o+j,none⟩) hglt (by simp)]
  exact hcs j hj
 have hI0:OwnFrom w0.heap.size (fun (pre:List (Ix bs)) W=>Wm w0 F q B6 B10 s t nm bs l 0 (pre.map (·.1)) W∧B1 W B10 3 (.int .i64 (lastAt bs 0 (pre.map (·.1)):Int))∧B1 W B6 27 (.int .i64 0)):=fun pre A B row h hg hr=>⟨h.1.own hg hr,h.2.1.own hg (fun r e=>(hr r e).2),h.2.2.own hg (fun r e=>(hr r e).2)⟩
 have hIx0:∀c:Code,OwnFrom w0.heap.size (fun (pre:List (Ix bs)) W=>c=.ret∧∃e:Int,e≠0∧Wm w0 F q B6 B10 s t nm bs l e (pre.map (·.1)) W∧B1 W B6 27 (.int .i64 e)):=fun c pre A B row h hg hr=>by
  obtain ⟨h1,e,h2,h3,h4⟩:=h
  exact ⟨h1,e,h2,h3.own hg hr,h4.own hg (fun r e=>(hr r e).2)⟩
 have l3:=b3.lt
 have l6:=b6.lt
 have l7:=b7.lt
 have l10:=b10.lt
 have hst:Wm w0 F q B6 B10 s t nm bs l 0 [] w0:=⟨s,F,rfl,hD0,Kept.refl _ _,NewF.refl _ _⟩
 gi_wp2_with fail
 refine wpIn_rangeFunc_ownG rfl (by omega) (gf:=181) (lb:=#[.pointer (some ⟨BS,0,none⟩)]) rfl trivial (enters_of Tryz.func181 (by kernel_rfl) rfl)
  (backward_stops 5 BS g o c1 bs hp (by rw [Hlen.out];have:=bks_le hlong;omega) w0 (Nat.lt_of_lt_of_le hglt kw0.size) bS hcs0) kpB_t ?kb (Below.refl _ _) (fun _=>rfl)
  (fun (pre:List (Ix bs)) W=>Wm w0 F q B6 B10 s t nm bs l 0 (pre.map (·.1)) W∧B1 W B10 3 (.int .i64 (lastAt bs 0 (pre.map (·.1)):Int))∧B1 W B6 27 (.int .i64 0))
  (fun c (pre:List (Ix bs)) W=>c=.ret∧∃e:Int,e≠0∧Wm w0 F q B6 B10 s t nm bs l e (pre.map (·.1)) W∧B1 W B6 27 (.int .i64 e))
  hI0 hIx0 ⟨hst,b10,b6⟩ ?a1 ?assign ?body ?done ?stop
 case kb =>
  intro W l' o1 o2 hl hW _ _
  have hg:=grownBy_putObj' W l' o2
  have hsz2:(W.putObj l' o2).heap.size=W.heap.size:=by simp [World.putObj]
  have key:∀b,b<w0.heap.size→(W.putObj l' o2).heap[b]?=W.heap[b]?:=fun b hb=>by
   by_cases h:b<W.heap.size
   ·exact hg.block b h (by simp;omega)
   ·rw [Array.getElem?_eq_none (by omega),Array.getElem?_eq_none (by omega)]
  exact ⟨key BS bS.lt,key g (Nat.lt_of_lt_of_le hglt kw0.size)⟩
 case assign =>
  intro l' x W K hK
  gi_wp2
  exact hK
 case body =>
  rintro l' pre ⟨j,hj⟩ W ⟨⟨sk,Fk,hwr,hDk,hkW,hNF⟩,b10,b6⟩ hlt
  obtain ⟨b3,b5,b7,b8,c0,hrt,hgS,hgg⟩:=keep.out W hkW
  have hj85:j<85:=by rw [Hlen.out] at hj;have:=bks_le hlong;omega
  have h238:238*j≤l.length:=by
   by_cases h0:j=0
   ·omega
   ·have hj':j<bks l.length:=by rw [←Hlen.out];exact hj
    have:=(lt_bks (n:=l.length) (j:=j) (by omega)).1 hj'
    omega
  obtain ⟨i5,hi5,hz50,hz51,hz52⟩:=info_parts inf5
  have hz5:∀w,(Go.sizeOf 5).run Tryz.prog w=.ok 1 w:=fun w=>by simp [Go.sizeOf,typeInfo,hi5,hz51]
  obtain ⟨a9,c9,s9,hr9,-⟩:=slice_from 48 5 Tryz.underlying48 hz5 .i64 a2 c2 (238*j) l W hrt h238
  have hdl:(l.drop (238*j)).length=l.length-238*j:=List.length_drop
  rw [←hdl] at s9 hr9
  obtain ⟨a4,c4,s4,hr4⟩:=slice_to 48 5 Tryz.underlying48 hz5 .i64 a9 c9 (min (l.drop (238*j)).length 238) (l.drop (238*j)) W hr9 (by omega)
  have hm4:(chk l j).length=min (l.drop (238*j)).length 238:=by rw [chk_len,hdl]
  have hch:(l.drop (238*j)).take (min (l.drop (238*j)).length 238)=chk l j:=by
   unfold chk
   rw [List.take_eq_take_iff]
   omega
  rw [hch] at hr4
  rw [hdl] at s9 hr9 s4 hr4 hm4
  have hA0:bs.getD j 0=bs[j]?.getD 0:=List.getD_eq_getElem?_getD
  have hAm:bs.getD j 0<s.nb:=hin _ (getD_mem hj)
  have hnxl:=lastAt_lt hsm (pre.map (·.1)) 0 (by omega)
  have hsn:=wrAll_snoc (bs.getD j 0,blkP t (l.length-238*j) (lastAt bs 0 (pre.map (·.1))) nm (bs.getD j 0) (chk l j)) _ s sk hwr
  rw [←gw_snoc] at hsn
  have hbl:(blkP t (l.length-238*j) (lastAt bs 0 (pre.map (·.1))) nm (bs.getD j 0) (chk l j)).length=256:=blkP_length _ _ _ _ _ _ (by rw [hm4];omega)
  have hpm:(pre++[(⟨j,hj⟩:Ix bs)]).map (·.1)=pre.map (·.1)++[j]:=by simp
  have hla:lastAt bs 0 (pre.map (·.1)++[j])=bs.getD j 0:=lastAt_snoc bs j _ _
  have hbA:=fun W' (a:Option Addr) k c h1 h2 h3=>block_any t (l.length-238*j) (lastAt bs 0 (pre.map (·.1))) nm (bs.getD j 0) a k c (chk l j) W' (by omega) (by omega) (by omega) hnxl h1 h2 h3
  obtain ⟨A,hA⟩:∃A,bs.getD j 0=A:=⟨_,rfl⟩
  obtain ⟨nx,hnx⟩:∃nx,lastAt bs 0 (pre.map (·.1))=nx:=⟨_,rfl⟩
  obtain ⟨L9,hL9⟩:∃L9,l.length-238*j=L9:=⟨_,rfl⟩
  obtain ⟨m4,hm4'⟩:∃m4,min L9 238=m4:=⟨_,rfl⟩
  rw [hA] at hsn hbl hla hbA hA0 hAm
  rw [hnx] at hsn hbl hbA b10 hnxl
  rw [hL9] at hsn hbl hbA s9 s4 hr4 hm4
  rw [hm4'] at s4 hr4 hm4
  obtain ⟨BL,hBL⟩:∃BL,blkP t L9 nx nm A (chk l j)=BL:=⟨_,rfl⟩
  rw [hBL] at hsn hbl hbA
  have e9:((238*j:Nat):Int)=(j:Int)*238:=by omega
  have e4:min (L9:Int) 238=(m4:Int):=by omega
  rw [e9] at s9
  have hA1:bs[j]?.getD 0=A:=hA0.symm
  have hA2:bs[j]=A:=by rw [List.getElem?_eq_getElem hj] at hA1;exact hA1
  have hm238:m4≤238:=by omega
  have hws2:sk.ws.length≤100000:=by
   have:=wrAll_len (gw t nm bs l 0 (pre.map (·.1))) s
   rw [hwr,gw_length,List.length_map] at this
   have hlt85:pre.length<85:=by rw [Hlen.out] at hlt;have:=bks_le hlong;omega
   simp only at this
   omega
  have c5:=b5.cell
  have S0:W.drew.cell? ⟨B8,0,none⟩=some (.bool t)∧W.drew.cell? ⟨B10,0,none⟩=some (.int .i64 (nx:Int)):=⟨b8.cell,b10.cell⟩
  have hpost:∀(S:List Nat) (W':World),Kept S W W'→(∀x∈S,∃cs ty fr,W.heap[x]?=some (.cells cs ty fr))→KeepsFrom w0.heap.size W W':=fun S W' k hS=>⟨k.size,fun x o _ hx ho=>k.keeps hx (fun hm=>by
   obtain ⟨cs,ty,fr,hc⟩:=hS x hm
   rw [hc] at hx
   cases hx
   cases ho)⟩
  have Hdk:=Hid.mk hDk.allCells
  have b10W:=b10
  have b6W:=b6
  have HL:=Hid.mk (And.intro hL9 hm4')
  have Hh:=Hid.mk hA
  clear hL9 hm4' hA hdl hch hA0 hr9 hrt h238
  gi_wp2_with fail
  have b8lt:=b8.lt
  have b10lt:=b10.lt
  have S1:(W.drew.alloc (.cells #[.bool false,.int .i64 0,.int .i64 0,.slice none 0 0] 161)).cell? ⟨B8,0,none⟩=some (.bool t)∧(W.drew.alloc (.cells #[.bool false,.int .i64 0,.int .i64 0,.slice none 0 0] 161)).cell? ⟨B10,0,none⟩=some (.int .i64 (nx:Int)):=⟨by rw [(kept_alloc W.drew _).cell (p:=⟨B8,0,none⟩) b8lt (by simp)];exact S0.1,by rw [(kept_alloc W.drew _).cell (p:=⟨B10,0,none⟩) b10lt (by simp)];exact S0.2⟩
  have k4:Kept [] W (W.alloc (.cells #[.bool t,.int .i64 (L9:Int),.int .i64 (nx:Int),.slice a4 m4 c4] 161)).drew:=((Kept.refl [] W).alloc _).drew
  have hb4:Bx (W.alloc (.cells #[.bool t,.int .i64 (L9:Int),.int .i64 (nx:Int),.slice a4 m4 c4] 161)).drew W.heap.size t L9 nx (.slice a4 m4 c4):=heap_alloc_new W _
  have S2:(W.alloc (.cells #[.bool t,.int .i64 (L9:Int),.int .i64 (nx:Int),.slice a4 m4 c4] 161)).drew.cell? ⟨B8,0,none⟩=some (.bool t)∧(W.alloc (.cells #[.bool t,.int .i64 (L9:Int),.int .i64 (nx:Int),.slice a4 m4 c4] 161)).drew.cell? ⟨B10,0,none⟩=some (.int .i64 (nx:Int)):=⟨by rw [k4.cell b8lt (by simp)];exact S0.1,by rw [k4.cell b10lt (by simp)];exact S0.2⟩
  refine wpIn_region_held (S:=fun w'=>w'.cell? ⟨B8,0,none⟩=some (.bool t)∧w'.cell? ⟨B10,0,none⟩=some (.int .i64 (nx:Int))) (by kernel_rfl) (by kernel_rfl) (by rintro ⟨_,_,h⟩;exact h) S0 (fun _=>?_)
  refine wpAnyH_take (i:=0) (v:=.bool t) rfl (by kernel_rfl) (by kernel_rfl) (by kernel_rfl) (fun _ _ _ h=>h) (Or.inl ⟨by rfl,fun w hS=>by have hS':w.cell? ⟨B8,0,none⟩=some (.bool t)∧w.cell? ⟨B10,0,none⟩=some (.int .i64 (nx:Int)):=hS;obtain ⟨hS1',hS2'⟩:=hS';go_simp⟩) S0 ?_
  go_simp
  refine wpAnyH_take (i:=1) (v:=.slice a9 L9 c9) rfl (by kernel_rfl) (by kernel_rfl) (by kernel_rfl) (fun _ _ _ h=>h) (Or.inl ⟨by rfl,fun w hS=>by have hS':w.cell? ⟨B8,0,none⟩=some (.bool t)∧w.cell? ⟨B10,0,none⟩=some (.int .i64 (nx:Int)):=hS;go_simp⟩) S0 ?_
  go_simp
  refine wpAnyH_take (i:=2) (v:=.int .i64 (L9:Int)) rfl (by kernel_rfl) (by kernel_rfl) (by kernel_rfl) (fun _ _ _ h=>h) (Or.inl ⟨by rfl,fun w hS=>by have hS':w.cell? ⟨B8,0,none⟩=some (.bool t)∧w.cell? ⟨B10,0,none⟩=some (.int .i64 (nx:Int)):=hS;go_simp⟩) S0 ?_
  go_simp
  refine wpAnyH_take (i:=3) (v:=.int .i64 (nx:Int)) rfl (by kernel_rfl) (by kernel_rfl) (by kernel_rfl) (fun _ _ _ h=>h) (Or.inl ⟨by rfl,fun w hS=>by have hS':w.cell? ⟨B8,0,none⟩=some (.bool t)∧w.cell? ⟨B10,0,none⟩=some (.int .i64 (nx:Int)):=hS;obtain ⟨hS1',hS2'⟩:=hS';go_simp⟩) S0 ?_
  go_simp
  refine wpAnyH_take (i:=4) (v:=.slice a9 L9 c9) rfl (by kernel_rfl) (by kernel_rfl) (by kernel_rfl) (fun _ _ _ h=>h) (Or.inl ⟨by rfl,fun w hS=>by have hS':w.cell? ⟨B8,0,none⟩=some (.bool t)∧w.cell? ⟨B10,0,none⟩=some (.int .i64 (nx:Int)):=hS;go_simp⟩) S0 ?_
  go_simp
  refine wpAnyH_take (i:=5) (v:=.slice a9 L9 c9) rfl (by kernel_rfl) (by kernel_rfl) (by kernel_rfl) (fun _ _ _ h=>h) (Or.inl ⟨by rfl,fun w hS=>by have hS':w.cell? ⟨B8,0,none⟩=some (.bool t)∧w.cell? ⟨B10,0,none⟩=some (.int .i64 (nx:Int)):=hS;go_simp⟩) S0 ?_
  go_simp
  refine wpAnyH_take (i:=6) (v:=.int .i64 (L9:Int)) rfl (by kernel_rfl) (by kernel_rfl) (by kernel_rfl) (fun _ _ _ h=>h) (Or.inl ⟨by rfl,fun w hS=>by have hS':w.cell? ⟨B8,0,none⟩=some (.bool t)∧w.cell? ⟨B10,0,none⟩=some (.int .i64 (nx:Int)):=hS;go_simp⟩) S0 ?_
  go_simp
  refine wpAnyH_take (i:=7) (v:=.int .i64 (m4:Int)) rfl (by kernel_rfl) (by kernel_rfl) (by kernel_rfl) (fun _ _ _ h=>h) (Or.inl ⟨by rfl,fun w hS=>by have hS':w.cell? ⟨B8,0,none⟩=some (.bool t)∧w.cell? ⟨B10,0,none⟩=some (.int .i64 (nx:Int)):=hS;go_simp⟩) S0 ?_
  go_simp
  refine wpAnyH_take (i:=8) (v:=.slice a4 m4 c4) rfl (by kernel_rfl) (by kernel_rfl) (by kernel_rfl) (fun _ _ _ h=>h) (Or.inl ⟨by rfl,fun w hS=>by have hS':w.cell? ⟨B8,0,none⟩=some (.bool t)∧w.cell? ⟨B10,0,none⟩=some (.int .i64 (nx:Int)):=hS;go_simp⟩) S0 ?_
  go_simp
  refine wpAnyH_take (i:=9) (v:=.agg #[.bool t,.int .i64 (L9:Int),.int .i64 (nx:Int),.slice a4 m4 c4]) rfl (by kernel_rfl) (by kernel_rfl) (by kernel_rfl) (fun _ _ _ h=>h) (Or.inl ⟨by rfl,fun w hS=>by have hS':w.cell? ⟨B8,0,none⟩=some (.bool t)∧w.cell? ⟨B10,0,none⟩=some (.int .i64 (nx:Int)):=hS;go_simp⟩) S0 ?_
  go_simp
  refine wpAnyH_ready (rs:=[10]) (by kernel_rfl) (by simp) (AllReadyH.cons rfl (fun K hK=>?_) AllReadyH.nil)
  go_simp
  refine hK.out _ _ S1 (fun _=>?_)
  clear hK K
  go_simp
  refine wpAnyH_ready (rs:=[11]) (by kernel_rfl) (by simp) (AllReadyH.cons rfl (fun K hK=>?_) AllReadyH.nil)
  go_simp
  refine hK.out _ _ S2 (fun _=>?_)
  clear hK K
  go_simp
  refine wpAnyH_done (by kernel_rfl) ?_ _
  have hDk4:=hDk.kept k4 (by simp)
  have hk4:=hkW.trans k4 (by simp)
  have b3:=b3.kept k4 (by simp)
  have b7:=b7.kept k4 (by simp)
  have b10:=b10.kept k4 (by simp)
  have b6:=b6.kept k4 (by simp)
  have hr44:=hr4.kept k4 (by simp)
  have hplt0:p<w0.heap.size:=Nat.lt_of_lt_of_le hplt kw0.size
  have c04:(W.alloc (.cells #[.bool t,.int .i64 (L9:Int),.int .i64 (nx:Int),.slice a4 m4 c4] 161)).drew.cell? ⟨p,0,none⟩=some (.pointer (some ⟨q,0,none⟩)):=by rw [k4.cell (p:=⟨p,0,none⟩) (Nat.lt_of_lt_of_le hplt0 hkW.size) (by simp)];exact c0
  obtain ⟨bx,hbx⟩:∃bx,Hid (W.heap.size=bx):=⟨_,rfl⟩
  rw [hbx.out] at hb4 ⊢
  have hFkx:∀x∈Fk,x<bx:=fun x hx=>by rw [←hbx.out];exact hDk.lt x hx
  clear S0 S1 S2 s9 s4 hr4 hDk e4 c5 b5 b8 b8lt b10lt hgS hgg
  obtain ⟨w4,hw4⟩:∃w4,Hid ((W.alloc (.cells #[.bool t,.int .i64 (L9:Int),.int .i64 (nx:Int),.slice a4 m4 c4] 161)).drew=w4):=⟨_,rfl⟩
  rw [hw4.out] at k4 hb4 hDk4 hk4 b3 b7 b10 b6 hr44 c04 ⊢
  clear hw4
  obtain ⟨x0,x1,x2,x3⟩:=hb4.cells
  have T0:w4.drew.cell? ⟨B3,0,none⟩=some (.pointer (some ⟨p,0,none⟩))∧w4.drew.cell? ⟨p,0,none⟩=some (.pointer (some ⟨q,0,none⟩))∧w4.drew.cell? ⟨B7,0,none⟩=some (.int .i64 (nm:Int))∧w4.drew.cell? ⟨bx,0,none⟩=some (.bool t)∧w4.drew.cell? ⟨bx,1,none⟩=some (.int .i64 (L9:Int))∧w4.drew.cell? ⟨bx,2,none⟩=some (.int .i64 (nx:Int))∧w4.drew.cell? ⟨bx,3,none⟩=some (.slice a4 m4 c4):=⟨b3.cell,c04,b7.cell,x0,x1,x2,x3⟩
  have hBl:=hbA w4.drew a4 m4 c4 hm4 (by omega) (hr44.kept (Kept.refl [] w4).drew (by simp))
  have hl3:B3<w4.drew.heap.size:=b3.lt
  have hl7:B7<w4.drew.heap.size:=b7.lt
  have hlp:p<w4.drew.heap.size:=World.block_lt_of_cell? _ _ c04
  have hlx:bx<w4.drew.heap.size:=hb4.lt
  have nF:∀x,x<w0.heap.size→x∉F→x∉Fk:=fun x h1 h2 h3=>by
   rcases hNF x h3 with h|h
   ·exact h2 h
   ·omega
  have n3:B3∉Fk:=nF _ (by omega) (hneF _ (by omega))
  have n7:B7∉Fk:=nF _ (by omega) (hneF _ (by omega))
  have n6:B6∉Fk:=nF _ (by omega) (hneF _ (by omega))
  have n10:B10∉Fk:=nF _ (by omega) (hneF _ (by omega))
  have np:p∉Fk:=nF _ hplt0 hpF
  have nbx:bx∉Fk:=fun h=>by have:=hFkx _ h;omega
  have hwrite:∀w5 v5,Sealed w4.drew w5 v5 BL→Calls Tryz.prog 178 #[.pointer (some ⟨q,0,none⟩),.int .i64 (A:Int),v5] w5 fun e w'=>e=.returned (.int .i64 (wrE sk (A:Int) 256))∧∃F',IsD w' F' q (wrS sk (A:Int) BL)∧Kept Fk w5 w'∧NewF w5 Fk F':=fun w5 v5 hS=>by
   have hk:=hS.kept
   have hrs:Reads w5 v5 BL:=hS.reads
   have:=write_any ((hDk4.kept (Kept.refl [] w4).drew (by simp)).kept hk (by simp)) (A:Int) v5 BL hrs (fun g' hg' hm=>?_) hws2
   ·rw [hbl] at this
    exact this
   ·obtain ⟨gg,rfl,hge,_⟩:=hS
    simp [Value.ownBlock] at hg'
    subst hg'
    have h1:=hFkx _ hm
    have h2:bx<w4.heap.size:=hlx
    have h3:w4.heap.size≤gg:=hge
    omega
  gi_wp2_with fail
  refine wpIn_region_held (S:=fun w'=>w'.cell? ⟨B3,0,none⟩=some (.pointer (some ⟨p,0,none⟩))∧w'.cell? ⟨p,0,none⟩=some (.pointer (some ⟨q,0,none⟩))∧w'.cell? ⟨B7,0,none⟩=some (.int .i64 (nm:Int))∧w'.cell? ⟨bx,0,none⟩=some (.bool t)∧w'.cell? ⟨bx,1,none⟩=some (.int .i64 (L9:Int))∧w'.cell? ⟨bx,2,none⟩=some (.int .i64 (nx:Int))∧w'.cell? ⟨bx,3,none⟩=some (.slice a4 m4 c4)) (by kernel_rfl) (by kernel_rfl) (by rintro ⟨_,_,h⟩;exact h) T0 (fun _=>?_)
  refine wpAnyH_take (i:=0) (v:=.pointer (some ⟨p,0,none⟩)) rfl (by kernel_rfl) (by kernel_rfl) (by kernel_rfl) (fun _ _ _ h=>h) (Or.inl ⟨by rfl,fun w hS=>by have hS':w.cell? ⟨B3,0,none⟩=some (.pointer (some ⟨p,0,none⟩))∧w.cell? ⟨p,0,none⟩=some (.pointer (some ⟨q,0,none⟩))∧w.cell? ⟨B7,0,none⟩=some (.int .i64 (nm:Int))∧w.cell? ⟨bx,0,none⟩=some (.bool t)∧w.cell? ⟨bx,1,none⟩=some (.int .i64 (L9:Int))∧w.cell? ⟨bx,2,none⟩=some (.int .i64 (nx:Int))∧w.cell? ⟨bx,3,none⟩=some (.slice a4 m4 c4):=hS;obtain ⟨h1',h2',h3',h4',h5',h6',h7'⟩:=hS';go_simp⟩) T0 ?_
  go_simp
  refine wpAnyH_take (i:=1) (v:=.pointer (some ⟨p,0,none⟩)) rfl (by kernel_rfl) (by kernel_rfl) (by kernel_rfl) (fun _ _ _ h=>h) (Or.inl ⟨by rfl,fun w hS=>by have hS':w.cell? ⟨B3,0,none⟩=some (.pointer (some ⟨p,0,none⟩))∧w.cell? ⟨p,0,none⟩=some (.pointer (some ⟨q,0,none⟩))∧w.cell? ⟨B7,0,none⟩=some (.int .i64 (nm:Int))∧w.cell? ⟨bx,0,none⟩=some (.bool t)∧w.cell? ⟨bx,1,none⟩=some (.int .i64 (L9:Int))∧w.cell? ⟨bx,2,none⟩=some (.int .i64 (nx:Int))∧w.cell? ⟨bx,3,none⟩=some (.slice a4 m4 c4):=hS;go_simp⟩) T0 ?_
  go_simp
  refine wpAnyH_take (i:=2) (v:=.pointer (some ⟨p,0,none⟩)) rfl (by kernel_rfl) (by kernel_rfl) (by kernel_rfl) (fun _ _ _ h=>h) (Or.inl ⟨by rfl,fun w hS=>by have hS':w.cell? ⟨B3,0,none⟩=some (.pointer (some ⟨p,0,none⟩))∧w.cell? ⟨p,0,none⟩=some (.pointer (some ⟨q,0,none⟩))∧w.cell? ⟨B7,0,none⟩=some (.int .i64 (nm:Int))∧w.cell? ⟨bx,0,none⟩=some (.bool t)∧w.cell? ⟨bx,1,none⟩=some (.int .i64 (L9:Int))∧w.cell? ⟨bx,2,none⟩=some (.int .i64 (nx:Int))∧w.cell? ⟨bx,3,none⟩=some (.slice a4 m4 c4):=hS;go_simp⟩) T0 ?_
  go_simp
  refine wpAnyH_take (i:=3) (v:=.pointer (some ⟨q,0,none⟩)) rfl (by kernel_rfl) (by kernel_rfl) (by kernel_rfl) (fun _ _ _ h=>h) (Or.inl ⟨by rfl,fun w hS=>by have hS':w.cell? ⟨B3,0,none⟩=some (.pointer (some ⟨p,0,none⟩))∧w.cell? ⟨p,0,none⟩=some (.pointer (some ⟨q,0,none⟩))∧w.cell? ⟨B7,0,none⟩=some (.int .i64 (nm:Int))∧w.cell? ⟨bx,0,none⟩=some (.bool t)∧w.cell? ⟨bx,1,none⟩=some (.int .i64 (L9:Int))∧w.cell? ⟨bx,2,none⟩=some (.int .i64 (nx:Int))∧w.cell? ⟨bx,3,none⟩=some (.slice a4 m4 c4):=hS;obtain ⟨h1',h2',h3',h4',h5',h6',h7'⟩:=hS';go_simp⟩) T0 ?_
  go_simp
  refine wpAnyH_take (i:=4) (v:=.int .i64 (A:Int)) rfl (by kernel_rfl) (by kernel_rfl) (by kernel_rfl) (fun _ _ _ h=>h) (Or.inl ⟨by rfl,fun w hS=>by have hS':w.cell? ⟨B3,0,none⟩=some (.pointer (some ⟨p,0,none⟩))∧w.cell? ⟨p,0,none⟩=some (.pointer (some ⟨q,0,none⟩))∧w.cell? ⟨B7,0,none⟩=some (.int .i64 (nm:Int))∧w.cell? ⟨bx,0,none⟩=some (.bool t)∧w.cell? ⟨bx,1,none⟩=some (.int .i64 (L9:Int))∧w.cell? ⟨bx,2,none⟩=some (.int .i64 (nx:Int))∧w.cell? ⟨bx,3,none⟩=some (.slice a4 m4 c4):=hS;go_simp⟩) T0 ?_
  go_simp
  refine wpAnyH_take (i:=5) (v:=.agg #[.bool t,.int .i64 (L9:Int),.int .i64 (nx:Int),.slice a4 m4 c4]) rfl (by kernel_rfl) (by kernel_rfl) (by kernel_rfl) (fun _ _ _ h=>h) (Or.inl ⟨by rfl,fun w hS=>by have hS':w.cell? ⟨B3,0,none⟩=some (.pointer (some ⟨p,0,none⟩))∧w.cell? ⟨p,0,none⟩=some (.pointer (some ⟨q,0,none⟩))∧w.cell? ⟨B7,0,none⟩=some (.int .i64 (nm:Int))∧w.cell? ⟨bx,0,none⟩=some (.bool t)∧w.cell? ⟨bx,1,none⟩=some (.int .i64 (L9:Int))∧w.cell? ⟨bx,2,none⟩=some (.int .i64 (nx:Int))∧w.cell? ⟨bx,3,none⟩=some (.slice a4 m4 c4):=hS;obtain ⟨h1',h2',h3',h4',h5',h6',h7'⟩:=hS';go_simp⟩) T0 ?_
  go_simp
  refine wpAnyH_take (i:=6) (v:=.int .i64 (nm:Int)) rfl (by kernel_rfl) (by kernel_rfl) (by kernel_rfl) (fun _ _ _ h=>h) (Or.inl ⟨by rfl,fun w hS=>by have hS':w.cell? ⟨B3,0,none⟩=some (.pointer (some ⟨p,0,none⟩))∧w.cell? ⟨p,0,none⟩=some (.pointer (some ⟨q,0,none⟩))∧w.cell? ⟨B7,0,none⟩=some (.int .i64 (nm:Int))∧w.cell? ⟨bx,0,none⟩=some (.bool t)∧w.cell? ⟨bx,1,none⟩=some (.int .i64 (L9:Int))∧w.cell? ⟨bx,2,none⟩=some (.int .i64 (nx:Int))∧w.cell? ⟨bx,3,none⟩=some (.slice a4 m4 c4):=hS;obtain ⟨h1',h2',h3',h4',h5',h6',h7'⟩:=hS';go_simp⟩) T0 ?_
  go_simp
  refine wpAnyH_take (i:=7) (v:=.int .i64 (A:Int)) rfl (by kernel_rfl) (by kernel_rfl) (by kernel_rfl) (fun _ _ _ h=>h) (Or.inl ⟨by rfl,fun w hS=>by have hS':w.cell? ⟨B3,0,none⟩=some (.pointer (some ⟨p,0,none⟩))∧w.cell? ⟨p,0,none⟩=some (.pointer (some ⟨q,0,none⟩))∧w.cell? ⟨B7,0,none⟩=some (.int .i64 (nm:Int))∧w.cell? ⟨bx,0,none⟩=some (.bool t)∧w.cell? ⟨bx,1,none⟩=some (.int .i64 (L9:Int))∧w.cell? ⟨bx,2,none⟩=some (.int .i64 (nx:Int))∧w.cell? ⟨bx,3,none⟩=some (.slice a4 m4 c4):=hS;go_simp⟩) T0 ?_
  go_simp
  refine wpAnyH_ready (rs:=[8]) (by kernel_rfl) (by simp) (AllReadyH.cons rfl (fun K hK=>?_) AllReadyH.nil)
  go_simp
  refine (hBl).mono ?_
  rintro e w5 ⟨v5,rfl,hS5⟩
  have k5:=hS5.kept
  have T1:w5.cell? ⟨B3,0,none⟩=some (.pointer (some ⟨p,0,none⟩))∧w5.cell? ⟨p,0,none⟩=some (.pointer (some ⟨q,0,none⟩))∧w5.cell? ⟨B7,0,none⟩=some (.int .i64 (nm:Int))∧w5.cell? ⟨bx,0,none⟩=some (.bool t)∧w5.cell? ⟨bx,1,none⟩=some (.int .i64 (L9:Int))∧w5.cell? ⟨bx,2,none⟩=some (.int .i64 (nx:Int))∧w5.cell? ⟨bx,3,none⟩=some (.slice a4 m4 c4):=⟨by rw [k5.cell hl3 (by simp)];exact T0.1,by rw [k5.cell hlp (by simp)];exact T0.2.1,by rw [k5.cell hl7 (by simp)];exact T0.2.2.1,by rw [k5.cell hlx (by simp)];exact T0.2.2.2.1,by rw [k5.cell hlx (by simp)];exact T0.2.2.2.2.1,by rw [k5.cell hlx (by simp)];exact T0.2.2.2.2.2.1,by rw [k5.cell hlx (by simp)];exact T0.2.2.2.2.2.2⟩
  have hWr:=hwrite w5 v5 hS5
  refine hK.out _ _ T1 (fun _=>?_)
  clear hK K
  go_simp
  refine wpAnyH_ready (rs:=[9]) (by kernel_rfl) (by simp) (AllReadyH.cons rfl (fun K hK=>?_) AllReadyH.nil)
  go_simp
  refine (hWr).mono ?_
  rintro e w6 ⟨rfl,F6,hD6,k6,hN6⟩
  have T2:w6.cell? ⟨B3,0,none⟩=some (.pointer (some ⟨p,0,none⟩))∧w6.cell? ⟨p,0,none⟩=some (.pointer (some ⟨q,0,none⟩))∧w6.cell? ⟨B7,0,none⟩=some (.int .i64 (nm:Int))∧w6.cell? ⟨bx,0,none⟩=some (.bool t)∧w6.cell? ⟨bx,1,none⟩=some (.int .i64 (L9:Int))∧w6.cell? ⟨bx,2,none⟩=some (.int .i64 (nx:Int))∧w6.cell? ⟨bx,3,none⟩=some (.slice a4 m4 c4):=⟨by rw [k6.cell (Nat.lt_of_lt_of_le hl3 k5.size) n3];exact T1.1,by rw [k6.cell (Nat.lt_of_lt_of_le hlp k5.size) np];exact T1.2.1,by rw [k6.cell (Nat.lt_of_lt_of_le hl7 k5.size) n7];exact T1.2.2.1,by rw [k6.cell (Nat.lt_of_lt_of_le hlx k5.size) nbx];exact T1.2.2.2.1,by rw [k6.cell (Nat.lt_of_lt_of_le hlx k5.size) nbx];exact T1.2.2.2.2.1,by rw [k6.cell (Nat.lt_of_lt_of_le hlx k5.size) nbx];exact T1.2.2.2.2.2.1,by rw [k6.cell (Nat.lt_of_lt_of_le hlx k5.size) nbx];exact T1.2.2.2.2.2.2⟩
  refine hK.out _ _ T2 (fun _=>?_)
  clear hK K
  go_simp
  refine wpAnyH_take (i:=10) (v:=.int .i64 (wrE sk (A:Int) 256)) rfl (by kernel_rfl) (by kernel_rfl) (by kernel_rfl) (fun _ _ _ h=>h) (Or.inl ⟨by rfl,fun w hS=>by have hS':w.cell? ⟨B3,0,none⟩=some (.pointer (some ⟨p,0,none⟩))∧w.cell? ⟨p,0,none⟩=some (.pointer (some ⟨q,0,none⟩))∧w.cell? ⟨B7,0,none⟩=some (.int .i64 (nm:Int))∧w.cell? ⟨bx,0,none⟩=some (.bool t)∧w.cell? ⟨bx,1,none⟩=some (.int .i64 (L9:Int))∧w.cell? ⟨bx,2,none⟩=some (.int .i64 (nx:Int))∧w.cell? ⟨bx,3,none⟩=some (.slice a4 m4 c4):=hS;go_simp⟩) T2 ?_
  go_simp
  refine wpAnyH_done (by kernel_rfl) ?_ _
  have kk6:Kept (B6::B10::F) w0 w6:=((hk4.drew.trans k5 (by simp)).trans k6 (fun x hx=>by
   rcases hNF x hx with h|h
   ·exact .inl (by simp [h])
   ·exact .inr h))
  have hN06:NewF w0 F F6:=hNF.trans hN6 (by have:=hk4.size;have:=k5.size;exact Nat.le_trans hk4.size k5.size)
  have kW6:Kept Fk W w6:=((k4.drew.trans k5 (by simp)).mono (by simp)).trans k6 (fun x hx=>.inl hx)
  have b10:=((b10.kept (Kept.refl [] w4).drew (by simp)).kept k5 (by simp)).kept k6 n10
  have b6:=((b6.kept (Kept.refl [] w4).drew (by simp)).kept k5 (by simp)).kept k6 n6
  clear T0 T1 T2 hBl hWr hwrite hb4 x0 x1 x2 x3 b3 b7 c04 hr44 k5 k6 hS5 hDk4 hN6 hbA
  rw [hbl] at hsn
  have n6F:∀x,x<w0.heap.size→x∉F→x∉F6:=fun x h1 h2 h3=>by
   rcases hN06 x h3 with h|h
   ·exact h2 h
   ·omega
  have hcB:∀x∈Fk,∃cs ty fr,W.heap[x]?=some (.cells cs ty fr):=Hdk.out
  have hk0:=keep.out W hkW
  by_cases hE:wrE sk (A:Int) 256=0
  ·rw [if_pos hE] at hsn
   obtain ⟨b10',k7⟩:=b10.set (.int .i64 (A:Int))
   have kk7:=kk6.trans k7 (fun x hx=>.inl (by simp at hx;simp [hx]))
   have kW7:Kept (B10::Fk) W (w6.setCell ⟨B10,0,none⟩ (.int .i64 (A:Int))):=(kW6.mono (fun x hx=>.inl (by simp [hx]))).trans k7 (fun x hx=>.inl (by simp at hx;simp [hx]))
   have hk7:=keep.out _ kk7
   have hfin:Hid (KeepsFrom w0.heap.size W (w6.setCell ⟨B10,0,none⟩ (.int .i64 (A:Int)))∧KpB BS g W (w6.setCell ⟨B10,0,none⟩ (.int .i64 (A:Int)))∧(Wm w0 F q B6 B10 s t nm bs l 0 ((pre++[(⟨j,hj⟩:Ix bs)]).map (·.1)) (w6.setCell ⟨B10,0,none⟩ (.int .i64 (A:Int)))∧B1 (w6.setCell ⟨B10,0,none⟩ (.int .i64 (A:Int))) B10 3 (.int .i64 (lastAt bs 0 ((pre++[(⟨j,hj⟩:Ix bs)]).map (·.1)):Int))∧B1 (w6.setCell ⟨B10,0,none⟩ (.int .i64 (A:Int))) B6 27 (.int .i64 0))):=by
    refine ⟨hpost _ _ kW7 (fun x hx=>?_),⟨hk7.2.2.2.2.2.2.1.trans hk0.2.2.2.2.2.2.1.symm,hk7.2.2.2.2.2.2.2.trans hk0.2.2.2.2.2.2.2.symm⟩,?_,?_,b6.kept k7 (by simp;omega)⟩
    ·rcases List.mem_cons.1 hx with rfl|hx
     ·exact ⟨_,_,_,b10W⟩
     ·exact hcB x hx
    ·rw [hpm]
     exact ⟨_,F6,hsn,hD6.kept k7 (fun x hx=>by simp;rintro rfl;exact n6F _ l10 (hneF _ (by omega)) hx),kk7,hN06⟩
    ·rw [hpm,hla]
     exact b10'
   have c10:=b10.cell
   have f10:=b10.free
   clear hsn b10' k7 kk7 kW7 hk7 hk0 kW6 kk6 hD6 hN06
   gi_wp2
   exact hfin.out
  ·rw [if_neg hE] at hsn
   obtain ⟨b6',k7⟩:=b6.set (.int .i64 (wrE sk (A:Int) 256))
   have kk7:=kk6.trans k7 (fun x hx=>.inl (by simp at hx;simp [hx]))
   have kW7:Kept (B6::Fk) W (w6.setCell ⟨B6,0,none⟩ (.int .i64 (wrE sk (A:Int) 256))):=(kW6.mono (fun x hx=>.inl (by simp [hx]))).trans k7 (fun x hx=>.inl (by simp at hx;simp [hx]))
   have hfin:Hid (KeepsFrom w0.heap.size W (w6.setCell ⟨B6,0,none⟩ (.int .i64 (wrE sk (A:Int) 256)))∧(∃e:Int,e≠0∧Wm w0 F q B6 B10 s t nm bs l e ((pre++[(⟨j,hj⟩:Ix bs)]).map (·.1)) (w6.setCell ⟨B6,0,none⟩ (.int .i64 (wrE sk (A:Int) 256)))∧B1 (w6.setCell ⟨B6,0,none⟩ (.int .i64 (wrE sk (A:Int) 256))) B6 27 (.int .i64 e))):=by
    refine ⟨hpost _ _ kW7 (fun x hx=>?_),_,hE,?_,b6'⟩
    ·rcases List.mem_cons.1 hx with rfl|hx
     ·exact ⟨_,_,_,b6W⟩
     ·exact hcB x hx
    ·rw [hpm]
     exact ⟨_,F6,hsn,hD6.kept k7 (fun x hx=>by simp;rintro rfl;exact n6F _ l6 (hneF _ (by omega)) hx),kk7,hN06⟩
   have c6:=b6.cell
   have f6:=b6.free
   have hE2:(wrE sk (A:Int) 256 != 0)=true:=by simpa using hE
   clear hsn b6' k7 kk7 kW7 hk0 kW6 kk6 hD6 hN06
   generalize wrE sk (A:Int) 256=E at hE hE2 hfin
   gi_wp2
   exact ⟨hfin.out.1,rfl,hfin.out.2⟩
 case done =>
  rintro D ys W hDz rfl ⟨⟨sk,Fk,hwr,hDk,hkW,hNF⟩,b10,b6⟩ hK
  rw [back_down,←gw_all] at hwr
  have nF:∀x,x<w0.heap.size→x∉F→x∉Fk:=fun x h1 h2 h3=>by
   rcases hNF x h3 with h|h
   ·exact h2 h
   ·omega
  have c6:=b6.cell
  have f6:=b6.free
  obtain ⟨b6',k6⟩:=b6.set (.int .i64 0)
  have hK':(W.setCell ⟨B6,0,none⟩ (.int .i64 0)).heap[D]?=some (.deferred (some [])):=(KeepsOthers.setCell W ⟨B6,0,none⟩ (.int .i64 0)).same D _ hK rfl
  have hgp:=grownBy_putObj' (W.setCell ⟨B6,0,none⟩ (.int .i64 0)) D (.deferred none)
  have kp:Kept [D] (W.setCell ⟨B6,0,none⟩ (.int .i64 0)) ((W.setCell ⟨B6,0,none⟩ (.int .i64 0)).putObj D (.deferred none)):=(Kept.refl _ _).grown hgp (fun x hx=>.inl (by simp at hx;simp [hx]))
  have kk7:=(hkW.trans k6 (fun x hx=>.inl (by simp at hx;simp [hx]))).trans kp (fun x hx=>.inr (by simp at hx;omega))
  have hDf:D∉Fk:=fun hm=>by
   obtain ⟨cs,ty,fr,hc⟩:=hDk.allCells D hm
   rw [hK] at hc
   cases hc
  have hD7:=(hDk.kept k6 (fun x hx=>by simp;rintro rfl;exact nF _ l6 (hneF _ (by omega)) hx)).kept kp (fun x hx=>by simp;rintro rfl;exact hDf hx)
  have hc5:=cell_kept b6'.cell hgp (fun r e=>by cases e;exact ⟨_,hK',rfl⟩)
  have kfin:Kept F w ((W.setCell ⟨B6,0,none⟩ (.int .i64 0)).putObj D (.deferred none)):=(kw0.mono (by simp)).trans kk7 (fun x hx=>by
   simp only [List.mem_cons] at hx
   rcases hx with rfl|rfl|hx
   ·exact .inr (by omega)
   ·exact .inr (by omega)
   ·exact .inl hx)
  have nfin:NewF w F Fk:=fun x hx=>by
   rcases hNF x hx with h|h
   ·exact .inl h
   ·exact .inr (Nat.le_trans kw0.size h)
  have hfin:=fin t Fk _ 0 (by rw [hwr]) (by rw [hwr];exact hD7) kfin nfin
  have Hfin:=Hid.mk hfin
  clear hfin fin kfin nfin hD7 kk7
  gi_wp2
  refine ⟨by simp,.inl ⟨_,_,rfl,run_takeDeferred hK',?_⟩⟩
  refine ⟨.int .i64 0,?_,Hfin.out⟩
  simp [results,Tryz.f170,go_sem,hc5]
 case stop =>
  rintro D c pre W hDz ⟨k,hk,rfl⟩ ⟨rfl,e,he,⟨sk,Fk,hwr,hDk,hkW,hNF⟩,b6⟩ hK
  rw [back_down] at hwr
  have hall:wrAll s (wsOf t nm bs l bs.length)=(e,sk):=by
   rw [gw_down t nm bs l k hk,wrAll_stop _ _ _ (by rw [hwr];exact he),hwr]
  have hgp:=grownBy_putObj' W D (.deferred none)
  have kp:Kept [D] W (W.putObj D (.deferred none)):=(Kept.refl _ _).grown hgp (fun x hx=>.inl (by simp at hx;simp [hx]))
  have kk7:=hkW.trans kp (fun x hx=>.inr (by simp at hx;omega))
  have hDf:D∉Fk:=fun hm=>by
   obtain ⟨cs,ty,fr,hc⟩:=hDk.allCells D hm
   rw [hK] at hc
   cases hc
  have hD7:=hDk.kept kp (fun x hx=>by simp;rintro rfl;exact hDf hx)
  have hc5:=cell_kept b6.cell hgp (fun r e=>by cases e;exact ⟨_,hK,rfl⟩)
  have kfin:Kept F w (W.putObj D (.deferred none)):=(kw0.mono (by simp)).trans kk7 (fun x hx=>by
   simp only [List.mem_cons] at hx
   rcases hx with rfl|rfl|hx
   ·exact .inr (by omega)
   ·exact .inr (by omega)
   ·exact .inl hx)
  have nfin:NewF w F Fk:=fun x hx=>by
   rcases hNF x hx with h|h
   ·exact .inl h
   ·exact .inr (Nat.le_trans kw0.size h)
  have hfin:=fin t Fk _ e (by rw [hall]) (by rw [hall];exact hD7) kfin nfin
  have Hfin:=Hid.mk hfin
  clear hfin fin kfin nfin hD7 kk7
  gi_wp2
  refine ⟨by simp,.inl ⟨_,_,rfl,run_takeDeferred hK,?_⟩⟩
  refine ⟨.int .i64 e,?_,Hfin.out⟩
  simp [results,Tryz.f170,go_sem,hc5]
end Go.Proofs.YtgpbhlfdlkemjaaGreat
