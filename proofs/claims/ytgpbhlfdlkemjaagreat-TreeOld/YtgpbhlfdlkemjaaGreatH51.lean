import Derived.Sort.Walk0
import Derived.Test.YtgpbhlfdlkemjaaGreatH36
import Derived.Test.YtgpbhlfdlkemjaaGreatH50
/-
 Keys, the walk.
-/
namespace Go.Proofs.YtgpbhlfdlkemjaaGreat
open Go.RowKit Go.Shelf
set_option linter.unusedVariables false
attribute [local go_sem] Oper.semAt_some
theorem KI.leave {w:World}{bt bk:Nat}{to:List UInt8}{pre:List Itm}{W:World} (h:KI w bt bk to pre W) {D:Nat} (hD:w.heap.size≤D) (hK:W.heap[D]?=some (.deferred (some []))):∃ad c,W.cell? ⟨bk,0,none⟩=some (.slice ad pre.length c)∧Hid (OwnsR 9 1 (W.putObj D (.deferred none)) (.slice ad pre.length c) (CS (pre.map Itm.key))∧Kept [] w (W.putObj D (.deferred none))∧Fresh w (.slice ad pre.length c)):=by
 obtain ⟨ad,c,h1,h2,h3,h4,h5,h6,h7,h8⟩:=h
 have hgp:=grownBy_putObj' W D (.deferred none)
 have kp:Kept [D] W (W.putObj D (.deferred none)):=(Kept.refl _ _).grown hgp (fun x hx=>.inl (by simp at hx;simp [hx]))
 refine ⟨ad,c,h2.cell,Hid.mk ⟨h3.kept kp (fun g hg hm=>?_),h7.trans kp (fun x hx=>.inr (by simp at hx;omega)),h4⟩⟩
 simp at hm
 subst hm
 rcases h3.2 with ⟨h,_⟩|⟨g',cap',cur,h,_,hg',_⟩
 ·injection h with h;subst h;simp [Value.ownBlock] at hg
 ·injection h with h
  subst h
  simp [Value.ownBlock] at hg
  subst hg
  rw [hK] at hg'
  cases hg'
section
variable {w:World}{F:Nat→Prop}{ρ:Rho}{t:AT}
set_option maxRecDepth 100000 in
set_option maxHeartbeats 4000000 in
theorem keys_in {tb:Nat} (c1:w.cell? ⟨tb,1,none⟩=some (ptrT t)) (hT:IsT w F ρ t) (hu:Up (itsT t)) (hF:∀b,F b→b<w.heap.size) (hl:(itsT t).length≤100000) (fr to:List UInt8) :
  CallsIn Fence.wide 3 Tryz.prog 20 #[Pp tb,Sv fr,Sv to] w fun e w'=>∃v,e=.returned v∧OwnsR 9 1 w' v (CS ((inRange fr to (itsT t)).map Itm.key))∧Kept [] w w'∧Fresh w v:=by
 have htb:=World.block_lt_of_cell? _ _ c1
 obtain ⟨w1,hw1⟩:∃w1,Hid ((w.alloc (.cells #[Sv to] 9)).alloc (.cells #[.slice none 0 0] 46)=w1):=⟨_,rfl⟩
 have k1:Kept [] w w1:=by rw [←hw1.out];exact ((Kept.refl [] w).alloc _).alloc _
 have hz1:Hid (w1.heap.size=w.heap.size+1+1):=Hid.mk (by rw [←hw1.out];simp)
 have d1:w1.cell? ⟨tb,1,none⟩=some (ptrT t):=by rw [k1.cell htb (by simp)];exact c1
 obtain ⟨w2,hw2⟩:∃w2,Hid ((w1.alloc (.cells #[ptrT t] 77)).alloc (.cells #[Sv fr] 9)=w2):=⟨_,rfl⟩
 have k2:Kept [] w1 w2:=by rw [←hw2.out];exact ((Kept.refl [] w1).alloc _).alloc _
 have hz2:Hid (w2.heap.size=w1.heap.size+1+1):=Hid.mk (by rw [←hw2.out];simp)
 have kw2:=k1.trans k2 (by simp)
 have e3:w2.cell? ⟨w1.heap.size,0,none⟩=some (ptrT t):=by
  have h1:(w1.alloc (.cells #[ptrT t] 77)).heap[w1.heap.size]?=some (.cells #[ptrT t] 77 (0,0)):=heap_alloc_new w1 _
  have h2:w2.heap[w1.heap.size]?=some (.cells #[ptrT t] 77 (0,0)):=by rw [←hw2.out];exact (kept_alloc _ _).keeps h1 (by simp)
  simp [World.cell?,h2]
 have e4:w2.cell? ⟨w1.heap.size+1,0,none⟩=some (Sv fr):=by
  have h2:w2.heap[w1.heap.size+1]?=some (.cells #[Sv fr] 9 (0,0)):=by
   rw [←hw2.out]
   have:=heap_alloc_new (w1.alloc (.cells #[ptrT t] 77)) (.cells #[Sv fr] 9)
   simpa using this
  simp [World.cell?,h2]
 have hit:=itemsFrom_in 2 (ptrT t) (ptrT_form t) fr w1
 rw [hw2.out] at hit
 have hbt1:B1 w1 w.heap.size 9 (Sv to):=by
  rw [←hw1.out]
  exact (kept_alloc _ _).keeps (heap_alloc_new w _) (by simp)
 have hbk1:B1 w1 (w.heap.size+1) 46 (.slice none 0 0):=by
  rw [←hw1.out]
  have:=heap_alloc_new (w.alloc (.cells #[Sv to] 9)) (.cells #[.slice none 0 0] 46)
  unfold B1
  simpa using this
 have hst:KI w w.heap.size (w.heap.size+1) to [] w2:=⟨none,0,hbt1.kept k2 (by simp),hbk1.kept k2 (by simp),OwnsR.nil _ _ _,by intro g hg;simp [Value.ownBlock] at hg,by simp [Value.ownBlock],by simp [Value.ownBlock],kw2,by simp⟩
 have hseq:=items_stops (w:=w2) (t:=t) 2 (n₀:=w.heap.size) (hT.kept kw2 (by simp)) hu hF kw2.size e3 e4
 have hI:OwnFrom w2.heap.size (fun (pre:List (Sx t)) W=>KI w w.heap.size (w.heap.size+1) to (pre.map Subtype.val) W):=fun pre A B row h hg hr'=>h.own hg (fun r e=>⟨Nat.le_trans kw2.size (hr' r e).1,(hr' r e).2⟩)
 have HI:=Hid.mk hI
 have HS:=Hid.mk hst
 have HQ:=Hid.mk hseq
 have HIT:Hid (∀(x:Sx t) W,Kept [] w W→W.cell? ⟨x.1.ad,2,none⟩=some (Sv x.1.key)):=Hid.mk fun x W kW=>by
  have hx:=x.2
  cases t with
  | none=>simp [itsT] at hx
  | some n =>
   obtain ⟨_,_,_,_,h2,_⟩:=((hT.1.item x.1 hx).kept kW (by simp)).cells
   exact h2
 have HXL:Hid (∀(x:Sx t),x.1.ad<w.heap.size):=Hid.mk fun x=>by
  have hx:=x.2
  cases t with
  | none=>simp [itsT] at hx
  | some n=>exact (hT.1.item x.1 hx).lt
 have hbk3:Hid (w.heap.size+1<w2.heap.size):=Hid.mk (by have:=hz1.out;have:=hz2.out;omega)
 have HU:=Hid.mk hu
 have hsz2:Hid (w.heap.size≤w2.heap.size):=Hid.mk kw2.size
 clear hI hst hseq hbt1 hbk1 e3 e4 k1 k2 kw2 hT hF hu c1
 obtain ⟨P,hP⟩:∃P,Hid (ptrT t=P):=⟨_,rfl⟩
 rw [hP.out] at d1 hit
 refine callsIn_of_wp_marks Tryz.func20 rfl trivial ?_ rfl
 simp only [Tryz.ntmps20,List.size_toArray,List.length_cons,List.length_nil,Nat.reduceAdd,Nat.reduceSub,Array.replicate_succ,Array.replicate_zero,List.push_toArray,List.append_toArray,List.nil_append,List.cons_append]
 have d1':=d1
 rw [←hw1.out] at d1'
 gi_wp2_with fail
 rw [hw1.out]
 refine ⟨trivial,hit.mono ?_⟩
 rintro e w3 ⟨rfl,rfl⟩
 clear hit d1 d1'
 gi_wp2_with fail
 refine wpIn_rangeFunc_ownG rfl (by omega) (gf:=88) (lb:=#[Pp w1.heap.size,Pp (w1.heap.size+1)]) rfl trivial (enters_of Tryz.func88 (by kernel_rfl) rfl) HQ.out belowK_t (belowK_b hsz2.out) (Below.refl _ _) (fun _=>rfl)
  (fun (pre:List (Sx t)) W=>KI w w.heap.size (w.heap.size+1) to (pre.map Subtype.val) W) (fun c pre W=>c=.exit 0∧∃(p:List Itm) (x:Itm),pre.map Subtype.val=p++[x]∧to≠[]∧¬x.key<to∧KI w w.heap.size (w.heap.size+1) to p W) HI.out (fun c pre A B row h hg hr'=>?hix) HS.out ?a1 ?assign ?body ?done ?stop
 case hix =>
  obtain ⟨h1,p,x,h2,h3,h4,h5⟩:=h
  exact ⟨h1,p,x,h2,h3,h4,h5.own hg (fun r e=>⟨Nat.le_trans hsz2.out (hr' r e).1,(hr' r e).2⟩)⟩
 case assign =>
  intro l' x W K hK
  gi_wp2
  exact hK
 case body =>
  rintro l' pre x W hKI hlt
  have kk:Kept [] w W:=by obtain ⟨_,_,_,_,_,_,_,_,kk,_⟩:=hKI;exact kk
  have cx:=HIT.out x W kk
  have ct:W.cell? ⟨w.heap.size,0,none⟩=some (Sv to):=by obtain ⟨_,_,h1,_⟩:=hKI;exact h1.cell
  have cx':W.drew.cell? ⟨x.1.ad,2,none⟩=some (Sv x.1.key):=cx
  have ct':W.drew.cell? ⟨w.heap.size,0,none⟩=some (Sv to):=ct
  have HKI:=Hid.mk hKI
  have hmix:Tryz.prog.follows .mixedOrders=true:=by kernel_rfl
  clear hKI kk HIT HI HS HQ
  have kd:Kept [] W W.drew:=(Kept.refl [] W).drew
  have HK2:Hid (KI w w.heap.size (w.heap.size+1) to (pre.map Subtype.val) W.drew):=Hid.mk (HKI.out.own (row:=none) ⟨rfl,rfl,rfl,Nat.le_refl _,fun _ _ _=>rfl⟩ (fun r e=>by cases e))
  have hplen:pre.length≤900000:=by omega
  have HMORE:Hid ((to=[]∨x.1.key<to)→∃ad c ad2 c2 w4,W.drew.cell? ⟨w.heap.size+1,0,none⟩=some (.slice ad pre.length c)∧(W.drew.drew.alloc (.cells #[Sv x.1.key] 9)).cell? ⟨w.heap.size+1,0,none⟩=some (.slice ad pre.length c)∧(Builtin.append_ #[46,46] 46 #[.slice ad pre.length c,.slice (some ⟨W.heap.size,0,none⟩) 1 1]).run Tryz.prog (W.drew.drew.alloc (.cells #[Sv x.1.key] 9))=.ok (.slice ad2 (pre.length+1) c2) w4∧w4.cell? ⟨w.heap.size+1,0,none⟩=some (.slice ad pre.length c)∧w4.frozen? ⟨w.heap.size+1,0,none⟩=false∧(W.drew.drew.alloc (.cells #[Sv x.1.key] 9)).cell? ⟨x.1.ad,2,none⟩=some (Sv x.1.key)∧w4.cell? ⟨x.1.ad,2,none⟩=some (Sv x.1.key)∧(w4.setCell ⟨w.heap.size+1,0,none⟩ (.slice ad2 (pre.length+1) c2)).cell? ⟨x.1.ad,2,none⟩=some (Sv x.1.key)∧Hid (KeepsFrom w3.heap.size W (w4.setCell ⟨w.heap.size+1,0,none⟩ (.slice ad2 (pre.length+1) c2))∧Below w.heap.size W (w4.setCell ⟨w.heap.size+1,0,none⟩ (.slice ad2 (pre.length+1) c2))∧KI w w.heap.size (w.heap.size+1) to ((pre++[x]).map Subtype.val) (w4.setCell ⟨w.heap.size+1,0,none⟩ (.slice ad2 (pre.length+1) c2)))):=Hid.mk fun hx=>by
   have hll:(pre.map Subtype.val).length=pre.length:=by simp
   obtain ⟨ad,c,ad2,c2,w4,g1,g2,g3,g4,g5,g6⟩:=HK2.out.more (Nat.le_refl _) (by omega) (by omega) (x:=x.1) hx (by rw [hll];exact hplen)
   rw [hll] at g1 g2 g3 g4 g5 g6
   have ka:Kept [] W.drew (W.drew.drew.alloc (.cells #[Sv x.1.key] 9)):=(Kept.refl [] W.drew).drew.alloc _
   have hxlt:x.1.ad<w.heap.size:=HXL.out x
   have hbl:=hbk3.out
   have hxW:x.1.ad<W.drew.heap.size:=World.block_lt_of_cell? _ _ cx'
   have c4:(w4.setCell ⟨w.heap.size+1,0,none⟩ (.slice ad2 (pre.length+1) c2)).cell? ⟨x.1.ad,2,none⟩=some (Sv x.1.key):=(g6.cell (p:=⟨x.1.ad,2,none⟩) hxlt).trans cx'
   have c4':w4.cell? ⟨x.1.ad,2,none⟩=some (Sv x.1.key):=by
    have hne:(⟨x.1.ad,2,none⟩:Addr).block≠(⟨w.heap.size+1,0,none⟩:Addr).block:=by show x.1.ad≠w.heap.size+1;omega
    have:=World.cell?_of_block (w:=w4) (a:=⟨x.1.ad,2,none⟩) (Below.heap_setCell w4 ⟨w.heap.size+1,0,none⟩ (.slice ad2 (pre.length+1) c2) x.1.ad hne)
    rw [←this]
    exact c4
   refine ⟨ad,c,ad2,c2,w4,g1.cell,by rw [ka.cell g1.lt (by simp)];exact g1.cell,g2,g3.cell,g3.free,by rw [ka.cell hxW (by simp)];exact cx',c4',c4,Hid.mk ⟨((KeepsOthers.drew W).trans g5).from _,?_,by rw [List.map_append];exact g4⟩⟩
   exact (show Below w.heap.size W W.drew from ⟨rfl,rfl,rfl,Nat.le_refl _,fun _ _=>rfl⟩).trans g6
  have HSTOP:Hid (to≠[]→¬x.1.key<to→KeepsFrom w3.heap.size W W.drew∧((Code.exit 0:Code)=.exit 0∧∃(p:List Itm) (y:Itm),(pre++[x]).map Subtype.val=p++[y]∧to≠[]∧¬y.key<to∧KI w w.heap.size (w.heap.size+1) to p W.drew)):=Hid.mk fun h1 h2=>⟨(KeepsOthers.drew W).from _,rfl,pre.map Subtype.val,x.1,by simp,h1,h2,HK2.out⟩
  have S0:W.drew.drew.cell? ⟨x.1.ad,2,none⟩=some (Sv x.1.key):=cx'
  generalize x.1.ad=X at *
  generalize x.1.key=xk at *
  clear HK2 HKI kd
  by_cases hto:to=[]
  ·have hem:to.isEmpty=true:=by rw [hto];rfl
   gi_wp2_with fail
   gi_region_with_o (fail)
   all_goals
    obtain ⟨ad,c,ad2,c2,w4,b0,b1,hrun,d4,f4,S1,S2,S3,HFIN⟩:=HMORE.out (.inl hto)
    have b1':(W.alloc (.cells #[Sv xk] 9)).cell? ⟨w.heap.size+1,0,none⟩=some (.slice ad pre.length c):=b1
    have b0':W.cell? ⟨w.heap.size+1,0,none⟩=some (.slice ad pre.length c):=b0
    clear HMORE HSTOP
    gi_wp2_with fail
    refine wpIn_region_held (S:=fun w'=>w'.cell? ⟨X,2,none⟩=some (Sv xk)) (by kernel_rfl) (by kernel_rfl) (by rintro ⟨_,_,h⟩;exact h) S0 (fun _=>?_)
    refine wpAnyH_take (i:=1) (v:=Pp X) rfl (by kernel_rfl) (by kernel_rfl) (by kernel_rfl) (fun _ _ _ h=>h) (Or.inl ⟨by rfl,fun w hS=>by go_simp⟩) S0 ?_
    go_simp
    refine wpAnyH_take (i:=2) (v:=.pointer (some ⟨X,0,none⟩)) rfl (by kernel_rfl) (by kernel_rfl) (by kernel_rfl) (fun _ _ _ h=>h) (Or.inl ⟨by rfl,fun w hS=>by go_simp⟩) S0 ?_
    go_simp
    refine wpAnyH_take (i:=3) (v:=.pointer (some ⟨X,2,none⟩)) rfl (by kernel_rfl) (by kernel_rfl) (by kernel_rfl) (fun _ _ _ h=>h) (Or.inl ⟨by rfl,fun w hS=>by go_simp⟩) S0 ?_
    go_simp
    refine wpAnyH_take (i:=4) (v:=Sv xk) rfl (by kernel_rfl) (by kernel_rfl) (by kernel_rfl) (fun _ _ _ h=>h) (Or.inl ⟨by rfl,fun w hS=>by have hS':w.cell? ⟨X,2,none⟩=some (Sv xk):=hS;go_simp⟩) S0 ?_
    go_simp
    refine wpAnyH_ready (rs:=[0,5]) (by kernel_rfl) (by simp) (AllReadyH.cons rfl (fun K hK=>?_) (AllReadyH.cons rfl (fun K hK=>?_) AllReadyH.nil))
    ·go_simp
     refine hK.out _ _ S0 (fun _=>?_)
     clear hK K
     go_simp
     refine wpAnyH_ready (rs:=[5]) (by kernel_rfl) (by simp) (AllReadyH.cons rfl (fun K hK=>?_) AllReadyH.nil)
     go_simp
     refine hK.out _ _ S1 (fun _=>?_)
     clear hK K
     go_simp
     refine wpAnyH_ready (rs:=[6]) (by kernel_rfl) (by simp) (AllReadyH.cons rfl (fun K hK=>?_) AllReadyH.nil)
     refine step_append_run 46 (.tmp 28) (.tmp 33) (by rfl) (by rfl) _ _ (by rfl) (by rfl) hrun ?_
     refine hK.out _ _ S2 (fun _=>?_)
     clear hK K
     go_simp
     refine wpAnyH_ready (rs:=[7]) (by kernel_rfl) (by simp) (AllReadyH.cons rfl (fun K hK=>?_) AllReadyH.nil)
     go_simp
     refine hK.out _ _ S3 (fun _=>?_)
     clear hK K
     go_simp
     refine wpAnyH_done (by kernel_rfl) ?_ _
     gi_wp2
     exact HFIN.out
    ·go_simp
     refine hK.out _ _ S1 (fun _=>?_)
     clear hK K
     go_simp
     refine wpAnyH_ready (rs:=[0]) (by kernel_rfl) (by simp) (AllReadyH.cons rfl (fun K hK=>?_) AllReadyH.nil)
     go_simp
     refine hK.out _ _ S1 (fun _=>?_)
     clear hK K
     go_simp
     refine wpAnyH_ready (rs:=[6]) (by kernel_rfl) (by simp) (AllReadyH.cons rfl (fun K hK=>?_) AllReadyH.nil)
     refine step_append_run 46 (.tmp 28) (.tmp 33) (by rfl) (by rfl) _ _ (by rfl) (by rfl) hrun ?_
     refine hK.out _ _ S2 (fun _=>?_)
     clear hK K
     go_simp
     refine wpAnyH_ready (rs:=[7]) (by kernel_rfl) (by simp) (AllReadyH.cons rfl (fun K hK=>?_) AllReadyH.nil)
     go_simp
     refine hK.out _ _ S3 (fun _=>?_)
     clear hK K
     go_simp
     refine wpAnyH_done (by kernel_rfl) ?_ _
     gi_wp2
     exact HFIN.out
  ·have hem:to.isEmpty=false:=by cases e:to with|nil=>exact absurd e hto|cons _ _=>rfl
   by_cases hk:xk<to
   ·have hless:Op.bytesLess xk to=true:=by rw [bytesLess_eq];simpa using hk
    gi_wp2_with fail
    gi_region_with_o (fail)
    all_goals
     obtain ⟨ad,c,ad2,c2,w4,b0,b1,hrun,d4,f4,S1,S2,S3,HFIN⟩:=HMORE.out (.inr hk)
     have b1':(W.alloc (.cells #[Sv xk] 9)).cell? ⟨w.heap.size+1,0,none⟩=some (.slice ad pre.length c):=b1
     have b0':W.cell? ⟨w.heap.size+1,0,none⟩=some (.slice ad pre.length c):=b0
     clear HMORE HSTOP
     gi_wp2_with fail
     refine wpIn_region_held (S:=fun w'=>w'.cell? ⟨X,2,none⟩=some (Sv xk)) (by kernel_rfl) (by kernel_rfl) (by rintro ⟨_,_,h⟩;exact h) S0 (fun _=>?_)
     refine wpAnyH_take (i:=1) (v:=Pp X) rfl (by kernel_rfl) (by kernel_rfl) (by kernel_rfl) (fun _ _ _ h=>h) (Or.inl ⟨by rfl,fun w hS=>by go_simp⟩) S0 ?_
     go_simp
     refine wpAnyH_take (i:=2) (v:=.pointer (some ⟨X,0,none⟩)) rfl (by kernel_rfl) (by kernel_rfl) (by kernel_rfl) (fun _ _ _ h=>h) (Or.inl ⟨by rfl,fun w hS=>by go_simp⟩) S0 ?_
     go_simp
     refine wpAnyH_take (i:=3) (v:=.pointer (some ⟨X,2,none⟩)) rfl (by kernel_rfl) (by kernel_rfl) (by kernel_rfl) (fun _ _ _ h=>h) (Or.inl ⟨by rfl,fun w hS=>by go_simp⟩) S0 ?_
     go_simp
     refine wpAnyH_take (i:=4) (v:=Sv xk) rfl (by kernel_rfl) (by kernel_rfl) (by kernel_rfl) (fun _ _ _ h=>h) (Or.inl ⟨by rfl,fun w hS=>by have hS':w.cell? ⟨X,2,none⟩=some (Sv xk):=hS;go_simp⟩) S0 ?_
     go_simp
     refine wpAnyH_ready (rs:=[0,5]) (by kernel_rfl) (by simp) (AllReadyH.cons rfl (fun K hK=>?_) (AllReadyH.cons rfl (fun K hK=>?_) AllReadyH.nil))
     ·go_simp
      refine hK.out _ _ S0 (fun _=>?_)
      clear hK K
      go_simp
      refine wpAnyH_ready (rs:=[5]) (by kernel_rfl) (by simp) (AllReadyH.cons rfl (fun K hK=>?_) AllReadyH.nil)
      go_simp
      refine hK.out _ _ S1 (fun _=>?_)
      clear hK K
      go_simp
      refine wpAnyH_ready (rs:=[6]) (by kernel_rfl) (by simp) (AllReadyH.cons rfl (fun K hK=>?_) AllReadyH.nil)
      refine step_append_run 46 (.tmp 28) (.tmp 33) (by rfl) (by rfl) _ _ (by rfl) (by rfl) hrun ?_
      refine hK.out _ _ S2 (fun _=>?_)
      clear hK K
      go_simp
      refine wpAnyH_ready (rs:=[7]) (by kernel_rfl) (by simp) (AllReadyH.cons rfl (fun K hK=>?_) AllReadyH.nil)
      go_simp
      refine hK.out _ _ S3 (fun _=>?_)
      clear hK K
      go_simp
      refine wpAnyH_done (by kernel_rfl) ?_ _
      gi_wp2
      exact HFIN.out
     ·go_simp
      refine hK.out _ _ S1 (fun _=>?_)
      clear hK K
      go_simp
      refine wpAnyH_ready (rs:=[0]) (by kernel_rfl) (by simp) (AllReadyH.cons rfl (fun K hK=>?_) AllReadyH.nil)
      go_simp
      refine hK.out _ _ S1 (fun _=>?_)
      clear hK K
      go_simp
      refine wpAnyH_ready (rs:=[6]) (by kernel_rfl) (by simp) (AllReadyH.cons rfl (fun K hK=>?_) AllReadyH.nil)
      refine step_append_run 46 (.tmp 28) (.tmp 33) (by rfl) (by rfl) _ _ (by rfl) (by rfl) hrun ?_
      refine hK.out _ _ S2 (fun _=>?_)
      clear hK K
      go_simp
      refine wpAnyH_ready (rs:=[7]) (by kernel_rfl) (by simp) (AllReadyH.cons rfl (fun K hK=>?_) AllReadyH.nil)
      go_simp
      refine hK.out _ _ S3 (fun _=>?_)
      clear hK K
      go_simp
      refine wpAnyH_done (by kernel_rfl) ?_ _
      gi_wp2
      exact HFIN.out
   ·have hless:Op.bytesLess xk to=false:=by rw [bytesLess_eq];simpa using hk
    gi_wp2_with fail
    gi_region_with_o (fail)
    all_goals
     have HF:=Hid.mk (HSTOP.out hto hk)
     clear HMORE HSTOP
     gi_wp2
     obtain ⟨g1,_,g2⟩:=HF.out
     exact ⟨g1,rfl,g2⟩
 case done =>
  rintro D ys W hDz hS hKI hK
  obtain ⟨ad,c,hcell,Hf⟩:=KI.leave hKI (Nat.le_trans hsz2.out hDz) hK
  have he:inRange fr to (itsT t)=ys.map Subtype.val:=by
   obtain ⟨_,_,_,_,_,_,_,_,_,hall⟩:=hKI
   rw [hS] at hall
   rw [inRange_all hall,hS]
  rw [←he] at Hf hcell
  generalize (inRange fr to (itsT t)).length=LL at *
  gi_wp2
  refine ⟨by simp,.inl ⟨_,_,rfl,run_takeDeferred hK,?_⟩⟩
  exact ⟨_,results_tmp rfl _ _ _,.slice ad LL c,rfl,Hf.out⟩
 case stop =>
  rintro D c pre W hDz hSp ⟨rfl,p,x,h1,h2,h3,h4⟩ hK
  obtain ⟨ad,c,hcell,Hf⟩:=KI.leave h4 (Nat.le_trans hsz2.out hDz) hK
  have he:inRange fr to (itsT t)=p:=by
   rw [h1] at hSp
   obtain ⟨_,_,_,_,_,_,_,_,_,hall⟩:=h4
   exact inRange_cut HU.out hSp hall h2 h3
  rw [←he] at Hf hcell
  generalize (inRange fr to (itsT t)).length=LL at *
  gi_wp2
  refine ⟨by simp,.inl ⟨_,_,rfl,run_takeDeferred hK,?_⟩⟩
  exact ⟨_,results_tmp rfl _ _ _,.slice ad LL c,rfl,Hf.out⟩
theorem keys_any {tb:Nat} (c1:w.cell? ⟨tb,1,none⟩=some (ptrT t)) (hT:IsT w F ρ t) (hu:Up (itsT t)) (hl:(itsT t).length≤100000) (fr to:List UInt8) :
  Calls Tryz.prog 20 #[Pp tb,Sv fr,Sv to] w fun e w'=>∃v,e=.returned v∧OwnsR 9 1 w' v (CS ((inRange fr to (itsT t)).map Itm.key))∧Kept [] w w'∧Fresh w v :=
 (callsIn_wide (n:=3)).1 (keys_in (F:=fun b=>F b∧b<w.heap.size) c1 (hT.monoS fun b hb hf=>⟨hf,hb⟩) hu (fun b hb=>hb.2) hl fr to)
end
end Go.Proofs.YtgpbhlfdlkemjaaGreat
namespace Go.Proofs.YtgpbhlfdlkemjaaGreat
open Go.RowKit
set_option linter.unusedVariables false
section
variable {w0 w:World}{q p:Nat}{s:St}{fr ct:Nat}{L:List Ent}{fl:List Nat}{X:Nat→Prop}
set_option maxRecDepth 100000 in
set_option maxHeartbeats 1000000 in
theorem forTrees_new (h:SyP w0 w q p s fr ct [] fl X) (hfr:1≤fr):Calls Tryz.prog 38 #[Pp p] w fun e w'=>e=.returned (.bool true)∧Kept [] w w':=by
 have hfree:=psy_free h
 have HSY:=Hid.mk h
 have har:=Hid.mk (And.intro h.ok.area h.ok.nb)
 clear h
 go_enter Tryz.func38,Tryz.ntmps38
 go_wp2_with fail
 refine hfree.mono ?_
 rintro e w1 ⟨v1,ns,rfl,ho1,hr1,k1,hf1⟩
 have hnm:=psy_names (HSY.out.kept k1)
 obtain ⟨a1,c1,rfl,g1,g2⟩:=ho1.form
 have HO1:=Hid.mk (And.intro ho1 hr1)
 have HK1:=Hid.mk k1
 clear hfree ho1 hr1 k1 hf1
 go_wp2_with fail
 refine hnm.mono ?_
 rintro e w2 ⟨v2,ns2,rfl,ho2,hr2,k2,hf2⟩
 have e2:ns2=[]:=by have:=hr2.1;simpa using this
 subst e2
 obtain ⟨a2,c2,rfl,-⟩:=ho2.form
 rw [List.length_nil]
 have HK2:=Hid.mk (HK1.out.trans k2 (by simp))
 have hok:=HSY.out.ok
 have hlen:ns.length=ct:=by
  have:=hok.length
  have h2:=HO1.out.2.1.length_eq
  simp [bls] at this
  omega
 have h1:=hok.one
 have hmem:∀x∈ns,fr≤x∧x<fr+ct:=fun x hx=>hok.mem (List.mem_append_right _ (HO1.out.2.1.mem_iff.1 hx))
 have ho:=HO1.out.1.kept k2 (by simp)
 have hct:=contains_any ho.reads (by have:=har.out;omega) 0 (by omega) (fun x hx=>by have:=hmem x hx;have:=har.out;omega)
 have hd:decide (0∈ns)=false:=decide_eq_false fun hm=>by have:=hmem 0 hm;omega
 rw [hd] at hct
 clear hnm ho2 hr2 k2 hf2 HO1 HSY har hok hd ho HK1 hmem
 have hn1:0<ns.length:=by omega
 have hn2:(0:Int)<(ns.length:Int):=by omega
 clear hlen h1
 generalize ns.length=N at *
 go_wp2_with fail
 go_loopw [3,11] (fun s i w'=>s=.slice a1 N c1∧i=.int .i64 0∧w2=w') (fun _ _ _=>0)
 case atStart=>exact ⟨rfl,rfl,rfl⟩
 case round =>
  obtain ⟨rfl,rfl,rfl⟩:=hrel
  go_wp2_with fail
  refine hct.mono ?_
  rintro e w' ⟨rfl,rfl⟩
  clear hct
  go_wp2
  go_ret
  exact ⟨rfl,HK2.out⟩
set_option maxRecDepth 100000 in
set_option maxHeartbeats 1000000 in
theorem load_zero (f:Value) (w:World):Calls Tryz.prog 41 #[f,.int .i64 0] w fun e w'=>e=.returned (.tuple #[.pointer none,.int .i64 0])∧w=w':=by
 go_enter Tryz.func41,Tryz.ntmps41
 go_wp2
 refine bodyPost_ret (by simp [results,Tryz.results41,go_sem];try rfl) rfl ?_
 exact ⟨rfl,rfl⟩
set_option maxRecDepth 100000 in
set_option maxHeartbeats 1000000 in
theorem open_walk {R:World→Prop} (HC:Calls Tryz.prog 38 #[Pp p] (w.alloc (.cells #[Pp p] 26)) fun e w1=>e=.returned (.bool true)∧w1.cell? ⟨w.heap.size,0,none⟩=some (Pp p)∧R w1) :
  Calls Tryz.prog 13 #[Pp p,.int .i64 0] w fun e w'=>∃w1,e=.returned (.tuple #[Pp w1.heap.size,.int .i64 0])∧R w1∧w'=w1.alloc (.cells #[Pp p,.pointer none,.slice none 0 0] 81):=by
 have c0:(w.alloc (.cells #[Pp p] 26)).cell? ⟨w.heap.size,0,none⟩=some (Pp p):=by unfold World.cell?;rw [heap_alloc_new];rfl
 go_enter Tryz.func13,Tryz.ntmps13
 go_wp2_with fail
 refine HC.mono ?_
 rintro e w1 ⟨rfl,c1,hR⟩
 have HR:=Hid.mk hR
 have hl:=fun f=>load_zero f w1
 clear HC hR c0
 go_wp2_with fail
 refine (hl _).mono ?_
 rintro e w2 ⟨rfl,rfl⟩
 clear hl
 go_wp2
 refine bodyPost_ret (by simp [results,Tryz.results13,go_sem];try rfl) rfl ?_
 exact ⟨_,rfl,HR.out,rfl⟩
theorem open_new (h:SyP w0 w q p s fr ct [] fl X) (hfr:1≤fr) (hlt:∀b,X b→b<w.heap.size) (hge:∀b,X b→w0.heap.size≤b):Calls Tryz.prog 13 #[Pp p,.int .i64 0] w fun e w'=>∃tb,e=.returned (.tuple #[Pp tb,.int .i64 0])∧w.heap.size≤tb∧Tre w0 w' tb p q X (fun _=>(0,0)) none [] s fr ct [] fl∧Kept [] w w':=by
 have k0:Kept [] w (w.alloc (.cells #[Pp p] 26)):=(Kept.refl [] w).alloc _
 have hb0:(w.alloc (.cells #[Pp p] 26)).heap[w.heap.size]?=some (.cells #[Pp p] 26 (0,0)):=heap_alloc_new w _
 refine (open_walk (R:=fun w1=>Kept [] w w1) ((forTrees_new (h.kept k0) hfr).mono ?_)).mono ?_
 ·rintro e w1 ⟨rfl,k1⟩
  refine ⟨rfl,?_,k0.trans k1 (by simp)⟩
  have:=k1.keeps hb0 (by simp)
  simp [World.cell?,this]
 ·rintro e w' ⟨w1,rfl,k1,rfl⟩
  have ka:Kept [] w1 (w1.alloc (.cells #[Pp p,.pointer none,.slice none 0 0] 81)):=(Kept.refl [] w1).alloc _
  have kw:=k1.trans ka (by simp)
  have hz:=k1.size
  refine ⟨w1.heap.size,rfl,hz,⟨fun _=>False,.slice none 0 0,?_⟩,kw⟩
  refine ⟨heap_alloc_new w1 _,OwnsI.nil _,trivial,List.Pairwise.nil,fun i hi=>by simp [itsT] at hi,?_,fun b hb=>?_,fun b hb=>?_,fun b hb=>hb.elim,⟨fun hV=>by have:=hlt _ hV;omega,by simp [Value.ownBlock],by simp [Value.ownBlock]⟩,fun _ _=>rfl,fun _=>⟨by simp,by simp⟩,by simp,(fun n e=>by cases e),hfr⟩
  ·refine (h.more (Y:=fun b=>w.heap.size≤b) kw (fun y hy=>hy)).less fun b hb=>?_
   rcases hb with hb|hb|hb|hb
   ·exact hb.elim
   ·exact .inl (by omega)
   ·simp [Value.ownBlock] at hb
   ·exact .inr hb
  ·rcases hb with hb|hb|hb|hb
   ·exact hb.elim
   ·subst hb;simp
   ·simp [Value.ownBlock] at hb
   ·exact Nat.lt_of_lt_of_le (hlt b hb) kw.size
  ·rcases hb with hb|hb|hb|hb
   ·exact hb.elim
   ·have:=h.k.size;omega
   ·simp [Value.ownBlock] at hb
   ·exact hge b hb
end
def Got (T:List KV) (key val:List UInt8) (b:Bool):Prop:=(b=true∧(key,val)∈T)∨(b=false∧val=[]∧∀x∈T,x.1≠key)
theorem Got.one {T:List KV} (hu:UpK T) {key v v':List UInt8}{b b':Bool} (h:Got T key v b) (h':Got T key v' b'):v=v'∧b=b':=by
 rcases h with ⟨rfl,h1⟩|⟨rfl,rfl,h1⟩<;>rcases h' with ⟨rfl,h2⟩|⟨rfl,rfl,h2⟩
 ·have hn:T.Pairwise fun a b=>a.1≠b.1:=by
   have h2:T.Pairwise fun a b=>a.1<b.1:=hu
   refine h2.imp ?_
   intro a b h e
   rw [e] at h
   exact klt_irrefl b.1 h
  have:=nodup_key (f:=Prod.fst) (List.pairwise_map.2 hn) _ h1 _ h2 rfl
  exact ⟨congrArg Prod.snd this,rfl⟩
 ·exact absurd rfl (h2 _ h1)
 ·exact absurd rfl (h1 _ h2)
 ·exact ⟨rfl,rfl⟩
def keysIn (fr to:List UInt8) (T:List KV):List (List UInt8):=(T.filter fun x=>!decide (x.1<fr) && (decide (to=[]) || decide (x.1<to))).map Prod.fst
theorem inRange_keys (fr to:List UInt8) (l:List Itm):(inRange fr to l).map Itm.key=keysIn fr to (l.map kv):=by
 unfold inRange fromI keysIn
 rw [List.filter_filter,List.filter_map,List.map_map]
 have e:(Prod.fst∘kv:Itm→List UInt8)=Itm.key:=rfl
 rw [e]
 congr 1
 refine List.filter_congr fun i _=>?_
 show ((decide (to=[]) || decide (i.key<to)) && !decide (i.key<fr))=(!decide (i.key<fr) && (decide (to=[]) || decide (i.key<to)))
 exact Bool.and_comm _ _
section
variable {w0 w w':World}{tb p q:Nat}{V V':Nat→Prop}{ρ:Rho}{t:AT}{old:List Nat}{s:St}{fr ct:Nat}{L:List Ent}{fl:List Nat}
theorem Tre.turn (h:Tre w0 w tb p q V ρ t old s fr ct L fl) {S:List Nat} (k:Kept S w w') (hS:∀x∈S,V x) (hV:∀x,V' x→V x∨w.heap.size≤x) (hVl:∀x,V' x→x<w'.heap.size):Tre w0 w' tb p q V' ρ t old s fr ct L fl:=by
 obtain ⟨T,vo,h⟩:=h
 have hz:=k.size
 refine ⟨T,vo,k.keeps h.box (fun hm=>h.tv.1 (hS _ hm)),h.own.kept k (fun g hg hm=>h.tv.2.2 g hg (hS _ hm)),h.tree.kept k (fun x hx hT=>(h.tt x hT).2.2 (hS x hx)),h.up,h.sz,?_,fun b hb=>?_,fun b hb=>?_,fun b hb=>⟨(h.tt b hb).1,(h.tt b hb).2.1,fun hv=>?_⟩,⟨fun hv=>?_,h.tv.2.1,fun b hb hv=>?_⟩,h.blank.kept k,h.ok,h.olds,h.root,h.fr1⟩
 ·have s1:=SyP.more (Y:=fun b=>w.heap.size≤b) h.sy (Kept.refl [] w) (fun y hy=>hy)
  have s2:=s1.turn k (fun x hx=>.inl (.inr (.inr (.inr (.inr (hS x hx)))))) (fun x hx=>h.ge x (.inr (.inr (.inr (hS x hx)))))
  refine s2.less fun b hb=>?_
  rcases hb with hb|hb|hb|hb
  ·exact .inr (.inl hb)
  ·exact .inr (.inr (.inl hb))
  ·exact .inr (.inr (.inr (.inl hb)))
  ·rcases hV b hb with h1|h1
   ·exact .inr (.inr (.inr (.inr h1)))
   ·exact .inl h1
 ·rcases hb with hb|hb|hb|hb
  ·exact Nat.lt_of_lt_of_le (h.lt b (.inl hb)) hz
  ·exact Nat.lt_of_lt_of_le (h.lt b (.inr (.inl hb))) hz
  ·exact Nat.lt_of_lt_of_le (h.lt b (.inr (.inr (.inl hb)))) hz
  ·exact hVl b hb
 ·rcases hb with hb|hb|hb|hb
  ·exact h.ge b (.inl hb)
  ·exact h.ge b (.inr (.inl hb))
  ·exact h.ge b (.inr (.inr (.inl hb)))
  ·rcases hV b hb with h1|h1
   ·exact h.ge b (.inr (.inr (.inr h1)))
   ·exact Nat.le_trans h.sy.k.size h1
 ·rcases hV b hv with h1|h1
  ·exact (h.tt b hb).2.2 h1
  ·have:=h.lt b (.inl hb);omega
 ·rcases hV tb hv with h1|h1
  ·exact h.tv.1 h1
  ·have:=h.lt tb (.inr (.inl rfl));omega
 ·rcases hV b hv with h1|h1
  ·exact h.tv.2.2 b hb h1
  ·have:=h.lt b (.inr (.inr (.inl hb)));omega
theorem Tre.up (h:Tre w0 w tb p q V ρ t old s fr ct L fl):UpK ((itsT t).map kv):=by
 obtain ⟨T,vo,h⟩:=h
 exact up_kv h.up
theorem tre_get (h:Tre w0 w tb p q V ρ t old s fr ct L fl) (key:List UInt8):Calls Tryz.prog 22 #[Pp tb,Sv key] w fun e w'=>∃v val b,e=.returned (.tuple #[v,.bool b])∧Reads w' v val∧Got ((itsT t).map kv) key val b∧Kept [] w w':=by
 obtain ⟨T,vo,h⟩:=h
 have c1:w.cell? ⟨tb,1,none⟩=some (ptrT t):=by simp only [World.cell?,h.box];rfl
 by_cases hex:∃i∈itsT t,i.key=key
 ·obtain ⟨i,hi,rfl⟩:=hex
  have hs:=h.sz i hi
  refine (get_yes c1 h.tree h.up i hi (by omega)).mono ?_
  rintro e w' ⟨v,rfl,ho,k,hf⟩
  exact ⟨v,i.val,true,rfl,ho.reads,.inl ⟨rfl,List.mem_map.2 ⟨i,hi,rfl⟩⟩,k⟩
 ·refine (get_no c1 h.tree h.up key (fun i hi hk=>hex ⟨i,hi,hk⟩)).mono ?_
  rintro e w' ⟨rfl,n,rfl⟩
  refine ⟨_,[],false,rfl,⟨none,0,rfl,by simp,by simp,by simp,by simp⟩,.inr ⟨rfl,rfl,fun x hx e=>?_⟩,(Kept.refl [] w).drewN n⟩
  obtain ⟨i,hi,rfl⟩:=List.mem_map.1 hx
  exact hex ⟨i,hi,e⟩
theorem tre_keys (h:Tre w0 w tb p q V ρ t old s fr ct L fl) (hl:(itsT t).length≤100000) (f to:List UInt8):Calls Tryz.prog 20 #[Pp tb,Sv f,Sv to] w fun e w'=>∃v,e=.returned v∧OwnsR 9 1 w' v (CS (keysIn f to ((itsT t).map kv)))∧Kept [] w w'∧Fresh w v:=by
 obtain ⟨T,vo,h⟩:=h
 have c1:w.cell? ⟨tb,1,none⟩=some (ptrT t):=by simp only [World.cell?,h.box];rfl
 have:=keys_any c1 h.tree h.up hl f to
 rw [inRange_keys] at this
 exact this
theorem tre_root (h:Tre w0 w tb p q V ρ t old s fr ct L fl):Calls Tryz.prog 25 #[Pp tb] w fun e w'=>e=.returned (.int .i64 (rootN ρ t:Int))∧w=w':=by
 obtain ⟨T,vo,h⟩:=h
 have c1:w.cell? ⟨tb,1,none⟩=some (ptrT t):=by simp only [World.cell?,h.box];rfl
 exact root_any c1 h.tree
theorem Tre.rootPos (h:Tre w0 w tb p q V ρ t old s fr ct L fl) (ht:t≠none):rootN ρ t≠0:=by
 obtain ⟨T,vo,h⟩:=h
 cases t with
 | none=>exact absurd rfl ht
 | some n=>exact h.root n rfl
end
end Go.Proofs.YtgpbhlfdlkemjaaGreat
