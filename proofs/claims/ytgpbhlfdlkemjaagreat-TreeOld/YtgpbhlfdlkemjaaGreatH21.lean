import Derived.Test.YtgpbhlfdlkemjaaGreatH20
/-
 joined's walk.
-/
namespace Go.Proofs.YtgpbhlfdlkemjaaGreat
open Go.RowKit
set_option linter.unusedVariables false
theorem IsN.stepR {w0 w w':World}{F:Nat→Prop}{ρ:Rho}{k:Nat}{m:Tr k}{v u u':Value} (h:IsN w (Fw F w0 [v,u]) ρ m) (kk:Kept u.ownBlock.toList w w') (hN:New w u u'):IsN w' (Fw F w0 [v,u']) ρ m:=by
 have h1:IsN w (fun b=>Fw F w0 [v,u] b∧b<w.heap.size) ρ m:=h.monoS fun x hx hf=>⟨hf,hx⟩
 refine (h1.kept kk (fun x hx hf=>hf.1.2 u (by simp) (by simpa using hx))).mono fun x hx=>⟨hx.1.1,fun t ht=>?_⟩
 rcases List.mem_cons.1 ht with rfl|ht
 ·exact hx.1.2 _ (by simp)
 ·simp at ht
  subst ht
  intro e
  rcases hN x e with h2|h2
  ·exact hx.1.2 u (by simp) h2
  ·have:=hx.2;omega
theorem reads2_new (w:World) (v1 v2:Value) (t:TypeId):ReadsR 1 (w.alloc (.cells #[v1,v2] t)) (.slice (some ⟨w.heap.size,0,none⟩) 2 2) [[v1],[v2]]:=by
 have hh:(w.alloc (.cells #[v1,v2] t)).heap[w.heap.size]?=some (.cells #[v1,v2] t (0,0)):=heap_alloc_new w _
 refine ⟨_,2,rfl,by simp,by unfold maxLen;omega,by simp,fun _=>⟨w.heap.size,0,rfl,fun j r hj i x hx=>?_⟩⟩
 match j,i with
 | 0,0=>simp at hj;subst hj;simp at hx;subst hx;unfold World.cell?;rw [hh];rfl
 | 1,0=>simp at hj;subst hj;simp at hx;subst hx;unfold World.cell?;rw [hh];rfl
 | 0,i+1=>simp at hj;subst hj;simp at hx
 | 1,i+1=>simp at hj;subst hj;simp at hx
 | j+2,_=>simp at hj
section
variable {w:World}{F:Nat→Prop}{ρ:Rho}
set_option maxRecDepth 100000 in
set_option maxHeartbeats 8000000 in
theorem joined_walk {k:Nat} (hk:k≤1000000) (HR:Hid (RecAt k)) (hB:Hid (Blank ρ w)) {ub:Nat}{vl:Value}{left:List Nat} (hU:IsU w ub vl left) (hFu:Hid (∀x∈uf ub vl,¬F x)) (ls:List (Tr k)) (hls:Hid (IsNs w F ρ ls)) (hW:Hid (∀u∈ls,Wf u)) (hSz:Hid (Sized (ls.flatMap its))) (a:Option Addr) (n c:Nat) (hn:Hid (n=ls.length)) (hr:ReadsP w (.slice a n c) (ls.map adr)) (hrF:Hid (∀g,(Value.slice a n c).ownBlock=some g→g∉uf ub vl)) (hl:n≤100000) (hll:Hid (left.length+(ls.flatMap (nms ρ)).length≤800000)) :
  Calls Tryz.prog 80 #[Pp ub,.slice a n c] w fun e w'=>Joined F ρ w ub vl left ls e w':=by
 have hub:=hU.lt
 have hubF:Hid (ub<w.heap.size∧¬F ub):=Hid.mk ⟨hU.lt,hFu.out ub (mem_uf.2 (.inl rfl))⟩
 have hvlw:Hid (∀g,vl.ownBlock=some g→g<w.heap.size∧¬F g):=Hid.mk fun g hg=>⟨hU.own.lt hg,hFu.out g (mem_uf.2 (.inr hg))⟩
 -- an old node, wherever the walk has come
 have HX:Hid (∀x∈ls,∀W,Kept (uf ub vl) w W→IsN W (fun b=>F b∧b<w.heap.size) ρ x):=Hid.mk fun x hx W kW=>((hls.out x hx).monoS (F':=fun b=>F b∧b<w.heap.size) fun b hb hf=>⟨hf,hb⟩).kept kW fun b hb hf=>hFu.out b hb hf.1
 have HXF:Hid (∀(x:Tr k) (W:World) (vr u:Value),IsN W (fun b=>F b∧b<w.heap.size) ρ x→New w vl vr→Fresh w u→IsN W (Fw F w [vr,u]) ρ x):=Hid.mk fun x W vr u h hN hf=>h.mono fun b hb=>⟨.inl hb.1,fun t ht e=>by
  rcases List.mem_cons.1 ht with rfl|ht
  ·rcases hN b e with h1|h1
   ·exact (hvlw.out b h1).2 hb.1
   ·have:=hb.2;omega
  ·simp at ht
   subst ht
   have:=hf b e
   have:=hb.2
   omega⟩
 go_enter Tryz.func80,Tryz.ntmps80
 go_wp2_with fail
 go_loopw [5,11] (fun u i wr=>∃(j:Nat) (M:List (Tr k)) (vr:Value) (dl:List Nat),i=.int .i64 (j:Int)∧j≤n∧Hid (JInv ρ ls M j dl)∧OwnsP 77 wr u (M.map adr)∧Fresh w u∧IsU wr ub vr (left++dl)∧Kept (uf ub vl) w wr∧New w vl vr∧Hid (IsNs wr (Fw F w [vr,u]) ρ M)) (fun _ i _=>n-(intOf i).toNat)
 case atStart=>exact ⟨0,[],vl,[],rfl,by omega,Hid.mk JInv.start,OwnsP.nil _ _,fun g hg=>by simp [Value.ownBlock] at hg,by rw [List.append_nil];exact hU,Kept.refl _ w,New.refl w vl,Hid.mk (IsNs.nil _ _ _ _)⟩
 case round =>
  obtain ⟨j,M,vr,dl,rfl,hj,HI,ho,hf,hUr,kk,hNr,hM⟩:=hrel
  obtain ⟨a5,c5,hv5,hc51,hc52⟩:=ho.form
  rw [List.length_map] at hv5 hc51
  subst hv5
  have hMl:M.length≤100000:=by have:=HI.out.le;omega
  have hrr:=hr.kept kk hrF.out
  by_cases hlt:j<n
  ·obtain ⟨x,hx⟩:∃x,ls[j]?=some x:=⟨_,List.getElem?_eq_getElem (by have:=hn.out;omega)⟩
   obtain ⟨b,o,c',e,hcell⟩:=hrr.at j (adr x) (by rw [List.getElem?_map,hx];rfl)
   rw [List.length_map,←hn.out] at e
   injection e with e _ e2
   subst e e2
   have hxm:=List.mem_of_getElem? hx
   have HXm:=Hid.mk hxm
   have hxS:Sized (its x):=fun i hi=>hSz.out i (List.mem_flatMap.2 ⟨x,hxm,hi⟩)
   have hfx:=fun q=>filled_any ((HX.out x hxm wr kk).kept ((Kept.refl [] wr).drewN q) (by simp)) (hW.out x hxm) hxS
   have HFX:=Hid.mk hfx
   clear hfx hr hrr hxm
   rcases List.eq_nil_or_concat M with rfl|⟨B,y,hMe⟩
   ·-- nothing is made yet
    obtain ⟨a8,c8,w8,hrun8,ho8,k8,hN8⟩:=append_ptr rt112 ho (adr x) (by rw [List.length_map];simp;try omega) 77 (0,0) 112
    have hu5:∀y∈(Value.slice a5 ([]:List (Tr k)).length c5).ownBlock.toList,w.heap.size≤y:=fun y hy=>hf y (by simpa using hy)
    have ho9:OwnsP 77 w8 (.slice a8 (((([]:List (Tr k))).map adr).length+1) c8) ((([]:List (Tr k))++[x]).map adr):=by rw [show (([]:List (Tr k))++[x]).map adr=(([]:List (Tr k))).map adr++[adr x] from List.map_append];exact ho8
    have hf8:Fresh w (.slice a8 (((([]:List (Tr k))).map adr).length+1) c8):=fun g hg=>by
     rcases hN8 g hg with h|h
     ·exact hf g h
     ·exact Nat.le_trans kk.size h
    have hU8:=hUr.kept k8 (fun hm=>by have:=hu5 _ hm;omega) (fun g hg hm=>rows_apart ho hUr.own (by decide) hg (by simpa using hm))
    have kk8:Kept (uf ub vl) w w8:=kk.trans k8 (fun y hy=>.inr (hu5 y hy))
    have hM8:Hid (IsNs w8 (Fw F w [vr,.slice a8 (((([]:List (Tr k))).map adr).length+1) c8]) ρ (([]:List (Tr k))++[x])):=Hid.mk (by
     intro m hm
     rcases List.mem_append.1 hm with h|h
     ·exact (hM.out m h).stepR k8 hN8
     ·simp at h
      subst h
      exact HXF.out m w8 vr _ (HX.out m HXm.out w8 kk8) hNr hf8)
    rw [List.length_map] at hrun8 ho9 hf8 hM8
    have Hall:=Hid.mk (And.intro ho9 (And.intro hf8 (And.intro hU8 (And.intro kk8 (And.intro hNr hM8)))))
    clear ho8 ho9 hf8 hU8 kk8 hM8 k8 hN8 hu5
    have HI2:=Hid.mk (HI.out.push hx (hW.out x HXm.out) (.inl rfl))
    clear HI hM hUr hx HFX
    generalize adr x=xa at *
    go_wp2_with (at_builtin;refine wpList_append_run 112 _ _ rfl rfl _ _ rfl rfl _ _ hrun8 ?_)
    go_roundw
    case rel=>exact ⟨j+1,[]++[x],vr,dl,by go_num,by omega,HI2,Hall.out⟩
    case measure=>simp [intOf];omega
   ·rw [List.concat_eq_append] at hMe
    subst hMe
    have hyN:=hM.out y (by simp)
    have hyW:=HI.out.wf y (by simp)
    have hyS:Sized (its y):=fun i hi=>hSz.out i (by
     have h1:i∈(ls.take j).flatMap its:=by rw [←HI.out.flat];exact List.mem_flatMap.2 ⟨y,by simp,hi⟩
     obtain ⟨u,hu,hi⟩:=List.mem_flatMap.1 h1
     exact List.mem_flatMap.2 ⟨u,List.mem_of_mem_take hu,hi⟩)
    have hfy:=filled_any hyN hyW hyS
    rw [List.length_append,List.length_cons,List.length_nil] at hMl hc51 ho hf hM ⊢
    obtain ⟨g5,c6,hg5,hrc,hrf,-,-,-⟩:=(by have h:=ho;rw [List.map_append] at h;exact h:OwnsP 77 wr (.slice a5 (B.length+1) c5) (B.map adr++[adr y])).store (z:=0)
    rw [List.length_map] at hg5 hrc hrf
    injection hg5 with hg5 _ hg6
    subst hg5 hg6
    have hfb:fil y≤236∧fil x≤236:=⟨hyW.fil,(hW.out x HXm.out).fil⟩
    have HYW:=Hid.mk hyW
    have HYN:=Hid.mk hyN
    have HYS:=Hid.mk hyS
    have HXS:=Hid.mk hxS
    clear hyW hyN hyS hxS
    by_cases hfit:fil y+fil x≤236
    ·-- they fit into one
     go_wp2_with fail
     refine hfy.mono ?_
     rintro e w1 ⟨rfl,q1,rfl⟩
     go_wp2_with fail
     refine (HFX.out q1).mono ?_
     rintro e w1 ⟨rfl,q2,rfl⟩
     have kd:=((Kept.refl [] wr).drewN q1).drewN q2
     have ho1:=ho.kept kd (by simp)
     have hU1:=hUr.kept kd (by simp) (by simp)
     have kk1:=kk.trans kd (by simp)
     have hM1:Hid (IsNs ((wr.drewN q1).drewN q2) (Fw F w [vr,.slice (some ⟨g5,0,none⟩) (B.length+1) c5]) ρ (B++[y])):=Hid.mk (hM.out.kept kd (by simp))
     have hrc1:((wr.drewN q1).drewN q2).cell? ⟨g5,B.length,none⟩=some (.pointer (some ⟨adr y,0,none⟩)):=by rw [kd.cell (World.block_lt_of_cell? wr _ hrc) (by simp)];exact hrc
     clear ho hUr kk hM hfy kd hrc hrf HYN HFX
     generalize (wr.drewN q1).drewN q2=W1 at *
     have hg5w:w.heap.size≤g5:=hf g5 rfl
     -- the names that are left
     have hleft:left.length+dl.length+(nms ρ y++nms ρ x).length≤800000:=by
      have h1:=HI.out.names.length_eq
      have h2:((ls.take j).flatMap (nms ρ)).length+(nms ρ x).length≤(ls.flatMap (nms ρ)).length:=by
       have e1:ls=ls.take (j+1)++ls.drop (j+1):=(List.take_append_drop _ _).symm
       have e2:(ls.flatMap (nms ρ)).length=((ls.take (j+1)).flatMap (nms ρ)).length+((ls.drop (j+1)).flatMap (nms ρ)).length:=by rw [←List.length_append,←List.flatMap_append,←e1]
       rw [tsnoc hx,List.flatMap_append,List.length_append] at e2
       simp only [List.flatMap_cons,List.flatMap_nil,List.append_nil] at e2
       omega
      have h3:=hll.out
      rw [List.flatMap_append,List.length_append,List.length_append] at h1
      simp only [List.flatMap_cons,List.flatMap_nil,List.append_nil] at h1
      rw [List.length_append]
      omega
     have HLF:=Hid.mk hleft
     have hpy:(pn ρ (adr y)).length≤1:=by unfold pn;split<;>simp
     have hpx:(pn ρ (adr x)).length≤1:=by unfold pn;split<;>simp
     obtain ⟨-,-,-,-,y0,y1,-⟩:=(hM1.out y (by simp)).isB.raw
     have hlv1:=leave_any hU1 (by rw [List.length_append];rw [List.length_append] at hleft;omega) (ρ (adr y)).1 (ρ (adr y)).2
     change Calls Tryz.prog 118 _ W1 fun e w'=>e=.returned (.tuple #[])∧∃vl',IsU w' ub vl' (left++dl++pn ρ (adr y))∧_ at hlv1
     have y0':=y0
     have y1':=y1
     generalize hyn:(ρ (adr y)).1=yn at y0' y1' hlv1
     generalize hys:(ρ (adr y)).2=ys at y0' y1' hlv1
     clear y0 y1 hyn hys hleft
     go_wp2_with fail
     refine hlv1.mono ?_
     rintro e w2 ⟨rfl,v2,hU2,k2,hN2⟩
     have hu1:∀g,(Value.slice (some ⟨g5,0,none⟩) (B.length+1) c5).ownBlock=some g→g∉uf ub vr:=fun g hg hm=>by
      have h1:=hf g hg
      rcases mem_uf.1 hm with h|h
      ·omega
      ·exact rows_apart ho1 hU1.own (by decide) h hg
     have ho2:=ho1.kept k2 hu1
     have kk2:Kept (uf ub vl) w w2:=kk1.trans k2 (fun b hb=>by
      rcases mem_uf.1 hb with h|h
      ·exact .inl (mem_uf.2 (.inl h))
      ·rcases hNr b h with h1|h1
       ·exact .inl (mem_uf.2 (.inr h1))
       ·exact .inr h1)
     have hN2w:New w vl v2:=hNr.trans hN2 kk1.size
     have hM2:Hid (IsNs w2 (Fw F w [v2,.slice (some ⟨g5,0,none⟩) (B.length+1) c5]) ρ (B++[y])):=Hid.mk fun m hm=>(hM1.out m hm).stepU k2 hN2 hubF.out
     have hrc2:w2.cell? ⟨g5,B.length,none⟩=some (.pointer (some ⟨adr y,0,none⟩)):=by rw [k2.cell (World.block_lt_of_cell? W1 _ hrc1) (hu1 g5 rfl)];exact hrc1
     obtain ⟨-,-,-,-,x0,x1,-⟩:=(HX.out x HXm.out w2 kk2).isB.raw
     have hlv2:=leave_any hU2 (by rw [List.length_append,List.length_append];have:=HLF.out;rw [List.length_append] at this;omega) (ρ (adr x)).1 (ρ (adr x)).2
     change Calls Tryz.prog 118 _ w2 fun e w'=>e=.returned (.tuple #[])∧∃vl',IsU w' ub vl' (left++dl++pn ρ (adr y)++pn ρ (adr x))∧_ at hlv2
     have x0':=x0
     have x1':=x1
     generalize hxn:(ρ (adr x)).1=xn at x0' x1' hlv2
     generalize hxs:(ρ (adr x)).2=xs at x0' x1' hlv2
     clear x0 x1 hxn hxs hlv1 hM1 ho1 hU1 kk1 hrc1 y0' y1' hN2 k2
     go_wp2_with fail
     refine hlv2.mono ?_
     rintro e W3 ⟨rfl,v3,hU3,k3,hN3⟩
     have hu2:∀g,(Value.slice (some ⟨g5,0,none⟩) (B.length+1) c5).ownBlock=some g→g∉uf ub v2:=fun g hg hm=>by
      have h1:=hf g hg
      rcases mem_uf.1 hm with h|h
      ·omega
      ·exact rows_apart ho2 hU2.own (by decide) h hg
     have ho3:=ho2.kept k3 hu2
     have kk3:Kept (uf ub vl) w W3:=kk2.trans k3 (fun b hb=>by
      rcases mem_uf.1 hb with h|h
      ·exact .inl (mem_uf.2 (.inl h))
      ·rcases hN2w b h with h1|h1
       ·exact .inl (mem_uf.2 (.inr h1))
       ·exact .inr h1)
     have hN3w:New w vl v3:=hN2w.trans hN3 kk2.size
     have hM3:Hid (IsNs W3 (Fw F w [v3,.slice (some ⟨g5,0,none⟩) (B.length+1) c5]) ρ (B++[y])):=Hid.mk fun m hm=>(hM2.out m hm).stepU k3 hN3 hubF.out
     have hrc3:W3.cell? ⟨g5,B.length,none⟩=some (.pointer (some ⟨adr y,0,none⟩)):=by rw [k3.cell (World.block_lt_of_cell? w2 _ hrc2) (hu2 g5 rfl)];exact hrc2
     clear hlv2 hM2 ho2 hU2 kk2 hrc2 x0' x1' hN3 k3 hN2w hu1 hu2
     have hyN3:=hM3.out y (by simp)
     have hxN3:=HXF.out x W3 v3 (.slice (some ⟨g5,0,none⟩) (B.length+1) c5) (HX.out x HXm.out W3 kk3) hN3w hf
     obtain ⟨aIy,cIy,aUy,cUy,-,-,-,cy3,cy4,ry3,ry4,-,-⟩:=hyN3.isB.raw
     obtain ⟨aIx,cIx,aUx,cUx,-,-,cx2,cx3,cx4,rx3,rx4,-,-⟩:=hxN3.isB.raw
     -- the three calls, wherever they are made
     have HG5:Hid (∀b∈uf ub v3,¬Fw F w [v3,.slice (some ⟨g5,0,none⟩) (B.length+1) c5] b):=Hid.mk fun b hb hG=>by
      rcases mem_uf.1 hb with h|h
      ·subst h
       rcases hG.1 with h1|h1
       ·exact hubF.out.2 h1
       ·omega
      ·exact hG.2 v3 (by simp) h
     have hrec:=HR.out W3 (Fw F w [v3,.slice (some ⟨g5,0,none⟩) (B.length+1) c5]) ρ ub v3 (left++dl++pn ρ (adr y)++pn ρ (adr x)) y x (hB.out.kept kk3) hU3 HG5.out hyN3 hxN3 HYW.out (hW.out x HXm.out) hfit (fun i hi=>by
      rcases List.mem_append.1 hi with h|h
      ·exact HYS.out i h
      ·exact HXS.out i h) (by rw [List.length_append,List.length_append,List.length_append];have:=HLF.out;omega)
     have hia:(ia y).length+(ia x).length≤900000∧(ua y).length+(ua x).length≤900000:=by
      have hfy:∀(m:Tr k),fil m≤236→(ia m).length≤236∧(ua m).length≤236:=fun m hm=>by
       cases k with
       | zero =>
        have:=len_le_sum m.2
        have h2:(m.2.map isz).sum≤236:=hm
        exact ⟨by show (m.2.map Itm.ad).length≤236;rw [List.length_map];omega,by show ([]:List Nat).length≤236;simp⟩
       | succ k =>
        have h2:m.2.length*10≤236:=hm
        exact ⟨by show ([]:List Nat).length≤236;simp,by show (m.2.map adr).length≤236;rw [List.length_map];omega⟩
      have h1:=hfy y hfb.1
      have h2:=hfy x hfb.2
      omega
     have hC1:∀(W:World) (b1:Nat),Kept [] W3 W→ReadsR 1 W (.slice (some ⟨b1,0,none⟩) 2 2) [[.slice aIy (ia y).length cIy],[.slice aIx (ia x).length cIx]]→Calls Tryz.prog 124 #[.slice (some ⟨b1,0,none⟩) 2 2] W fun e w'=>∃(a:Option Addr) (c:Nat),e=.returned (.slice a ((ia y).length+(ia x).length) c)∧OwnsP 100 w' (.slice a ((ia y).length+(ia x).length) c) (ia y++ia x)∧Fresh W (.slice a ((ia y).length+(ia x).length) c)∧Kept [] W w':=fun W b1 kW hRR=>by
      refine (concatI_any (some ⟨b1,0,none⟩) 2 2 [(.slice aIy (ia y).length cIy,ia y),(.slice aIx (ia x).length cIx,ia x)] (Hid.mk rfl) hRR (Hid.mk fun p hp=>?_) (by omega) (Hid.mk (by simp [lens];omega))).mono fun e w' he=>?_
      ·simp at hp
       rcases hp with rfl|rfl
       ·exact ⟨ry3.kept kW (by simp),rfl⟩
       ·exact ⟨rx3.kept kW (by simp),rfl⟩
      ·obtain ⟨v,rfl,hv,hfv,kv⟩:=he
       have ec:cats [(Value.slice aIy (ia y).length cIy,ia y),(Value.slice aIx (ia x).length cIx,ia x)]=ia y++ia x:=by simp [cats]
       rw [ec] at hv
       obtain ⟨av,cv,rfl,-⟩:=hv.form
       rw [List.length_append] at hv hfv ⊢
       exact ⟨av,cv,rfl,hv,hfv,kv⟩
     have hC2:∀(W:World) (b1:Nat),Kept [] W3 W→ReadsR 1 W (.slice (some ⟨b1,0,none⟩) 2 2) [[.slice aUy (ua y).length cUy],[.slice aUx (ua x).length cUx]]→Calls Tryz.prog 125 #[.slice (some ⟨b1,0,none⟩) 2 2] W fun e w'=>∃(a:Option Addr) (c:Nat),e=.returned (.slice a ((ua y).length+(ua x).length) c)∧OwnsP 77 w' (.slice a ((ua y).length+(ua x).length) c) (ua y++ua x)∧Fresh W (.slice a ((ua y).length+(ua x).length) c)∧Kept [] W w':=fun W b1 kW hRR=>by
      refine (concatN_any (some ⟨b1,0,none⟩) 2 2 [(.slice aUy (ua y).length cUy,ua y),(.slice aUx (ua x).length cUx,ua x)] (Hid.mk rfl) hRR (Hid.mk fun p hp=>?_) (by omega) (Hid.mk (by simp [lens];omega))).mono fun e w' he=>?_
      ·simp at hp
       rcases hp with rfl|rfl
       ·exact ⟨ry4.kept kW (by simp),rfl⟩
       ·exact ⟨rx4.kept kW (by simp),rfl⟩
      ·obtain ⟨v,rfl,hv,hfv,kv⟩:=he
       have ec:cats [(Value.slice aUy (ua y).length cUy,ua y),(Value.slice aUx (ua x).length cUx,ua x)]=ua y++ua x:=by simp [cats]
       rw [ec] at hv
       obtain ⟨av,cv,rfl,-⟩:=hv.form
       rw [List.length_append] at hv hfv ⊢
       exact ⟨av,cv,rfl,hv,hfv,kv⟩
     have H1:=Hid.mk hC1
     have H2:=Hid.mk hC2
     have H3:=Hid.mk hrec
     clear hC1 hC2 hrec ry3 ry4 rx3 rx4
     have HYG:=Hid.mk hyN3.inF
     have HXG:=Hid.mk hxN3.inF
     have hylt:=hyN3.lt
     have hxlt:=hxN3.lt
     have hglt:=World.block_lt_of_cell? W3 _ hrc3
     clear hyN3 hxN3
     have kD:Kept [] W3 W3.drew:=(Kept.refl [] W3).drew
     obtain ⟨ily,hily⟩:∃n,Hid ((ia y).length=n):=⟨_,rfl⟩
     obtain ⟨ilx,hilx⟩:∃n,Hid ((ia x).length=n):=⟨_,rfl⟩
     obtain ⟨uly,huly⟩:∃n,Hid ((ua y).length=n):=⟨_,rfl⟩
     obtain ⟨ulx,hulx⟩:∃n,Hid ((ua x).length=n):=⟨_,rfl⟩
     rw [hily.out,hilx.out] at H1 hia
     rw [huly.out,hulx.out] at H2 hia
     rw [hily.out] at cy3
     rw [huly.out] at cy4
     rw [hilx.out] at cx3
     rw [hulx.out] at cx4
     obtain ⟨ya,hya⟩:∃n,Hid (adr y=n):=⟨_,rfl⟩
     obtain ⟨xa,hxa⟩:∃n,Hid (adr x=n):=⟨_,rfl⟩
     rw [hya.out] at cy3 cy4 hrc3 HYG hylt
     rw [hxa.out] at cx2 cx3 cx4 HXG hxlt
     obtain ⟨L,hL⟩:∃n,Hid (B.length=n):=⟨_,rfl⟩
     rw [hL.out] at hrc3 ho3 hf hM3 HG5 H3 HYG HXG ⊢
     go_wp2_with fail
     rw [hya.out,hxa.out]
     have hSk:∀W:World,Kept (uf ub v3) W3 W→W.cell? ⟨g5,L,none⟩=some (.pointer (some ⟨ya,0,none⟩))∧W.cell? ⟨ya,3,none⟩=some (.slice aIy ily cIy)∧W.cell? ⟨ya,4,none⟩=some (.slice aUy uly cUy)∧W.cell? ⟨xa,2,none⟩=some (.int .i64 (k:Int))∧W.cell? ⟨xa,3,none⟩=some (.slice aIx ilx cIx)∧W.cell? ⟨xa,4,none⟩=some (.slice aUx ulx cUx):=fun W kW=>by
      have n1:g5∉uf ub v3:=fun hm=>by
       rcases mem_uf.1 hm with h|h
       ·omega
       ·exact rows_apart ho3 hU3.own (by decide) h rfl
      have n2:ya∉uf ub v3:=fun hm=>HG5.out _ hm HYG.out
      have n3:xa∉uf ub v3:=fun hm=>HG5.out _ hm HXG.out
      rw [kW.cell hglt n1,kW.cell hylt n2,kW.cell hylt n2,kW.cell hxlt n3,kW.cell hxlt n3,kW.cell hxlt n3]
      exact ⟨hrc3,cy3,cy4,cx2,cx3,cx4⟩
     have HSk:=Hid.mk hSk
     have S0:=hSk W3.drew (kD.mono (by simp))
     clear hSk cy3 cy4 cx2 cx3 cx4 hrc3
     refine wp_region_x (S:=fun w'=>w'.cell? ⟨g5,L,none⟩=some (.pointer (some ⟨ya,0,none⟩))∧w'.cell? ⟨ya,3,none⟩=some (.slice aIy ily cIy)∧w'.cell? ⟨ya,4,none⟩=some (.slice aUy uly cUy)∧w'.cell? ⟨xa,2,none⟩=some (.int .i64 (k:Int))∧w'.cell? ⟨xa,3,none⟩=some (.slice aIx ilx cIx)∧w'.cell? ⟨xa,4,none⟩=some (.slice aUx ulx cUx)) (by kernel_rfl) S0 (fun _=>?_)
     generalize W3.drew=W4 at *
     refine wpAnyX_take (i:=0) 36 (v:=Value.slice (some ⟨g5,0,none⟩) (L+1) c5) rfl (by kernel_rfl) (by kernel_rfl) (by kernel_rfl) rfl (by kernel_rfl) (by kernel_rfl) (fun _ _ _ h=>h) (Or.inl ⟨by rfl,fun w hS=>by obtain ⟨s1,s2,s3,s4,s5,s6⟩:=hS;go_simp⟩) S0 ?_
     go_simp
     refine wpAnyX_take (i:=1) 36 (v:=.int .i64 (L:Int)) rfl (by kernel_rfl) (by kernel_rfl) (by kernel_rfl) rfl (by kernel_rfl) (by kernel_rfl) (fun _ _ _ h=>h) (Or.inl ⟨by rfl,fun w hS=>by obtain ⟨s1,s2,s3,s4,s5,s6⟩:=hS;go_simp⟩) S0 ?_
     go_simp
     refine wpAnyX_take (i:=2) 3 (v:=.pointer (some ⟨xa,0,none⟩)) rfl (by kernel_rfl) (by kernel_rfl) (by kernel_rfl) rfl (by kernel_rfl) (by kernel_rfl) (fun _ _ _ h=>h) (Or.inl ⟨by rfl,fun w hS=>by obtain ⟨s1,s2,s3,s4,s5,s6⟩:=hS;go_simp⟩) S0 ?_
     go_simp
     refine wpAnyX_take (i:=3) 4 (v:=.pointer (some ⟨xa,0,none⟩)) rfl (by kernel_rfl) (by kernel_rfl) (by kernel_rfl) rfl (by kernel_rfl) (by kernel_rfl) (fun _ _ _ h=>h) (Or.inl ⟨by rfl,fun w hS=>by obtain ⟨s1,s2,s3,s4,s5,s6⟩:=hS;go_simp⟩) S0 ?_
     go_simp
     refine wpAnyX_take (i:=4) 5 (v:=.pointer (some ⟨xa,2,none⟩)) rfl (by kernel_rfl) (by kernel_rfl) (by kernel_rfl) rfl (by kernel_rfl) (by kernel_rfl) (fun _ _ _ h=>h) (Or.inl ⟨by rfl,fun w hS=>by obtain ⟨s1,s2,s3,s4,s5,s6⟩:=hS;go_simp⟩) S0 ?_
     go_simp
     refine wpAnyX_take (i:=5) 34 (v:=.int .i64 (k:Int)) rfl (by kernel_rfl) (by kernel_rfl) (by kernel_rfl) rfl (by kernel_rfl) (by kernel_rfl) (fun _ _ _ h=>h) (Or.inl ⟨by rfl,fun w hS=>by obtain ⟨s1,s2,s3,s4,s5,s6⟩:=hS;go_simp⟩) S0 ?_
     go_simp
     refine wpAnyX_take (i:=6) 8 (v:=Value.slice (some ⟨g5,0,none⟩) (L+1) c5) rfl (by kernel_rfl) (by kernel_rfl) (by kernel_rfl) rfl (by kernel_rfl) (by kernel_rfl) (fun _ _ _ h=>h) (Or.inl ⟨by rfl,fun w hS=>by obtain ⟨s1,s2,s3,s4,s5,s6⟩:=hS;go_simp⟩) S0 ?_
     go_simp
     refine wpAnyX_take (i:=7) 8 (v:=.int .i64 (L:Int)) rfl (by kernel_rfl) (by kernel_rfl) (by kernel_rfl) rfl (by kernel_rfl) (by kernel_rfl) (fun _ _ _ h=>h) (Or.inl ⟨by rfl,fun w hS=>by obtain ⟨s1,s2,s3,s4,s5,s6⟩:=hS;go_simp⟩) S0 ?_
     go_simp
     refine wpAnyX_take (i:=8) 9 (v:=.pointer (some ⟨g5,L,none⟩)) rfl (by kernel_rfl) (by kernel_rfl) (by kernel_rfl) rfl (by kernel_rfl) (by kernel_rfl) (fun _ _ _ h=>h) (Or.inl ⟨by rfl,fun w hS=>by obtain ⟨s1,s2,s3,s4,s5,s6⟩:=hS;go_simp;intro h;omega⟩) S0 ?_
     go_simp
     refine wpAnyX_take (i:=9) 10 (v:=.pointer (some ⟨ya,0,none⟩)) rfl (by kernel_rfl) (by kernel_rfl) (by kernel_rfl) rfl (by kernel_rfl) (by kernel_rfl) (fun _ _ _ h=>h) (Or.inl ⟨by rfl,fun w hS=>by obtain ⟨s1,s2,s3,s4,s5,s6⟩:=hS;go_simp⟩) S0 ?_
     go_simp
     refine wpAnyX_take (i:=10) 11 (v:=.pointer (some ⟨ya,0,none⟩)) rfl (by kernel_rfl) (by kernel_rfl) (by kernel_rfl) rfl (by kernel_rfl) (by kernel_rfl) (fun _ _ _ h=>h) (Or.inl ⟨by rfl,fun w hS=>by obtain ⟨s1,s2,s3,s4,s5,s6⟩:=hS;go_simp⟩) S0 ?_
     go_simp
     refine wpAnyX_take (i:=11) 12 (v:=.pointer (some ⟨ya,3,none⟩)) rfl (by kernel_rfl) (by kernel_rfl) (by kernel_rfl) rfl (by kernel_rfl) (by kernel_rfl) (fun _ _ _ h=>h) (Or.inl ⟨by rfl,fun w hS=>by obtain ⟨s1,s2,s3,s4,s5,s6⟩:=hS;go_simp⟩) S0 ?_
     go_simp
     refine wpAnyX_take (i:=12) 17 (v:=.slice aIy ily cIy) rfl (by kernel_rfl) (by kernel_rfl) (by kernel_rfl) rfl (by kernel_rfl) (by kernel_rfl) (fun _ _ _ h=>h) (Or.inl ⟨by rfl,fun w hS=>by obtain ⟨s1,s2,s3,s4,s5,s6⟩:=hS;go_simp⟩) S0 ?_
     go_simp
     refine wpAnyX_take (i:=13) 14 (v:=.pointer (some ⟨xa,0,none⟩)) rfl (by kernel_rfl) (by kernel_rfl) (by kernel_rfl) rfl (by kernel_rfl) (by kernel_rfl) (fun _ _ _ h=>h) (Or.inl ⟨by rfl,fun w hS=>by obtain ⟨s1,s2,s3,s4,s5,s6⟩:=hS;go_simp⟩) S0 ?_
     go_simp
     refine wpAnyX_take (i:=14) 15 (v:=.pointer (some ⟨xa,0,none⟩)) rfl (by kernel_rfl) (by kernel_rfl) (by kernel_rfl) rfl (by kernel_rfl) (by kernel_rfl) (fun _ _ _ h=>h) (Or.inl ⟨by rfl,fun w hS=>by obtain ⟨s1,s2,s3,s4,s5,s6⟩:=hS;go_simp⟩) S0 ?_
     go_simp
     refine wpAnyX_take (i:=15) 16 (v:=.pointer (some ⟨xa,3,none⟩)) rfl (by kernel_rfl) (by kernel_rfl) (by kernel_rfl) rfl (by kernel_rfl) (by kernel_rfl) (fun _ _ _ h=>h) (Or.inl ⟨by rfl,fun w hS=>by obtain ⟨s1,s2,s3,s4,s5,s6⟩:=hS;go_simp⟩) S0 ?_
     go_simp
     refine wpAnyX_take (i:=16) 17 (v:=.slice aIx ilx cIx) rfl (by kernel_rfl) (by kernel_rfl) (by kernel_rfl) rfl (by kernel_rfl) (by kernel_rfl) (fun _ _ _ h=>h) (Or.inl ⟨by rfl,fun w hS=>by obtain ⟨s1,s2,s3,s4,s5,s6⟩:=hS;go_simp⟩) S0 ?_
     go_simp
     refine wpAnyX_take (i:=19) 33 (v:=.pointer (some ⟨ub,0,none⟩)) rfl (by kernel_rfl) (by kernel_rfl) (by kernel_rfl) rfl (by kernel_rfl) (by kernel_rfl) (fun _ _ _ h=>h) (Or.inl ⟨by rfl,fun w hS=>by obtain ⟨s1,s2,s3,s4,s5,s6⟩:=hS;go_simp⟩) S0 ?_
     go_simp
     refine wpAnyX_take (i:=20) 22 (v:=Value.slice (some ⟨g5,0,none⟩) (L+1) c5) rfl (by kernel_rfl) (by kernel_rfl) (by kernel_rfl) rfl (by kernel_rfl) (by kernel_rfl) (fun _ _ _ h=>h) (Or.inl ⟨by rfl,fun w hS=>by obtain ⟨s1,s2,s3,s4,s5,s6⟩:=hS;go_simp⟩) S0 ?_
     go_simp
     refine wpAnyX_take (i:=21) 22 (v:=.int .i64 (L:Int)) rfl (by kernel_rfl) (by kernel_rfl) (by kernel_rfl) rfl (by kernel_rfl) (by kernel_rfl) (fun _ _ _ h=>h) (Or.inl ⟨by rfl,fun w hS=>by obtain ⟨s1,s2,s3,s4,s5,s6⟩:=hS;go_simp⟩) S0 ?_
     go_simp
     refine wpAnyX_take (i:=22) 23 (v:=.pointer (some ⟨g5,L,none⟩)) rfl (by kernel_rfl) (by kernel_rfl) (by kernel_rfl) rfl (by kernel_rfl) (by kernel_rfl) (fun _ _ _ h=>h) (Or.inl ⟨by rfl,fun w hS=>by obtain ⟨s1,s2,s3,s4,s5,s6⟩:=hS;go_simp;intro h;omega⟩) S0 ?_
     go_simp
     refine wpAnyX_take (i:=23) 24 (v:=.pointer (some ⟨ya,0,none⟩)) rfl (by kernel_rfl) (by kernel_rfl) (by kernel_rfl) rfl (by kernel_rfl) (by kernel_rfl) (fun _ _ _ h=>h) (Or.inl ⟨by rfl,fun w hS=>by obtain ⟨s1,s2,s3,s4,s5,s6⟩:=hS;go_simp⟩) S0 ?_
     go_simp
     refine wpAnyX_take (i:=24) 25 (v:=.pointer (some ⟨ya,0,none⟩)) rfl (by kernel_rfl) (by kernel_rfl) (by kernel_rfl) rfl (by kernel_rfl) (by kernel_rfl) (fun _ _ _ h=>h) (Or.inl ⟨by rfl,fun w hS=>by obtain ⟨s1,s2,s3,s4,s5,s6⟩:=hS;go_simp⟩) S0 ?_
     go_simp
     refine wpAnyX_take (i:=25) 26 (v:=.pointer (some ⟨ya,4,none⟩)) rfl (by kernel_rfl) (by kernel_rfl) (by kernel_rfl) rfl (by kernel_rfl) (by kernel_rfl) (fun _ _ _ h=>h) (Or.inl ⟨by rfl,fun w hS=>by obtain ⟨s1,s2,s3,s4,s5,s6⟩:=hS;go_simp⟩) S0 ?_
     go_simp
     refine wpAnyX_take (i:=26) 31 (v:=.slice aUy uly cUy) rfl (by kernel_rfl) (by kernel_rfl) (by kernel_rfl) rfl (by kernel_rfl) (by kernel_rfl) (fun _ _ _ h=>h) (Or.inl ⟨by rfl,fun w hS=>by obtain ⟨s1,s2,s3,s4,s5,s6⟩:=hS;go_simp⟩) S0 ?_
     go_simp
     refine wpAnyX_take (i:=27) 28 (v:=.pointer (some ⟨xa,0,none⟩)) rfl (by kernel_rfl) (by kernel_rfl) (by kernel_rfl) rfl (by kernel_rfl) (by kernel_rfl) (fun _ _ _ h=>h) (Or.inl ⟨by rfl,fun w hS=>by obtain ⟨s1,s2,s3,s4,s5,s6⟩:=hS;go_simp⟩) S0 ?_
     go_simp
     refine wpAnyX_take (i:=28) 29 (v:=.pointer (some ⟨xa,0,none⟩)) rfl (by kernel_rfl) (by kernel_rfl) (by kernel_rfl) rfl (by kernel_rfl) (by kernel_rfl) (fun _ _ _ h=>h) (Or.inl ⟨by rfl,fun w hS=>by obtain ⟨s1,s2,s3,s4,s5,s6⟩:=hS;go_simp⟩) S0 ?_
     go_simp
     refine wpAnyX_take (i:=29) 30 (v:=.pointer (some ⟨xa,4,none⟩)) rfl (by kernel_rfl) (by kernel_rfl) (by kernel_rfl) rfl (by kernel_rfl) (by kernel_rfl) (fun _ _ _ h=>h) (Or.inl ⟨by rfl,fun w hS=>by obtain ⟨s1,s2,s3,s4,s5,s6⟩:=hS;go_simp⟩) S0 ?_
     go_simp
     refine wpAnyX_take (i:=30) 31 (v:=.slice aUx ulx cUx) rfl (by kernel_rfl) (by kernel_rfl) (by kernel_rfl) rfl (by kernel_rfl) (by kernel_rfl) (fun _ _ _ h=>h) (Or.inl ⟨by rfl,fun w hS=>by obtain ⟨s1,s2,s3,s4,s5,s6⟩:=hS;go_simp⟩) S0 ?_
     go_simp
     have hA1:∀W:World,ReadsR 1 (W.alloc (.cells #[.slice aIy ily cIy,.slice aIx ilx cIx] 111)) (.slice (some ⟨W.heap.size,0,none⟩) 2 2) [[.slice aIy ily cIy],[.slice aIx ilx cIx]]:=fun W=>reads2_new W _ _ 111
     have hA2:∀W:World,ReadsR 1 (W.alloc (.cells #[.slice aUy uly cUy,.slice aUx ulx cUx] 112)) (.slice (some ⟨W.heap.size,0,none⟩) 2 2) [[.slice aUy uly cUy],[.slice aUx ulx cUx]]:=fun W=>reads2_new W _ _ 112
     have HA1:=Hid.mk hA1
     have HA2:=Hid.mk hA2
     clear hA1 hA2 S0
     refine wpAnyX_ready (rs:=[17,31]) (by kernel_rfl) (by simp) ?_
     refine AllReadyX.cons rfl (fun K hK=>?a1) (AllReadyX.cons rfl (fun K hK=>?a2) AllReadyX.nil)
     case' a1 =>
      go_simp
      have k5:Kept [] W3 (W4.alloc (.cells #[.slice aIy ily cIy,.slice aIx ilx cIx] 111)):=kD.alloc _
      have r5:=HA1.out W4
      refine hK.out _ _ (HSk.out _ (k5.mono (by simp))) (fun S5=>?_)
      clear hK K S5
      go_simp
      generalize W4.alloc (.cells #[.slice aIy ily cIy,.slice aIx ilx cIx] 111)=W5 at *
      refine wpAnyX_ready (rs:=[18,31]) (by kernel_rfl) (by simp) ?_
      refine AllReadyX.cons rfl (fun K hK=>?b1) (AllReadyX.cons rfl (fun K hK=>?b2) AllReadyX.nil)
      case' b1 =>
       go_simp
       refine (H1.out W5 W4.heap.size k5 r5).mono ?_
       rintro e w6 ⟨a68,c68,rfl,ho68,hf68,k6⟩
       have k56:=k5.trans k6 (by simp)
       refine hK.out _ _ (HSk.out _ (k56.mono (by simp))) (fun S6=>?_)
       clear hK K S6
       go_simp
       refine wpAnyX_ready (rs:=[31]) (by kernel_rfl) (by simp) (AllReadyX.cons rfl (fun K hK=>?_) AllReadyX.nil)
       go_simp
       have k7:Kept [] W3 (w6.alloc (.cells #[.slice aUy uly cUy,.slice aUx ulx cUx] 112)):=k56.alloc _
       have r7:=HA2.out w6
       have ho7:=ho68.kept ((Kept.refl [] w6).alloc (.cells #[.slice aUy uly cUy,.slice aUx ulx cUx] 112)) (by simp)
       have hf7:Fresh W3 (.slice a68 (ily+ilx) c68):=fun g hg=>Nat.le_trans k5.size (hf68 g hg)
       refine hK.out _ _ (HSk.out _ (k7.mono (by simp))) (fun S7=>?_)
       clear hK K S7
       go_simp
       generalize w6.alloc (.cells #[.slice aUy uly cUy,.slice aUx ulx cUx] 112)=W7 at *
       generalize w6.heap.size=b7 at *
       clear r5 k56 k6 hf68 ho68
      case' b2 =>
       go_simp
       have k6:Kept [] W3 (W5.alloc (.cells #[.slice aUy uly cUy,.slice aUx ulx cUx] 112)):=k5.alloc _
       have r6:=HA2.out W5
       have r56:=r5.kept ((Kept.refl [] W5).alloc (.cells #[.slice aUy uly cUy,.slice aUx ulx cUx] 112)) (by simp)
       refine hK.out _ _ (HSk.out _ (k6.mono (by simp))) (fun S6=>?_)
       clear hK K S6
       go_simp
       generalize W5.alloc (.cells #[.slice aUy uly cUy,.slice aUx ulx cUx] 112)=W6 at *
       refine wpAnyX_ready (rs:=[18]) (by kernel_rfl) (by simp) (AllReadyX.cons rfl (fun K hK=>?_) AllReadyX.nil)
       go_simp
       refine (H1.out W6 W4.heap.size k6 r56).mono ?_
       rintro e W7 ⟨a68,c68,rfl,ho7,hf68,k67⟩
       have k7:=k6.trans k67 (by simp)
       have r7:=r6.kept k67 (by simp)
       have hf7:Fresh W3 (.slice a68 (ily+ilx) c68):=fun g hg=>Nat.le_trans k6.size (hf68 g hg)
       refine hK.out _ _ (HSk.out _ (k7.mono (by simp))) (fun S7=>?_)
       clear hK K S7
       go_simp
       generalize W5.heap.size=b7 at *
       clear r5 k67 k6 hf68 r6 r56
     case' a2 =>
      go_simp
      have k5:Kept [] W3 (W4.alloc (.cells #[.slice aUy uly cUy,.slice aUx ulx cUx] 112)):=kD.alloc _
      have r5:=HA2.out W4
      refine hK.out _ _ (HSk.out _ (k5.mono (by simp))) (fun S5=>?_)
      clear hK K S5
      go_simp
      generalize W4.alloc (.cells #[.slice aUy uly cUy,.slice aUx ulx cUx] 112)=W5 at *
      refine wpAnyX_ready (rs:=[17]) (by kernel_rfl) (by simp) (AllReadyX.cons rfl (fun K hK=>?_) AllReadyX.nil)
      go_simp
      have k6:Kept [] W3 (W5.alloc (.cells #[.slice aIy ily cIy,.slice aIx ilx cIx] 111)):=k5.alloc _
      have r6:=HA1.out W5
      have r56:=r5.kept ((Kept.refl [] W5).alloc (.cells #[.slice aIy ily cIy,.slice aIx ilx cIx] 111)) (by simp)
      refine hK.out _ _ (HSk.out _ (k6.mono (by simp))) (fun S6=>?_)
      clear hK K S6
      go_simp
      generalize W5.alloc (.cells #[.slice aIy ily cIy,.slice aIx ilx cIx] 111)=W6 at *
      refine wpAnyX_ready (rs:=[18]) (by kernel_rfl) (by simp) (AllReadyX.cons rfl (fun K hK=>?_) AllReadyX.nil)
      go_simp
      refine (H1.out W6 W5.heap.size k6 r6).mono ?_
      rintro e W7 ⟨a68,c68,rfl,ho7,hf68,k67⟩
      have k7:=k6.trans k67 (by simp)
      have r7:=r56.kept k67 (by simp)
      have hf7:Fresh W3 (.slice a68 (ily+ilx) c68):=fun g hg=>Nat.le_trans k6.size (hf68 g hg)
      refine hK.out _ _ (HSk.out _ (k7.mono (by simp))) (fun S7=>?_)
      clear hK K S7
      go_simp
      generalize W4.heap.size=b7 at *
      clear r5 k67 k6 hf68 r6 r56
     all_goals
      refine wpAnyX_ready (rs:=[32]) (by kernel_rfl) (by simp) (AllReadyX.cons rfl (fun K hK=>?_) AllReadyX.nil)
      go_simp
      refine (H2.out W7 b7 k7 r7).mono ?_
      rintro e w9 ⟨a82,c82,rfl,ho82,hf82,k9⟩
      have k39:=k7.trans k9 (by simp)
      refine hK.out _ _ (HSk.out _ (k39.mono (by simp))) (fun S9=>?_)
      clear hK K S9
      go_simp
      refine wpAnyX_ready (rs:=[33]) (by kernel_rfl) (by simp) (AllReadyX.cons rfl (fun K hK=>?_) AllReadyX.nil)
      go_simp
      refine (H3.out w9 a82 (uly+ulx) c82 (by rw [List.length_append,huly.out,hulx.out]) k39 ho82 (fun g hg=>Nat.le_trans k7.size (hf82 g hg))).mono ?_
      rintro e w10 ⟨v83,vl4,d,us,rfl,hr83,hf83,hU10,k10,hN10,hv83,hmk⟩
      have k310:Kept (uf ub v3) W3 w10:=(k39.mono (by simp):Kept (uf ub v3) W3 w9).trans k10 (fun b hb=>.inl hb)
      refine hK.out _ _ (HSk.out _ k310) (fun S10=>?_)
      clear hK K
      go_simp
      obtain ⟨a83,c83,rfl,-⟩:=hr83.form
      obtain ⟨ul,hul⟩:∃n,Hid (us.length=n):=⟨_,rfl⟩
      rw [hul.out] at hr83 hf83 hv83 ⊢
      have ho10:OwnsP 100 w10 (.slice a68 (ily+ilx) c68) (ia y++ia x):=(ho7.kept k9 (by simp)).kept k10 (fun g hg hm=>by
       have h1:=hf7 g hg
       have h2:=kk3.size
       rcases mem_uf.1 hm with h|h
       ·omega
       ·have:=hU3.own.lt h
        omega)
      have hS10:=S10
      clear S10
      refine wpAnyX_take (i:=34) 35 (v:=.agg #[.int .i64 0,.int .u64 0,.int .i64 (k:Int),.slice a68 (ily+ilx) c68,.slice a83 ul c83]) rfl (by kernel_rfl) (by kernel_rfl) (by kernel_rfl) rfl (by kernel_rfl) (by kernel_rfl) (fun _ _ _ h=>h) (Or.inl ⟨by rfl,fun w hS=>by obtain ⟨s1,s2,s3,s4,s5,s6⟩:=hS;go_simp⟩) hS10 ?_
      go_simp
      have hSp:∀W:World,Kept [] w10 W→W.cell? ⟨g5,L,none⟩=some (.pointer (some ⟨ya,0,none⟩))∧W.cell? ⟨ya,3,none⟩=some (.slice aIy ily cIy)∧W.cell? ⟨ya,4,none⟩=some (.slice aUy uly cUy)∧W.cell? ⟨xa,2,none⟩=some (.int .i64 (k:Int))∧W.cell? ⟨xa,3,none⟩=some (.slice aIx ilx cIx)∧W.cell? ⟨xa,4,none⟩=some (.slice aUx ulx cUx):=fun W kW=>HSk.out W (k310.trans kW (by simp))
      have HSp:=Hid.mk hSp
      clear hSp hS10
      refine wpAnyX_ready (rs:=[35]) (by kernel_rfl) (by simp) (AllReadyX.cons rfl (fun K hK=>?_) AllReadyX.nil)
      go_simp
      have k11:Kept [] w10 (w10.alloc (.cells #[.int .i64 0,.int .u64 0,.int .i64 (k:Int),.slice a68 (ily+ilx) c68,.slice a83 ul c83] 114)):=(Kept.refl [] w10).alloc _
      refine hK.out _ _ (HSp.out _ k11) (fun S11=>?_)
      clear hK K
      go_simp
      refine wpAnyX_take (i:=36) 37 (v:=.pointer (some ⟨g5,L,none⟩)) rfl (by kernel_rfl) (by kernel_rfl) (by kernel_rfl) rfl (by kernel_rfl) (by kernel_rfl) (fun _ _ _ h=>h) (Or.inl ⟨by rfl,fun w hS=>by obtain ⟨s1,s2,s3,s4,s5,s6⟩:=hS;go_simp;intro h;omega⟩) S11 ?_
      go_simp
      -- what is there at the end
      have ho11:OwnsP 77 (w10.alloc (.cells #[.int .i64 0,.int .u64 0,.int .i64 (k:Int),.slice a68 (ily+ilx) c68,.slice a83 ul c83] 114)) (.slice (some ⟨g5,0,none⟩) (L+1) c5) (B.map adr++[adr y]):=by
       have h1:=((ho3.kept k39 (by simp)).kept k10 (fun g hg hm=>by
        have h1:=hf g hg
        rcases mem_uf.1 hm with h|h
        ·omega
        ·exact rows_apart ho3 hU3.own (by decide) h hg)).kept k11 (by simp)
       rw [List.map_append] at h1
       exact h1
      obtain ⟨g6,c6,hg6,hsc,hsf,ho12,-,-⟩:=ho11.store (z:=w10.heap.size)
      rw [List.length_map,hL.out] at hg6 hsc hsf ho12
      injection hg6 with hg6 _ hg7
      injection hg6 with hg6
      injection hg6 with hg6 _ _
      subst hg6 hg7
      have hlast:=Hid.mk (merge_end hubF.out hvlw.out hf kk3 hN3w hU3 hM3.out ho3 k310 hU10 hN10 ho10 hf7 hr83 hf83 hv83 hmk HI.out hx hfit (hB.out _ (Nat.le_trans kk3.size k310.size)) ho12)
      clear hmk hU10 hN10 ho10 hf7 hr83 hf83 hv83 ho12 ho11 HSp k11 k310 k10 k39 k9 k7 r7 ho7 ho82 hf82 H1 H2 H3 HSk HA1 HA2 hM3 HI ho3 hU3 HG5
      refine wpAnyX_ready (rs:=[37]) (by kernel_rfl) (by simp) (AllReadyX.last rfl (by kernel_rfl) (by kernel_rfl) (fun K hK=>?_))
      clear S11
      generalize w10.alloc (.cells #[.int .i64 0,.int .u64 0,.int .i64 (k:Int),.slice a68 (ily+ilx) c68,.slice a83 ul c83] 114)=w11 at *
      generalize w10.heap.size=zb at *
      go_simp
      refine hK.out _ _ ?_
      clear hK K hsc hsf
      go_simp
      obtain ⟨M',dl',q1,q2⟩:=hlast.out
      have HQ1:=Hid.mk q1
      have HQ2:=Hid.mk q2
      clear q1 q2 hlast
      generalize w11.setCell ⟨g5,L,none⟩ (.pointer (some ⟨zb,0,none⟩))=w12 at *
      go_wp2
      go_roundw
      case rel=>exact ⟨j+1,M',vl4,dl',by go_num,by omega,HQ1,HQ2.out⟩
      case measure=>simp [intOf];omega
    ·-- they don't fit into one
     go_wp2_with fail
     refine hfy.mono ?_
     rintro e w1 ⟨rfl,q1,rfl⟩
     go_wp2_with fail
     refine (HFX.out q1).mono ?_
     rintro e w1 ⟨rfl,q2,rfl⟩
     have kd:=((Kept.refl [] wr).drewN q1).drewN q2
     have ho1:=ho.kept kd (by simp)
     have hU1:=hUr.kept kd (by simp) (by simp)
     have kk1:=kk.trans kd (by simp)
     have hM1:Hid (IsNs ((wr.drewN q1).drewN q2) (Fw F w [vr,.slice (some ⟨g5,0,none⟩) (B.length+1) c5]) ρ (B++[y])):=Hid.mk (hM.out.kept kd (by simp))
     clear ho hUr kk hM hfy kd
     generalize (wr.drewN q1).drewN q2=W1 at *
     obtain ⟨a8,c8,w8,hrun8,ho8,k8,hN8⟩:=append_ptr rt112 ho1 (adr x) (by rw [List.length_map];simp;try omega) 77 (0,0) 112
     have hu5:∀y∈(Value.slice (some ⟨g5,0,none⟩) (B.length+1) c5).ownBlock.toList,w.heap.size≤y:=fun y hy=>hf y (by simpa using hy)
     have ho9:OwnsP 77 w8 (.slice a8 ((((B++[y])).map adr).length+1) c8) (((B++[y])++[x]).map adr):=by rw [show ((B++[y])++[x]).map adr=((B++[y])).map adr++[adr x] from List.map_append];exact ho8
     have hf8:Fresh w (.slice a8 ((((B++[y])).map adr).length+1) c8):=fun g hg=>by
      rcases hN8 g hg with h|h
      ·exact hf g h
      ·exact Nat.le_trans kk1.size h
     have hU8:=hU1.kept k8 (fun hm=>by have:=hu5 _ hm;omega) (fun g hg hm=>rows_apart ho1 hU1.own (by decide) hg (by simpa using hm))
     have kk8:Kept (uf ub vl) w w8:=kk1.trans k8 (fun y hy=>.inr (hu5 y hy))
     have hM8:Hid (IsNs w8 (Fw F w [vr,.slice a8 ((((B++[y])).map adr).length+1) c8]) ρ ((B++[y])++[x])):=Hid.mk (by
      intro m hm
      rcases List.mem_append.1 hm with h|h
      ·exact (hM1.out m h).stepR k8 hN8
      ·simp at h
       subst h
       exact HXF.out m w8 vr _ (HX.out m HXm.out w8 kk8) hNr hf8)
     rw [List.length_map] at hrun8 ho9 hf8 hM8
     have Hall:=Hid.mk (And.intro ho9 (And.intro hf8 (And.intro hU8 (And.intro kk8 (And.intro hNr hM8)))))
     clear ho8 ho9 hf8 hU8 kk8 hM8 k8 hN8 hu5
     have HI2:=Hid.mk (HI.out.push hx (hW.out x HXm.out) (.inr ⟨B,y,rfl,by omega⟩))
     rw [List.length_append,List.length_cons,List.length_nil] at hrun8 Hall
     clear HI hM1 hU1 hx HFX HYW HYN HYS HXS
     generalize adr x=xa at *
     go_wp2_with (at_builtin;refine wpList_append_run 112 _ _ rfl rfl _ _ rfl rfl _ _ hrun8 ?_)
     go_roundw
     case rel=>exact ⟨j+1,B++[y]++[x],vr,dl,by go_num,by omega,HI2,Hall.out⟩
     case measure=>simp [intOf];omega
  ·obtain rfl:j=n:=by omega
   have hd:=HI.out
   rw [hn.out] at hd
   have hd2:=hd.done
   have Hall:=Hid.mk (And.intro ho (And.intro hf (And.intro hUr (And.intro kk (And.intro hNr (And.intro hM.out hd2))))))
   clear ho hf hUr kk hNr hM hd hd2 HI hr hrr
   go_wp2
   go_ret
   exact ⟨_,vr,dl,M,rfl,Hall.out.1,Hall.out.2.1,Hall.out.2.2.1,Hall.out.2.2.2.1,Hall.out.2.2.2.2.1,Hall.out.2.2.2.2.2.1,Hall.out.2.2.2.2.2.2.1,Hall.out.2.2.2.2.2.2.2⟩
end
end Go.Proofs.YtgpbhlfdlkemjaaGreat
