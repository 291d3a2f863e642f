import Derived.Test.YtgpbhlfdlkemjaaGreatH22
/-
 items, in memory.
-/
namespace Go.Proofs.YtgpbhlfdlkemjaaGreat
open Go.RowKit
set_option linter.unusedVariables false
theorem cell_new2 (w:World) (a b:Value) (t:TypeId):(w.alloc (.cells #[a,b] t)).cell? ⟨w.heap.size,0,none⟩=some a∧(w.alloc (.cells #[a,b] t)).cell? ⟨w.heap.size,1,none⟩=some b:=by
 constructor<;>(unfold World.cell?;rw [heap_alloc_new];rfl)
section
variable {w:World}{F:Nat→Prop}{ρ:Rho}
set_option maxRecDepth 100000 in
set_option maxHeartbeats 4000000 in
theorem items_any {ub:Nat}{vl:Value}{left:List Nat} (hU:IsU w ub vl left) (hFu:Hid (∀x∈uf ub vl,¬F x)) {n:Tr 0} (hN:IsN w F ρ n) (hup:Up n.2) (hlen:n.2.length≤100000) (a:Option Addr) (m c:Nat) (cs:List Chg) (hm:Hid (m=cs.length)) (hC:HoldsC w (.slice a m c) cs) (hFc:Hid (∀g,(Value.slice a m c).ownBlock=some g→g∉uf ub vl)) (hml:m≤100000) (hcu:ChUp cs) (hcb:Hid (∀x∈cs,∀i,x.2=some i→pn ρ i.ad=[])) (hll:left.length≤100000) :
  Calls Tryz.prog 121 #[Pp ub,Pp n.1,.slice a m c] w fun e w'=>∃(v vl':Value) (dl:List Nat),e=.returned v∧OwnsP 100 w' v ((mrg n.2 cs).map Itm.ad)∧Fresh w v∧IsU w' ub vl' (left++dl)∧Kept (uf ub vl) w w'∧New w vl vl'∧(n.2.flatMap fun i=>pn ρ i.ad).Perm (((mrg n.2 cs).flatMap fun i=>pn ρ i.ad)++dl):=by
 obtain ⟨aI,cI,aU,cU,c2,c3,c4,r3,r4⟩:=hN.lf
 have hub:=hU.lt
 have hcap:n.2.length≤cI:=by
  obtain ⟨a',c',h1,h2,_⟩:=r3.form
  rw [List.length_map] at h1 h2
  injection h1 with _ _ h3
  omega
 have hFn:Hid (F n.1∧(n.2≠[]→∀g,(Value.slice aI n.2.length cI).ownBlock=some g→F g)):=Hid.mk (by
  obtain ⟨vi,vu,h1,_,_,h4,h5,_⟩:=hN.1
  have:w.cell? ⟨n.1,3,none⟩=some vi:=by simp [World.cell?,h1]
  rw [c3] at this
  injection this with this
  subst this
  exact ⟨h4,fun hne=>h5 (by simpa using hne)⟩)
 have HM0:Hid (∀(M:List Itm) (d j:Nat) (dl:List Nat),ItInv ρ n.2 cs M d j dl→M.length≤200000∧dl.length≤200000):=Hid.mk fun M d j dl h=>by
  have h1:(mrg n.2 cs).length≤200000:=by
   have:=sum_mrg (fun _=>1) cs n.2
   rw [sum_ones,sum_ones] at this
   have h2:(cs.map fun c=>(c.2.toList.map fun _=>1).sum).sum≤cs.length:=by
    have:=sum_ge (fun c:Chg=>(c.2.toList.map fun _=>1).sum) (fun _=>1) cs fun c _=>by cases c.2<;>simp
    rw [sum_ones] at this
    exact this
   have:=hm.out
   omega
  have h3:=congrArg List.length h.eq
  rw [List.length_append] at h3
  refine ⟨by omega,?_⟩
  have h4:=h.names.length_eq
  rw [List.length_append] at h4
  have h5:((n.2.take d).flatMap fun i=>pn ρ i.ad).length≤n.2.length:=by
   have:∀l:List Itm,(l.flatMap fun i=>pn ρ i.ad).length≤l.length:=fun l=>by
    induction l with
    | nil=>simp
    | cons i r ih =>
     have:(pn ρ i.ad).length≤1:=by unfold pn;split<;>simp
     simp only [List.flatMap_cons,List.length_append,List.length_cons]
     omega
   have h6:=this (n.2.take d)
   rw [List.length_take] at h6
   omega
  omega
 have HU:=Hid.mk hup
 have HCU:=Hid.mk hcu
 clear hup hcu r4 c2 c4
 obtain ⟨N,HNN⟩:∃N,Hid (n.2.length=N):=⟨_,rfl⟩
 obtain ⟨A,HA⟩:∃A,Hid (n.1=A):=⟨_,rfl⟩
 rw [HNN.out] at hlen c3 r3 hcap hFn
 rw [HA.out] at c3 hFn ⊢
 go_enter Tryz.func121,Tryz.ntmps121
 go_wp2_with fail
 go_loopw [7,8,15] (fun u dv i wr=>∃(j d:Nat) (M:List Itm) (vr:Value) (dl:List Nat),i=.int .i64 (j:Int)∧dv=.int .i64 (d:Int)∧j≤m∧Hid (ItInv ρ n.2 cs M d j dl)∧OwnsP 100 wr u (M.map Itm.ad)∧Fresh w u∧IsU wr ub vr (left++dl)∧Kept (uf ub vl) w wr∧New w vl vr) (fun _ _ i _=>m-(intOf i).toNat)
 case atStart=>exact ⟨0,0,[],vl,[],rfl,rfl,by omega,Hid.mk ItInv.start,OwnsP.nil _ _,fun g hg=>by simp [Value.ownBlock] at hg,by rw [List.append_nil];exact hU,Kept.refl _ w,New.refl w vl⟩
 case round =>
  obtain ⟨j,d,M,vr,dl,rfl,rfl,hj,HI,ho,hf,hUr,k,hNr⟩:=hrel
  have hCr:=hC.kept k hFc.out
  have hMl:=(HM0.out M d j dl HI.out).1
  have hDl:=(HM0.out M d j dl HI.out).2
  have hdle:=HI.out.le
  rw [HNN.out] at hdle
  have hNw:=hN.kept k hFu.out
  by_cases hlt:j<m
  ·obtain ⟨x,hx⟩:∃x,cs[j]?=some x:=⟨_,List.getElem?_eq_getElem (by have:=hm.out;omega)⟩
   obtain ⟨b,o,rfl,hc0,hc1⟩:=hCr.at hm.out hx
   obtain ⟨key,it⟩:=x
   have hpl:=HI.out.place HU.out hx
   rw [HNN.out] at hpl
   have hst:=fun q hq=>HI.out.step HU.out HCU.out hx q hq (fun i e=>hcb.out _ (List.mem_of_getElem? hx) i e)
   have HST:=Hid.mk hst
   clear hst hx
   have hurw:∀g,u7.ownBlock=some g→g<wr.heap.size:=fun g hg=>ho.lt hg
   have hvrw:∀g,vr.ownBlock=some g→g<wr.heap.size:=fun g hg=>hUr.own.lt hg
   have hwr:=k.size
   cases it with
   | none =>
    change wr.cell? _=some (.pointer none) at hc1
    go_wp2_with fail
    have k1:=(Kept.refl [] wr).alloc (.cells #[.string ⟨key.toArray⟩,.pointer none] 143)
    have hx0:(wr.alloc (.cells #[.string ⟨key.toArray⟩,.pointer none] 143)).cell? ⟨wr.heap.size,0,none⟩=some (.string ⟨key.toArray⟩):=(cell_new2 wr _ _ 143).1
    have hx1:(wr.alloc (.cells #[.string ⟨key.toArray⟩,.pointer none] 143)).cell? ⟨wr.heap.size,1,none⟩=some (.pointer none):=(cell_new2 wr _ _ 143).2
    have hN1:=hNw.kept k1 (by simp)
    have ho1:=ho.kept k1 (by simp)
    have hU1:=hUr.kept k1 (by simp) (by simp)
    have hz1:(wr.alloc (.cells #[.string ⟨key.toArray⟩,.pointer none] 143)).heap.size=wr.heap.size+1:=by simp
    have kw1:=k.trans k1 (by simp)
    have hit:=itemAt_any hN1 HU.out (by have:=HNN.out;omega) key
    rw [HA.out] at hit
    have c31:(wr.alloc (.cells #[.string ⟨key.toArray⟩,.pointer none] 143)).cell? ⟨A,3,none⟩=some (.slice aI N cI):=by
     rw [kw1.cell (World.block_lt_of_cell? w _ c3) (fun hm=>hFu.out _ hm hFn.out.1)]
     exact c3
    have r31:ReadsP (wr.alloc (.cells #[.string ⟨key.toArray⟩,.pointer none] 143)) (.slice aI N cI) (n.2.map Itm.ad):=r3.keptE kw1 (fun hne g hg hm=>hFu.out g hm (hFn.out.2 (by simpa using hne) g hg))
    clear ho hUr hCr hNw
    generalize wr.alloc (.cells #[.string ⟨key.toArray⟩,.pointer none] 143)=W1 at *
    clear hc0 hc1
    obtain ⟨p,hp⟩:∃p,Hid (kpl (n.2.map Itm.key) key=p):=⟨_,rfl⟩
    rw [hp.out] at hpl hit HST
    have hsl:=fun W=>run_cutM rt111 W aI N cI d p hpl.1 (by omega)
    have hrd:=ReadsP.cut (by rw [List.length_map,HNN.out]) r31 hpl.1 hpl.2 (by omega:p≤cI) (Nat.le_refl cI)
    rw [←List.map_take,←List.map_drop] at hrd
    obtain ⟨ad,c6,w6,hrun,ho6,k6,hN6⟩:=run_appendP rt111 W1 111 u7 (M.map Itm.ad) ho1 _ _ hrd (by rw [List.length_map,List.length_map,List.length_drop,List.length_take];have:=HNN.out;omega)
    rw [←List.map_append] at ho6
    have hu7:∀y∈u7.ownBlock.toList,w.heap.size≤y∧y<wr.heap.size:=fun y hy=>⟨hf y (by simpa using hy),hurw y (by simpa using hy)⟩
    have hz:w.heap.size≤wr.heap.size:=hwr
    have hf6:Fresh w (.slice ad ((M.map Itm.ad).length+(((n.2.take p).drop d).map Itm.ad).length) c6):=fun g hg=>by
     rcases hN6 g hg with h|h
     ·exact hf g h
     ·omega
    have hU6:=hU1.kept k6 (fun hm=>by have:=(hu7 _ hm).1;omega) (fun g hg hm=>rows_apart ho1 hU1.own (by decide) hg (by simpa using hm))
    have kw6:Kept (uf ub vl) w w6:=kw1.trans k6 (fun y hy=>.inr (hu7 y hy).1)
    have hx6:w6.cell? ⟨wr.heap.size,1,none⟩=some (.pointer none):=by
     rw [k6.cell (World.block_lt_of_cell? W1 _ hx1) (fun hm=>absurd (hu7 _ hm).2 (Nat.lt_irrefl _))]
     exact hx1
    have hz6:wr.heap.size<w6.heap.size:=by have:=k6.size;omega
    have hlm:M.length+((n.2.take p).drop d).length≤400000:=by rw [List.length_drop,List.length_take];have:=HNN.out;omega
    generalize hLL:M++(n.2.take p).drop d=LL at *
    have hLn:LL.length≤400000:=by rw [←hLL,List.length_append];exact hlm
    clear hLL hlm
    generalize (M.map Itm.ad).length+(((n.2.take p).drop d).map Itm.ad).length=tl at *
    generalize (((n.2.take p).drop d).map Itm.ad).length=tl2 at *
    generalize cutA aI cI d 1=a3 at *
    clear hrd k6 hN6 ho1 hU1 kw1 r31 HI hN1 k1 k
    by_cases hfd:(n.2.map Itm.key)[p]?=some key
    ·rw [decide_eq_true hfd] at hit
     have hlt3:p<N:=by have:=(List.getElem?_eq_some_iff.1 hfd).1;rwa [List.length_map,HNN.out] at this
     obtain ⟨y,hy⟩:∃y,n.2[p]?=some y:=⟨_,List.getElem?_eq_getElem (by have:=HNN.out;omega)⟩
     have HI2:=Hid.mk (HST.out 1 (if_pos hfd).symm)
     have hny:=(hN.2 y (List.mem_of_getElem? hy)).kept kw6 hFu.out
     obtain ⟨ay,cy,y0,y1,-,-,-⟩:=hny.cells
     have c36:w6.cell? ⟨A,3,none⟩=some (.slice aI N cI):=by
      rw [kw6.cell (World.block_lt_of_cell? w _ c3) (fun hm=>hFu.out _ hm hFn.out.1)]
      exact c3
     obtain ⟨by_,oy,cy2,ey,hyc⟩:=(r3.keptE kw6 (fun hne g hg hm=>hFu.out g hm (hFn.out.2 (by simpa using hne) g hg))).at p y.ad (by rw [List.getElem?_map,hy];rfl)
     rw [List.length_map,HNN.out] at ey
     injection ey with ey _ ey2
     subst ey ey2
     have hlv:=leave_any hU6 (by rw [List.length_append];omega) (ρ y.ad).1 (ρ y.ad).2
     have hdl:(((n.2.drop p).take 1).flatMap fun i=>pn ρ i.ad)=if (ρ y.ad).1=0 then [] else [(ρ y.ad).1]:=by
      rw [List.drop_eq_getElem?_toList_append,hy]
      simp [pn]
     rw [hdl] at HI2
     rw [List.append_assoc] at hlv
     clear hfd hdl hny hy HST
     generalize (if (ρ y.ad).1=0 then ([]:List Nat) else [(ρ y.ad).1])=dn at *
     generalize (ρ y.ad).1=yn at *
     generalize (ρ y.ad).2=ys at *
     generalize y.ad=ya at *
     obtain ⟨q1,hq1⟩:∃q:Nat,Hid (p-d=q):=⟨_,rfl⟩
     rw [hq1.out] at hsl hrun
     generalize cI-d=q2 at *
     refine hit.mono ?_
     rintro e w' ⟨rfl,rfl⟩
     go_wp2_with (at_builtin;refine wpList_append_run 111 _ _ rfl rfl _ _ rfl rfl _ _ hrun ?_)
     refine hlv.mono ?_
     rintro e w7 ⟨rfl,vl7,hU7,k7,hN7⟩
     have ho7:=ho6.kept k7 (fun g hg hm=>by
      rcases mem_uf.1 hm with h|h
      ·have:=hf6 g hg;omega
      ·exact rows_apart ho6 hU6.own (by decide) h hg)
     have hx7:w7.cell? ⟨wr.heap.size,1,none⟩=some (.pointer none):=by
      rw [k7.cell (World.block_lt_of_cell? w6 _ hx6) (fun hm=>by
       rcases mem_uf.1 hm with h|h
       ·have h1:wr.heap.size=ub:=h
        omega
       ·have:=hvrw _ h;simp at this)]
      exact hx6
     have kw7:Kept (uf ub vl) w w7:=kw6.trans k7 (fun y hy=>by
      rcases mem_uf.1 hy with h|h
      ·exact .inl (mem_uf.2 (.inl h))
      ·rcases hNr _ h with h1|h1
       ·exact .inl (mem_uf.2 (.inr h1))
       ·exact .inr h1)
     have hN7w:New w vl vl7:=hNr.trans hN7 (by have:=k7.size;have:=kw6.size;omega)
     clear ho6 hU6 kw6 k7 hN7 hx6 c36 hyc y0 y1 hlv hit hsl
     have hz7:wr.heap.size<w7.heap.size:=World.block_lt_of_cell? w7 _ hx7
     have HI3:Hid (ItInv ρ n.2 cs LL (p+1) (j+1) _):=Hid.mk (by have h:=HI2.out;rw [Option.toList_none,List.append_nil] at h;exact h)
     have Hall:=Hid.mk (And.intro ho7 (And.intro hf6 (And.intro hU7 (And.intro kw7 hN7w))))
     clear ho7 hU7 kw7
     go_wp2
     go_roundw
     case rel=>exact ⟨j+1,p+1,LL,vl7,_,by go_num,by go_num,by omega,HI3,Hall.out⟩
     case measure=>simp [intOf];omega
    ·rw [decide_eq_false hfd] at hit
     have HI2:=Hid.mk (HST.out 0 (if_neg hfd).symm)
     have hdl:(((n.2.drop p).take 0).flatMap fun i=>pn ρ i.ad)=[]:=rfl
     rw [hdl,List.append_nil,Nat.add_zero] at HI2
     clear hfd hdl HST
     obtain ⟨q1,hq1⟩:∃q:Nat,Hid (p-d=q):=⟨_,rfl⟩
     rw [hq1.out] at hsl hrun
     generalize cI-d=q2 at *
     refine hit.mono ?_
     rintro e w' ⟨rfl,rfl⟩
     clear hit
     have HI3:Hid (ItInv ρ n.2 cs LL (p) (j+1) _):=Hid.mk (by have h:=HI2.out;rw [Option.toList_none,List.append_nil] at h;exact h)
     have Hall:=Hid.mk (And.intro ho6 (And.intro hf6 (And.intro hU6 (And.intro kw6 hNr))))
     clear ho6 hU6 kw6
     go_wp2_with (at_builtin;refine wpList_append_run 111 _ _ rfl rfl _ _ rfl rfl _ _ hrun ?_)
     go_roundw
     case rel=>exact ⟨j+1,p,LL,vr,_,by go_num,rfl,by omega,HI3,Hall.out⟩
     case measure=>simp [intOf];omega
   | some i =>
    change wr.cell? _=some (.pointer (some ⟨i.ad,0,none⟩)) at hc1
    go_wp2_with fail
    have k1:=(Kept.refl [] wr).alloc (.cells #[.string ⟨key.toArray⟩,.pointer (some ⟨i.ad,0,none⟩)] 143)
    have hx0:(wr.alloc (.cells #[.string ⟨key.toArray⟩,.pointer (some ⟨i.ad,0,none⟩)] 143)).cell? ⟨wr.heap.size,0,none⟩=some (.string ⟨key.toArray⟩):=(cell_new2 wr _ _ 143).1
    have hx1:(wr.alloc (.cells #[.string ⟨key.toArray⟩,.pointer (some ⟨i.ad,0,none⟩)] 143)).cell? ⟨wr.heap.size,1,none⟩=some (.pointer (some ⟨i.ad,0,none⟩)):=(cell_new2 wr _ _ 143).2
    have hN1:=hNw.kept k1 (by simp)
    have ho1:=ho.kept k1 (by simp)
    have hU1:=hUr.kept k1 (by simp) (by simp)
    have hz1:(wr.alloc (.cells #[.string ⟨key.toArray⟩,.pointer (some ⟨i.ad,0,none⟩)] 143)).heap.size=wr.heap.size+1:=by simp
    have kw1:=k.trans k1 (by simp)
    have hit:=itemAt_any hN1 HU.out (by have:=HNN.out;omega) key
    rw [HA.out] at hit
    have c31:(wr.alloc (.cells #[.string ⟨key.toArray⟩,.pointer (some ⟨i.ad,0,none⟩)] 143)).cell? ⟨A,3,none⟩=some (.slice aI N cI):=by
     rw [kw1.cell (World.block_lt_of_cell? w _ c3) (fun hm=>hFu.out _ hm hFn.out.1)]
     exact c3
    have r31:ReadsP (wr.alloc (.cells #[.string ⟨key.toArray⟩,.pointer (some ⟨i.ad,0,none⟩)] 143)) (.slice aI N cI) (n.2.map Itm.ad):=r3.keptE kw1 (fun hne g hg hm=>hFu.out g hm (hFn.out.2 (by simpa using hne) g hg))
    clear ho hUr hCr hNw
    generalize wr.alloc (.cells #[.string ⟨key.toArray⟩,.pointer (some ⟨i.ad,0,none⟩)] 143)=W1 at *
    clear hc0 hc1
    obtain ⟨p,hp⟩:∃p,Hid (kpl (n.2.map Itm.key) key=p):=⟨_,rfl⟩
    rw [hp.out] at hpl hit HST
    have hsl:=fun W=>run_cutM rt111 W aI N cI d p hpl.1 (by omega)
    have hrd:=ReadsP.cut (by rw [List.length_map,HNN.out]) r31 hpl.1 hpl.2 (by omega:p≤cI) (Nat.le_refl cI)
    rw [←List.map_take,←List.map_drop] at hrd
    obtain ⟨ad,c6,w6,hrun,ho6,k6,hN6⟩:=run_appendP rt111 W1 111 u7 (M.map Itm.ad) ho1 _ _ hrd (by rw [List.length_map,List.length_map,List.length_drop,List.length_take];have:=HNN.out;omega)
    rw [←List.map_append] at ho6
    have hu7:∀y∈u7.ownBlock.toList,w.heap.size≤y∧y<wr.heap.size:=fun y hy=>⟨hf y (by simpa using hy),hurw y (by simpa using hy)⟩
    have hz:w.heap.size≤wr.heap.size:=hwr
    have hf6:Fresh w (.slice ad ((M.map Itm.ad).length+(((n.2.take p).drop d).map Itm.ad).length) c6):=fun g hg=>by
     rcases hN6 g hg with h|h
     ·exact hf g h
     ·omega
    have hU6:=hU1.kept k6 (fun hm=>by have:=(hu7 _ hm).1;omega) (fun g hg hm=>rows_apart ho1 hU1.own (by decide) hg (by simpa using hm))
    have kw6:Kept (uf ub vl) w w6:=kw1.trans k6 (fun y hy=>.inr (hu7 y hy).1)
    have hx6:w6.cell? ⟨wr.heap.size,1,none⟩=some (.pointer (some ⟨i.ad,0,none⟩)):=by
     rw [k6.cell (World.block_lt_of_cell? W1 _ hx1) (fun hm=>absurd (hu7 _ hm).2 (Nat.lt_irrefl _))]
     exact hx1
    have hz6:wr.heap.size<w6.heap.size:=by have:=k6.size;omega
    have hlm:M.length+((n.2.take p).drop d).length≤400000:=by rw [List.length_drop,List.length_take];have:=HNN.out;omega
    generalize hLL:M++(n.2.take p).drop d=LL at *
    have hLn:LL.length≤400000:=by rw [←hLL,List.length_append];exact hlm
    clear hLL hlm
    generalize (M.map Itm.ad).length+(((n.2.take p).drop d).map Itm.ad).length=tl at *
    generalize (((n.2.take p).drop d).map Itm.ad).length=tl2 at *
    generalize cutA aI cI d 1=a3 at *
    clear hrd k6 hN6 ho1 hU1 kw1 r31 HI hN1 k1 k
    by_cases hfd:(n.2.map Itm.key)[p]?=some key
    ·rw [decide_eq_true hfd] at hit
     have hlt3:p<N:=by have:=(List.getElem?_eq_some_iff.1 hfd).1;rwa [List.length_map,HNN.out] at this
     obtain ⟨y,hy⟩:∃y,n.2[p]?=some y:=⟨_,List.getElem?_eq_getElem (by have:=HNN.out;omega)⟩
     have HI2:=Hid.mk (HST.out 1 (if_pos hfd).symm)
     have hny:=(hN.2 y (List.mem_of_getElem? hy)).kept kw6 hFu.out
     obtain ⟨ay,cy,y0,y1,-,-,-⟩:=hny.cells
     have c36:w6.cell? ⟨A,3,none⟩=some (.slice aI N cI):=by
      rw [kw6.cell (World.block_lt_of_cell? w _ c3) (fun hm=>hFu.out _ hm hFn.out.1)]
      exact c3
     obtain ⟨by_,oy,cy2,ey,hyc⟩:=(r3.keptE kw6 (fun hne g hg hm=>hFu.out g hm (hFn.out.2 (by simpa using hne) g hg))).at p y.ad (by rw [List.getElem?_map,hy];rfl)
     rw [List.length_map,HNN.out] at ey
     injection ey with ey _ ey2
     subst ey ey2
     have hlv:=leave_any hU6 (by rw [List.length_append];omega) (ρ y.ad).1 (ρ y.ad).2
     have hdl:(((n.2.drop p).take 1).flatMap fun i=>pn ρ i.ad)=if (ρ y.ad).1=0 then [] else [(ρ y.ad).1]:=by
      rw [List.drop_eq_getElem?_toList_append,hy]
      simp [pn]
     rw [hdl] at HI2
     rw [List.append_assoc] at hlv
     clear hfd hdl hny hy HST
     generalize (if (ρ y.ad).1=0 then ([]:List Nat) else [(ρ y.ad).1])=dn at *
     generalize (ρ y.ad).1=yn at *
     generalize (ρ y.ad).2=ys at *
     generalize y.ad=ya at *
     obtain ⟨q1,hq1⟩:∃q:Nat,Hid (p-d=q):=⟨_,rfl⟩
     rw [hq1.out] at hsl hrun
     generalize cI-d=q2 at *
     refine hit.mono ?_
     rintro e w' ⟨rfl,rfl⟩
     go_wp2_with (at_builtin;refine wpList_append_run 111 _ _ rfl rfl _ _ rfl rfl _ _ hrun ?_)
     refine hlv.mono ?_
     rintro e w7 ⟨rfl,vl7,hU7,k7,hN7⟩
     have ho7:=ho6.kept k7 (fun g hg hm=>by
      rcases mem_uf.1 hm with h|h
      ·have:=hf6 g hg;omega
      ·exact rows_apart ho6 hU6.own (by decide) h hg)
     have hx7:w7.cell? ⟨wr.heap.size,1,none⟩=some (.pointer (some ⟨i.ad,0,none⟩)):=by
      rw [k7.cell (World.block_lt_of_cell? w6 _ hx6) (fun hm=>by
       rcases mem_uf.1 hm with h|h
       ·have h1:wr.heap.size=ub:=h
        omega
       ·have:=hvrw _ h;simp at this)]
      exact hx6
     have kw7:Kept (uf ub vl) w w7:=kw6.trans k7 (fun y hy=>by
      rcases mem_uf.1 hy with h|h
      ·exact .inl (mem_uf.2 (.inl h))
      ·rcases hNr _ h with h1|h1
       ·exact .inl (mem_uf.2 (.inr h1))
       ·exact .inr h1)
     have hN7w:New w vl vl7:=hNr.trans hN7 (by have:=k7.size;have:=kw6.size;omega)
     clear ho6 hU6 kw6 k7 hN7 hx6 c36 hyc y0 y1 hlv hit hsl
     have hz7:wr.heap.size<w7.heap.size:=World.block_lt_of_cell? w7 _ hx7
     obtain ⟨a8,c8,w8,hrun8,ho8,k8,hN8⟩:=append_ptr rt111 ho7 i.ad (by rw [List.length_map];omega) 100 (0,0) 111
     have ho9:OwnsP 100 w8 (.slice a8 ((LL.map Itm.ad).length+1) c8) ((LL++[i]).map Itm.ad):=by rw [List.map_append];exact ho8
     have hu8:∀y∈(Value.slice ad tl c6).ownBlock.toList,w.heap.size≤y:=fun y hy=>hf6 y (by simpa using hy)
     have hf8:Fresh w (.slice a8 ((LL.map Itm.ad).length+1) c8):=fun g hg=>by
      rcases hN8 g hg with h|h
      ·exact hf6 g h
      ·omega
     have hU8:=hU7.kept k8 (fun hm=>by have:=hu8 _ hm;omega) (fun g hg hm=>rows_apart ho7 hU7.own (by decide) hg (by simpa using hm))
     have kw8:Kept (uf ub vl) w w8:=kw7.trans k8 (fun y hy=>.inr (hu8 y hy))
     have Hall:=Hid.mk (And.intro ho9 (And.intro hf8 (And.intro hU8 (And.intro kw8 hN7w))))
     generalize (LL.map Itm.ad).length+1=tl9 at *
     clear ho8 ho9 hf8 hU8 kw8 k8 hN8 hu8 ho7 hU7 kw7
     go_wp2_with (at_builtin;refine wpList_append_run 111 _ _ rfl rfl _ _ rfl rfl _ _ hrun8 ?_)
     go_roundw
     case rel=>exact ⟨j+1,p+1,_,vl7,_,by go_num,by go_num,by omega,HI2,Hall.out⟩
     case measure=>simp [intOf];omega
    ·rw [decide_eq_false hfd] at hit
     have HI2:=Hid.mk (HST.out 0 (if_neg hfd).symm)
     have hdl:(((n.2.drop p).take 0).flatMap fun i=>pn ρ i.ad)=[]:=rfl
     rw [hdl,List.append_nil,Nat.add_zero] at HI2
     clear hfd hdl HST
     obtain ⟨q1,hq1⟩:∃q:Nat,Hid (p-d=q):=⟨_,rfl⟩
     rw [hq1.out] at hsl hrun
     generalize cI-d=q2 at *
     refine hit.mono ?_
     rintro e w' ⟨rfl,rfl⟩
     clear hit
     obtain ⟨a8,c8,w8,hrun8,ho8,k8,hN8⟩:=append_ptr rt111 ho6 i.ad (by rw [List.length_map];omega) 100 (0,0) 111
     have ho9:OwnsP 100 w8 (.slice a8 ((LL.map Itm.ad).length+1) c8) ((LL++[i]).map Itm.ad):=by rw [List.map_append];exact ho8
     have hu8:∀y∈(Value.slice ad tl c6).ownBlock.toList,w.heap.size≤y:=fun y hy=>hf6 y (by simpa using hy)
     have hf8:Fresh w (.slice a8 ((LL.map Itm.ad).length+1) c8):=fun g hg=>by
      rcases hN8 g hg with h|h
      ·exact hf6 g h
      ·omega
     have hU8:=hU6.kept k8 (fun hm=>by have:=hu8 _ hm;omega) (fun g hg hm=>rows_apart ho6 hU6.own (by decide) hg (by simpa using hm))
     have kw8:Kept (uf ub vl) w w8:=kw6.trans k8 (fun y hy=>.inr (hu8 y hy))
     have Hall:=Hid.mk (And.intro ho9 (And.intro hf8 (And.intro hU8 (And.intro kw8 hNr))))
     generalize (LL.map Itm.ad).length+1=tl9 at *
     clear ho8 ho9 hf8 hU8 kw8 k8 hN8 hu8 ho6 hU6 kw6
     go_wp2_with (first|(at_builtin;refine wpList_append_run 111 _ _ rfl rfl _ _ rfl rfl _ _ hrun ?_;clear hrun)|(at_builtin;refine wpList_append_run 111 _ _ rfl rfl _ _ rfl rfl _ _ hrun8 ?_))
     go_roundw
     case rel=>exact ⟨j+1,p,_,vr,_,by go_num,rfl,by omega,HI2,Hall.out⟩
     case measure=>simp [intOf];omega
  ·obtain rfl:j=m:=by omega
   have hdone:=HI.out
   rw [hm.out] at hdone
   have hd2:=hdone.done
   obtain ⟨c3w,r3w⟩:wr.cell? ⟨A,3,none⟩=some (.slice aI N cI)∧ReadsP wr (.slice aI N cI) (n.2.map Itm.ad):=by
    refine ⟨?_,r3.keptE k (fun hne g hg hm=>hFu.out g hm (hFn.out.2 (by simpa using hne) g hg))⟩
    rw [k.cell (World.block_lt_of_cell? w _ c3) (fun hm=>hFu.out _ hm hFn.out.1)]
    exact c3
   have hsl:=fun W=>run_cutL rt111 W aI N cI d hdle
   have hrd:=ReadsP.cut (by rw [List.length_map,HNN.out]) r3w hdle (Nat.le_refl _) hcap (Nat.le_refl cI)
   rw [List.take_of_length_le (by rw [List.length_map,HNN.out];exact Nat.le_refl _),←List.map_drop] at hrd
   obtain ⟨ad,c6,w6,hrun,ho6,k6,hN6⟩:=run_appendP rt111 wr 111 u7 (M.map Itm.ad) ho _ _ hrd (by rw [List.length_map,List.length_map,List.length_drop];have:=HNN.out;omega)
   rw [←List.map_append,hd2.1] at ho6
   have hu7:∀y∈u7.ownBlock.toList,w.heap.size≤y:=fun y hy=>hf y (by simpa using hy)
   have hf6:Fresh w (.slice ad ((M.map Itm.ad).length+((n.2.drop d).map Itm.ad).length) c6):=fun g hg=>by
    rcases hN6 g hg with h|h
    ·exact hf g h
    ·exact Nat.le_trans k.size h
   have hU6:=hUr.kept k6 (fun hm=>by have:=hu7 _ hm;omega) (fun g hg hm=>rows_apart ho hUr.own (by decide) hg (by simpa using hm))
   have Hall:=Hid.mk (And.intro ho6 (And.intro hf6 (And.intro hU6 (And.intro (k.trans k6 (fun y hy=>.inr (hu7 y hy)):Kept (uf ub vl) w w6) (And.intro hNr hd2.2)))))
   generalize (M.map Itm.ad).length+((n.2.drop d).map Itm.ad).length=tl at *
   generalize hq:cutA aI cI d 1=a3 at *
   generalize ((n.2.drop d).map Itm.ad).length=tl2 at *
   have hlen2:∃q:Nat,q=N-d:=⟨_,rfl⟩
   obtain ⟨q1,hq1⟩:=hlen2
   rw [←hq1] at hsl hrun
   have H1:=Hid.mk hq1
   generalize cI-d=q2 at *
   clear hq hq1 ho6 hf6 hU6 k6 hN6 hu7 hrd r3w hd2 hdone ho hUr hCr hNw HI r3 hC c3
   go_wp2_with (at_builtin;refine wpList_append_run 111 _ _ rfl rfl _ _ rfl rfl _ _ hrun ?_)
   go_ret
   exact ⟨_,vr,dl,rfl,Hall.out⟩
end
end Go.Proofs.YtgpbhlfdlkemjaaGreat
