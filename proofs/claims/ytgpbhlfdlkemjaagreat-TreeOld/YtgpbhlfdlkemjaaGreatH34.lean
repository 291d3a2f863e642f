import Derived.BigQuiet
import Derived.Test.YtgpbhlfdlkemjaaGreatH30
import Derived.Test.YtgpbhlfdlkemjaaGreatH33
/-
 asked: what stands against changes that rise by their keys.
-/
namespace Go.Proofs.YtgpbhlfdlkemjaaGreat
open Go.RowKit
set_option linter.unusedVariables false
def Okt (l:List Cq) (j:Nat):Prop:=(∀x∈l.take j,1≤x.c.key.length∧x.c.key.length≤64)∧(l.take j).Pairwise fun a b=>a.c.key<b.c.key
theorem Okt.zero (l:List Cq):Okt l 0:=by simp [Okt]
theorem Okt.next {l:List Cq}{j:Nat} (h:Okt l j) {x:Cq} (hx:l[j]?=some x) (hk:1≤x.c.key.length∧x.c.key.length≤64) (hp:j=0∨∃y,l[j-1]?=some y∧y.c.key<x.c.key):Okt l (j+1):=by
 obtain ⟨h1,h2⟩:=h
 unfold Okt
 rw [tsnoc hx]
 refine ⟨fun y hy=>?_,List.pairwise_append.2 ⟨h2,by simp,fun a ha b hb=>?_⟩⟩
 ·rcases List.mem_append.1 hy with hy|hy
  ·exact h1 y hy
  ·simp at hy;subst hy;exact hk
 ·simp at hb
  subst hb
  rcases hp with rfl|⟨y,hy,hlt⟩
  ·simp at ha
  ·by_cases hj:j=0
   ·subst hj;simp at ha
   ·obtain ⟨i,rfl⟩:∃i,j=i+1:=⟨j-1,by omega⟩
    rw [Nat.add_sub_cancel] at hy
    rw [tsnoc hy] at ha h2
    rcases List.mem_append.1 ha with ha|ha
    ·exact klt_trans ((List.pairwise_append.1 h2).2.2 a ha y (by simp)) hlt
    ·simp at ha;subst ha;exact hlt
theorem Okt.good {l:List Cq} (h:Okt l l.length):¬BadQ (l.map Cq.c):=by
 unfold Okt at h
 rw [List.take_length] at h
 rintro (⟨c,hc,hk⟩|hn)
 ·obtain ⟨x,hx,rfl⟩:=List.mem_map.1 hc
  have:=h.1 x hx
  omega
 ·refine hn ?_
  rw [List.map_map]
  refine List.pairwise_map.2 (h.2.imp ?_)
  intro a b hab e
  have e':a.c.key=b.c.key:=e
  rw [e'] at hab
  exact klt_irrefl _ hab
theorem not_long {l:List Cq}{j:Nat} (hj:l.length≤j) (h:∀x∈l.take j,x.c.val.length≤20000):¬LongQ (l.map Cq.c):=by
 rintro ⟨c,hc,hk⟩
 obtain ⟨x,hx,rfl⟩:=List.mem_map.1 hc
 rw [List.take_of_length_le hj] at h
 have:=h x hx
 omega
theorem cell_new3 (w:World) (a b c:Value) (t:TypeId):(w.alloc (.cells #[a,b,c] t)).cell? ⟨w.heap.size,0,none⟩=some a∧(w.alloc (.cells #[a,b,c] t)).cell? ⟨w.heap.size,1,none⟩=some b∧(w.alloc (.cells #[a,b,c] t)).cell? ⟨w.heap.size,2,none⟩=some c:=by
 refine ⟨?_,?_,?_⟩<;>(unfold World.cell?;rw [heap_alloc_new];rfl)
section
variable {w:World}
set_option maxRecDepth 100000 in
set_option maxHeartbeats 2000000 in
theorem asked_any {a:Option Addr}{N c:Nat}{l:List Cq} (hr:RowQ w (.slice a N c) l) (hN:Hid (N=l.length)) (hl:N≤900000) (hs:Hid (l.Pairwise fun a b=>¬b.c.key<a.c.key)):Calls Tryz.prog 46 #[.slice a N c] w fun e w'=>∃er:Int,e=.returned (.int .i64 er)∧WrongIs (l.map Cq.c) er∧Kept [] w w':=by
 have HRD:Hid (∀W,Kept [] w W→RowQ W (.slice a N c) l):=Hid.mk fun W kW=>hr.kept kW (by simp)
 clear hr
 go_enter Tryz.func46,Tryz.ntmps46
 go_wp2_with fail
 go_loopw [9] (fun i wr=>∃j:Nat,i=.int .i64 (j:Int)∧j≤N∧Hid (Okt l j)∧Kept [] w wr) (fun i _=>N-(intOf i).toNat)
 case atStart=>exact ⟨0,rfl,by omega,Hid.mk (Okt.zero l),Kept.refl [] w⟩
 case round =>
  obtain ⟨j,rfl,hj,hO,kk⟩:=hrel
  by_cases hlt:j<N
  ·obtain ⟨x,hx⟩:∃x,l[j]?=some x:=⟨_,List.getElem?_eq_getElem (by have:=hN.out;omega)⟩
   have HX:=Hid.mk hx
   obtain ⟨b,o,rfl,c0,c1,c2⟩:=(HRD.out wr kk).at hx
   have hnew:=cell_new3 wr (Sv x.c.key) (.slice x.ad x.c.val.length x.cap) (.bool x.c.gone) 61
   have kk1:=kk.alloc (.cells #[Sv x.c.key,.slice x.ad x.c.val.length x.cap,.bool x.c.gone] 61)
   have HBAD:Hid ((x.c.key.length=0∨64<x.c.key.length∨∃y,0<j∧l[j-1]?=some y∧y.c.key=x.c.key)→WrongIs (l.map Cq.c) 1):=Hid.mk fun h=>.inl ⟨by
    rcases h with h|h|⟨y,h0,hy,e⟩
    ·exact .inl ⟨x.c,List.mem_map_of_mem (List.mem_of_getElem? HX.out),.inl h⟩
    ·exact .inl ⟨x.c,List.mem_map_of_mem (List.mem_of_getElem? HX.out),.inr h⟩
    ·refine .inr fun hn=>?_
     rw [List.map_map] at hn
     have h1:=(List.getElem?_eq_some_iff.1 HX.out)
     have h2:=(List.getElem?_eq_some_iff.1 hy)
     have h3:=List.pairwise_iff_getElem.1 (List.pairwise_map.1 hn) (j-1) j h2.1 h1.1 (by omega)
     rw [h2.2,h1.2] at h3
     exact h3 e,rfl⟩
   by_cases hk0:x.c.key.length=0
   ·have hF:=Hid.mk (HBAD.out (.inl hk0))
    have hke:x.c.key=[]:=List.eq_nil_of_length_eq_zero hk0
    rw [hke] at c0 hnew kk1
    have HK1:=Hid.mk kk1
    clear HBAD hk0 hke hx kk1 HX
    generalize x.ad=va at *
    generalize x.cap=vc at *
    generalize x.c.val.length=vl at *
    generalize x.c.gone=gn at *
    go_wp2_with fail
    generalize wr.alloc (.cells #[Sv [],.slice va vl vc,.bool gn] 61)=W1 at *
    obtain ⟨n0,n1,n2⟩:=hnew
    go_quiet (fail)
    go_wp2
    go_ret
    exact ⟨1,rfl,hF.out,HK1.out.drewN _⟩
   ·have hne:x.c.key.isEmpty=false:=by cases e:x.c.key with|nil=>rw [e] at hk0;simp at hk0|cons _ _=>rfl
    by_cases hk1:64<x.c.key.length
    ·have hF:=Hid.mk (HBAD.out (.inr (.inl hk1)))
     have i1:(64:Int)<(x.c.key.length:Int):=by omega
     have HK1:=Hid.mk kk1
     clear HBAD hk0 hx kk1 HX
     generalize x.ad=va at *
     generalize x.cap=vc at *
     generalize x.c.val.length=vl at *
     generalize x.c.gone=gn at *
     generalize x.c.key=key at *
     go_wp2_with fail
     generalize wr.alloc (.cells #[Sv key,.slice va vl vc,.bool gn] 61)=W1 at *
     obtain ⟨n0,n1,n2⟩:=hnew
     go_quiet (fail)
     go_wp2
     go_ret
     exact ⟨1,rfl,hF.out,HK1.out.drewN _⟩
    ·have i1:decide ((64:Int)<(x.c.key.length:Int))=false:=by simp;omega
     have HNX:Hid ((j=0∨∃y,l[j-1]?=some y∧y.c.key≠x.c.key)→Okt l (j+1)):=Hid.mk fun h=>hO.out.next HX.out (by omega) (by
      rcases h with h|⟨y,hy,hn⟩
      ·exact .inl h
      ·by_cases h0:j=0
       ·exact .inl h0
       ·refine .inr ⟨y,hy,?_⟩
        have h1:=(List.getElem?_eq_some_iff.1 HX.out)
        have h2:=(List.getElem?_eq_some_iff.1 hy)
        have h3:=List.pairwise_iff_getElem.1 hs.out (j-1) j h2.1 h1.1 (by omega)
        rw [h2.2,h1.2] at h3
        exact klt_total h3 (fun e=>hn e.symm))
     by_cases hj0:j=0
     ·have HO1:=Hid.mk (HNX.out (.inl hj0))
      have hjn:decide (0<j)=false:=by simp;omega
      have HK1:=Hid.mk kk1
      clear HBAD hk0 hk1 hx kk1 HX HNX hO hj0
      generalize x.ad=va at *
      generalize x.cap=vc at *
      generalize x.c.val.length=vl at *
      generalize x.c.gone=gn at *
      generalize x.c.key=key at *
      go_wp2_with fail
      generalize wr.alloc (.cells #[Sv key,.slice va vl vc,.bool gn] 61)=W1 at *
      obtain ⟨n0,n1,n2⟩:=hnew
      go_quiet (fail)
      go_wp2
      go_roundw
      case rel=>exact ⟨j+1,by go_num,by omega,HO1,HK1.out.drewN _⟩
      case measure=>simp [intOf];omega
     ·obtain ⟨y,hy⟩:∃y,l[j-1]?=some y:=⟨_,List.getElem?_eq_getElem (by have:=hN.out;omega)⟩
      obtain ⟨b',o',e',d0,-,-⟩:=(HRD.out _ kk1).at hy
      injection e' with e'
      injection e' with e1 e2 _
      subst e1 e2
      have hjp:(0:Int)<(j:Int):=by omega
      have hjq:0<j:=by omega
      have i5:IntKind.i64.wrap ((j:Int)-1)=((j-1:Nat):Int):=by rw [IntKind.wrap_i64];omega
      have i6:((j-1:Nat):Int)<(N:Int):=by omega
      by_cases hyk:y.c.key=x.c.key
      ·have hF:=Hid.mk (HBAD.out (.inr (.inr ⟨y,by omega,hy,hyk⟩)))
       rw [hyk] at d0
       have HK1:=Hid.mk kk1
       clear HBAD hk0 hk1 hx kk1 HX HNX hO hy hyk
       generalize x.ad=va at *
       generalize x.cap=vc at *
       generalize x.c.val.length=vl at *
       generalize x.c.gone=gn at *
       generalize x.c.key=key at *
       go_wp2_with fail
       generalize wr.alloc (.cells #[Sv key,.slice va vl vc,.bool gn] 61)=W1 at *
       obtain ⟨n0,n1,n2⟩:=hnew
       generalize j-1=jp at *
       go_quiet (fail)
       go_wp2
       go_ret
       exact ⟨1,rfl,hF.out,HK1.out.drewN _⟩
      ·have HO1:=Hid.mk (HNX.out (.inr ⟨y,hy,hyk⟩))
       have hne2:=str_ne y.c.key x.c.key hyk
       have hne3:(y.c.key == x.c.key)=false:=by simpa using hyk
       have hne4:decide (y.c.key=x.c.key)=false:=by simpa using hyk
       have HK1:=Hid.mk kk1
       clear HBAD hk0 hk1 hx kk1 HX HNX hO hy hyk
       generalize x.ad=va at *
       generalize x.cap=vc at *
       generalize x.c.val.length=vl at *
       generalize x.c.gone=gn at *
       generalize x.c.key=key at *
       generalize y.c.key=ykey at *
       go_wp2_with fail
       generalize wr.alloc (.cells #[Sv key,.slice va vl vc,.bool gn] 61)=W1 at *
       obtain ⟨n0,n1,n2⟩:=hnew
       generalize j-1=jp at *
       go_quiet (fail)
       go_wp2
       go_roundw
       case rel=>exact ⟨j+1,by go_num,by omega,HO1,HK1.out.drewN _⟩
       case measure=>simp [intOf];omega
  ·obtain rfl:j=N:=by omega
   have HG:Hid (¬BadQ (l.map Cq.c)):=Hid.mk (by have h:=hO.out;rw [hN.out] at h;exact h.good)
   have HK1:=Hid.mk kk
   clear hO kk
   go_wp2_with fail
   go_loopw [41] (fun i wr2=>∃m:Nat,i=.int .i64 (m:Int)∧m≤j∧Hid (∀x∈l.take m,x.c.val.length≤20000)∧Kept [] w wr2) (fun i _=>j-(intOf i).toNat)
   case atStart=>exact ⟨0,rfl,by omega,Hid.mk (by simp),HK1.out⟩
   case round =>
    obtain ⟨m,rfl,hm,hO,kk⟩:=hrel
    by_cases hlt2:m<j
    ·obtain ⟨x,hx⟩:∃x,l[m]?=some x:=⟨_,List.getElem?_eq_getElem (by have:=hN.out;omega)⟩
     obtain ⟨b,o,rfl,c0,c1,c2⟩:=(HRD.out _ kk).at hx
     by_cases hv:20000<x.c.val.length
     ·have hF:Hid (WrongIs (l.map Cq.c) 4):=Hid.mk (.inr (.inl ⟨HG.out,⟨x.c,List.mem_map_of_mem (List.mem_of_getElem? hx),hv⟩,rfl⟩))
      have i1:(20000:Int)<(x.c.val.length:Int):=by omega
      have kk1:=Hid.mk (kk.alloc (.cells #[Sv x.c.key,.slice x.ad x.c.val.length x.cap,.bool x.c.gone] 61))
      clear hx hv
      generalize x.ad=va at *
      generalize x.cap=vc at *
      generalize x.c.val.length=vl at *
      generalize x.c.gone=gn at *
      generalize x.c.key=key at *
      go_wp2
      go_ret
      exact ⟨4,rfl,hF.out,kk1.out⟩
     ·have HO1:Hid (∀x∈l.take (m+1),x.c.val.length≤20000):=Hid.mk (by
       rw [tsnoc hx]
       intro y hy
       rcases List.mem_append.1 hy with hy|hy
       ·exact hO.out y hy
       ·simp at hy;subst hy;omega)
      have i1:¬(20000:Int)<(x.c.val.length:Int):=by omega
      have kk1:=Hid.mk (kk.alloc (.cells #[Sv x.c.key,.slice x.ad x.c.val.length x.cap,.bool x.c.gone] 61))
      clear hx hv hO
      generalize x.ad=va at *
      generalize x.cap=vc at *
      generalize x.c.val.length=vl at *
      generalize x.c.gone=gn at *
      generalize x.c.key=key at *
      go_wp2
      go_roundw
      case rel=>exact ⟨m+1,by go_num,by omega,HO1,kk1.out⟩
      case measure=>simp [intOf];omega
    ·obtain rfl:m=j:=by omega
     have hF:Hid (WrongIs (l.map Cq.c) 0):=Hid.mk (.inr (.inr ⟨HG.out,not_long (by have:=hN.out;omega) hO.out,rfl⟩))
     go_wp2
     go_ret
     exact ⟨0,rfl,hF.out,kk⟩
end
structure ChAt (ρ:Rho) (w:World) (is:List Itm) (rs:List Cq) (j:Nat) (wr:World) (v:Value) (cs:List Chg):Prop where
 own:OwnsR 143 2 wr v (CC cs)
 fresh:Fresh w v
 kept:Kept [] w wr
 eq:cs.map chV=(((rs.take j).map Cq.c).filter (chg is)).map asC
 items:∀c∈cs,∀i,c.2=some i→IsI wr (fun b=>w.heap.size≤b∧v.ownBlock≠some b) ρ i∧i.key=c.1∧w.heap.size≤i.ad
section
variable {ρ:Rho}{w wr w1 w2:World}{is:List Itm}{rs:List Cq}{j:Nat}{v:Value}{cs:List Chg}{x:Cq}
theorem ChAt.start:ChAt ρ w is rs 0 w (.slice none 0 0) []:=⟨OwnsR.nil _ _ _,fun g hg=>by simp [Value.ownBlock] at hg,Kept.refl [] w,by simp,by simp⟩
theorem ChAt.len (h:ChAt ρ w is rs j wr v cs):cs.length≤j:=by
 have h1:=congrArg List.length h.eq
 rw [List.length_map,List.length_map] at h1
 have h2:=List.length_filter_le (chg is) ((rs.take j).map Cq.c)
 rw [List.length_map,List.length_take] at h2
 omega
theorem ChAt.kept' (h:ChAt ρ w is rs j wr v cs) (k:Kept [] wr w1):ChAt ρ w is rs j w1 v cs :=
 ⟨h.own.kept k (by simp),h.fresh,h.kept.trans k (by simp),h.eq,fun c hc i e=>by obtain ⟨h1,h2⟩:=h.items c hc i e;exact ⟨h1.kept k (by simp),h2⟩⟩
theorem filter_snoc (hx:rs[j]?=some x):((rs.take (j+1)).map Cq.c).filter (chg is)=((rs.take j).map Cq.c).filter (chg is)++(if chg is x.c=true then [x.c] else []):=by
 rw [tsnoc hx,List.map_append,List.filter_append]
 simp only [List.map_cons,List.map_nil,List.filter_cons,List.filter_nil]
theorem ChAt.skip (h:ChAt ρ w is rs j wr v cs) (hx:rs[j]?=some x) (hc:chg is x.c=false) (k:Kept [] wr w1):ChAt ρ w is rs (j+1) w1 v cs:=by
 obtain ⟨h1,h2,h3,h4,h5⟩:=h.kept' k
 exact ⟨h1,h2,h3,by rw [filter_snoc hx,hc];simpa using h4,h5⟩
theorem ChAt.more (h:ChAt ρ w is rs j wr v cs) (hx:rs[j]?=some x) (hc:chg is x.c=true) (k:Kept [] wr w1) (c:Chg) (hcv:chV c=asC x.c) (hi:∀i,c.2=some i→IsI w1 (fun b=>wr.heap.size≤b) ρ i∧i.key=c.1∧wr.heap.size≤i.ad) (hj:j≤900000) (ty:TypeId) :
  ∃ad cp w2,(Builtin.append_ #[86,86] ty #[v,.slice (some ⟨w1.heap.size,0,none⟩) 1 1]).run Tryz.prog (w1.alloc (.cells #[Sv c.1,ptr c.2] 143))=.ok (.slice ad (cs.length+1) cp) w2∧ChAt ρ w is rs (j+1) w2 (.slice ad (cs.length+1) cp) (cs++[c]):=by
 have h1:=h.kept' k
 have hlen:=h.len
 obtain ⟨ad,cp,w2,hrun,ho,k2,hN⟩:=append_rowR rt86 h1.own [Sv c.1,ptr c.2] rfl (fun u hu=>by
  simp at hu
  rcases hu with rfl|rfl
  ·rfl
  ·exact ptr_one _) (by rw [CC_length];omega) 143 (0,0) ty
 rw [CC_length] at hrun ho hN
 have hvl:∀g,v.ownBlock=some g→w.heap.size≤g∧g<wr.heap.size:=fun g hg=>⟨h.fresh g hg,h.own.lt hg⟩
 have hz:=h.kept.size
 have hz1:=k.size
 refine ⟨ad,cp,w2,hrun,⟨by rw [CC_append];exact ho,fun g hg=>?_,h1.kept.trans k2 (fun b hb=>.inr (hvl b (by simpa using hb)).1),?_,fun d hd i e=>?_⟩⟩
 ·rcases hN g hg with h2|h2
  ·exact (hvl g h2).1
  ·omega
 ·rw [filter_snoc hx,if_pos hc,List.map_append,List.map_append,h.eq]
  simp [hcv]
 ·rcases List.mem_append.1 hd with hd|hd
  ·obtain ⟨g1,g2,g3⟩:=h1.items d hd i e
   refine ⟨((g1.monoS (F':=fun b=>(w.heap.size≤b∧v.ownBlock≠some b)∧b<w1.heap.size) (fun b hb hf=>⟨hf,hb⟩)).kept k2 (fun b hb hf=>hf.1.2 (by simpa using hb))).mono (fun b hb=>⟨hb.1.1,fun e=>?_⟩),g2,g3⟩
   rcases hN b e with h2|h2
   ·exact hb.1.2 h2
   ·have:=hb.2;omega
  ·simp at hd
   subst hd
   obtain ⟨g1,g2,g3⟩:=hi i e
   refine ⟨((g1.monoS (F':=fun b=>wr.heap.size≤b∧b<w1.heap.size) (fun b hb hf=>⟨hf,hb⟩)).kept k2 (fun b hb hf=>by have:=(hvl b (by simpa using hb)).2;have:=hf.1;omega)).mono (fun b hb=>⟨Nat.le_trans hz hb.1,fun e=>?_⟩),g2,by omega⟩
   rcases hN b e with h2|h2
   ·have:=(hvl b h2).2;have:=hb.1;omega
   ·have:=hb.2;omega
theorem ChAt.done (h:ChAt ρ w is rs j wr v cs) (hj:rs.length≤j) (hup:rs.Pairwise fun a b=>a.c.key<b.c.key):cs.map chV=((rs.map Cq.c).filter (chg is)).map asC∧ChUp cs∧ChOk cs:=by
 have e:=h.eq
 rw [List.take_of_length_le hj] at e
 refine ⟨e,?_,fun c hc i ei=>(h.items c hc i ei).2.1⟩
 have h1:((rs.map Cq.c).filter (chg is)).Pairwise fun a b=>a.key<b.key:=List.Pairwise.sublist List.filter_sublist (List.pairwise_map.2 hup)
 have h2:(((rs.map Cq.c).filter (chg is)).map asC).Pairwise fun a b=>a.1<b.1:=List.pairwise_map.2 h1
 rw [←e] at h2
 exact (List.pairwise_map (f:=chV) (R:=fun a b=>a.1<b.1)).1 h2
end
end Go.Proofs.YtgpbhlfdlkemjaaGreat
