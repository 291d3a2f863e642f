import Derived.Test.YtgpbhlfdlkemjaaGreatH20
import Derived.Test.YtgpbhlfdlkemjaaGreatH21
/-
 joined, of nodes of every level.
-/
namespace Go.Proofs.YtgpbhlfdlkemjaaGreat
open Go.RowKit
set_option linter.unusedVariables false
set_option maxRecDepth 100000 in
set_option maxHeartbeats 400000 in
theorem joined_none (w:World) (ub:Nat) (a:Option Addr) (c:Nat):Calls Tryz.prog 80 #[Pp ub,.slice a 0 c] w fun e w'=>e=.returned (.slice none 0 0)∧w'=w:=by
 go_enter Tryz.func80,Tryz.ntmps80
 go_wp2_with fail
 go_loopw [5,11] (fun u i wr=>u=.slice none 0 0∧i=.int .i64 0∧w=wr) (fun _ _ _=>0)
 case atStart=>exact ⟨rfl,rfl,rfl⟩
 case round =>
  obtain ⟨rfl,rfl,rfl⟩:=hrel
  go_wp2
  go_ret
  exact ⟨rfl,rfl⟩
theorem rec_zero:RecAt 0:=by
 intro w2 G ρ ub vr left y x hB hU hG hy hx hwy hwx hf hs hl W a n c hn kW ho hfr
 have h0:n=0:=hn
 subst h0
 refine (joined_none W ub a c).mono ?_
 rintro e w' ⟨rfl,rfl⟩
 refine ⟨_,vr,[],[],rfl,ReadsP.nil _,fun g hg=>by simp [Value.ownBlock] at hg,by rw [List.append_nil];exact hU.kept kW (by simp) (by simp),Kept.refl _ _,New.refl _ _,fun g hg=>by simp [Value.ownBlock] at hg,?_⟩
 intro w3 G3 S3 zb k3 hS hmap hzb hb
 refine ⟨(zb,y.2++x.2),rfl,⟨?_,fun i hi=>?_⟩,?_⟩
 ·show IsB w3 G3 zb (ρ zb) 0 ((y.2++x.2).map Itm.ad) []
  rw [List.map_append]
  exact hb
 ·have hi2:IsI w2 G ρ i:=by
   rcases List.mem_append.1 hi with h|h
   ·exact hy.2 i h
   ·exact hx.2 i h
  have h1:IsI w' G3 ρ i:=(hi2.monoS (F':=fun b=>G b∧b<w2.heap.size) fun b hb hg=>⟨hg,hb⟩).kept kW (by simp) |>.mono fun b hb=>hmap b (.inl hb.1) (fun e=>hG b (mem_uf.2 (.inr e)) hb.1) (Nat.lt_of_lt_of_le hb.2 kW.size)
  exact h1.kept k3 hS
 ·rw [List.append_nil]
  exact mg_leaf hwy hf zb hzb
theorem rec_succ {k:Nat} (hk:k≤1000000) (ih:RecAt k):RecAt (k+1):=by
 intro w2 G ρ ub vr left y x hB hU hG hy hx hwy hwx hf hs hl W a n c hn kW ho hfr
 have hUW:=hU.kept kW (by simp) (by simp)
 have hfy:y.2.length*10+x.2.length*10≤236:=hf
 have hua:ua y++ua x=(y.2++x.2).map adr:=by rw [List.map_append];rfl
 rw [hua] at hn ho
 rw [List.length_map] at hn
 have hreg:∀b,G b→b<w2.heap.size→((G b∨w2.heap.size≤b)∧vr.ownBlock≠some b∧b<W.heap.size):=fun b hb hl=>⟨.inl hb,fun e=>hG b (mem_uf.2 (.inr e)) hb,Nat.lt_of_lt_of_le hl kW.size⟩
 have hnms:∀m:Tr (k+1),(nms ρ m).length=(m.2.flatMap (nms ρ)).length+(pn ρ (adr m)).length:=fun m=>by
  show (m.2.flatMap (nms ρ)++pn ρ m.1).length=_
  rw [List.length_append]
  rfl
 refine (joined_walk (w:=W) (F:=fun b=>(G b∨w2.heap.size≤b)∧vr.ownBlock≠some b∧b<W.heap.size) (ρ:=ρ) hk (Hid.mk ih) (Hid.mk (hB.kept kW)) hUW (Hid.mk fun b hb hG2=>?_) (y.2++x.2) (Hid.mk fun m hm=>?_) (Hid.mk fun m hm=>?_) (Hid.mk fun i hi=>?_) a n c (Hid.mk hn) ho.reads (Hid.mk fun g hg hm=>?_) (by rw [hn,List.length_append];omega) (Hid.mk ?_)).mono ?_
 ·rcases mem_uf.1 hb with h|h
  ·subst h
   rcases hG2.1 with h1|h1
   ·exact hG _ (mem_uf.2 (.inl rfl)) h1
   ·have:=hU.lt;omega
  ·exact hG2.2.1 h
 ·have h1:IsN w2 G ρ m:=by
   rcases List.mem_append.1 hm with h|h
   ·exact hy.2 m h
   ·exact hx.2 m h
  exact (h1.monoS (F':=fun b=>(G b∨w2.heap.size≤b)∧vr.ownBlock≠some b∧b<W.heap.size) fun b hb hg=>hreg b hg hb).kept kW (by simp)
 ·rcases List.mem_append.1 hm with h|h
  ·exact hwy.2.2.1 m h
  ·exact hwx.2.2.1 m h
 ·refine hs i ?_
  rw [List.flatMap_append] at hi
  exact hi
 ·have h1:=hfr g hg
  rcases mem_uf.1 hm with h|h
  ·have:=hU.lt;omega
  ·have:=hU.own.lt h;omega
 ·rw [List.length_append,hnms,hnms] at hl
  rw [List.flatMap_append,List.length_append]
  omega
 ·rintro e w' ⟨v,vl',dl,ns,rfl,ho',hf',hU',k',hN',hns,hJ,hP⟩
  refine ⟨v,vl',dl,ns.map adr,rfl,ho'.reads,fun g hg=>Nat.le_trans kW.size (hf' g hg),hU',k',fun g hg=>?_,fun g hg=>⟨fun e=>rows_apart ho' hU'.own (by decide) e hg,ho'.lt hg⟩,?_⟩
  ·rcases hN' g hg with h|h
   ·exact .inl h
   ·exact .inr (Nat.le_trans kW.size h)
  ·intro w3 G3 S3 zb k3 hS hmap hzb hb
   refine ⟨(zb,ns),rfl,⟨hb,fun u hu=>?_⟩,mg_branch hwy hwx hf ns hJ dl hP zb hzb⟩
   have h1:=hns u hu
   have h2:IsN w' G3 ρ u:=h1.monoS fun b hb hG2=>by
    refine hmap b ?_ (hG2.2 vl' (by simp)) hb
    rcases hG2.1 with h|h
    ·exact h.1
    ·exact .inr (Nat.le_trans kW.size h)
   exact h2.kept k3 hS
theorem rec_all:∀k,k≤1000000→RecAt k
 | 0,_=>rec_zero
 | k+1,h=>rec_succ (by omega) (rec_all k (by omega))
section
variable {w:World}{F:Nat→Prop}{ρ:Rho}
theorem joined_any {k:Nat} (hk:k≤1000000) (hB:Blank ρ w) {ub:Nat}{vl:Value}{left:List Nat} (hU:IsU w ub vl left) (hFu:∀x∈uf ub vl,¬F x) (ls:List (Tr k)) (hls:IsNs w F ρ ls) (hW:∀u∈ls,Wf u) (hSz:Sized (ls.flatMap its)) (a:Option Addr) (n c:Nat) (hn:n=ls.length) (hr:ReadsP w (.slice a n c) (ls.map adr)) (hrF:∀g,(Value.slice a n c).ownBlock=some g→g∉uf ub vl) (hl:n≤100000) (hll:left.length+(ls.flatMap (nms ρ)).length≤800000) :
  Calls Tryz.prog 80 #[Pp ub,.slice a n c] w fun e w'=>Joined F ρ w ub vl left ls e w' :=
 joined_walk hk (Hid.mk (rec_all k hk)) (Hid.mk hB) hU (Hid.mk hFu) ls (Hid.mk hls) (Hid.mk hW) (Hid.mk hSz) a n c (Hid.mk hn) hr (Hid.mk hrF) hl (Hid.mk hll)
end
structure ItInv (ρ:Rho) (is:List Itm) (cs:List Chg) (M:List Itm) (d j:Nat) (dl:List Nat):Prop where
 eq:M++mrg (is.drop d) (cs.drop j)=mrg is cs
 le:d≤is.length
 low:∀i∈is.take d,∀c∈cs.drop j,i.key<c.1
 names:((is.take d).flatMap fun i=>pn ρ i.ad).Perm ((M.flatMap fun i=>pn ρ i.ad)++dl)
theorem ItInv.start {ρ:Rho}{is:List Itm}{cs:List Chg}:ItInv ρ is cs [] 0 0 []:=⟨by simp,by omega,by simp,by simp⟩
section
variable {ρ:Rho}{is:List Itm}{cs:List Chg}{M:List Itm}{d j:Nat}{dl:List Nat}{c:Chg}
theorem ItInv.place (h:ItInv ρ is cs M d j dl) (hu:Up is) (hc:cs[j]?=some c):d≤kpl (is.map Itm.key) c.1∧kpl (is.map Itm.key) c.1≤is.length:=by
 have hp:=place_kpl c.1 (List.pairwise_map.2 hu:(is.map Itm.key).Pairwise (·<·))
 refine ⟨?_,by have:=hp.1;rw [List.length_map] at this;exact this⟩
 rcases Nat.lt_or_ge (kpl (is.map Itm.key) c.1) d with hl|hl
 ·have hlt:kpl (is.map Itm.key) c.1<is.length:=Nat.lt_of_lt_of_le hl h.le
  obtain ⟨x,hx⟩:∃x,is[kpl (is.map Itm.key) c.1]?=some x:=⟨_,List.getElem?_eq_getElem hlt⟩
  have h1:=h.low x (by refine List.mem_of_getElem? (i:=kpl (is.map Itm.key) c.1) ?_;rw [List.getElem?_take,if_pos hl];exact hx) c (by refine List.mem_of_getElem? (i:=0) ?_;rw [List.getElem?_drop];exact hc)
  have h2:=(hp.2 _ _ (by rw [List.getElem?_map,hx];rfl)).1 h1
  omega
 ·exact hl
theorem filter_lt_take (hu:Up is) (key:List UInt8):is.filter (fun i=>decide (i.key<key))=is.take (kpl (is.map Itm.key) key):=by
 have hp:=place_kpl key (List.pairwise_map.2 hu:(is.map Itm.key).Pairwise (·<·))
 generalize kpl (is.map Itm.key) key=p at hp
 have h1:(is.take p).filter (fun i=>decide (i.key<key))=is.take p:=filter_all fun i hi=>by
  obtain ⟨q,hq⟩:=List.getElem?_of_mem hi
  rw [List.getElem?_take] at hq
  split at hq
  ·simpa using (hp.2 q i.key (by rw [List.getElem?_map,hq];rfl)).2 (by assumption)
  ·cases hq
 have h2:(is.drop p).filter (fun i=>decide (i.key<key))=[]:=filter_none fun i hi=>by
  obtain ⟨q,hq⟩:=List.getElem?_of_mem hi
  rw [List.getElem?_drop] at hq
  have:=hp.2 (p+q) i.key (by rw [List.getElem?_map,hq];rfl)
  simp only [decide_eq_false_iff_not]
  intro hk
  have:=this.1 hk
  omega
 calc is.filter (fun i=>decide (i.key<key))=(is.take p++is.drop p).filter (fun i=>decide (i.key<key)):=by rw [List.take_append_drop]
  _=is.take p:=by rw [List.filter_append,h1,h2,List.append_nil]
theorem ItInv.step (h:ItInv ρ is cs M d j dl) (hu:Up is) (hcu:ChUp cs) (hc:cs[j]?=some c) (q:Nat) (hq:q=if (is.map Itm.key)[kpl (is.map Itm.key) c.1]?=some c.1 then 1 else 0) (hb:∀i,c.2=some i→pn ρ i.ad=[]) :
  ItInv ρ is cs (M++(is.take (kpl (is.map Itm.key) c.1)).drop d++c.2.toList) (kpl (is.map Itm.key) c.1+q) (j+1) (dl++(((is.drop (kpl (is.map Itm.key) c.1)).take q).flatMap fun i=>pn ρ i.ad)):=by
 have hpl:=h.place hu hc
 have hp:=place_kpl c.1 (List.pairwise_map.2 hu:(is.map Itm.key).Pairwise (·<·))
 have hfil:=filter_lt_take (is:=is) hu c.1
 generalize kpl (is.map Itm.key) c.1=p at *
 have hdc:cs.drop j=c::cs.drop (j+1):=by rw [List.drop_eq_getElem?_toList_append,hc];rfl
 have hud:Up (is.drop d):=List.Pairwise.sublist (List.drop_sublist _ _) hu
 have hplen:p+q≤is.length:=by
  split at hq
  ·rename_i hk
   have:=(List.getElem?_eq_some_iff.1 hk).1
   rw [List.length_map] at this
   omega
  ·omega
 -- the items below, at and above the key
 have hlow:(is.drop d).filter (fun i=>decide (i.key<c.1))=(is.take p).drop d:=by
  have e1:is.filter (fun i=>decide (i.key<c.1))=(is.take d).filter (fun i=>decide (i.key<c.1))++(is.drop d).filter (fun i=>decide (i.key<c.1)):=by rw [←List.filter_append,List.take_append_drop]
  have e2:(is.take d).filter (fun i=>decide (i.key<c.1))=is.take d:=filter_all fun i hi=>by simpa using h.low i hi c (by rw [hdc];simp)
  rw [hfil,e2] at e1
  have e3:is.take p=is.take d++(is.take p).drop d:=by
   have:is.take d=(is.take p).take d:=by rw [List.take_take,Nat.min_eq_left (by omega)]
   rw [this,List.take_append_drop]
  rw [e3] at e1
  exact (List.append_cancel_left e1).symm
 have hhigh:(is.drop d).filter (fun i=>decide (c.1<i.key))=is.drop (p+q):=by
  have e1:is.drop d=(is.take p).drop d++((is.drop p).take q++is.drop (p+q)):=by
   have a1:(is.drop p).take q++is.drop (p+q)=is.drop p:=by rw [←List.drop_drop,List.take_append_drop]
   rw [a1]
   have a2:is=is.take p++is.drop p:=(List.take_append_drop p is).symm
   have a3:(is.take p++is.drop p).drop d=(is.take p).drop d++is.drop p:=List.drop_append_of_le_length (by rw [List.length_take];omega)
   rw [←a3,←a2]
  rw [e1,List.filter_append,List.filter_append]
  have f1:((is.take p).drop d).filter (fun i=>decide (c.1<i.key))=[]:=filter_none fun i hi=>by
   have:i∈(is.drop d).filter (fun i=>decide (i.key<c.1)):=by rw [hlow];exact hi
   have:=(List.mem_filter.1 this).2
   simp at this
   simpa using klt_asymm this
  have f2:((is.drop p).take q).filter (fun i=>decide (c.1<i.key))=[]:=filter_none fun i hi=>by
   split at hq
   ·rename_i hk
    subst hq
    obtain ⟨r,hr⟩:=List.getElem?_of_mem hi
    rw [List.getElem?_take] at hr
    split at hr
    ·have:r=0:=by omega
     subst this
     rw [List.getElem?_drop] at hr
     rw [List.getElem?_map] at hk
     rw [Nat.add_zero] at hr
     rw [hr] at hk
     simp at hk
     simp [hk,klt_irrefl]
    ·cases hr
   ·subst hq;simp at hi
  have f3:(is.drop (p+q)).filter (fun i=>decide (c.1<i.key))=is.drop (p+q):=filter_all fun i hi=>by
   obtain ⟨r,hr⟩:=List.getElem?_of_mem hi
   rw [List.getElem?_drop] at hr
   have hn:¬i.key<c.1:=fun hk=>by have:=(hp.2 (p+q+r) i.key (by rw [List.getElem?_map,hr];rfl)).1 hk;omega
   have hne:i.key≠c.1:=fun e=>by
    split at hq
    ·rename_i hk
     subst hq
     have:=rising_le (List.pairwise_map.2 hu:(is.map Itm.key).Pairwise (·<·)) hk (by rw [List.getElem?_map,hr];rfl:(is.map Itm.key)[p+1+r]?=some i.key) (by omega)
     rw [e] at this
     exact klt_irrefl _ this
    ·rename_i hk
     subst hq
     have hk2:(is.map Itm.key)[p+0+r]?=some c.1:=by rw [List.getElem?_map,hr,Option.map_some,e]
     cases r with
     | zero=>exact hk hk2
     | succ r =>
      obtain ⟨x,hx⟩:∃x,(is.map Itm.key)[p]?=some x:=⟨_,List.getElem?_eq_getElem (by have:=(List.getElem?_eq_some_iff.1 hk2).1;omega)⟩
      have h1:=rising_le (List.pairwise_map.2 hu:(is.map Itm.key).Pairwise (·<·)) hx hk2 (by omega)
      have:=(hp.2 _ _ hx).1 h1
      omega
   simpa using klt_total hn hne
  rw [f1,f2,f3]
  rfl
 refine ⟨?_,hplen,?_,?_⟩
 ·rw [←h.eq,hdc]
  simp only [mrg,hlow,hhigh]
  simp
 ·intro i hi x hx
  have hcx:c.1<x.1:=by
   have:=hcu
   have e1:cs=cs.take j++(c::cs.drop (j+1)):=by rw [←hdc,List.take_append_drop]
   rw [e1] at this
   exact (List.pairwise_cons.1 (List.pairwise_append.1 this).2.1).1 x hx
  obtain ⟨r,hr⟩:=List.getElem?_of_mem hi
  rw [List.getElem?_take] at hr
  split at hr
  ·rename_i hrl
   rcases Nat.lt_or_ge r p with hrp|hrp
   ·exact klt_trans ((hp.2 r i.key (by rw [List.getElem?_map,hr];rfl)).2 hrp) hcx
   ·split at hq
    ·rename_i hk
     have:r=p:=by omega
     subst this
     rw [List.getElem?_map,hr] at hk
     simp at hk
     rw [hk]
     exact hcx
    ·omega
  ·cases hr
 ·have e1:is.take (p+q)=is.take d++((is.take p).drop d++(is.drop p).take q):=by
   have a1:is.take (p+q)=is.take p++(is.drop p).take q:=List.take_add
   have a2:is.take p=is.take d++(is.take p).drop d:=by
    have:is.take d=(is.take p).take d:=by rw [List.take_take,Nat.min_eq_left (by omega)]
    rw [this,List.take_append_drop]
   rw [a1,←List.append_assoc,←a2]
  have hc2:(c.2.toList.flatMap fun i=>pn ρ i.ad)=[]:=by
   cases e:c.2 with
   | none=>rfl
   | some i=>simp [hb i e]
  rw [e1,List.flatMap_append,List.flatMap_append,List.flatMap_append,List.flatMap_append,hc2,List.append_nil]
  refine (h.names.append_right _).trans ?_
  generalize (M.flatMap fun i=>pn ρ i.ad)=A
  generalize (((is.take p).drop d).flatMap fun i=>pn ρ i.ad)=B
  generalize (((is.drop p).take q).flatMap fun i=>pn ρ i.ad)=C
  have:(dl++(B++C)).Perm (B++(dl++C)):=by
   rw [←List.append_assoc,←List.append_assoc]
   exact List.perm_append_comm.append_right C
  simpa using this.append_left A
theorem ItInv.done (h:ItInv ρ is cs M d cs.length dl):M++is.drop d=mrg is cs∧(is.flatMap fun i=>pn ρ i.ad).Perm (((mrg is cs).flatMap fun i=>pn ρ i.ad)++dl):=by
 have e:=h.eq
 rw [List.drop_length] at e
 have e2:M++is.drop d=mrg is cs:=e
 refine ⟨e2,?_⟩
 have e3:(is.flatMap fun i=>pn ρ i.ad)=((is.take d).flatMap fun i=>pn ρ i.ad)++((is.drop d).flatMap fun i=>pn ρ i.ad):=by rw [←List.flatMap_append,List.take_append_drop]
 rw [←e2,List.flatMap_append,e3]
 refine (h.names.append_right _).trans ?_
 rw [List.append_assoc,List.append_assoc]
 exact List.perm_append_comm.append_left _
end
end Go.Proofs.YtgpbhlfdlkemjaaGreat
