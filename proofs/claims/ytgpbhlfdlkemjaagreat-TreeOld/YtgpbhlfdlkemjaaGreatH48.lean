import Derived.Test.YtgpbhlfdlkemjaaGreatH26
import Derived.Test.YtgpbhlfdlkemjaaGreatH31
import Derived.Test.YtgpbhlfdlkemjaaGreatH47
/-
 The refs of a tree that is loaded, and of nothing else.
-/
namespace Go.Proofs.YtgpbhlfdlkemjaaGreat
open Go.RowKit
set_option linter.unusedVariables false
def cutR (l:List Nat) (ρ:Rho):Rho:=fun b=>if b∈l then ρ b else (0,0)
theorem cutR_in {l:List Nat}{ρ:Rho}{b:Nat} (h:b∈l):cutR l ρ b=ρ b:=if_pos h
theorem cutR_out {l:List Nat}{ρ:Rho}{b:Nat} (h:b∉l):cutR l ρ b=(0,0):=if_neg h
theorem rho_agree {w:World}{F:Nat→Prop}{ρ ρ2:Rho}:{k:Nat}→{t:Tr k}→(∀b∈blks t,ρ2 b=ρ b)→(IsN w F ρ t→IsN w F ρ2 t)∧nms ρ2 t=nms ρ t∧form ρ2 t=form ρ t∧(Named ρ t→Named ρ2 t)
 | 0,t,h=>by
  have h0:ρ2 t.1=ρ t.1:=h _ (by simp [blks])
  have hi:∀i∈t.2,ρ2 i.ad=ρ i.ad:=fun i hi=>h _ (List.mem_cons_of_mem _ (List.mem_map.2 ⟨i,hi,rfl⟩))
  refine ⟨fun hN=>⟨by rw [h0];exact hN.1,fun i him=>?_⟩,?_,List.map_congr_left fun i him=>by rw [hi i him],fun hn=>⟨fun i him=>by rw [hi i him];exact hn.1 i him,by rw [h0];exact hn.2⟩⟩
  ·have:=hN.2 i him
   unfold IsI at this ⊢
   rw [hi i him]
   exact this
  ·show (t.2.flatMap fun i=>pn ρ2 i.ad)++pn ρ2 t.1=(t.2.flatMap fun i=>pn ρ i.ad)++pn ρ t.1
   have e1:pn ρ2 t.1=pn ρ t.1:=by unfold pn;rw [h0]
   have e2:(t.2.flatMap fun i=>pn ρ2 i.ad)=t.2.flatMap fun i=>pn ρ i.ad:=by
    rw [List.flatMap_def,List.flatMap_def]
    congr 1
    exact List.map_congr_left fun i him=>by unfold pn;rw [hi i him]
   rw [e1,e2]
 | k+1,t,h=>by
  have h0:ρ2 t.1=ρ t.1:=h _ (by simp [blks])
  have hu:∀u∈t.2,∀b∈blks u,ρ2 b=ρ b:=fun u hu b hb=>h _ (List.mem_cons_of_mem _ (List.mem_flatMap.2 ⟨u,hu,hb⟩))
  refine ⟨fun hN=>⟨by rw [h0];exact hN.1,fun u hum=>(rho_agree (hu u hum)).1 (hN.2 u hum)⟩,?_,List.map_congr_left fun u hum=>?_,fun hn=>⟨fun u hum=>(rho_agree (w:=w) (F:=F) (hu u hum)).2.2.2 (hn.1 u hum),by rw [h0];exact hn.2⟩⟩
  ·show t.2.flatMap (nms ρ2)++pn ρ2 t.1=t.2.flatMap (nms ρ)++pn ρ t.1
   have e1:pn ρ2 t.1=pn ρ t.1:=by unfold pn;rw [h0]
   have e2:t.2.flatMap (nms ρ2)=t.2.flatMap (nms ρ):=by
    rw [List.flatMap_def,List.flatMap_def]
    congr 1
    exact List.map_congr_left fun u hum=>(rho_agree (w:=w) (F:=F) (hu u hum)).2.1
   rw [e1,e2]
  ·rw [(rho_agree (w:=w) (F:=F) (hu u hum)).2.2.1,hu u hum _ (blks_self u)]
theorem form_rho {D:Nat→Prop}{tx:Nat→List UInt8}{ρ ρ':Rho}:{k:Nat}→{t t':Tr k}→form ρ' t'=formR ρ t→LaidN D tx ρ t→((ρ' (adr t')).1<65536∧(ρ' (adr t')).2<18446744073709551616)→∀b∈blks t',(ρ' b).1<65536∧(ρ' b).2<18446744073709551616
 | 0,t,t',h,hl,h0,b,hb=>by
  rcases List.mem_cons.1 hb with rfl|hb
  ·exact h0
  ·obtain ⟨i,hi,rfl⟩:=List.mem_map.1 hb
   have h':(t'.2.map fun i=>(i.key,i.val,ρ' i.ad))=t.2.map fun i=>(i.key,i.val,refOf ρ i):=h
   have hm:(i.key,i.val,ρ' i.ad)∈t'.2.map fun i=>(i.key,i.val,ρ' i.ad):=List.mem_map.2 ⟨i,hi,rfl⟩
   rw [h'] at hm
   obtain ⟨x,hx,e⟩:=List.mem_map.1 hm
   simp only [Prod.mk.injEq] at e
   rw [←e.2.2]
   have hk:=(hl.1.1 x hx).1
   unfold refOf
   by_cases hg:lng x=true
   ·rw [if_pos hg]
    exact hk.2.2.2
   ·rw [if_neg hg]
    exact ⟨by decide,by decide⟩
 | k+1,t,t',h,hl,h0,b,hb=>by
  rcases List.mem_cons.1 hb with rfl|hb
  ·exact h0
  ·obtain ⟨u',hu',hb⟩:=List.mem_flatMap.1 hb
   obtain ⟨u,hu,e1,e2⟩:=form_kid h hu'
   have hk:=hl.1.1 u hu
   exact form_rho e2 hk.2 (by rw [e1];exact ⟨hk.1.2.2.2.1,hk.1.2.2.2.2⟩) b hb
theorem LoadP.own {D:Nat→Prop}{tx:Nat→List UInt8}{ρ:Rho}{K:Nat}{t:Tr K}{nm top:Nat}{w w':World} (hT:TreeAt D tx ρ t nm) (h:LoadP (aim ρ t nm (fnv (tx nm)) w.heap.size) w t top w'):Kept [] w w'∧∃(ρ':Rho) (t':Tr K),adr t'=top∧IsN w' (fun x=>w.heap.size≤x∧x<w'.heap.size) ρ' t'∧(its t').map (fun i=>(i.key,i.val))=(its t).map (fun i=>(i.key,i.val))∧(nms ρ' t').Perm (nm::toRead ρ [t])∧ρ' (adr t')=(nm,fnv (tx nm))∧form ρ' t'=formR ρ t∧Wf t'∧Named ρ' t'∧Blank ρ' w'∧RhoOk ρ':=by
 obtain ⟨k,ρ',t',h1,h2,h3,h4,h5,h6,h7,h8⟩:=h.all hT
 have hag:∀b∈blks t',cutR (blks t') ρ' b=ρ' b:=fun b hb=>cutR_in hb
 obtain ⟨a1,a2,a3,a4⟩:=rho_agree (w:=w') (F:=fun x=>w.heap.size≤x∧x<w'.heap.size) hag
 refine ⟨k,cutR (blks t') ρ',t',h1,a1 h2,h3,by rw [a2];exact h4,by rw [hag _ (blks_self t')];exact h5,by rw [a3];exact h6,h7,a4 h8,fun b hb=>cutR_out fun hm=>?_,fun b=>?_⟩
 ·have:=blks_lt h2 hm
  omega
 ·by_cases hm:b∈blks t'
  ·rw [hag b hm]
   have:=form_rho h6 hT.laid (by rw [h5];exact ⟨hT.nmb,fnv_lt _⟩) b hm
   exact ⟨by omega,this.2⟩
  ·rw [cutR_out hm]
   exact ⟨by decide,by decide⟩
def pbl:{k:Nat}→Tr k→List Nat
 | 0,n=>n.1::(n.2.filter lng).map Itm.ad
 | k+1,n=>n.1::n.2.flatMap (pbl (k:=k))
def LaidT (L:List Ent) (ρ:Rho):UInt8→{k:Nat}→Tr k→Prop
 | kd,0,n=>(ρ n.1).1≠0∧(∃bs,((ρ n.1).1,bs,encNode kd ρ (k:=0) n)∈L∧(ρ n.1).2=fnv (encNode kd ρ (k:=0) n))∧∀i∈n.2,lng i=true→(ρ i.ad).1≠0∧∃bs,((ρ i.ad).1,bs,1::i.val.drop 1)∈L∧(ρ i.ad).2=fnv (1::i.val.drop 1)
 | kd,k+1,n=>(ρ n.1).1≠0∧(∃bs,((ρ n.1).1,bs,encNode kd ρ (k:=k+1) n)∈L∧(ρ n.1).2=fnv (encNode kd ρ (k:=k+1) n))∧∀u∈n.2,LaidT L ρ 3 (k:=k) u
theorem LaidT.own {L:List Ent}{ρ:Rho}{kd:UInt8}:{k:Nat}→{n:Tr k}→LaidT L ρ kd n→(ρ (adr n)).1≠0∧∃bs,((ρ (adr n)).1,bs,encNode kd ρ n)∈L∧(ρ (adr n)).2=fnv (encNode kd ρ n)
 | 0,_,h=>⟨h.1,h.2.1⟩
 | _+1,_,h=>⟨h.1,h.2.1⟩
theorem LaidT.kids {L:List Ent}{ρ:Rho}{kd:UInt8}:{k:Nat}→{n:Tr k}→LaidT L ρ kd n→Kids ρ n
 | 0,_,h=>fun i hi hl=>(h.2.2 i hi hl).1
 | _+1,_,h=>fun u hu=>(h.2.2 u hu).own.1
theorem pbl_self:{k:Nat}→(n:Tr k)→adr n∈pbl n
 | 0,_=>List.mem_cons_self
 | _+1,_=>List.mem_cons_self
theorem pbl_blks:{k:Nat}→{n:Tr k}→∀b∈pbl n,b∈blks n
 | 0,n,b,hb=>by
  rcases List.mem_cons.1 hb with rfl|hb
  ·exact List.mem_cons_self
  ·obtain ⟨i,hi,rfl⟩:=List.mem_map.1 hb
   exact List.mem_cons_of_mem _ (List.mem_map.2 ⟨i,(List.mem_filter.1 hi).1,rfl⟩)
 | k+1,n,b,hb=>by
  rcases List.mem_cons.1 hb with rfl|hb
  ·exact List.mem_cons_self
  ·obtain ⟨u,hu,hb⟩:=List.mem_flatMap.1 hb
   exact List.mem_cons_of_mem _ (List.mem_flatMap.2 ⟨u,hu,pbl_blks b hb⟩)
section
variable {w:World}{F:Nat→Prop}{ρ:Rho}
theorem blks_sub {b:Nat}:{k:Nat}→{n:Tr k}→IsN w F ρ n→Wf n→b∈blks n→(∃i∈its n,IsI w F ρ i∧i.ad=b)∨∃(j:Nat) (m:Tr j),IsN w F ρ m∧Wf m∧adr m=b∧(∀x∈blks m,x∈blks n)∧∀i∈its m,i∈its n
 | 0,n,h,hw,hb=>by
  rcases List.mem_cons.1 hb with rfl|hb
  ·exact .inr ⟨0,n,h,hw,rfl,fun _ h=>h,fun _ h=>h⟩
  ·obtain ⟨i,hi,rfl⟩:=List.mem_map.1 hb
   exact .inl ⟨i,hi,h.2 i hi,rfl⟩
 | k+1,n,h,hw,hb=>by
  rcases List.mem_cons.1 hb with rfl|hb
  ·exact .inr ⟨k+1,n,h,hw,rfl,fun _ h=>h,fun _ h=>h⟩
  ·obtain ⟨u,hu,hb⟩:=List.mem_flatMap.1 hb
   rcases blks_sub (h.2 u hu) (hw.2.2.1 u hu) hb with ⟨i,hi,h1,h2⟩|⟨j,m,h1,h2,h3,h4,h5⟩
   ·exact .inl ⟨i,List.mem_flatMap.2 ⟨u,hu,hi⟩,h1,h2⟩
   ·exact .inr ⟨j,m,h1,h2,h3,fun x hx=>List.mem_cons_of_mem _ (List.mem_flatMap.2 ⟨u,hu,h4 x hx⟩),fun i hi=>List.mem_flatMap.2 ⟨u,hu,h5 i hi⟩⟩
theorem LaidT.find {L:List Ent}{b:Nat}:{k:Nat}→{n:Tr k}→{kd:UInt8}→LaidT L ρ kd n→IsN w F ρ n→b∈pbl n →
  (∃i∈its n,IsI w F ρ i∧i.ad=b∧lng i=true∧∃bs,((ρ b).1,bs,1::i.val.drop 1)∈L∧(ρ b).2=fnv (1::i.val.drop 1)) ∨
  ∃(j:Nat) (m:Tr j) (kd':UInt8),IsN w F ρ m∧adr m=b∧Kids ρ m∧(b=adr n∧kd'=kd∨kd'=3)∧∃bs,((ρ b).1,bs,encNode kd' ρ m)∈L∧(ρ b).2=fnv (encNode kd' ρ m)
 | 0,n,kd,hl,h,hb=>by
  rcases List.mem_cons.1 hb with rfl|hb
  ·exact .inr ⟨0,n,kd,h,rfl,hl.kids,.inl ⟨rfl,rfl⟩,hl.own.2⟩
  ·obtain ⟨i,hi,rfl⟩:=List.mem_map.1 hb
   have hi:=List.mem_filter.1 hi
   exact .inl ⟨i,hi.1,h.2 i hi.1,rfl,hi.2,(hl.2.2 i hi.1 hi.2).2⟩
 | k+1,n,kd,hl,h,hb=>by
  rcases List.mem_cons.1 hb with rfl|hb
  ·exact .inr ⟨k+1,n,kd,h,rfl,hl.kids,.inl ⟨rfl,rfl⟩,hl.own.2⟩
  ·obtain ⟨u,hu,hb⟩:=List.mem_flatMap.1 hb
   rcases LaidT.find (hl.2.2 u hu) (h.2 u hu) hb with ⟨i,hi,h1⟩|⟨j,m,kd',h1,h2,h3,h4,h5⟩
   ·exact .inl ⟨i,List.mem_flatMap.2 ⟨u,hu,hi⟩,h1⟩
   ·exact .inr ⟨j,m,kd',h1,h2,h3,.inr (by rcases h4 with h4|h4;exact h4.2;exact h4),h5⟩
theorem blks_nodup:{k:Nat}→{n:Tr k}→IsN w F ρ n→Wf n→Up (its n)→(blks n).Nodup
 | 0,n,h,hw,hu=>by
  refine List.nodup_cons.2 ⟨fun hm=>?_,?_⟩
  ·obtain ⟨i,hi,e⟩:=List.mem_map.1 hm
   exact h.noItem (h.2 i hi) e.symm
  ·have hu':n.2.Pairwise fun a b=>a.key<b.key:=hu
   rw [List.nodup_iff_pairwise_ne,List.pairwise_map]
   refine hu'.imp_of_mem fun {a b} ha hb hab e=>?_
   have:=(h.2 a ha).det (h.2 b hb) e
   rw [this] at hab
   exact klt_irrefl _ hab
 | k+1,n,h,hw,hu=>by
  refine List.nodup_cons.2 ⟨fun hm=>?_,?_⟩
  ·obtain ⟨u,hu',hb⟩:=List.mem_flatMap.1 hm
   exact blks_below h hu' hb
  ·have hu':(n.2.flatMap its).Pairwise fun a b=>a.key<b.key:=hu
   have hIH:∀u∈n.2,(blks u).Nodup:=fun u hu2=>blks_nodup (h.2 u hu2) (hw.2.2.1 u hu2) (hu'.sublist (List.sublist_flatten_of_mem (List.mem_map.2 ⟨u,hu2,rfl⟩)))
   have hP:n.2.Pairwise fun u v=>∀i∈its u,∀j∈its v,i.key<j.key:=by
    have:=List.pairwise_flatMap.1 hu'
    exact this.2
   rw [List.nodup_iff_pairwise_ne,List.pairwise_flatMap]
   refine ⟨fun u hu2=>List.nodup_iff_pairwise_ne.1 (hIH u hu2),hP.imp_of_mem fun {u v} hu2 hv hlt x hx y hy e=>?_⟩
   subst e
   rcases blks_sub (h.2 u hu2) (hw.2.2.1 u hu2) hx with ⟨i,hi,a1,a2⟩|⟨j,m,a1,a2,a3,a4,a5⟩<;>rcases blks_sub (h.2 v hv) (hw.2.2.1 v hv) hy with ⟨i',hi',b1,b2⟩|⟨j',m',b1,b2,b3,b4,b5⟩
   ·have:=a1.det b1 (a2.trans b2.symm)
    have h1:=hlt i hi i' hi'
    rw [this] at h1
    exact klt_irrefl _ h1
   ·exact b1.noItem a1 (b3.trans a2.symm)
   ·exact a1.noItem b1 (a3.trans b2.symm)
   ·have e:=a1.lev b1 (a3.trans b3.symm)
    subst e
    have:=a1.det b1 (a3.trans b3.symm)
    subst this
    cases hi:its m with
    | nil=>exact a2.some hi
    | cons i r =>
     have h1:=hlt i (a5 i (by rw [hi];simp)) i (b5 i (by rw [hi];simp))
     exact klt_irrefl _ h1
end
theorem nms_blks (ρ:Rho):{k:Nat}→(n:Tr k)→(nms ρ n).Perm ((blks n).flatMap (pn ρ))
 | 0,n=>by
  show ((n.2.flatMap fun i=>pn ρ i.ad)++pn ρ n.1).Perm ((n.1::n.2.map Itm.ad).flatMap (pn ρ))
  rw [List.flatMap_cons,List.flatMap_map]
  exact List.perm_append_comm
 | k+1,n=>by
  show (n.2.flatMap (nms ρ)++pn ρ n.1).Perm ((n.1::n.2.flatMap blks).flatMap (pn ρ))
  rw [List.flatMap_cons,List.flatMap_assoc]
  refine List.perm_append_comm.trans (List.Perm.append_left _ ?_)
  have:∀l:List (Tr k),(l.flatMap (nms ρ)).Perm (l.flatMap fun u=>(blks u).flatMap (pn ρ)):=fun l=>by
   induction l with
   | nil=>exact List.Perm.refl _
   | cons u l ih=>rw [List.flatMap_cons,List.flatMap_cons];exact (nms_blks ρ u).append ih
  exact this n.2
theorem mem_pn {ρ:Rho}{b x:Nat}:x∈pn ρ b↔(ρ b).1≠0∧x=(ρ b).1:=by
 unfold pn
 by_cases h:(ρ b).1=0<;>simp [h]
theorem mem_nms {ρ:Rho}{k:Nat}{n:Tr k}{x:Nat}:x∈nms ρ n↔∃b∈blks n,(ρ b).1≠0∧x=(ρ b).1:=by
 rw [(nms_blks ρ n).mem_iff,List.mem_flatMap]
 simp only [mem_pn]
theorem nodup_flat {f:Nat→List Nat}:∀{l:List Nat},l.Nodup→(∀a∈l,(f a).Nodup)→(∀a∈l,∀b∈l,∀x,x∈f a→x∈f b→a=b)→(l.flatMap f).Nodup
 | [],_,_,_=>by simp
 | a::l,h,h1,h2=>by
  rw [List.nodup_cons] at h
  rw [List.flatMap_cons,List.nodup_append]
  refine ⟨h1 a (by simp),nodup_flat h.2 (fun b hb=>h1 b (by simp [hb])) (fun b hb c hc=>h2 b (by simp [hb]) c (by simp [hc])),fun x hx y hy e=>?_⟩
  subst e
  obtain ⟨b,hb,hy⟩:=List.mem_flatMap.1 hy
  have:=h2 a (by simp) b (by simp [hb]) x hx hy
  exact h.1 (this▸hb)
theorem flat_inj {f:Nat→List Nat}:∀{l:List Nat},(l.flatMap f).Nodup→∀{a b x:Nat},a∈l→b∈l→x∈f a→x∈f b→a=b
 | [],_,a,_,_,ha,_,_,_=>by simp at ha
 | c::l,h,a,b,x,ha,hb,h1,h2=>by
  rw [List.flatMap_cons,List.nodup_append] at h
  rcases List.mem_cons.1 ha with ea|ha'<;>rcases List.mem_cons.1 hb with eb|hb'
  ·rw [ea,eb]
  ·exact absurd rfl (h.2.2 x (ea▸h1) x (List.mem_flatMap.2 ⟨b,hb',h2⟩))
  ·exact absurd rfl (h.2.2 x (eb▸h2) x (List.mem_flatMap.2 ⟨a,ha',h1⟩))
  ·exact flat_inj h.2.1 ha' hb' h1 h2
theorem pn_nodup (ρ:Rho) (b:Nat):(pn ρ b).Nodup:=by
 unfold pn
 split<;>simp
theorem nms_inj {ρ:Rho}{k:Nat}{n:Tr k} (h:(nms ρ n).Nodup) {a b:Nat} (ha:a∈blks n) (hb:b∈blks n) (h0:(ρ a).1≠0) (e:(ρ a).1=(ρ b).1):a=b :=
 flat_inj ((nms_blks ρ n).nodup_iff.1 h) ha hb (mem_pn.2 ⟨h0,rfl⟩) (mem_pn.2 ⟨e▸h0,e⟩)
theorem encNode_agree {ρ ρ2:Rho} (kd:UInt8):{k:Nat}→{n:Tr k}→(∀b∈blks n,ρ2 b=ρ b)→encNode kd ρ2 n=encNode kd ρ n
 | 0,n,h=>by
  have e:encKids ρ2 n=encKids ρ n:=flatMap_congr fun i hi=>encItem_ext fun _=>h i.ad (List.mem_cons_of_mem _ (List.mem_map.2 ⟨i,hi,rfl⟩))
  unfold encNode
  rw [e]
 | k+1,n,h=>by
  have e:encKids ρ2 n=encKids ρ n:=flatMap_congr fun u hu=>by rw [h (adr u) (List.mem_cons_of_mem _ (List.mem_flatMap.2 ⟨u,hu,blks_self u⟩))]
  unfold encNode
  rw [e]
section
variable {w:World}{F T:Nat→Prop}{ρ:Rho}
theorem GI.laidT {κ:Kap}{L:List Ent} (h:GI w T κ ρ L):{k:Nat}→{n:Tr k}→{kd:UInt8}→IsN w T ρ n→(ρ (adr n)).1≠0→κ.kd (adr n)=kd→Inner κ n→LaidT L ρ kd n:=by
 have key:∀{k:Nat}{n:Tr k}{kd:UInt8},IsN w T ρ n→(ρ (adr n)).1≠0→κ.kd (adr n)=kd→∃bs,((ρ (adr n)).1,bs,encNode kd ρ n)∈L∧(ρ (adr n)).2=fnv (encNode kd ρ n):=fun {k n kd} hN hp hk=>by
  obtain ⟨bs,l,h1,h2,h3⟩:=h.laid _ hp
  rcases h3 with ⟨i,a1,a2,_⟩|⟨k',m',a1,a2,a3,a4⟩
  ·exact absurd a2.symm (hN.noItem a1)
  ·have e:=hN.lev a1 a2.symm
   subst e
   have:=hN.det a1 a2.symm
   subst this
   rw [hk] at a4
   subst a4
   exact ⟨bs,h1,h2⟩
 intro k
 induction k with
 | zero =>
  intro n kd hN hp hk hi
  have hall:=h.all hN hp
  refine ⟨hp,key hN hp hk,fun i hi hl=>?_⟩
  have hz:=hall.1 i hi hl
  refine ⟨hz,?_⟩
  obtain ⟨bs,l,h1,h2,h3⟩:=h.laid _ hz
  rcases h3 with ⟨i',a1,a2,a3,a4⟩|⟨k',m',a1,a2,_⟩
  ·have:=a1.det (hN.2 i hi) a2
   subst this
   subst a4
   exact ⟨bs,h1,h2⟩
  ·exact absurd a2 (a1.noItem (hN.2 i hi))
 | succ k ih =>
  intro n kd hN hp hk hi
  have hall:=h.all hN hp
  exact ⟨hp,key hN hp hk,fun u hu=>ih (hN.2 u hu) (hall.1 u hu).top (hi u hu).1 (hi u hu).2⟩
theorem GI.sup {κ:Kap}{L:List Ent} (h:GI w T κ ρ L) {k:Nat}{n:Tr k} (hN:IsN w T ρ n) (hw:Wf n) {b:Nat} (hb:b∈blks n) (hp:(ρ b).1≠0):b∈pbl n:=by
 obtain ⟨bs,l,h1,h2,h3⟩:=h.laid _ hp
 have key:∀{k:Nat}{n:Tr k},IsN w T ρ n→b∈blks n→b∈pbl n:=by
  intro k
  induction k with
  | zero =>
   intro n hN hb
   rcases List.mem_cons.1 hb with rfl|hb
   ·exact List.mem_cons_self
   ·obtain ⟨i,hi,rfl⟩:=List.mem_map.1 hb
    rcases h3 with ⟨i',a1,a2,a3,a4⟩|⟨k',m',a1,a2,_⟩
    ·have:=a1.det (hN.2 i hi) a2
     subst this
     exact List.mem_cons_of_mem _ (List.mem_map.2 ⟨i',List.mem_filter.2 ⟨hi,a3⟩,rfl⟩)
    ·exact absurd a2 (a1.noItem (hN.2 i hi))
  | succ k ih =>
   intro n hN hb
   rcases List.mem_cons.1 hb with rfl|hb
   ·exact List.mem_cons_self
   ·obtain ⟨u,hu,hb⟩:=List.mem_flatMap.1 hb
    exact List.mem_cons_of_mem _ (List.mem_flatMap.2 ⟨u,hu,ih (hN.2 u hu) hb⟩)
 exact key hN hb
end
def kidN (ρ:Rho):{k:Nat}→Tr k→List Nat
 | 0,n=>n.2.flatMap fun i=>pn ρ i.ad
 | k+1,n=>n.2.flatMap (nms ρ)
theorem nms_kid (ρ:Rho):{k:Nat}→(n:Tr k)→nms ρ n=kidN ρ n++pn ρ (adr n)
 | 0,_=>rfl
 | _+1,_=>rfl
def RepTop (k:Nat):Prop:=∀(w:World) (F:Nat→Prop) (ρ:Rho) (ub:Nat) (vl:Value) (left:List Nat) (n:Tr k) (cs:List Chg) (a:Option Addr) (m c:Nat),cs≠[]→Blank ρ w→IsU w ub vl left→(∀x∈uf ub vl,¬F x)→IsN w F ρ n→Wf n→Up (its n)→Sized (its n)→m=cs.length→HoldsC w (.slice a m c) cs→(∀g,(Value.slice a m c).ownBlock=some g→g∉uf ub vl)→ChsOk w F ρ cs→(its n).length+m≤50000→left.length+(nms ρ n).length≤90000 →
 Calls Tryz.prog 78 #[Pp ub,Pp (adr n),.slice a m c] w fun e w'=>RepPost (k:=k) F ρ w ub vl (left++pn ρ (adr n)) (its n) (kidN ρ n) cs e w'
theorem top_zero:RepTop 0:=by
 intro w F ρ ub vl left n cs a m c hne hB hU hFu hN hW hUp hSz hm hC hFc hcs hlen hll
 have hmp:0<m:=by rw [hm];exact List.length_pos_iff.2 hne
 obtain ⟨c0,c1⟩:=hN.ref
 have hnl:(nms ρ n).length=(n.2.flatMap fun i=>pn ρ i.ad).length+(pn ρ (adr n)).length:=by
  show ((n.2.flatMap fun i=>pn ρ i.ad)++pn ρ n.1).length=_
  rw [List.length_append]
  rfl
 have hlev:=hN.level
 refine (rep_leaf_walk (nb:=adr n) hmp (by omega) c0 c1 (Q:=fun v w'=>RepPost (k:=0) F ρ w ub vl (left++pn ρ (adr n)) (its n) (kidN ρ n) cs (.returned v) w') ((leave_node hN hU (by omega)).mono ?_)).mono ?_
 ·rintro e w1 ⟨rfl,vl1,hU1,k1,hN1⟩
  refine ⟨rfl,?_,?_⟩
  ·rw [k1.cell (World.block_lt_of_cell? w _ hlev) (fun h=>hFu _ h hN.inF)]
   simpa using hlev
  ·have hF1:∀x∈uf ub vl1,¬(F x∧x<w.heap.size):=fun x hx hF=>by
    rcases mem_uf.1 hx with h|h
    ·subst h;exact hFu _ (mem_uf.2 (.inl rfl)) hF.1
    ·rcases hN1 x h with h1|h1
     ·exact hFu _ (mem_uf.2 (.inr h1)) hF.1
     ·have:=hF.2;omega
   have hNn:IsN w1 (fun b=>F b∧b<w.heap.size) ρ n:=(hN.monoS (F':=fun b=>F b∧b<w.heap.size) fun b hb hf=>⟨hf,hb⟩).kept k1 fun b hb hf=>hFu b hb hf.1
   have hcs1:ChsOk w1 (fun b=>F b∧b<w.heap.size) ρ cs:=(hcs.monoS (F':=fun b=>F b∧b<w.heap.size) fun b hb hf=>⟨hf,hb⟩).kept k1 fun b hb hf=>hFu b hb hf.1
   refine (rep_leaf (hB.kept k1) hU1 hF1 hNn hUp hSz cs a m c hm (hC.kept k1 hFc) (fun g hg h=>?_) hcs1 hlen (by rw [List.length_append];omega)).mono ?_
   ·rcases mem_uf.1 h with h1|h1
    ·exact hFc g hg (mem_uf.2 (.inl h1))
    ·rcases hN1 g h1 with h2|h2
     ·exact hFc g hg (mem_uf.2 (.inr h2))
     ·have:=hC.own_lt hne g hg;omega
   ·rintro e w5 ⟨v5,rfl,h5⟩
    refine ⟨v5,rfl,h5.mono ?_⟩
    rintro e w6 ⟨v6,vl6,d6,ns,rfl,ho,hf,hU6,k6,hN6,hns,hwf,hfl,hP⟩
    refine ⟨v6,rfl,v6,vl6,d6,ns,rfl,ho,fun g hg=>Nat.le_trans k1.size (hf g hg),hU6,k1.uf k6 hN1,hN1.trans hN6 k1.size,fun x hx=>(hns x hx).mono fun b hb=>⟨?_,hb.2⟩,hwf,hfl,hP⟩
    ·rcases hb.1 with h|h
     ·exact .inl h.1
     ·exact .inr (Nat.le_trans k1.size h)
 ·rintro e w' ⟨v,rfl,h⟩
  exact h
theorem top_succ {k:Nat} (hk:k≤1000):RepTop (k+1):=by
 intro w F ρ ub vl left n cs a m c hne hB hU hFu hN hW hUp hSz hm hC hFc hcs hlen hll
 have HR:=rep_all k hk
 have hmp:0<m:=by rw [hm];exact List.length_pos_iff.2 hne
 obtain ⟨c0,c1⟩:=hN.ref
 have hnl:(nms ρ n).length=(n.2.flatMap (nms ρ)).length+(pn ρ (adr n)).length:=by
  show ((n.2.flatMap (nms ρ))++pn ρ n.1).length=_
  rw [List.length_append]
  rfl
 have hlev:=hN.level
 refine (rep_branch_walk (nb:=adr n) hmp (by omega) hk c0 c1 (Q:=fun v w'=>RepPost (k:=k+1) F ρ w ub vl (left++pn ρ (adr n)) (its n) (kidN ρ n) cs (.returned v) w') ((leave_node hN hU (by omega)).mono ?_)).mono ?_
 ·rintro e w1 ⟨rfl,vl1,hU1',k1',hN1⟩
  have k1:=k1'.drew
  have hU1:=hU1'.kept (Kept.refl [] w1).drew (by simp) (by simp)
  refine ⟨rfl,?_,?_⟩
  ·rw [k1'.cell (World.block_lt_of_cell? w _ hlev) (fun h=>hFu _ h hN.inF)]
   simpa using hlev
  ·have hF1:∀x∈uf ub vl1,¬(F x∧x<w.heap.size):=fun x hx hF=>by
    rcases mem_uf.1 hx with h|h
    ·subst h;exact hFu _ (mem_uf.2 (.inl rfl)) hF.1
    ·rcases hN1 x h with h1|h1
     ·exact hFu _ (mem_uf.2 (.inr h1)) hF.1
     ·have:=hF.2;omega
   have hNn:IsN w1.drew (fun b=>F b∧b<w.heap.size) ρ n:=(hN.monoS (F':=fun b=>F b∧b<w.heap.size) fun b hb hf=>⟨hf,hb⟩).kept k1 fun b hb hf=>hFu b hb hf.1
   have hcs1:ChsOk w1.drew (fun b=>F b∧b<w.heap.size) ρ cs:=(hcs.monoS (F':=fun b=>F b∧b<w.heap.size) fun b hb hf=>⟨hf,hb⟩).kept k1 fun b hb hf=>hFu b hb hf.1
   refine (rep_branch hk HR (hB.kept k1) hU1 hF1 hNn hW hUp hSz cs a m c hm (hC.kept k1 hFc) (fun g hg h=>?_) hne hcs1 hlen (by rw [List.length_append];omega)).mono ?_
   ·rcases mem_uf.1 h with h1|h1
    ·exact hFc g hg (mem_uf.2 (.inl h1))
    ·rcases hN1 g h1 with h2|h2
     ·exact hFc g hg (mem_uf.2 (.inr h2))
     ·have:=hC.own_lt hne g hg;omega
   ·rintro e w5 ⟨v5,rfl,s5,h5⟩
    refine ⟨v5,rfl,s5,h5.mono ?_⟩
    rintro e w6 ⟨v6,rfl,s6,h6⟩
    refine ⟨v6,rfl,s6,h6.mono ?_⟩
    rintro e w7 ⟨v7,rfl,s7,v8,vl6,d6,ns,e8,ho,hf,hU6,k6,hN6,hns,hwf,hfl,hP⟩
    injection e8 with e8
    subst e8
    refine ⟨v7,rfl,s7,v7,vl6,d6,ns,rfl,ho,fun g hg=>Nat.le_trans k1.size (hf g hg),hU6,k1.uf k6 hN1,hN1.trans hN6 k1.size,fun x hx=>(hns x hx).mono fun b hb=>⟨?_,hb.2⟩,hwf,hfl,hP⟩
    ·rcases hb.1 with h|h
     ·exact .inl h.1
     ·exact .inr (Nat.le_trans k1.size h)
 ·rintro e w' ⟨v,rfl,h⟩
  exact h
theorem top_all:∀k,k≤1000→RepTop k
 | 0,_=>top_zero
 | k+1,h=>top_succ (by omega)
section
variable {w:World}{F:Nat→Prop}{ρ:Rho}
theorem tree_top (hB:Blank ρ w) {ub:Nat}{vl:Value}{left:List Nat} (hU:IsU w ub vl left) (hFu:∀x∈uf ub vl,¬F x) (n:Sigma Tr) (hT:IsT w F ρ (some n)) (hk:n.1≤1000) (hUp:Up (its n.2)) (hSz:Sized (its n.2)) (cs:List Chg) (hne:cs≠[]) (a:Option Addr) (m c:Nat) (hm:m=cs.length) (hC:HoldsC w (.slice a m c) cs) (hFc:∀g,(Value.slice a m c).ownBlock=some g→g∉uf ub vl) (hcs:ChsOk w F ρ cs) (hlen:(its n.2).length+m≤50000) (hll:left.length+(nms ρ n.2).length≤90000) :
  Calls Tryz.prog 48 #[Pp ub,Pp (adr n.2),.slice a m c] w fun e w'=>TreePost F ρ w ub vl (left++pn ρ (adr n.2)) (its n.2) (kidN ρ n.2) cs e w':=by
 have hubF:ub<w.heap.size∧¬F ub:=⟨hU.lt,hFu ub (mem_uf.2 (.inl rfl))⟩
 have hlm:(mrg (its n.2) cs).length≤50000:=by have:=len_mrg (its n.2) cs;omega
 exact tree_some (Hid.mk hB) (Hid.mk hubF) (Hid.mk hk) _ _ cs a m c (Hid.mk (sized_mrg hcs hSz)) (Hid.mk (by
  have:=congrArg List.length (nms_kid ρ n.2)
  rw [List.length_append] at this ⊢
  omega)) (Hid.mk hlm) (top_all n.1 hk w F ρ ub vl left n.2 cs a m c hne hB hU hFu hT.1 hT.2.1 hUp hSz hm hC hFc hcs hlen hll)
end
end Go.Proofs.YtgpbhlfdlkemjaaGreat
