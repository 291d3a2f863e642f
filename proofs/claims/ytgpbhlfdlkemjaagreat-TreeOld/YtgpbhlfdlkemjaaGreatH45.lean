import Derived.Test.YtgpbhlfdlkemjaaGreatH44
/-
 nodesUnder, in the words of levels.
-/
namespace Go.Proofs.YtgpbhlfdlkemjaaGreat
open Go.RowKit
set_option linter.unusedVariables false
def refsB {k:Nat} (ρ:Rho) (N:List (Tr (k+1))):List (Nat × Nat):=(below N).map fun u=>ρ (adr u)
theorem Brs.below_length {w1 w:World}{ρ:Rho}{k:Nat}{U:List Nat}{R:List (Nat × Nat)}{N:List (Tr (k+1))}{Us:List (List Nat)} (h:Brs w1 w ρ k U R N U.length Us) (hNl:N.length=U.length):(below N).length=Us.flatten.length:=by
 have:=klen_flat h.klen
 rw [←hNl,List.take_length] at this
 exact this.symm
theorem level_down {w1 w:World}{ρ ρ':Rho}{k lb mb:Nat}{U:List Nat}{R:List (Nat × Nat)}{N:List (Tr (k+1))}{Us:List (List Nat)}{v:Value}{X D:Nat→Prop}{tx:Nat→List UInt8}{f:FuncId}{cap:Array Value}{m:List (Int × Value)} (h:Brs w1 w ρ k U R N U.length Us) (hRl:R.length=U.length) (hNl:N.length=U.length) (hmU:mb∉Us.flatten) (hUm:mb∉U) (hUl:∀u∈U,u<w1.heap.size) (hUe:U≠[]) (hv:ReadsP w v U) (hvb:∀g,v.ownBlock=some g→g∉Us.flatten∧g≠mb) (ld:Ldr X D tx f cap lb mb m w) (hN:∀n∈N,LaidN D tx ρ n) (hnew:(m.map (·.1)++(refsB ρ N).map fun r=>(r.1:Int)).Nodup) (hl:Us.flatten.length≤100000) (hul:U.length≤100000) (hml:m.length≤500000) (hk:k≤1000)
  {B:World→Nat→World→Prop} (hF:Fills k (withRefs ρ' Us.flatten (refsB ρ N)) Us.flatten ((below N).map (encNode 3 ρ)) B) :
  Calls Tryz.prog 70 #[Pp lb,v] w fun e w'=>∃v6,e=.returned (.tuple #[v6,.int .i64 0])∧∃w2,Kept [mb] w w2∧B w2 Us.flatten.length w'∧ReadsP w' v6 Us.flatten∧(Fresh w v6∧∀g,v6.ownBlock=some g→g<w2.heap.size)∧Mp w' mb (m++SE (refsB ρ N)):=by
 have hbl:=h.below_length hNl
 have hrl:(refsB ρ N).length=Us.flatten.length:=by unfold refsB;rw [List.length_map,hbl]
 have hmap:=withRefs_map (ρ':=ρ') h.nodup hrl
 have hat:∀u∈Us.flatten,∃x n,Us.flatten[x]?=some u∧(below N)[x]?=some n∧withRefs ρ' Us.flatten (refsB ρ N) u=ρ (adr n):=fun u hu=>by
  obtain ⟨x,hx,e⟩:=List.getElem_of_mem hu
  have e1:Us.flatten[x]?=some u:=by rw [List.getElem?_eq_getElem hx,e]
  obtain ⟨n,hn⟩:∃n,(below N)[x]?=some n:=⟨_,List.getElem?_eq_getElem (by omega)⟩
  exact ⟨x,n,e1,hn,withRefs_at h.nodup hrl e1 (by unfold refsB;rw [List.getElem?_map,hn];rfl)⟩
 have hth:=below_laid hN
 have hls:(Us.flatten.map fun u=>tx (withRefs ρ' Us.flatten (refsB ρ N) u).1)=(below N).map (encNode 3 ρ):=by
  have e:(Us.flatten.map fun u=>tx (withRefs ρ' Us.flatten (refsB ρ N) u).1)=(Us.flatten.map (withRefs ρ' Us.flatten (refsB ρ N))).map fun r=>tx r.1:=by rw [List.map_map];rfl
  rw [e,hmap]
  unfold refsB
  rw [List.map_map]
  exact List.map_congr_left fun n hn=>(hth n hn).1.2.1
 rw [←hls] at hF
 have hsz:=h.kept.size
 have hno:=nodes_any (ρ:=withRefs ρ' Us.flatten (refsB ρ N)) (lv:=k) (Ks:=Us) hv hUe h.len.symm (fun i p us hp hus=>by
  obtain ⟨r,hr⟩:∃r,R[i]?=some r:=⟨_,List.getElem?_eq_getElem (by rw [hRl];exact (List.getElem?_eq_some_iff.1 hp).1)⟩
  obtain ⟨vu,e1,e2,-⟩:=h.done i p r us hp hr hus
  exact ⟨_,_,_,vu,e1,e2⟩) (fun u hu=>by
  obtain ⟨x,n,e1,e2,e3⟩:=hat u hu
  rw [e3]
  exact h.kids x u n e1 (by rw [←hNl,List.take_length];exact e2)) hl hk hul (fun p hp=>⟨fun hm=>by
   have h1:=(h.new p hm).1
   have h2:=hUl p hp
   omega,fun e=>hUm (by rw [←e];exact hp)⟩) hvb ld.box ld.map ld.ne hmU ld.noX ld.rdr (fun u hu=>by
  obtain ⟨x,n,e1,e2,e3⟩:=hat u hu
  rw [e3]
  exact (hth n (List.mem_of_getElem? e2)).1.1) (fun u hu=>by
  obtain ⟨x,n,e1,e2,e3⟩:=hat u hu
  rw [e3]
  have ht:=(hth n (List.mem_of_getElem? e2)).1
  rw [ht.2.1]
  exact ht.2.2.1) (by
  have e:(Us.flatten.map fun u=>((withRefs ρ' Us.flatten (refsB ρ N) u).1:Int))=(Us.flatten.map (withRefs ρ' Us.flatten (refsB ρ N))).map fun r=>(r.1:Int):=by rw [List.map_map];rfl
  rw [e,hmap]
  exact hnew) (fun u hu=>by
  obtain ⟨x,n,e1,e2,e3⟩:=hat u hu
  rw [e3]
  exact (hth n (List.mem_of_getElem? e2)).1.2.2.2.1) hml hF
 rw [hmap] at hno
 exact hno
structure LevB (A:Goal) (X D:Nat→Prop) (tx:Nat→List UInt8) (f:FuncId) (cap:Array Value) (ρ:Rho) (T:List Itm) (top lb mb K k:Nat) (v:Value) (w w1:World) (U:List Nat) (R:List (Nat × Nat)) (N:List (Tr (k+1))) (Us:List (List Nat)) (ρ':Rho) (m:List (Int × Value)):Prop where
 brs:Brs w1 w ρ k U R N U.length Us
 rlen:R.length=U.length
 nlen:N.length=U.length
 mUs:mb∉Us.flatten
 lUs:lb∉Us.flatten
 mrow:NoRowB w k mb U R Us
 mU:mb∉U
 ult:∀u∈U,u<w1.heap.size
 ne:U≠[]
 row:ReadsP w v U
 rowB:∀g,v.ownBlock=some g→g∉Us.flatten∧g≠mb
 ldr:Ldr X D tx f cap lb mb m w
 old:∀x,X x→x<w1.heap.size
 refs:∀(j u:Nat) (r:Nat × Nat),U[j]?=some u→R[j]?=some r→ρ' u=r
 wand:∃hn,WandN (FinB A.2.2 w mb fun x=>x∈Us.flatten) w ρ' top K (k+1) U hn A.2.1 ρ R N∧m.map (·.1)=(hn++R.map (·.1)).map fun n:Nat=>(n:Int)
 its:N.flatMap its=T
 laid:∀n∈N,LaidN D tx ρ n
 names:(m.map (·.1)++(toRead ρ N).map fun n:Nat=>(n:Int)).Nodup
 all:m.map (·.1)++((toRead ρ N).map fun n:Nat=>(n:Int))=A.1
 pos:∀r∈R,r.1≠0
 posN:∀n∈toRead ρ N,n≠0
 few:m.length+(toRead ρ N).length≤100000
 fewU:U.length≤100000
 lo1:A.2.2≤w1.heap.size
 loU:∀u∈U,A.2.2≤u
theorem toRead_succ (ρ:Rho) {k:Nat} (N:List (Tr (k+1))):toRead ρ N=(refsB ρ N).map (·.1)++toRead ρ (below N):=by
 show (below N).map (fun u=>(ρ (adr u)).1)++toRead ρ (below N)=_
 unfold refsB
 rw [List.map_map]
 rfl
section
variable {A:Goal}{X D:Nat→Prop}{tx:Nat→List UInt8}{f:FuncId}{cap:Array Value}{ρ ρ':Rho}{T:List Itm}{top lb mb K:Nat}{v:Value}{w w1:World}{U:List Nat}{R:List (Nat × Nat)}{Us:List (List Nat)}{m:List (Int × Value)}
theorem LevB.names1 {k:Nat}{N:List (Tr (k+1))} (h:LevB A X D tx f cap ρ T top lb mb K k v w w1 U R N Us ρ' m):(m.map (·.1)++(refsB ρ N).map fun r=>(r.1:Int)).Nodup∧((m++SE (refsB ρ N)).map (·.1)++(toRead ρ (below N)).map fun n:Nat=>(n:Int)).Nodup∧(m++SE (refsB ρ N)).length+(toRead ρ (below N)).length≤100000:=by
 have h1:=h.names
 rw [toRead_succ,List.map_append,List.map_map,←List.append_assoc] at h1
 have h2:=h.few
 rw [toRead_succ,List.length_append,List.length_map] at h2
 refine ⟨(List.nodup_append.1 h1).1,?_,?_⟩
 ·rw [SE_keys]
  exact h1
 ·simp [SE]
  omega
theorem LevB.down {k:Nat}{N:List (Tr (k+2))} (h:LevB A X D tx f cap ρ T top lb mb K (k+1) v w w1 U R N Us ρ' m) (hk:k≤250) :
  Calls Tryz.prog 70 #[Pp lb,v] w fun e w'=>∃v6,e=.returned (.tuple #[v6,.int .i64 0])∧Kept (mb::Us.flatten) w w'∧∃w2 Us',w.heap.size≤w2.heap.size∧LevB A X D tx f cap ρ T top lb mb K k v6 w' w2 Us.flatten (refsB ρ N) (below N) Us' (withRefs ρ' Us.flatten (refsB ρ N)) (m++SE (refsB ρ N)):=by
 obtain ⟨n1,n2,n3⟩:=h.names1
 have hbl:=h.brs.below_length h.nlen
 have hrl:(refsB ρ N).length=Us.flatten.length:=by unfold refsB;rw [List.length_map,hbl]
 have hmap:=withRefs_map (ρ':=ρ') h.brs.nodup hrl
 have hbd:=below_laid h.laid
 have hfew:=h.few
 rw [toRead_succ,List.length_append,List.length_map,hrl] at hfew
 have hsz:=h.brs.kept.size
 have hF:=fills_branch (ρ:=withRefs ρ' Us.flatten (refsB ρ N)) hbl h.brs.nodup (branch_ok fun n hn=>(hbd n hn).2) (by omega)
 refine (level_down h.brs h.rlen h.nlen h.mUs h.mU h.ult h.ne h.row h.rowB h.ldr h.laid n1 (by omega) h.fewU (by omega) (by omega) hF).mono ?_
 rintro e w' ⟨v6,rfl,w2,k2,⟨Us',hB⟩,hv6,⟨hf6,hg6⟩,hM⟩
 rw [hmap] at hB
 have hz2:=k2.size
 have hz3:=hB.kept.size
 have kall:Kept (mb::Us.flatten) w w':=(k2.mono (fun x hx=>.inl (by simp at hx;simp [hx]))).trans hB.kept (fun x hx=>.inl (List.mem_cons_of_mem _ hx))
 have hmU:=h.mUs
 have hlU:=h.lUs
 have hmlt:=h.ldr.map.lt
 have hllt:=lt_of_block h.ldr.box
 refine ⟨v6,rfl,kall,w2,Us',hz2,hB,hrl,hbl,fun hm=>by have:=(hB.new mb hm).1;omega,fun hm=>by have:=(hB.new lb hm).1;omega,hB.norow (by omega),hmU,fun u hu=>by have:=(h.brs.new u hu).2;omega,fun e=>?_,hv6,fun g hg=>⟨fun hm=>?_,?_⟩,h.ldr.kept kall (fun x hx=>?_) hM,fun x hx=>by have:=h.old x hx;omega,fun j u r hu hr=>withRefs_at h.brs.nodup hrl hu hr,?_,by rw [below_its];exact h.its,fun n hn=>(hbd n hn).2,n2,by have h1:=h.all;rw [toRead_succ,List.map_append,List.map_map,←List.append_assoc] at h1;rw [SE_keys];exact h1,fun r hr=>h.posN r.1 (by rw [toRead_succ];exact List.mem_append_left _ (List.mem_map.2 ⟨r,hr,rfl⟩)),fun n hn=>h.posN n (by rw [toRead_succ];exact List.mem_append_right _ hn),n3,by omega,by have:=h.lo1;omega,fun u hu=>by have:=(h.brs.new u hu).1;have:=h.lo1;omega⟩
 ·have h0:(below N).length=0:=by rw [hbl,e];rfl
  obtain ⟨n,hn⟩:=List.exists_mem_of_ne_nil N (fun e=>h.ne (List.eq_nil_of_length_eq_zero (by rw [←h.nlen,e];rfl)))
  have hne:=(h.laid n hn).2.2
  obtain ⟨u,hu⟩:=List.exists_mem_of_ne_nil n.2 hne
  have:u∈below N:=List.mem_flatMap.2 ⟨n,hn,hu⟩
  rw [List.eq_nil_of_length_eq_zero h0] at this
  simp at this
 ·have h1:=(hB.new g hm).1
  have h2:=hg6 g hg
  omega
 ·have h1:=hf6 g hg
  omega
 ·rcases List.mem_cons.1 hx with rfl|hx
  ·exact ⟨h.ldr.noX,h.ldr.ne.symm⟩
  ·exact ⟨fun hX=>by have h1:=h.old x hX;have h2:=(h.brs.new x hx).1;omega,fun e=>hlU (by rw [←e];exact hx)⟩
 ·obtain ⟨hn,hw,hmm⟩:=h.wand
  refine ⟨_,(h.brs.wand h.rlen h.nlen h.mrow h.mU h.ult h.refs h.lo1 h.loU hw).later kall (fun x hx hf=>?_) (fun x hf=>⟨by have:=hf.1;omega,hf.2.1,fun hm=>?_,hf.2.2.2⟩) (fun x hf=>withRefs_not hf.2.2.1),?_⟩
  ·rcases List.mem_cons.1 hx with e|hx
   ·exact hf.2.1 e
   ·exact hf.2.2.1 hx
  ·have h1:=(hB.new x hm).1
   have h2:=hf.1
   omega
  ·rw [SE_keys,hmm,pn_map h.refs h.rlen h.pos]
   simp [Function.comp_def]
end
def InPl (Ss:List (List (Nat × Nat × Nat))) (x:Nat):Prop:=∃s∈Ss.flatten,s.2.1≤x∧x<s.2.2
structure LevL (A:Goal) (X D:Nat→Prop) (tx:Nat→List UInt8) (f:FuncId) (cap:Array Value) (ρ:Rho) (T:List Itm) (top lb mb K:Nat) (v:Value) (w w1:World) (U:List Nat) (R:List (Nat × Nat)) (N:List (Tr 0)) (Ss:List (List (Nat × Nat × Nat))) (ρ':Rho) (m:List (Int × Value)):Prop where
 lvs:Lvs w1 w ρ U R N U.length Ss
 rlen:R.length=U.length
 nlen:N.length=U.length
 mPl:¬InPl Ss mb
 mrow:NoRowL w mb U R Ss
 mU:mb∉U
 ult:∀u∈U,u<w1.heap.size
 ne:U≠[]
 row:ReadsP w v U
 rowB:∀g,v.ownBlock=some g→¬InPl Ss g∧g≠mb
 ldr:Ldr X D tx f cap lb mb m w
 old:∀x,X x→x<w1.heap.size
 refs:∀(j u:Nat) (r:Nat × Nat),U[j]?=some u→R[j]?=some r→ρ' u=r
 wand:∃hn,WandN (FinB A.2.2 w mb (InPl Ss)) w ρ' top K 0 U hn A.2.1 ρ R N∧m.map (·.1)=(hn++R.map (·.1)).map fun n:Nat=>(n:Int)
 its:N.flatMap its=T
 laid:∀n∈N,LaidN D tx ρ n
 names:(m.map (·.1)++(toRead ρ N).map fun n:Nat=>(n:Int)).Nodup
 all:m.map (·.1)++((toRead ρ N).map fun n:Nat=>(n:Int))=A.1
 pos:∀r∈R,r.1≠0
 posN:∀n∈toRead ρ N,n≠0
 few:m.length+(toRead ρ N).length≤100000
 fewU:U.length≤100000
 lo1:A.2.2≤w1.heap.size
 loU:∀u∈U,A.2.2≤u
section
variable {A:Goal}{X D:Nat→Prop}{tx:Nat→List UInt8}{f:FuncId}{cap:Array Value}{ρ ρ':Rho}{T:List Itm}{top lb mb K:Nat}{v:Value}{w w1:World}{U:List Nat}{R:List (Nat × Nat)}{Us:List (List Nat)}{m:List (Int × Value)}
theorem LevB.leaves {N:List (Tr 1)} (h:LevB A X D tx f cap ρ T top lb mb K 0 v w w1 U R N Us ρ' m) :
  Calls Tryz.prog 70 #[Pp lb,v] w fun e w'=>∃v6,e=.returned (.tuple #[v6,.int .i64 0])∧Kept (mb::Us.flatten) w w'∧∃w2 Us',w.heap.size≤w2.heap.size∧LevL A X D tx f cap ρ T top lb mb K v6 w' w2 Us.flatten (refsB ρ N) (below N) Us' (withRefs ρ' Us.flatten (refsB ρ N)) (m++SE (refsB ρ N)):=by
 obtain ⟨n1,n2,n3⟩:=h.names1
 have hbl:=h.brs.below_length h.nlen
 have hrl:(refsB ρ N).length=Us.flatten.length:=by unfold refsB;rw [List.length_map,hbl]
 have hmap:=withRefs_map (ρ':=ρ') h.brs.nodup hrl
 have hbd:=below_laid h.laid
 have hfew:=h.few
 rw [toRead_succ,List.length_append,List.length_map,hrl] at hfew
 have hsz:=h.brs.kept.size
 have hF:=fills_leaf (ρ:=withRefs ρ' Us.flatten (refsB ρ N)) hbl h.brs.nodup (leaf_ok fun n hn=>(hbd n hn).2)
 refine (level_down h.brs h.rlen h.nlen h.mUs h.mU h.ult h.ne h.row h.rowB h.ldr h.laid n1 (by omega) h.fewU (by omega) (by omega) hF).mono ?_
 rintro e w' ⟨v6,rfl,w2,k2,⟨Us',hB⟩,hv6,⟨hf6,hg6⟩,hM⟩
 rw [hmap] at hB
 have hz2:=k2.size
 have hz3:=hB.kept.size
 have kall:Kept (mb::Us.flatten) w w':=(k2.mono (fun x hx=>.inl (by simp at hx;simp [hx]))).trans hB.kept (fun x hx=>.inl (List.mem_cons_of_mem _ hx))
 have hmU:=h.mUs
 have hlU:=h.lUs
 have hmlt:=h.ldr.map.lt
 have hllt:=lt_of_block h.ldr.box
 refine ⟨v6,rfl,kall,w2,Us',hz2,hB,hrl,hbl,fun hm=>by obtain ⟨s,hs,h1,h2⟩:=hm;have:=(hB.new s hs).1;omega,hB.norow (by omega),hmU,fun u hu=>by have:=(h.brs.new u hu).2;omega,fun e=>?_,hv6,fun g hg=>⟨fun hm=>by obtain ⟨s,hs,h1,h2⟩:=hm;have:=(hB.new s hs).1;have:=hg6 g hg;omega,?_⟩,h.ldr.kept kall (fun x hx=>?_) hM,fun x hx=>by have:=h.old x hx;omega,fun j u r hu hr=>withRefs_at h.brs.nodup hrl hu hr,?_,by rw [below_its];exact h.its,fun n hn=>(hbd n hn).2,n2,by have h1:=h.all;rw [toRead_succ,List.map_append,List.map_map,←List.append_assoc] at h1;rw [SE_keys];exact h1,fun r hr=>h.posN r.1 (by rw [toRead_succ];exact List.mem_append_left _ (List.mem_map.2 ⟨r,hr,rfl⟩)),fun n hn=>h.posN n (by rw [toRead_succ];exact List.mem_append_right _ hn),n3,by omega,by have:=h.lo1;omega,fun u hu=>by have:=(h.brs.new u hu).1;have:=h.lo1;omega⟩
 ·have h0:(below N).length=0:=by rw [hbl,e];rfl
  obtain ⟨n,hn⟩:=List.exists_mem_of_ne_nil N (fun e=>h.ne (List.eq_nil_of_length_eq_zero (by rw [←h.nlen,e];rfl)))
  have hne:=(h.laid n hn).2.2
  obtain ⟨u,hu⟩:=List.exists_mem_of_ne_nil n.2 hne
  have:u∈below N:=List.mem_flatMap.2 ⟨n,hn,hu⟩
  rw [List.eq_nil_of_length_eq_zero h0] at this
  simp at this
 ·have h1:=hf6 g hg
  omega
 ·rcases List.mem_cons.1 hx with rfl|hx
  ·exact ⟨h.ldr.noX,h.ldr.ne.symm⟩
  ·exact ⟨fun hX=>by have h1:=h.old x hX;have h2:=(h.brs.new x hx).1;omega,fun e=>hlU (by rw [←e];exact hx)⟩
 ·obtain ⟨hn,hw,hmm⟩:=h.wand
  refine ⟨_,(h.brs.wand h.rlen h.nlen h.mrow h.mU h.ult h.refs h.lo1 h.loU hw).later kall (fun x hx hf=>?_) (fun x hf=>⟨by have:=hf.1;omega,hf.2.1,fun hm=>?_,hf.2.2.2⟩) (fun x hf=>withRefs_not hf.2.2.1),?_⟩
  ·rcases List.mem_cons.1 hx with e|hx
   ·exact hf.2.1 e
   ·exact hf.2.2.1 hx
  ·obtain ⟨s,hs,h1,h2⟩:=hm
   have h3:=(hB.new s hs).1
   have h4:=hf.1
   omega
  ·rw [SE_keys,hmm,pn_map h.refs h.rlen h.pos]
   simp [Function.comp_def]
end
def newI (z:Pl):Itm:=⟨z.1.1,z.2.key,z.2.val⟩
def zipZ (Ss:List (List (Nat × Nat × Nat))) (T:List Itm):List Pl:=Ss.flatten.zip T
theorem zipZ_fst {Ss:List (List (Nat × Nat × Nat))}{T:List Itm} (h:Ss.flatten.length=T.length):(zipZ Ss T).map (·.1)=Ss.flatten:=List.map_fst_zip (by omega)
theorem zipZ_snd {Ss:List (List (Nat × Nat × Nat))}{T:List Itm} (h:Ss.flatten.length=T.length):(zipZ Ss T).map (·.2)=T:=List.map_snd_zip (by omega)
theorem zipZ_at {Ss:List (List (Nat × Nat × Nat))}{T:List Itm}{z:Pl} (h:z∈zipZ Ss T):∃x:Nat,Ss.flatten[x]?=some z.1∧T[x]?=some z.2:=by
 obtain ⟨x,hx,e⟩:=List.getElem_of_mem h
 have h1:(zipZ Ss T)[x]?=some z:=by rw [List.getElem?_eq_getElem hx,e]
 unfold zipZ at h1
 rw [List.getElem?_zip_eq_some] at h1
 exact ⟨x,h1⟩
section
variable {A:Goal}{X D:Nat→Prop}{tx:Nat→List UInt8}{f:FuncId}{cap:Array Value}{ρ ρ':Rho}{T:List Itm}{top lb mb K:Nat}{v:Value}{w w1:World}{U:List Nat}{R:List (Nat × Nat)}{N:List (Tr 0)}{Ss:List (List (Nat × Nat × Nat))}{m:List (Int × Value)}
theorem LevL.length (h:LevL A X D tx f cap ρ T top lb mb K v w w1 U R N Ss ρ' m):Ss.flatten.length=T.length:=by
 have h1:=slen_flat h.lvs.klen
 rw [←h.nlen,List.take_length] at h1
 rw [h1,←h.its]
 rfl
theorem LevL.items (h:LevL A X D tx f cap ρ T top lb mb K v w w1 U R N Ss ρ' m):∀z∈zipZ Ss T,ItB w z.1.2.1 z.1.2.2 z.1.1 (refOf ρ z.2) z.2.key (half z.2)∧ItOk ρ z.2∧(lng z.2=true→There D tx (ρ z.2.ad) (1::z.2.val.drop 1))∧w1.heap.size≤z.1.2.1∧z.1.2.2≤w.heap.size:=fun z hz=>by
 obtain ⟨x,h1,h2⟩:=zipZ_at hz
 have h3:((N.take U.length).flatMap fun n=>n.2)[x]?=some z.2:=by
  rw [←h.nlen,List.take_length]
  have e:(N.flatMap fun n=>n.2)=T:=h.its
  rw [e]
  exact h2
 have h4:=leaf_items h.laid z.2 (by rw [h.its];exact List.mem_of_getElem? h2)
 exact ⟨h.lvs.item x z.1 z.2 h1 h3,h4.1,h4.2,h.lvs.new z.1 (List.mem_of_getElem? h1)⟩
theorem zip_rise {Ss:List (List (Nat × Nat × Nat))}{T:List Itm} (hl:Ss.flatten.length=T.length) (h:Ss.flatten.Pairwise fun s t=>s.2.2≤t.2.1):(zipZ Ss T).Pairwise fun a b=>a.1.2.2≤b.1.2.1:=by
 rw [←zipZ_fst hl] at h
 exact List.pairwise_map.1 h
theorem LevL.values (h:LevL A X D tx f cap ρ T top lb mb K v w w1 U R N Ss ρ' m) (hT:T.length≤100000) :
  Calls Tryz.prog 71 #[Pp lb,v] w fun e w'=>e=.returned (.int .i64 0)∧(∀z∈zipZ Ss T,ItB w' z.1.2.1 z.1.2.2 z.1.1 (refOf ρ z.2) z.2.key z.2.val)∧∃S,Kept (mb::S) w w'∧∀x∈S,InPl Ss x:=by
 have hl:=h.length
 have hit:=h.items
 refine (values_any (ps:=U) (Ks:=Ss.map (List.map (·.1))) (Z:=zipZ Ss T) h.row (by rw [List.length_map,h.lvs.len]) (fun i p us hp hus=>?_) ?_ (zip_rise hl h.lvs.rise) (fun z hz=>(hit z hz).1) (fun z hz=>(hit z hz).2.1) (fun z hz=>(hit z hz).2.2.2.2) (by unfold zipZ;rw [List.length_zip];omega) h.fewU h.ldr.box h.ldr.map h.ldr.ne (fun z hz hb=>?_) h.ldr.noX h.ldr.rdr (fun z hz hg=>?_) ?_ (by have:=h.few;omega)).mono ?_
 ·obtain ⟨r,hr⟩:∃r,R[i]?=some r:=⟨_,List.getElem?_eq_getElem (by rw [h.rlen];exact (List.getElem?_eq_some_iff.1 hp).1)⟩
  rw [List.getElem?_map] at hus
  cases hs:Ss[i]? with
  | none=>rw [hs] at hus;simp at hus
  | some sp =>
   rw [hs] at hus
   simp at hus
   subst hus
   obtain ⟨vi,e1,e2,-⟩:=h.lvs.done i p r sp hp hr hs
   exact ⟨_,_,_,vi,_,e1,e2⟩
 ·rw [←List.map_flatten]
  conv=>lhs;rw [←zipZ_fst hl]
  rw [List.map_map]
  rfl
 ·obtain ⟨y,h4,-⟩:=zipZ_at hz
  exact h.mPl ⟨z.1,List.mem_of_getElem? h4,hb⟩
 ·have ht:=(hit z hz).2.2.1 hg
  exact ⟨ht.1,ht.2.1,by rw [ht.2.1];exact ht.2.2.1⟩
 ·have e:((zipZ Ss T).filter fun z=>lng z.2).map (fun z=>((ρ z.2.ad).1:Int))=(toRead ρ N).map fun n:Nat=>(n:Int):=by
   have e1:toRead ρ N=(T.filter lng).map fun i=>(ρ i.ad).1:=by
    show ((N.flatMap fun n=>n.2).filter lng).map (fun i=>(ρ i.ad).1)=_
    have e2:(N.flatMap fun n=>n.2)=T:=h.its
    rw [e2]
   rw [e1,List.map_map]
   conv=>rhs;rw [←zipZ_snd hl,List.filter_map,List.map_map]
   rfl
  rw [e]
  exact h.names
 ·rintro e w' ⟨rfl,h1,S,k,hS⟩
  refine ⟨rfl,h1,S,k,fun x hx=>?_⟩
  obtain ⟨z,hz,h2,h3⟩:=hS x hx
  obtain ⟨y,h4,-⟩:=zipZ_at hz
  exact ⟨z.1,List.mem_of_getElem? h4,h2,h3⟩
end
theorem flat_lng:∀(L:List Pl) (c:Itm→Nat),(L.flatMap fun z=>if lng z.2=true then [c z.2] else [])=((L.map (·.2)).filter lng).map c
 | [],_=>rfl
 | z::L,c=>by
  rw [List.flatMap_cons,flat_lng L c,List.map_cons]
  by_cases h:lng z.2=true
  ·rw [if_pos h,List.filter_cons_of_pos h,List.map_cons];rfl
  ·rw [if_neg h,List.filter_cons_of_neg h];rfl
def rhoZ (ρ ρ':Rho) (Z:List Pl):Rho:=fun u=>if u∈Z.map (fun z=>z.1.1) then refOf ρ (itAt Z u) else ρ' u
section
variable {A:Goal}{X D:Nat→Prop}{tx:Nat→List UInt8}{f:FuncId}{cap:Array Value}{ρ ρ':Rho}{T:List Itm}{top lb mb K:Nat}{v:Value}{w w1 w5:World}{U:List Nat}{R:List (Nat × Nat)}{N:List (Tr 0)}{Ss:List (List (Nat × Nat × Nat))}{m:List (Int × Value)}{S:List Nat}
theorem LevL.one (h:LevL A X D tx f cap ρ T top lb mb K v w w1 U R N Ss ρ' m):∀a∈zipZ Ss T,∀b∈zipZ Ss T,a.1.1=b.1.1→a=b:=fun a ha b hb e=>by
 have h1:=(h.items a ha).1.hp
 have h2:=(h.items b hb).1.hp
 rcases pw_or (zip_rise h.length h.lvs.rise) ha hb with h3|h3|h3
 ·exact h3
 ·omega
 ·omega
theorem LevL.isB (h:LevL A X D tx f cap ρ T top lb mb K v w w1 U R N Ss ρ' m) (k:Kept (mb::S) w w5) (hS:∀x∈S,InPl Ss x):∀(j u:Nat) (sp:List (Nat × Nat × Nat)),U[j]?=some u→Ss[j]?=some sp→IsB w5 (fun x=>A.2.2≤x∧x<w5.heap.size) u (ρ' u) 0 (sp.map (·.1)) [] :=
 h.lvs.stand h.rlen h.mrow h.mU h.ult h.refs k hS h.lo1 h.loU (fun x hl hx _=>⟨hl,by have:=k.size;omega⟩)
theorem LevL.rising (h:LevL A X D tx f cap ρ T top lb mb K v w w1 U R N Ss ρ' m) (hT:T.length≤100000) (hup:(([]:List UInt8)::T.map Itm.key).Pairwise (·<·)) (k:Kept (mb::S) w w5) (hS:∀x∈S,InPl Ss x) (hall:∀z∈zipZ Ss T,ItB w5 z.1.2.1 z.1.2.2 z.1.1 (refOf ρ z.2) z.2.key z.2.val) :
  Calls Tryz.prog 72 #[v] w5 fun e w6=>e=.returned (.bool true)∧Kept [] w5 w6:=by
 have hl:=h.length
 have hfl:(Ss.map (List.map (·.1))).flatten=(zipZ Ss T).map fun z=>z.1.1:=by
  rw [←List.map_flatten]
  conv=>lhs;rw [←zipZ_fst hl]
  rw [List.map_map]
  rfl
 refine isRising_any (kf:=fun u=>(itAt (zipZ Ss T) u).key) (ps:=U) (Ks:=Ss.map (List.map (·.1))) (h.row.kept k (fun g hg hm=>?_)) (by rw [List.length_map,h.lvs.len]) (fun i p us hp hus=>?_) (fun u hu W kW=>?_) (by rw [hfl,List.length_map];unfold zipZ;rw [List.length_zip];omega) h.fewU ?_
 ·have h1:=h.rowB g hg
  rcases List.mem_cons.1 hm with e|hm
  ·exact h1.2 e
  ·exact h1.1 (hS g hm)
 ·rw [List.getElem?_map] at hus
  cases hs:Ss[i]? with
  | none=>rw [hs] at hus;simp at hus
  | some sp =>
   rw [hs] at hus
   simp at hus
   subst hus
   obtain ⟨vi,vu,e1,e2,-⟩:=h.isB k hS i p sp hp hs
   exact ⟨_,_,_,vi,vu,e1,e2⟩
 ·rw [hfl] at hu
  obtain ⟨z,hz,rfl⟩:=List.mem_map.1 hu
  obtain ⟨g,e1,-⟩:=((hall z hz).kept kW (by simp)).box
  show _=some (Sv (itAt (zipZ Ss T) z.1.1).key)
  rw [itAt_eq h.one hz]
  simp [World.cell?,e1]
 ·have e:((Ss.map (List.map (·.1))).flatten.map fun u=>(itAt (zipZ Ss T) u).key)=T.map Itm.key:=by
   rw [hfl,List.map_map]
   conv=>rhs;rw [←zipZ_snd hl,List.map_map]
   refine List.map_congr_left fun z hz=>?_
   show (itAt (zipZ Ss T) z.1.1).key=z.2.key
   rw [itAt_eq h.one hz]
  rw [e]
  exact hup
theorem levL_tree (h:LevL A X D tx f cap ρ T top lb mb K v w w1 U R N Ss ρ' m) (k:Kept (mb::S) w w5) (hS:∀x∈S,InPl Ss x) (hall:∀z∈zipZ Ss T,ItB w5 z.1.2.1 z.1.2.2 z.1.1 (refOf ρ z.2) z.2.key z.2.val) :
  ∃t:Tr K,adr t=top∧IsN w5 (fun x=>A.2.2≤x∧x<w5.heap.size) (rhoZ ρ ρ' (zipZ Ss T)) t∧its t=(zipZ Ss T).map newI∧((nms (rhoZ ρ ρ' (zipZ Ss T)) t).map fun n:Nat=>(n:Int)).Perm A.1∧A.2.1 (rhoZ ρ ρ' (zipZ Ss T)) ⟨K,t⟩:=by
 have hl:=h.length
 have hz5:=k.size
 have hfl:((zipZ Ss T).map newI).map Itm.ad=(Ss.map (List.map (·.1))).flatten:=by
  rw [←List.map_flatten]
  conv=>rhs;rw [←zipZ_fst hl]
  rw [List.map_map,List.map_map]
  rfl
 obtain ⟨G,hG1,hG2⟩:=split_groups Itm.ad (Ss.map (List.map (·.1))) ((zipZ Ss T).map newI) hfl
 have hGl:G.length=U.length:=by rw [←List.length_map (f:=List.map Itm.ad),hG2,List.length_map,h.lvs.len]
 have hin:∀u,u∈(zipZ Ss T).map (fun z=>z.1.1)→InPl Ss u:=fun u hu=>by
  obtain ⟨z,hz,rfl⟩:=List.mem_map.1 hu
  obtain ⟨x,h1,-⟩:=zipZ_at hz
  exact ⟨z.1,List.mem_of_getElem? h1,(hall z hz).hp⟩
 have hnU:∀u∈U,u∉(zipZ Ss T).map (fun z=>z.1.1):=fun u hu hm=>by
  obtain ⟨s,hs,h1,h2⟩:=hin u hm
  have h3:=(h.lvs.new s hs).1
  have h4:=h.ult u hu
  omega
 obtain ⟨hn,hw,hmm⟩:=h.wand
 obtain ⟨t,ht,hN,hits,hnm,hPP⟩:=hw (mb::S) w5 (fun x=>A.2.2≤x∧x<w5.heap.size) (rhoZ ρ ρ' (zipZ Ss T)) k (fun x hx hf=>by
  rcases List.mem_cons.1 hx with e|hx
  ·exact hf.2.1 e
  ·exact hf.2.2.1 (hS x hx)) (fun x hf=>⟨hf.2.2.2,by have:=hf.1;omega⟩) (fun x hf=>by
  unfold rhoZ
  rw [if_neg (fun hm=>hf.2.2.1 (hin x hm))]) (U.zip G) (by
  show (U.zip G).map (fun n:Nat × List Itm=>n.1)=U
  exact List.map_fst_zip (by omega)) (fun n hn=>by
  obtain ⟨j,hj,e⟩:=List.getElem_of_mem hn
  have h1:(U.zip G)[j]?=some n:=by rw [List.getElem?_eq_getElem hj,e]
  rw [List.getElem?_zip_eq_some] at h1
  obtain ⟨hu,hg⟩:=h1
  obtain ⟨sp,hsp⟩:∃sp,Ss[j]?=some sp:=⟨_,List.getElem?_eq_getElem (by rw [h.lvs.len];exact (List.getElem?_eq_some_iff.1 hu).1)⟩
  have hs2:n.2.map Itm.ad=sp.map (·.1):=by
   have h2:(G.map (List.map Itm.ad))[j]?=some (n.2.map Itm.ad):=by rw [List.getElem?_map,hg];rfl
   rw [hG2,List.getElem?_map,hsp] at h2
   simpa using h2.symm
  have hB:=h.isB k hS j n.1 sp hu hsp
  have hr:rhoZ ρ ρ' (zipZ Ss T) n.1=ρ' n.1:=by
   unfold rhoZ
   rw [if_neg (hnU n.1 (List.mem_of_getElem? hu))]
  refine ⟨by rw [hr,hs2];exact hB,fun i hi=>?_⟩
  have him:i∈(zipZ Ss T).map newI:=by rw [←hG1];exact List.mem_flatten.2 ⟨n.2,List.mem_of_getElem? hg,hi⟩
  obtain ⟨z,hz,rfl⟩:=List.mem_map.1 him
  have hr2:rhoZ ρ ρ' (zipZ Ss T) z.1.1=refOf ρ z.2:=by
   unfold rhoZ
   rw [if_pos (List.mem_map.2 ⟨z,hz,rfl⟩),itAt_eq h.one hz]
  have hI:=hall z hz
  rw [←hr2] at hI
  have hvm:z.2.val.length≤maxLen:=by
   have h2:=(h.items z hz).2.1.2.2.1
   have h3:(20000:Nat)≤maxLen:=by decide
   omega
  exact hI.isI (fun x h1 h2=>⟨by have:=h.lo1;have:=(h.items z hz).2.2.2.1;omega,by have:=(h.items z hz).2.2.2.2;omega⟩) hvm)
 have hzU:∀x∈U,rhoZ ρ ρ' (zipZ Ss T) x=ρ' x:=fun x hx=>by
  unfold rhoZ
  rw [if_neg (hnU x hx)]
 have hlv:LvlOk ρ R N (rhoZ ρ ρ' (zipZ Ss T)) (U.zip G:List (Tr 0)):=by
  refine lvl_leaf ?_ ?_ ?_
  ·rw [←refs_map h.refs h.rlen]
   exact List.map_congr_left hzU
  ·have e1:=congrArg (List.map List.length) hG2
   rw [List.map_map,List.map_map] at e1
   have e2:(List.length∘List.map Itm.ad)=List.length:=by funext x;simp
   have e3:(List.length∘List.map fun s:Nat × Nat × Nat=>s.1)=List.length:=by funext x;simp
   rw [e2,e3] at e1
   rw [e1,h.lvs.klen,List.take_of_length_le (by have:=h.nlen;omega)]
  ·have e1:(N.flatMap fun n=>n.2)=T:=h.its
   rw [hG1,e1,List.map_map]
   conv=>rhs;rw [←zipZ_snd hl]
   rw [List.map_map]
   refine List.map_congr_left fun z hz=>?_
   have hr2:rhoZ ρ ρ' (zipZ Ss T) z.1.1=refOf ρ z.2:=by
    unfold rhoZ
    rw [if_pos (List.mem_map.2 ⟨z,hz,rfl⟩),itAt_eq h.one hz]
   show (z.2.key,z.2.val,rhoZ ρ ρ' (zipZ Ss T) z.1.1)=(z.2.key,z.2.val,refOf ρ z.2)
   rw [hr2]
 refine ⟨t,ht,hN,?_,?_,hPP hlv⟩
 rotate_left
 ·have hzU:∀x∈U,rhoZ ρ ρ' (zipZ Ss T) x=ρ' x:=fun x hx=>by
   unfold rhoZ
   rw [if_neg (hnU x hx)]
  have e1:=names_zip (fun i:Itm=>pn (rhoZ ρ ρ' (zipZ Ss T)) i.ad) (ρ:=rhoZ ρ ρ' (zipZ Ss T)) (ρ0:=ρ') U G hGl.symm hzU
  have e2:toRead ρ N=(T.filter lng).map fun i=>(ρ i.ad).1:=by
   show ((N.flatMap fun n=>n.2).filter lng).map (fun i=>(ρ i.ad).1)=_
   have e2:(N.flatMap fun n=>n.2)=T:=h.its
   rw [e2]
  have e3:G.flatten.flatMap (fun i:Itm=>pn (rhoZ ρ ρ' (zipZ Ss T)) i.ad)=toRead ρ N:=by
   rw [hG1,List.flatMap_map,e2]
   have e4:(zipZ Ss T).flatMap (fun z=>pn (rhoZ ρ ρ' (zipZ Ss T)) (newI z).ad)=(zipZ Ss T).flatMap fun z=>if lng z.2=true then [(ρ z.2.ad).1] else []:=by
    rw [List.flatMap_def,List.flatMap_def]
    congr 1
    refine List.map_congr_left fun z hz=>?_
    have hr2:rhoZ ρ ρ' (zipZ Ss T) z.1.1=refOf ρ z.2:=by
     unfold rhoZ
     rw [if_pos (List.mem_map.2 ⟨z,hz,rfl⟩),itAt_eq h.one hz]
    show pn _ z.1.1=_
    unfold pn
    rw [hr2]
    unfold refOf
    by_cases hg:lng z.2=true
    ·obtain ⟨x,-,hx⟩:=zipZ_at hz
     have hp:=h.posN (ρ z.2.ad).1 (by rw [e2];exact List.mem_map.2 ⟨z.2,List.mem_filter.2 ⟨List.mem_of_getElem? hx,hg⟩,rfl⟩)
     rw [if_pos hg,if_pos hg,if_neg hp]
    ·rw [if_neg hg,if_neg hg]
     rfl
   rw [e4]
   conv=>rhs;rw [←zipZ_snd hl]
   exact flat_lng (zipZ Ss T) (fun i=>(ρ i.ad).1)
  have e5:=hnm.trans (List.Perm.append_left hn e1)
  rw [e3,pn_map h.refs h.rlen h.pos] at e5
  have e6:=e5.map fun n:Nat=>(n:Int)
  rw [←h.all,hmm]
  rw [←List.append_assoc,List.map_append] at e6
  exact e6
 rw [hits,←hG1]
 have e:(U.zip G).flatMap (fun n:Tr 0=>its n)=((U.zip G).map (fun n:Nat × List Itm=>n.2)).flatten:=by
  rw [List.flatMap_def]
  rfl
 have e2:(U.zip G).map (fun n:Nat × List Itm=>n.2)=G:=List.map_snd_zip (by omega)
 rw [e2] at e
 exact e
end
end Go.Proofs.YtgpbhlfdlkemjaaGreat
