import Derived.Test.YtgpbhlfdlkemjaaGreatH43
/-
 values, whole.
-/
namespace Go.Proofs.YtgpbhlfdlkemjaaGreat
open Go.RowKit
set_option linter.unusedVariables false
theorem lng_half {p:Nat}{i:Itm} (h:i.key.length≤64):lng ⟨p,i.key,half i⟩=lng i:=by
 show decide (236<3+i.key.length+(half i).length)=decide (236<3+i.key.length+i.val.length)
 rw [half_length i h]
theorem half_long {i:Itm} (h:i.key.length≤64) (hl:lng i=true):∃x t,i.val=x::t∧half i=x::zs t.length∧1≤t.length:=by
 have hg:236<3+i.key.length+i.val.length:=by simpa [lng] using hl
 cases hv:i.val with
 | nil=>rw [hv] at hg;simp at hg;omega
 | cons x t =>
  refine ⟨x,t,rfl,?_,?_⟩
  ·unfold half
   rw [if_pos hl,hv]
   simp
  ·rw [hv] at hg
   simp at hg
   omega
theorem values_any {w:World}{lb mb:Nat}{ρ:Rho}{vl:Value}{ps:List Nat}{Ks:List (List Nat)}{Z:List Pl} (hps:ReadsP w vl ps) (hK:ps.length=Ks.length)
  (hB:∀(i p:Nat) (us:List Nat),ps[i]?=some p→Ks[i]?=some us→∃a b lv vi vu,w.heap[p]?=some (.cells #[a,b,lv,vi,vu] 114 (0,0))∧ReadsP w vi us) (hKZ:Ks.flatten=Z.map fun z=>z.1.1) (hr:Z.Pairwise fun a b=>a.1.2.2≤b.1.2.1) (hit:∀z∈Z,ItB w z.1.2.1 z.1.2.2 z.1.1 (refOf ρ z.2) z.2.key (half z.2)) (hok:∀z∈Z,ItOk ρ z.2) (hhi:∀z∈Z,z.1.2.2≤w.heap.size) (hl:Z.length≤100000) (hpl:ps.length≤100000)
  {X D:Nat→Prop}{tx:Nat→List UInt8}{f:FuncId}{cap:Array Value}{m:List (Int × Value)} (hb:w.heap[lb]?=some (.cells #[.func (.func f) #[] cap,.map (some mb)] 135 (0,0))) (hm:Mp w mb m) (hlm:lb≠mb) (hmZ:∀z∈Z,¬(z.1.2.1≤mb∧mb<z.1.2.2)) (hX:¬X mb) (hR:Rdr X D tx f cap w) (hD:∀z∈Z,lng z.2=true→D (ρ z.2.ad).1∧tx (ρ z.2.ad).1=1::z.2.val.drop 1∧fnv (tx (ρ z.2.ad).1)=(ρ z.2.ad).2) (hnew:(m.map (·.1)++(Z.filter fun z=>lng z.2).map fun z=>((ρ z.2.ad).1:Int)).Nodup) (hml:m.length≤500000) :
  Calls Tryz.prog 71 #[Pp lb,vl] w fun e w'=>e=.returned (.int .i64 0)∧(∀z∈Z,ItB w' z.1.2.1 z.1.2.2 z.1.1 (refOf ρ z.2) z.2.key z.2.val)∧∃S,Kept (mb::S) w w'∧∀x∈S,∃z∈Z,z.1.2.1≤x∧x<z.1.2.2:=by
 have hd:∀a∈Z,∀b∈Z,a.1.1=b.1.1→a=b:=fun a ha b hb e=>by
  rcases pw_or hr ha hb with h|h|h
  ·exact h
  ·have h1:=(hit a ha).hp
   have h2:=(hit b hb).hp
   omega
  ·have h1:=(hit a ha).hp
   have h2:=(hit b hb).hp
   omega
 have hfl:Ks.flatten.filter (fun u=>lng (itAt Z u))=(Z.filter fun z=>lng z.2).map fun z=>z.1.1:=by rw [hKZ];exact filter_at hd
 have hmb:=hm.lt
 have hfm:∀z,z∈Z.filter (fun z=>lng z.2)→z∈Z∧lng z.2=true:=fun z hz=>List.mem_filter.1 hz
 have hrf:∀z∈Z,lng z.2=true→refOf ρ z.2=ρ z.2.ad:=fun z hz h=>by unfold refOf;rw [if_pos h]
 have hrm:((Z.filter fun z=>lng z.2).map fun z=>z.1.1).map (fun u=>refOf ρ (itAt Z u))=(Z.filter fun z=>lng z.2).map fun z=>ρ z.2.ad:=by
  rw [List.map_map]
  refine List.map_congr_left fun z hz=>?_
  show refOf ρ (itAt Z z.1.1)=_
  rw [itAt_eq hd (hfm z hz).1,hrf z (hfm z hz).1 (hfm z hz).2]
 have hfll:(Z.filter fun z=>lng z.2).length≤100000:=Nat.le_trans (List.length_filter_le ..) hl
 refine values_walk (lb:=lb) (ρ:=fun u=>refOf ρ (itAt Z u)) (L:=fun u=>lng (itAt Z u)) (R:=fun w'=>(∀z∈Z,ItB w' z.1.2.1 z.1.2.2 z.1.1 (refOf ρ z.2) z.2.key z.2.val)∧∃S,Kept (mb::S) w w'∧∀x∈S,∃z∈Z,z.1.2.1≤x∧x<z.1.2.2) (I:=fun v6 vt i wr=>∃w1 S,w.heap.size≤w1.heap.size∧Vals ρ Z i wr∧Kept (mb::S) w wr∧(∀x∈S,∃z∈Z,z.1.2.1≤x∧x<z.1.2.2)∧ReadsP wr v6 ((Z.filter fun z=>lng z.2).map fun z=>z.1.1)∧Fresh w v6∧Txs w1 wr vt ((Z.filter fun z=>lng z.2).map fun z=>tx (ρ z.2.ad).1)) hps hK hB ?_ (by rw [hKZ,List.length_map];exact hl) hpl ?_ ?_ ?_
 ·intro u hu W kW
  rw [hKZ] at hu
  obtain ⟨z,hz,rfl⟩:=List.mem_map.1 hu
  rw [itAt_eq hd hz]
  have hi:=(hit z hz).kept kW (by simp)
  obtain ⟨g,e1,-⟩:=hi.box
  have ho:=hok z hz
  have hvm:(half z.2).length≤maxLen:=by
   have h1:=half_length z.2 ho.2.1
   have h2:=ho.2.2.1
   have h3:(20000:Nat)≤maxLen:=by decide
   omega
  have hii:IsI W (fun _=>True) (fun _=>refOf ρ z.2) ⟨z.1.1,z.2.key,half z.2⟩:=ItB.isI (ρ:=fun _=>refOf ρ z.2) hi (fun _ _ _=>trivial) hvm
  refine ⟨by simp [World.cell?,e1],by simp [World.cell?,e1],(item_isLong hii (by have:=ho.2.1;show z.2.key.length≤1000;omega) (by have h1:=half_length z.2 ho.2.1;have h2:=ho.2.2.1;show (half z.2).length≤100000;omega)).mono ?_⟩
  rintro e w' ⟨rfl,q,rfl⟩
  rw [lng_half ho.2.1]
  exact ⟨rfl,(Kept.refl [] W).drewN q⟩
 ·rw [hfl]
  intro w1 v6 v7 hG
  have k1:=hG.kept
  have hrr:=hG.refs
  rw [hrm] at hrr
  have hv7:v7.ownBlock≠some mb:=fun e=>by have:=hG.freshR mb e;omega
  refine (texts_any (rs:=(Z.filter fun z=>lng z.2).map fun z=>ρ z.2.ad) (k1.keeps hb (by simp)) (hm.kept k1 (by simp)) hlm (hrr.reads (fun r hr=>?_)) hv7 hX (hR.later k1 (by simp)) (fun r hr=>?_) (fun r hr=>?_) ?_ (fun r hr=>?_) (by rw [List.length_map];exact hfll) hml).mono ?_
  ·obtain ⟨x,hx,rfl⟩:=List.mem_map.1 hr
   exact ⟨rfl,fun u hu=>by
    simp at hu
    rcases hu with rfl|rfl<;>rfl⟩
  ·obtain ⟨z,hz,rfl⟩:=List.mem_map.1 hr
   exact (hD z (hfm z hz).1 (hfm z hz).2).1
  ·obtain ⟨z,hz,rfl⟩:=List.mem_map.1 hr
   exact (hD z (hfm z hz).1 (hfm z hz).2).2.2
  ·rw [List.map_map]
   exact hnew
  ·obtain ⟨z,hz,rfl⟩:=List.mem_map.1 hr
   exact (hok z (hfm z hz).1).2.2.2.1
  ·rintro e w2 ⟨vt,rfl,hT,hM2,k2⟩
   rw [List.map_map] at hT
   refine ⟨vt,rfl,w1,[],k1.size,((Vals.start hit).kept k1 (by simp)).kept k2 (fun x hx z hz=>by simp at hx;subst hx;exact hmZ z hz),(k1.mono (by simp)).trans k2 (fun x hx=>.inl hx),by simp,hG.own.reads.kept k2 (fun g hg hmm=>?_),hG.fresh,hT⟩
   have:=hG.fresh g hg
   simp at hmm
   omega
 ·rw [hfl]
  rintro v6 vt i wr ⟨w1,S,hz1,hV,hk,hS,hv6,hf6,hT⟩ hi
  rw [List.length_map] at hi
  obtain ⟨z,hz⟩:∃z,(Z.filter fun z=>lng z.2)[i]?=some z:=⟨_,List.getElem?_eq_getElem hi⟩
  have hzm:=hfm z (List.mem_of_getElem? hz)
  have ho:=hok z hzm.1
  obtain ⟨b6,o6,c6,e6,d6⟩:=hv6.at i z.1.1 (by rw [List.getElem?_map,hz];rfl)
  obtain ⟨bt,ot,ct,v,et,dt,hrv,hnv⟩:=hT.at i (tx (ρ z.2.ad).1) (by rw [List.getElem?_map,hz];rfl)
  rw [List.length_map] at et
  obtain ⟨x,t,hval,hhalf,ht1⟩:=half_long ho.2.1 hzm.2
  have hI:=hV.long i z hz
  rw [if_neg (by omega),hhalf] at hI
  have hdr:z.2.val.drop 1=t:=by rw [hval];rfl
  rw [(hD z hzm.1 hzm.2).2.1,hdr] at hrv
  have htl:t.length≤20000:=by have:=ho.2.2.1;rw [hval] at this;simp at this;omega
  rw [List.length_map]
  refine ⟨z.1.1,b6,o6,c6,bt,ot,ct,v,by rw [e6,List.length_map],d6,et,dt,(itemFill_any hI hrv (by rw [zs_length]) htl ht1).mono ?_⟩
  rintro e w' ⟨rfl,hI',g,hg1,hg2,k'⟩
  rw [←hval] at hI'
  have hgl:g<w.heap.size:=by have:=hhi z hzm.1;omega
  refine ⟨rfl,w1,g::S,hz1,hV.next hr hz hI' ⟨hg1,hg2⟩ k',(hk.mono (fun y hy=>.inl ?_)).trans k' (fun y hy=>.inl (by simp at hy;subst hy;simp)),fun y hy=>?_,hv6.kept k' (fun b hb hmm=>?_),hf6,hT.kept k' (fun y hy=>.inl (by simp at hy;omega))⟩
  ·rcases List.mem_cons.1 hy with rfl|hy
   ·simp
   ·simp [hy]
  ·rcases List.mem_cons.1 hy with rfl|hy
   ·exact ⟨z,hzm.1,hg1,hg2⟩
   ·exact hS y hy
  ·have:=hf6 b hb
   simp at hmm
   omega
 ·rw [hfl]
  rintro v6 vt wr ⟨w1,S,hz1,hV,hk,hS,hv6,hf6,hT⟩
  rw [List.length_map] at hV
  exact ⟨hV.all,S,hk,hS⟩
def below {k:Nat} (N:List (Tr (k+1))):List (Tr k):=N.flatMap fun n=>n.2
def There (D:Nat→Prop) (tx:Nat→List UInt8) (r:Nat × Nat) (l:List UInt8):Prop:=D r.1∧tx r.1=l∧fnv l=r.2∧r.1<65536∧r.2<18446744073709551616
def LaidN (D:Nat→Prop) (tx:Nat→List UInt8) (ρ:Rho):{k:Nat}→Tr k→Prop
 | 0,n=>((∀i∈n.2,ItOk ρ i∧(lng i=true→There D tx (ρ i.ad) (1::i.val.drop 1)))∧n.2.length≤1000)∧(encNode 3 ρ n).length≤238∧n.2≠[]
 | k+1,n=>((∀u∈n.2,There D tx (ρ (adr u)) (encNode 3 ρ (k:=k) u)∧LaidN D tx ρ (k:=k) u)∧k+1<256)∧(encNode 3 ρ n).length≤238∧n.2≠[]
def toRead (ρ:Rho):{k:Nat}→List (Tr k)→List Nat
 | 0,N=>((N.flatMap fun n=>n.2).filter lng).map fun i=>(ρ i.ad).1
 | k+1,N=>(below N).map (fun u=>(ρ (adr u)).1)++toRead ρ (k:=k) (below N)
theorem below_its {k:Nat} (N:List (Tr (k+1))):(below N).flatMap its=N.flatMap its:=by
 unfold below
 rw [List.flatMap_assoc]
 rfl
theorem below_laid {D:Nat→Prop}{tx:Nat→List UInt8}{ρ:Rho}{k:Nat}{N:List (Tr (k+1))} (h:∀n∈N,LaidN D tx ρ n):∀u∈below N,There D tx (ρ (adr u)) (encNode 3 ρ u)∧LaidN D tx ρ u:=fun u hu=>by
 obtain ⟨n,hn,hm⟩:=List.mem_flatMap.1 hu
 exact (h n hn).1.1 u hm
theorem leaf_items {D:Nat→Prop}{tx:Nat→List UInt8}{ρ:Rho}{N:List (Tr 0)} (h:∀n∈N,LaidN D tx ρ n):∀i∈N.flatMap its,ItOk ρ i∧(lng i=true→There D tx (ρ i.ad) (1::i.val.drop 1)):=fun i hi=>by
 obtain ⟨n,hn,hm⟩:=List.mem_flatMap.1 hi
 exact (h n hn).1.1 i hm
theorem branch_ok {D:Nat→Prop}{tx:Nat→List UInt8}{ρ:Rho}{k:Nat}{N:List (Tr (k+1))} (h:∀n∈N,LaidN D tx ρ n):∀n∈N,(∀u∈n.2,(ρ (adr u)).1<65536∧(ρ (adr u)).2<18446744073709551616)∧(encNode 3 ρ n).length≤238∧n.2≠[]:=fun n hn =>
 ⟨fun u hu=>⟨((h n hn).1.1 u hu).1.2.2.2.1,((h n hn).1.1 u hu).1.2.2.2.2⟩,(h n hn).2.1,(h n hn).2.2⟩
theorem leaf_ok {D:Nat→Prop}{tx:Nat→List UInt8}{ρ:Rho}{N:List (Tr 0)} (h:∀n∈N,LaidN D tx ρ n):∀n∈N,(∀i∈n.2,ItOk ρ i)∧n.2.length≤1000∧(encNode 3 ρ n).length≤238∧n.2≠[]:=fun n hn =>
 ⟨fun i hi=>((h n hn).1.1 i hi).1,(h n hn).1.2,(h n hn).2.1,(h n hn).2.2⟩
def refsOf (l:List (Nat × Nat × Nat)):Rho:=fun u=>((l.find? fun e=>e.1 == u).map (·.2)).getD (0,0)
theorem refsOf_eq {l:List (Nat × Nat × Nat)} (hd:(l.map (·.1)).Nodup) {e:Nat × Nat × Nat} (he:e∈l):refsOf l e.1=e.2:=by
 unfold refsOf
 induction l with
 | nil=>simp at he
 | cons x l ih =>
  have hc:=List.nodup_cons.1 (by simpa using hd:(x.1::l.map (·.1)).Nodup)
  rcases List.mem_cons.1 he with rfl|h2
  ·simp
  ·have hne:x.1≠e.1:=fun h=>hc.1 (by rw [h];exact List.mem_map.2 ⟨e,h2,rfl⟩)
   have hb:(x.1 == e.1)=false:=by simpa using hne
   rw [List.find?_cons,hb]
   exact ih hc.2 h2
theorem names_zip {α:Type} (h:α→List Nat) {ρ ρ0:Rho}:∀(ps:List Nat) (G:List (List α)),ps.length=G.length→(∀x∈ps,ρ x=ρ0 x)→((ps.zip G).flatMap (fun n:Nat × List α=>n.2.flatMap h++pn ρ n.1)).Perm (ps.flatMap (pn ρ0)++G.flatten.flatMap h)
 | [],[],_,_=>by simp
 | [],_::_,hl,_=>by simp at hl
 | _::_,[],hl,_=>by simp at hl
 | p::ps,g::G,hl,hp=>by
  have ih:=names_zip h ps G (by simpa using hl) (fun x hx=>hp x (by simp [hx]))
  have e:pn ρ p=pn ρ0 p:=by unfold pn;rw [hp p (by simp)]
  rw [List.zip_cons_cons,List.flatMap_cons,List.flatMap_cons,List.flatten_cons,List.flatMap_append,e]
  show ((g.flatMap h++pn ρ0 p)++_).Perm _
  refine (List.Perm.append_left _ ih).trans ?_
  refine (List.Perm.append_right _ List.perm_append_comm).trans ?_
  rw [List.append_assoc,List.append_assoc]
  refine List.Perm.append_left _ ?_
  rw [←List.append_assoc,←List.append_assoc]
  exact List.Perm.append_right _ List.perm_append_comm
theorem pn_map {ρ':Rho}:∀{U:List Nat}{R:List (Nat × Nat)},(∀(j u:Nat) (r:Nat × Nat),U[j]?=some u→R[j]?=some r→ρ' u=r)→R.length=U.length→(∀r∈R,r.1≠0)→U.flatMap (pn ρ')=R.map (·.1)
 | [],[],_,_,_=>rfl
 | [],_::_,_,hl,_=>by simp at hl
 | _::_,[],_,hl,_=>by simp at hl
 | u::U,r::R,h,hl,hp=>by
  have h0:=h 0 u r rfl rfl
  have ih:=pn_map (U:=U) (R:=R) (fun j u r hu hr=>h (j+1) u r hu hr) (by simpa using hl) (fun r hr=>hp r (by simp [hr]))
  rw [List.flatMap_cons,ih,List.map_cons]
  unfold pn
  rw [h0,if_neg (hp r (by simp))]
  rfl
def Fm:Nat→Type
 | 0=>List (List UInt8 × List UInt8 × (Nat × Nat))
 | k+1=>List ((Nat × Nat) × Fm k)
def form (ρ:Rho):{k:Nat}→Tr k→Fm k
 | 0,n=>n.2.map fun i=>(i.key,i.val,ρ i.ad)
 | k+1,n=>n.2.map fun u=>(ρ (adr u),form ρ (k:=k) u)
def formR (ρ:Rho):{k:Nat}→Tr k→Fm k
 | 0,n=>n.2.map fun i=>(i.key,i.val,refOf ρ i)
 | k+1,n=>n.2.map fun u=>(ρ (adr u),formR ρ (k:=k) u)
def LvlOk (ρ0:Rho) (R:List (Nat × Nat)) {k:Nat} (N:List (Tr k)) (ρ:Rho) (T:List (Tr k)):Prop:=T.map (fun u=>(ρ (adr u),form ρ u))=R.zip (N.map (formR ρ0))
theorem lvl_up {ρ0 ρ:Rho}{j:Nat}{R:List (Nat × Nat)}{N:List (Tr (j+1))}{ps:List Nat}{G:List (List (Tr j))} (hR:ps.map ρ=R) (hl:G.map List.length=N.map fun n=>n.2.length) (h:LvlOk ρ0 ((below N).map fun u=>ρ0 (adr u)) (below N) ρ G.flatten):LvlOk ρ0 R N ρ (ps.zip G):=by
 have h2:G.map (List.map fun u=>(ρ (adr u),form ρ u))=N.map fun n=>n.2.map fun u=>(ρ0 (adr u),formR ρ0 u):=by
  rw [List.eq_iff_flatten_eq]
  refine ⟨?_,?_⟩
  ·rw [←List.map_flatten]
   unfold LvlOk at h
   rw [h,List.zip_map',←List.flatMap_def]
   unfold below
   rw [List.map_flatMap]
  ·rw [List.map_map,List.map_map]
   have e1:(List.length∘List.map fun u:Tr j=>(ρ (adr u),form ρ u))=List.length:=by funext x;simp
   have e2:(List.length∘fun n:Tr (j+1)=>n.2.map fun u=>(ρ0 (adr u),formR ρ0 u))=fun n=>n.2.length:=by funext x;simp
   rw [e1,e2]
   exact hl
 show (ps.zip G).map (fun n:Nat × List (Tr j)=>(ρ n.1,n.2.map fun u=>(ρ (adr u),form ρ u)))=R.zip (N.map fun n=>n.2.map fun u=>(ρ0 (adr u),formR ρ0 u))
 rw [←h2,←hR]
 rw [List.zip_map]
 rfl
theorem lvl_leaf {ρ0 ρ:Rho}{R:List (Nat × Nat)}{N:List (Tr 0)}{ps:List Nat}{G:List (List Itm)} (hR:ps.map ρ=R) (hl:G.map List.length=N.map fun n=>n.2.length) (h:G.flatten.map (fun i=>(i.key,i.val,ρ i.ad))=(N.flatMap fun n=>n.2).map fun i=>(i.key,i.val,refOf ρ0 i)):LvlOk ρ0 R N ρ (ps.zip G:List (Tr 0)):=by
 have h2:G.map (List.map fun i=>(i.key,i.val,ρ i.ad))=N.map fun n=>n.2.map fun i=>(i.key,i.val,refOf ρ0 i):=by
  rw [List.eq_iff_flatten_eq]
  refine ⟨?_,?_⟩
  ·rw [←List.map_flatten,h,←List.flatMap_def,List.map_flatMap]
  ·rw [List.map_map,List.map_map]
   have e1:(List.length∘List.map fun i:Itm=>(i.key,i.val,ρ i.ad))=List.length:=by funext x;simp
   have e2:(List.length∘fun n:Tr 0=>n.2.map fun i=>(i.key,i.val,refOf ρ0 i))=fun n=>n.2.length:=by funext x;simp
   rw [e1,e2]
   exact hl
 show (ps.zip G).map (fun n:Nat × List Itm=>(ρ n.1,n.2.map fun i=>(i.key,i.val,ρ i.ad)))=R.zip (N.map fun n=>n.2.map fun i=>(i.key,i.val,refOf ρ0 i))
 rw [←h2,←hR]
 rw [List.zip_map]
 rfl
theorem refs_map {ρ':Rho}{U:List Nat}{R:List (Nat × Nat)} (h:∀(j u:Nat) (r:Nat × Nat),U[j]?=some u→R[j]?=some r→ρ' u=r) (hl:R.length=U.length):U.map ρ'=R:=by
 refine List.ext_getElem? fun j=>?_
 rw [List.getElem?_map]
 by_cases hj:j<U.length
 ·have e1:U[j]?=some U[j]:=List.getElem?_eq_getElem hj
  have e2:R[j]?=some (R[j]'(by omega)):=List.getElem?_eq_getElem (by omega)
  rw [e1,e2,←h j _ _ e1 e2]
  rfl
 ·rw [List.getElem?_eq_none (by omega),List.getElem?_eq_none (by omega)]
  rfl
abbrev Goal:=List Int × (Rho→Sigma Tr→Prop) × Nat
def WandN (Fin:Nat→Prop) (w:World) (ρ:Rho) (top k j:Nat) (ps hn:List Nat) (P:Rho→Sigma Tr→Prop) (ρ0:Rho) (R:List (Nat × Nat)) (N:List (Tr j)):Prop :=
 ∀(S:List Nat) (w':World) (F:Nat→Prop) (ρ':Rho),Kept S w w'→(∀x∈S,¬Fin x)→(∀x,Fin x→F x)→(∀x,Fin x→ρ' x=ρ x)→∀T:List (Tr j),T.map adr=ps→(∀n∈T,IsN w' F ρ' n)→∃t:Tr k,adr t=top∧IsN w' F ρ' t∧its t=T.flatMap its∧(nms ρ' t).Perm (hn++T.flatMap (nms ρ'))∧(LvlOk ρ0 R N ρ' T→P ρ' ⟨k,t⟩)
theorem WandN.start (Fin:Nat→Prop) (w:World) (ρ:Rho) (top k:Nat) {P:Rho→Sigma Tr→Prop}{ρ0:Rho}{r:Nat × Nat}{t0:Tr k} (hP:∀(ρ':Rho) (t:Tr k),ρ' (adr t)=r→form ρ' t=formR ρ0 t0→P ρ' ⟨k,t⟩):WandN Fin w ρ top k k [top] [] P ρ0 [r] [t0]:=fun S w' F ρ' hk hS hF hρ T hT hN=>by
 match T,hT with
 | [t],hT =>
  simp at hT
  exact ⟨t,hT,hN t (by simp),by simp,by simp,fun h=>by
   simp [LvlOk] at h
   exact hP ρ' t h.1 h.2⟩
theorem WandN.later {Fin Fin':Nat→Prop}{w w':World}{ρ ρ':Rho}{top k j:Nat}{ps:List Nat}{S hn:List Nat}{P:Rho→Sigma Tr→Prop}{ρ0:Rho}{R:List (Nat × Nat)}{N:List (Tr j)} (h:WandN Fin w ρ top k j ps hn P ρ0 R N) (hk:Kept S w w') (hS:∀x∈S,¬Fin x) (hF:∀x,Fin x→Fin' x) (hρ:∀x,Fin x→ρ' x=ρ x):WandN Fin' w' ρ' top k j ps hn P ρ0 R N:=fun S2 w2 F ρ2 k2 hS2 hF2 hρ2 T hT hN =>
 h (S++S2) w2 F ρ2 ((hk.mono (fun x hx=>.inl (List.mem_append_left _ hx))).trans k2 (fun x hx=>.inl (List.mem_append_right _ hx))) (fun x hx hf=>by
  rcases List.mem_append.1 hx with hx|hx
  ·exact hS x hx hf
  ·exact hS2 x hx (hF x hf)) (fun x hx=>hF2 x (hF x hx)) (fun x hx=>(hρ2 x (hF x hx)).trans (hρ x hx)) T hT hN
theorem WandN.step {Fin:Nat→Prop}{w:World}{ρ:Rho}{top k j:Nat}{ps:List Nat}{Ks:List (List Nat)}{hn:List Nat}{P:Rho→Sigma Tr→Prop}{ρ0:Rho}{R:List (Nat × Nat)}{N:List (Tr (j+1))} (h:WandN Fin w ρ top k (j+1) ps hn P ρ0 R N) (hl:ps.length=Ks.length) (hk:Ks.map List.length=N.map fun n=>n.2.length) (hR:ps.map ρ=R) (hB:∀(i p:Nat) (us:List Nat),ps[i]?=some p→Ks[i]?=some us→IsB w Fin p (ρ p) (j+1) [] us):WandN Fin w ρ top k j Ks.flatten (hn++ps.flatMap (pn ρ)) P ρ0 ((below N).map fun u=>ρ0 (adr u)) (below N):=fun S w' F ρ' hkk hS hF hρ T hT hN=>by
 obtain ⟨G,e1,e2⟩:=split_groups adr Ks T hT
 have hGl:G.length=Ks.length:=by rw [←e2,List.length_map]
 obtain ⟨t,h1,h2,h3,h4,h5⟩:=h S w' F ρ' hkk hS hF hρ (ps.zip G) (by
  show (ps.zip G).map (fun n:Nat × List (Tr j)=>n.1)=ps
  exact List.map_fst_zip (by omega)) (fun n hn=>by
  obtain ⟨i,hi,e⟩:=List.getElem_of_mem hn
  rw [List.length_zip] at hi
  have hn':n=(ps[i]'(by omega),G[i]'(by omega)):=by rw [←e,List.getElem_zip]
  have hK:Ks[i]?=some (n.2.map adr):=by
   rw [←e2,List.getElem?_map,List.getElem?_eq_getElem (by omega),hn']
   rfl
  have hp:ps[i]?=some n.1:=by rw [List.getElem?_eq_getElem (by omega),hn']
  have b:=hB i n.1 _ hp hK
  have hf:Fin n.1:=by obtain ⟨_,_,_,_,_,hf,_⟩:=b;exact hf
  have b':=(b.kept hkk hS).mono hF
  rw [←hρ _ hf] at b'
  exact ⟨b',fun u hu=>hN u (by
   rw [←e1]
   exact List.mem_flatten.2 ⟨n.2,by rw [hn'];exact List.getElem_mem _,hu⟩)⟩)
 have hps:∀x∈ps,ρ' x=ρ x:=fun x hx=>by
  obtain ⟨i,hi,e⟩:=List.getElem_of_mem hx
  have hp:ps[i]?=some x:=by rw [List.getElem?_eq_getElem hi,e]
  have hK:Ks[i]?=some (Ks[i]'(by omega)):=List.getElem?_eq_getElem (by omega)
  have b:=hB i x _ hp hK
  have hf:Fin x:=by obtain ⟨_,_,_,_,_,hf,_⟩:=b;exact hf
  exact hρ x hf
 refine ⟨t,h1,h2,?_,?_,fun hv=>h5 (lvl_up ?_ ?_ (by rw [e1];exact hv))⟩
 rotate_left
 ·refine h4.trans ?_
  rw [List.append_assoc]
  refine List.Perm.append_left hn ?_
  have:=names_zip (nms ρ' (k:=j)) (ρ:=ρ') (ρ0:=ρ) ps G (by omega) hps
  rw [e1] at this
  exact this
 ·rw [←hR]
  exact List.map_congr_left hps
 ·rw [←hk,←e2,List.map_map]
  have e1:(List.length∘List.map (adr (k:=j)))=List.length:=by funext x;simp
  rw [e1]
 have hs:(ps.zip G).map (fun n:Nat × List (Tr j)=>n.2)=G:=List.map_snd_zip (by omega)
 have e3:(ps.zip G).flatMap (fun n:Nat × List (Tr j)=>n.2.flatMap its)=G.flatten.flatMap its:=by
  rw [show G.flatten.flatMap its=G.flatMap (fun g=>g.flatMap its) by simp [List.flatMap,List.flatten_flatten,List.map_flatten,Function.comp_def]]
  have e4:((ps.zip G).map (fun n:Nat × List (Tr j)=>n.2)).flatMap (fun g=>g.flatMap its)=(ps.zip G).flatMap (fun n:Nat × List (Tr j)=>n.2.flatMap its):=by rw [List.flatMap_map]
  rw [←e4,hs]
 rw [h3,←e1]
 exact e3
def FinB (lo:Nat) (w:World) (mb:Nat) (P:Nat→Prop):Nat→Prop:=fun x=>x<w.heap.size∧x≠mb∧¬P x∧lo≤x
def NoRowB (w:World) (k mb:Nat) (U:List Nat) (R:List (Nat × Nat)) (Us:List (List Nat)):Prop:=∀(j p:Nat) (r:Nat × Nat) (us:List Nat) (vu:Value),U[j]?=some p→R[j]?=some r→Us[j]?=some us→w.heap[p]?=some (.cells #[.int .i64 (r.1:Int),.int .u64 (r.2:Int),.int .i64 ((k:Int)+1),.slice none 0 0,vu] 114 (0,0))→∀g,vu.ownBlock=some g→g≠mb
def NoRowL (w:World) (mb:Nat) (U:List Nat) (R:List (Nat × Nat)) (Ss:List (List (Nat × Nat × Nat))):Prop:=∀(j p:Nat) (r:Nat × Nat) (sp:List (Nat × Nat × Nat)) (vi:Value),U[j]?=some p→R[j]?=some r→Ss[j]?=some sp→w.heap[p]?=some (.cells #[.int .i64 (r.1:Int),.int .u64 (r.2:Int),.int .i64 0,vi,.slice none 0 0] 114 (0,0))→∀g,vi.ownBlock=some g→g≠mb
theorem Brs.norow {w1 w:World}{ρ:Rho}{k mb:Nat}{U:List Nat}{R:List (Nat × Nat)}{N:List (Tr (k+1))}{Us:List (List Nat)} (h:Brs w1 w ρ k U R N U.length Us) (hmb:mb<w1.heap.size):NoRowB w k mb U R Us:=fun j p r us vu hp hr hus hh g hg=>by
 obtain ⟨vu',e1,-,e3⟩:=h.done j p r us hp hr hus
 rw [hh] at e1
 simp at e1
 subst e1
 have:=(e3 g hg).1
 omega
theorem Brs.norow_late {w1 w w':World}{ρ:Rho}{k mb:Nat}{U:List Nat}{R:List (Nat × Nat)}{N:List (Tr (k+1))}{Us:List (List Nat)} (h:Brs w1 w ρ k U R N U.length Us) (q:Kept [] w w') (hmb:w.heap.size≤mb):NoRowB w' k mb U R Us:=fun j p r us vu hp hr hus hh g hg=>by
 obtain ⟨vu',e1,-,e3⟩:=h.done j p r us hp hr hus
 have e1:=q.keeps e1 (by simp)
 rw [hh] at e1
 simp at e1
 subst e1
 have:=(e3 g hg).2.1
 omega
theorem Lvs.norow {w1 w:World}{ρ:Rho}{mb:Nat}{U:List Nat}{R:List (Nat × Nat)}{N:List (Tr 0)}{Ss:List (List (Nat × Nat × Nat))} (h:Lvs w1 w ρ U R N U.length Ss) (hmb:mb<w1.heap.size):NoRowL w mb U R Ss:=fun j p r us vu hp hr hus hh g hg=>by
 obtain ⟨vu',e1,-,e3⟩:=h.done j p r us hp hr hus
 rw [hh] at e1
 simp at e1
 subst e1
 have:=(e3 g hg).1
 omega
theorem Lvs.norow_late {w1 w w':World}{ρ:Rho}{mb:Nat}{U:List Nat}{R:List (Nat × Nat)}{N:List (Tr 0)}{Ss:List (List (Nat × Nat × Nat))} (h:Lvs w1 w ρ U R N U.length Ss) (q:Kept [] w w') (hmb:w.heap.size≤mb):NoRowL w' mb U R Ss:=fun j p r us vu hp hr hus hh g hg=>by
 obtain ⟨vu',e1,-,e3⟩:=h.done j p r us hp hr hus
 have e1:=q.keeps e1 (by simp)
 rw [hh] at e1
 simp at e1
 subst e1
 have:=(e3 g hg).2.1
 omega
theorem Brs.wand {w1 w:World}{ρ ρ':Rho}{k K top mb:Nat}{U:List Nat}{R:List (Nat × Nat)}{N:List (Tr (k+1))}{Us:List (List Nat)} (h:Brs w1 w ρ k U R N U.length Us) (hRl:R.length=U.length) (hNl:N.length=U.length) (hmv:NoRowB w k mb U R Us) (hUm:mb∉U) (hUl:∀u∈U,u<w1.heap.size) (hρ:∀(j u:Nat) (r:Nat × Nat),U[j]?=some u→R[j]?=some r→ρ' u=r) {hn:List Nat}{P:Rho→Sigma Tr→Prop}{ρ0:Rho}{lo:Nat} (hlo:lo≤w1.heap.size) (hloU:∀u∈U,lo≤u) (hw:WandN (FinB lo w mb fun x=>x∈Us.flatten) w ρ' top K (k+1) U hn P ρ0 R N):WandN (FinB lo w mb fun x=>x∈Us.flatten) w ρ' top K k Us.flatten (hn++U.flatMap (pn ρ')) P ρ0 ((below N).map fun u=>ρ0 (adr u)) (below N):=by
 have hz:=h.kept.size
 refine WandN.step hw h.len.symm (by have:=h.klen;rwa [List.take_of_length_le (by omega)] at this) (refs_map hρ hRl) (fun i p us hp hus=>?_)
 have hpm:=List.mem_of_getElem? hp
 have hpl:=hUl p hpm
 obtain ⟨r,hr⟩:∃r,R[i]?=some r:=⟨_,List.getElem?_eq_getElem (by rw [hRl];exact (List.getElem?_eq_some_iff.1 hp).1)⟩
 obtain ⟨vu,e1,e2,e3⟩:=h.done i p r us hp hr hus
 rw [hρ i p r hp hr]
 refine ⟨.slice none 0 0,vu,e1,ReadsP.nil w,e2,⟨by omega,fun e=>hUm (by rw [←e];exact hpm),fun hm=>?_,hloU p hpm⟩,fun hn=>absurd rfl hn,fun _ g hg=>⟨(e3 g hg).2.1,hmv i p r us vu hp hr hus e1 g hg,(e3 g hg).2.2,Nat.le_trans hlo (e3 g hg).1⟩⟩
 have:=(h.new p hm).1
 omega
theorem Lvs.stand {w1 w w':World}{ρ ρ':Rho}{mb:Nat}{U:List Nat}{R:List (Nat × Nat)}{N:List (Tr 0)}{Ss:List (List (Nat × Nat × Nat))} (h:Lvs w1 w ρ U R N U.length Ss) (hRl:R.length=U.length) (hmv:NoRowL w mb U R Ss) (hUm:mb∉U) (hUl:∀u∈U,u<w1.heap.size) (hρ:∀(j u:Nat) (r:Nat × Nat),U[j]?=some u→R[j]?=some r→ρ' u=r) {S:List Nat} (k:Kept (mb::S) w w') (hS:∀x∈S,∃s∈Ss.flatten,s.2.1≤x∧x<s.2.2) {F:Nat→Prop}{lo:Nat} (hlo:lo≤w1.heap.size) (hloU:∀u∈U,lo≤u) (hF:∀x,lo≤x→x<w.heap.size→x≠mb→F x) :
  ∀(j u:Nat) (sp:List (Nat × Nat × Nat)),U[j]?=some u→Ss[j]?=some sp→IsB w' F u (ρ' u) 0 (sp.map (·.1)) []:=fun j u sp hu hsp=>by
 have hz:=h.kept.size
 have hum:=List.mem_of_getElem? hu
 have hul:=hUl u hum
 obtain ⟨r,hr⟩:∃r,R[j]?=some r:=⟨_,List.getElem?_eq_getElem (by rw [hRl];exact (List.getElem?_eq_some_iff.1 hu).1)⟩
 obtain ⟨vi,e1,e2,e3⟩:=h.done j u r sp hu hr hsp
 rw [hρ j u r hu hr]
 refine ⟨vi,.slice none 0 0,k.keeps e1 (fun hm=>?_),e2.kept k (fun g hg hm=>?_),ReadsP.nil w',hF u (hloU u hum) (by omega) (fun e=>hUm (by rw [←e];exact hum)),fun _ g hg=>hF g (Nat.le_trans hlo (e3 g hg).1) (e3 g hg).2.1 (hmv j u r sp vi hu hr hsp e1 g hg),fun hn=>absurd rfl hn⟩
 ·rcases List.mem_cons.1 hm with e|hm
  ·exact hUm (by rw [←e];exact hum)
  ·obtain ⟨s,hs,h1,h2⟩:=hS u hm
   have:=(h.new s hs).1
   omega
 ·rcases List.mem_cons.1 hm with e|hm
  ·exact hmv j u r sp vi hu hr hsp e1 g hg e
  ·obtain ⟨s,hs,h1,h2⟩:=hS g hm
   exact (e3 g hg).2.2 s hs ⟨h1,h2⟩
structure Ldr (X D:Nat→Prop) (tx:Nat→List UInt8) (f:FuncId) (cap:Array Value) (lb mb:Nat) (m:List (Int × Value)) (w:World):Prop where
 box:w.heap[lb]?=some (.cells #[.func (.func f) #[] cap,.map (some mb)] 135 (0,0))
 map:Mp w mb m
 ne:lb≠mb
 noX:¬X mb
 rdr:Rdr X D tx f cap w
theorem Ldr.kept {X D:Nat→Prop}{tx:Nat→List UInt8}{f:FuncId}{cap:Array Value}{lb mb:Nat}{m m':List (Int × Value)}{w w':World}{S:List Nat} (h:Ldr X D tx f cap lb mb m w) (k:Kept S w w') (hS:∀x∈S,¬X x∧x≠lb) (hm:Mp w' mb m'):Ldr X D tx f cap lb mb m' w' :=
 ⟨k.keeps h.box (fun hx=>(hS lb hx).2 rfl),hm,h.ne,h.noX,h.rdr.later k (fun x hx=>(hS x hx).1)⟩
def withRefs (ρ':Rho) (U:List Nat) (R:List (Nat × Nat)):Rho:=fun u=>if u∈U then refsOf (U.zip R) u else ρ' u
theorem withRefs_at {ρ':Rho}{U:List Nat}{R:List (Nat × Nat)} (hd:U.Nodup) (hl:R.length=U.length) {j u:Nat}{r:Nat × Nat} (hu:U[j]?=some u) (hr:R[j]?=some r):withRefs ρ' U R u=r:=by
 unfold withRefs
 rw [if_pos (List.mem_of_getElem? hu)]
 have hz:(U.zip R).map (·.1)=U:=List.map_fst_zip (by omega)
 have he:(u,r)∈U.zip R:=by
  refine List.mem_of_getElem? (i:=j) ?_
  rw [List.getElem?_zip_eq_some]
  exact ⟨hu,hr⟩
 exact refsOf_eq (by rw [hz];exact hd) he
theorem withRefs_map {ρ':Rho}{U:List Nat}{R:List (Nat × Nat)} (hd:U.Nodup) (hl:R.length=U.length):U.map (withRefs ρ' U R)=R:=by
 refine List.ext_getElem (by simp [hl]) (fun j h1 h2=>?_)
 rw [List.getElem_map]
 simp at h1
 exact withRefs_at hd hl (List.getElem?_eq_getElem h1) (List.getElem?_eq_getElem h2)
theorem withRefs_not {ρ':Rho}{U:List Nat}{R:List (Nat × Nat)}{u:Nat} (h:u∉U):withRefs ρ' U R u=ρ' u:=by
 unfold withRefs
 rw [if_neg h]
end Go.Proofs.YtgpbhlfdlkemjaaGreat
