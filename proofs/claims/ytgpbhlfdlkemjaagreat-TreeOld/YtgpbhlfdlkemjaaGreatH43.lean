import Derived.Test.YtgpbhlfdlkemjaaGreatH42
/-
 The branches of a level while they are filled.
-/
namespace Go.Proofs.YtgpbhlfdlkemjaaGreat
open Go.RowKit
set_option linter.unusedVariables false
structure Brs (w1 w:World) (ρ:Rho) (k:Nat) (U:List Nat) (R:List (Nat × Nat)) (N:List (Tr (k+1))) (i:Nat) (Us:List (List Nat)):Prop where
 len:Us.length=i
 done:∀(j u:Nat) (r:Nat × Nat) (us:List Nat),U[j]?=some u→R[j]?=some r→Us[j]?=some us→∃vu,w.heap[u]?=some (.cells #[.int .i64 (r.1:Int),.int .u64 (r.2:Int),.int .i64 ((k:Int)+1),.slice none 0 0,vu] 114 (0,0))∧ReadsP w vu us∧∀g,vu.ownBlock=some g→w1.heap.size≤g∧g<w.heap.size∧g∉Us.flatten
 klen:Us.map List.length=(N.take i).map fun n=>n.2.length
 kids:∀(x c:Nat) (m:Tr k),Us.flatten[x]?=some c→((N.take i).flatMap fun n=>n.2)[x]?=some m→Bare w c (ρ (adr m))
 todo:∀(j u:Nat) (r:Nat × Nat),i≤j→U[j]?=some u→R[j]?=some r→Bare w u r
 new:∀c∈Us.flatten,w1.heap.size≤c∧c<w.heap.size
 nodup:Us.flatten.Nodup
 kept:Kept U w1 w
theorem Brs.start {w1:World}{ρ:Rho}{k:Nat}{U:List Nat}{R:List (Nat × Nat)}{N:List (Tr (k+1))} (h:∀(j u:Nat) (r:Nat × Nat),U[j]?=some u→R[j]?=some r→Bare w1 u r):Brs w1 w1 ρ k U R N 0 [] :=
 ⟨rfl,by simp,by simp,by simp,fun j u r _=>h j u r,by simp,by simp,Kept.refl _ _⟩
theorem Brs.later {w1 w w':World}{ρ:Rho}{k i:Nat}{U:List Nat}{R:List (Nat × Nat)}{N:List (Tr (k+1))}{Us:List (List Nat)} (h:Brs w1 w ρ k U R N i Us) (q:Kept [] w w'):Brs w1 w' ρ k U R N i Us:=by
 have hz:=q.size
 refine ⟨h.len,fun j u r us h1 h2 h3=>?_,h.klen,fun x c m h1 h2=>q.keeps (h.kids x c m h1 h2) (by simp),fun j u r h1 h2 h3=>q.keeps (h.todo j u r h1 h2 h3) (by simp),fun c hc=>⟨(h.new c hc).1,by have:=(h.new c hc).2;omega⟩,h.nodup,h.kept.trans q (by simp)⟩
 obtain ⟨vu,e1,e2,e3⟩:=h.done j u r us h1 h2 h3
 exact ⟨vu,q.keeps e1 (by simp),e2.kept q (by simp),fun g hg=>⟨(e3 g hg).1,by have:=(e3 g hg).2.1;omega,(e3 g hg).2.2⟩⟩
theorem klen_flat {k:Nat}:∀{Us:List (List Nat)}{N:List (Tr (k+1))},(Us.map List.length=N.map fun n=>n.2.length)→Us.flatten.length=(N.flatMap fun n=>n.2).length
 | [],[],_=>rfl
 | [],_::_,h=>by simp at h
 | _::_,[],h=>by simp at h
 | us::Us,n::N,h=>by
  simp only [List.map_cons,List.cons.injEq] at h
  rw [List.flatten_cons,List.flatMap_cons,List.length_append,List.length_append,h.1,klen_flat h.2]
theorem Brs.next {w1 w w2:World}{ρ:Rho}{k i u:Nat}{U:List Nat}{R:List (Nat × Nat)}{N:List (Tr (k+1))}{Us:List (List Nat)}{r:Nat × Nat}{n:Tr (k+1)}{us:List Nat}{vu:Value} (h:Brs w1 w ρ k U R N i Us) (hUd:U.Nodup) (hUl:∀u∈U,u<w1.heap.size) (hu:U[i]?=some u) (hr:R[i]?=some r) (hn:N[i]?=some n) (g:Under w w2 u r.1 r.2 (k+1) (n.2.map fun m=>ρ (adr m)) us vu):Brs w1 w2 ρ k U R N (i+1) (Us++[us]):=by
 have hk:=g.kept
 have hz:=hk.size
 have hz1:=h.kept.size
 have hum:=List.mem_of_getElem? hu
 have hul:=hUl u hum
 have hlen:=g.len
 rw [List.length_map] at hlen
 have hnt:N.take (i+1)=N.take i++[n]:=by rw [List.take_add_one,hn];rfl
 have hfl:(Us++[us]).flatten=Us.flatten++us:=by simp
 have hkl:=klen_flat h.klen
 refine ⟨by simp [h.len],fun j u' r' us' h1 h2 h3=>?_,?_,fun x c m h1 h2=>?_,fun j u' r' h1 h2 h3=>?_,fun c hc=>?_,?_,?_⟩
 ·rw [hfl]
  by_cases hj:j<Us.length
  ·rw [List.getElem?_append_left hj] at h3
   obtain ⟨vu',e1,e2,e3⟩:=h.done j u' r' us' h1 h2 h3
   have hne:u'≠u:=fun e=>by
    subst e
    have a1:=List.getElem?_eq_some_iff.1 h1
    have a2:=List.getElem?_eq_some_iff.1 hu
    have:=List.pairwise_iff_getElem.1 hUd j i a1.1 a2.1 (by have:=h.len;omega)
    rw [a1.2,a2.2] at this
    exact this rfl
   refine ⟨vu',hk.keeps e1 (by simpa using hne),e2.kept hk (fun b hb hm=>?_),fun b hb=>⟨(e3 b hb).1,by have:=(e3 b hb).2.1;omega,fun hm=>?_⟩⟩
   ·have:=(e3 b hb).1
    simp at hm
    omega
   ·rcases List.mem_append.1 hm with hm|hm
    ·exact (e3 b hb).2.2 hm
    ·have h4:=(g.new b hm).1
     have h5:=(e3 b hb).2.1
     omega
  ·have hj':j=i:=by
    have:=(List.getElem?_eq_some_iff.1 h3).1
    simp at this
    have:=h.len
    omega
   subst hj'
   rw [List.getElem?_append_right (by omega),h.len] at h3
   simp at h3
   subst h3
   rw [hu] at h1
   rw [hr] at h2
   injection h1 with h1
   injection h2 with h2
   subst h1 h2
   refine ⟨vu,g.node,g.own.reads,fun b hb=>⟨by have:=(g.apart b hb).1;omega,g.own.lt hb,fun hm=>?_⟩⟩
   rcases List.mem_append.1 hm with hm|hm
   ·have h4:=(h.new b hm).2
    have h5:=(g.apart b hb).1
    omega
   ·exact (g.apart b hb).2 hm
 ·rw [hnt,List.map_append,List.map_append,h.klen]
  simp [hlen]
 ·rw [hfl] at h1
  rw [hnt,List.flatMap_append] at h2
  by_cases hx:x<Us.flatten.length
  ·rw [List.getElem?_append_left hx] at h1
   rw [List.getElem?_append_left (by omega)] at h2
   refine hk.keeps (h.kids x c m h1 h2) (fun hm=>?_)
   have:=(h.new c (List.mem_of_getElem? h1)).1
   simp at hm
   omega
  ·rw [List.getElem?_append_right (by omega)] at h1
   rw [List.getElem?_append_right (by omega)] at h2
   rw [←hkl] at h2
   have e:([n].flatMap fun n:Tr (k+1)=>n.2)=n.2:=by simp
   rw [e] at h2
   exact g.bare _ c _ h1 (by rw [List.getElem?_map,h2];rfl)
 ·have hne:u'≠u:=fun e=>by
   subst e
   have a1:=List.getElem?_eq_some_iff.1 h2
   have a2:=List.getElem?_eq_some_iff.1 hu
   have:=List.pairwise_iff_getElem.1 hUd i j a2.1 a1.1 (by omega)
   rw [a1.2,a2.2] at this
   exact this rfl
  exact hk.keeps (h.todo j u' r' (by omega) h2 h3) (by simpa using hne)
 ·rw [hfl] at hc
  rcases List.mem_append.1 hc with hc|hc
  ·exact ⟨(h.new c hc).1,by have:=(h.new c hc).2;omega⟩
  ·have:=g.new c hc
   exact ⟨by omega,this.2⟩
 ·rw [hfl]
  refine List.nodup_append.2 ⟨h.nodup,g.nodup,fun a ha b hb e=>?_⟩
  subst e
  have h4:=(h.new a ha).2
  have h5:=(g.new a hb).1
  omega
 ·exact h.kept.trans hk (fun x hx=>.inl (by simp at hx;subst hx;exact hum))
structure Lvs (w1 w:World) (ρ:Rho) (U:List Nat) (R:List (Nat × Nat)) (N:List (Tr 0)) (i:Nat) (Ss:List (List (Nat × Nat × Nat))):Prop where
 len:Ss.length=i
 done:∀(j u:Nat) (r:Nat × Nat) (sp:List (Nat × Nat × Nat)),U[j]?=some u→R[j]?=some r→Ss[j]?=some sp→∃vi,w.heap[u]?=some (.cells #[.int .i64 (r.1:Int),.int .u64 (r.2:Int),.int .i64 0,vi,.slice none 0 0] 114 (0,0))∧ReadsP w vi (sp.map (·.1))∧∀g,vi.ownBlock=some g→w1.heap.size≤g∧g<w.heap.size∧∀s∈Ss.flatten,¬(s.2.1≤g∧g<s.2.2)
 klen:Ss.map List.length=(N.take i).map fun n=>n.2.length
 item:∀(x:Nat) (s:Nat × Nat × Nat) (m:Itm),Ss.flatten[x]?=some s→((N.take i).flatMap fun n=>n.2)[x]?=some m→ItB w s.2.1 s.2.2 s.1 (refOf ρ m) m.key (half m)
 todo:∀(j u:Nat) (r:Nat × Nat),i≤j→U[j]?=some u→R[j]?=some r→Bare w u r
 new:∀s∈Ss.flatten,w1.heap.size≤s.2.1∧s.2.2≤w.heap.size
 rise:Ss.flatten.Pairwise fun s t=>s.2.2≤t.2.1
 kept:Kept U w1 w
theorem Lvs.start {w1:World}{ρ:Rho}{U:List Nat}{R:List (Nat × Nat)}{N:List (Tr 0)} (h:∀(j u:Nat) (r:Nat × Nat),U[j]?=some u→R[j]?=some r→Bare w1 u r):Lvs w1 w1 ρ U R N 0 [] :=
 ⟨rfl,by simp,by simp,by simp,fun j u r _=>h j u r,by simp,by simp,Kept.refl _ _⟩
theorem Lvs.later {w1 w w':World}{ρ:Rho}{i:Nat}{U:List Nat}{R:List (Nat × Nat)}{N:List (Tr 0)}{Ss:List (List (Nat × Nat × Nat))} (h:Lvs w1 w ρ U R N i Ss) (q:Kept [] w w'):Lvs w1 w' ρ U R N i Ss:=by
 have hz:=q.size
 refine ⟨h.len,fun j u r us h1 h2 h3=>?_,h.klen,fun x c m h1 h2=>(h.item x c m h1 h2).kept q (by simp),fun j u r h1 h2 h3=>q.keeps (h.todo j u r h1 h2 h3) (by simp),fun c hc=>⟨(h.new c hc).1,by have:=(h.new c hc).2;omega⟩,h.rise,h.kept.trans q (by simp)⟩
 obtain ⟨vu,e1,e2,e3⟩:=h.done j u r us h1 h2 h3
 exact ⟨vu,q.keeps e1 (by simp),e2.kept q (by simp),fun g hg=>⟨(e3 g hg).1,by have:=(e3 g hg).2.1;omega,(e3 g hg).2.2⟩⟩
theorem slen_flat:∀{Ss:List (List (Nat × Nat × Nat))}{N:List (Tr 0)},(Ss.map List.length=N.map fun n=>n.2.length)→Ss.flatten.length=(N.flatMap fun n=>n.2).length
 | [],[],_=>rfl
 | [],_::_,h=>by simp at h
 | _::_,[],h=>by simp at h
 | us::Us,n::N,h=>by
  simp only [List.map_cons,List.cons.injEq] at h
  rw [List.flatten_cons,List.flatMap_cons,List.length_append,List.length_append,h.1,slen_flat h.2]
theorem Lvs.next {w1 w w2:World}{ρ:Rho}{i u:Nat}{U:List Nat}{R:List (Nat × Nat)}{N:List (Tr 0)}{Ss:List (List (Nat × Nat × Nat))}{r:Nat × Nat}{n:Tr 0}{sp:List (Nat × Nat × Nat)}{vi:Value} (h:Lvs w1 w ρ U R N i Ss) (hUd:U.Nodup) (hUl:∀u∈U,u<w1.heap.size) (hu:U[i]?=some u) (hr:R[i]?=some r) (hn:N[i]?=some n) (g:Leaf w w2 ρ u r.1 r.2 n.2 sp vi):Lvs w1 w2 ρ U R N (i+1) (Ss++[sp]):=by
 have hk:=g.kept
 have hz:=hk.size
 have hz1:=h.kept.size
 have hum:=List.mem_of_getElem? hu
 have hul:=hUl u hum
 have hlen:=g.len
 have hnt:N.take (i+1)=N.take i++[n]:=by rw [List.take_add_one,hn];rfl
 have hfl:(Ss++[sp]).flatten=Ss.flatten++sp:=by simp
 have hkl:=slen_flat h.klen
 refine ⟨by simp [h.len],fun j u' r' us' h1 h2 h3=>?_,?_,fun x c m h1 h2=>?_,fun j u' r' h1 h2 h3=>?_,fun c hc=>?_,?_,?_⟩
 ·rw [hfl]
  by_cases hj:j<Ss.length
  ·rw [List.getElem?_append_left hj] at h3
   obtain ⟨vu',e1,e2,e3⟩:=h.done j u' r' us' h1 h2 h3
   have hne:u'≠u:=fun e=>by
    subst e
    have a1:=List.getElem?_eq_some_iff.1 h1
    have a2:=List.getElem?_eq_some_iff.1 hu
    have:=List.pairwise_iff_getElem.1 hUd j i a1.1 a2.1 (by have:=h.len;omega)
    rw [a1.2,a2.2] at this
    exact this rfl
   refine ⟨vu',hk.keeps e1 (by simpa using hne),e2.kept hk (fun b hb hm=>?_),fun b hb=>⟨(e3 b hb).1,by have:=(e3 b hb).2.1;omega,fun s hm=>?_⟩⟩
   ·have:=(e3 b hb).1
    simp at hm
    omega
   ·rcases List.mem_append.1 hm with hm|hm
    ·exact (e3 b hb).2.2 s hm
    ·have h4:=(g.new s hm).1
     have h5:=(e3 b hb).2.1
     omega
  ·have hj':j=i:=by
    have:=(List.getElem?_eq_some_iff.1 h3).1
    simp at this
    have:=h.len
    omega
   subst hj'
   rw [List.getElem?_append_right (by omega),h.len] at h3
   simp at h3
   subst h3
   rw [hu] at h1
   rw [hr] at h2
   injection h1 with h1
   injection h2 with h2
   subst h1 h2
   refine ⟨vi,g.node,g.own.reads,fun b hb=>⟨by have:=(g.apart b hb).1;omega,g.own.lt hb,fun s hm=>?_⟩⟩
   rcases List.mem_append.1 hm with hm|hm
   ·have h4:=(h.new s hm).2
    have h5:=(g.apart b hb).1
    omega
   ·exact (g.apart b hb).2 s hm
 ·rw [hnt,List.map_append,List.map_append,h.klen]
  simp [hlen]
 ·rw [hfl] at h1
  rw [hnt,List.flatMap_append] at h2
  by_cases hx:x<Ss.flatten.length
  ·rw [List.getElem?_append_left hx] at h1
   rw [List.getElem?_append_left (by omega)] at h2
   refine (h.item x c m h1 h2).kept hk (fun y hy hm=>?_)
   have:=(h.new c (List.mem_of_getElem? h1)).1
   simp at hy
   omega
  ·rw [List.getElem?_append_right (by omega)] at h1
   rw [List.getElem?_append_right (by omega)] at h2
   rw [←hkl] at h2
   have e:([n].flatMap fun n:Tr 0=>n.2)=n.2:=by simp
   rw [e] at h2
   exact g.item _ c m h1 h2
 ·have hne:u'≠u:=fun e=>by
   subst e
   have a1:=List.getElem?_eq_some_iff.1 h2
   have a2:=List.getElem?_eq_some_iff.1 hu
   have:=List.pairwise_iff_getElem.1 hUd i j a2.1 a1.1 (by omega)
   rw [a1.2,a2.2] at this
   exact this rfl
  exact hk.keeps (h.todo j u' r' (by omega) h2 h3) (by simpa using hne)
 ·rw [hfl] at hc
  rcases List.mem_append.1 hc with hc|hc
  ·exact ⟨(h.new c hc).1,by have:=(h.new c hc).2;omega⟩
  ·have:=g.new c hc
   exact ⟨by omega,this.2⟩
 ·rw [hfl]
  refine List.pairwise_append.2 ⟨h.rise,g.rise,fun a ha b hb=>?_⟩
  have h4:=(h.new a ha).2
  have h5:=(g.new b hb).1
  omega
 ·exact h.kept.trans hk (fun x hx=>.inl (by simp at hx;subst hx;exact hum))
structure Fills (lv:Nat) (ρ:Rho) (U:List Nat) (ls:List (List UInt8)) (B:World→Nat→World→Prop):Prop where
 start:∀w2,(∀u∈U,Bare w2 u (ρ u))→B w2 0 w2
 kept:∀w2 i w,B w2 i w→Kept U w2 w
 later:∀w2 i w w',B w2 i w→Kept [] w w'→B w2 i w'
 fill:∀w2 i w u l v,B w2 i w→U[i]?=some u→ls[i]?=some l→Reads w v l→(∀g,v.ownBlock=some g→g≠u)→(∀u∈U,u<w2.heap.size)→Calls Tryz.prog 69 #[Pp u,.int .u8 3,v] w fun e w'=>e=.returned (.bool true)∧w'.cell? ⟨u,2,none⟩=some (.int .i64 (lv:Int))∧B w2 (i+1) w'∧Kept [u] w w'
theorem nodes_any {w:World}{lb mb lv:Nat}{ρ:Rho}{vl:Value}{ps:List Nat}{Ks:List (List Nat)} (hps:ReadsP w vl ps) (hne:ps≠[]) (hK:ps.length=Ks.length)
  (hB:∀(i p:Nat) (us:List Nat),ps[i]?=some p→Ks[i]?=some us→∃a b vi vu,w.heap[p]?=some (.cells #[a,b,.int .i64 ((lv:Int)+1),vi,vu] 114 (0,0))∧ReadsP w vu us) (hU:∀u∈Ks.flatten,Bare w u (ρ u)) (hl:Ks.flatten.length≤100000) (hlv:lv≤1000) (hpl:ps.length≤100000)
  (hpU:∀p∈ps,p∉Ks.flatten∧p≠mb) (hvU:∀g,vl.ownBlock=some g→g∉Ks.flatten∧g≠mb)
  {X D:Nat→Prop}{tx:Nat→List UInt8}{f:FuncId}{cap:Array Value}{m:List (Int × Value)} (hb:w.heap[lb]?=some (.cells #[.func (.func f) #[] cap,.map (some mb)] 135 (0,0))) (hm:Mp w mb m) (hlm:lb≠mb) (hmU:mb∉Ks.flatten) (hX:¬X mb) (hR:Rdr X D tx f cap w) (hD:∀u∈Ks.flatten,D (ρ u).1) (hsum:∀u∈Ks.flatten,fnv (tx (ρ u).1)=(ρ u).2) (hnew:(m.map (·.1)++Ks.flatten.map fun u=>((ρ u).1:Int)).Nodup) (hlt:∀u∈Ks.flatten,(ρ u).1<65536) (hml:m.length≤500000)
  {B:World→Nat→World→Prop} (hF:Fills lv ρ Ks.flatten (Ks.flatten.map fun u=>tx (ρ u).1) B) :
  Calls Tryz.prog 70 #[Pp lb,vl] w fun e w'=>∃v6,e=.returned (.tuple #[v6,.int .i64 0])∧∃w2,Kept [mb] w w2∧B w2 Ks.flatten.length w'∧ReadsP w' v6 Ks.flatten∧(Fresh w v6∧∀g,v6.ownBlock=some g→g<w2.heap.size)∧Mp w' mb (m++SE (Ks.flatten.map ρ)):=by
 have hUl:∀u∈Ks.flatten,u<w.heap.size:=fun u hu=>lt_of_block (hU u hu)
 obtain ⟨p0,hp0⟩:∃p,ps[0]?=some p:=⟨_,List.getElem?_eq_getElem (List.length_pos_iff.2 hne)⟩
 obtain ⟨us0,hus0⟩:∃us,Ks[0]?=some us:=⟨_,List.getElem?_eq_getElem (by rw [←hK];exact List.length_pos_iff.2 hne)⟩
 obtain ⟨bl,ol,cl,hvl,hc0⟩:=hps.at 0 p0 hp0
 rw [Nat.add_zero] at hc0
 obtain ⟨xa,xb,xi,xu,hp0b,-⟩:=hB 0 p0 us0 hp0 hus0
 have hc1:w.cell? ⟨p0,2,none⟩=some (.int .i64 ((lv:Int)+1)):=by simp [World.cell?,hp0b]
 have hbl:=cell_lt hc0
 have hp0l:=lt_of_block hp0b
 have hblU:=hvU bl (by rw [hvl];simp [Value.ownBlock])
 have hp0U:=hpU p0 (List.mem_of_getElem? hp0)
 have hmb:=hm.lt
 refine nodes_walk (lb:=lb) (p0:=p0) (R:=fun v6 w'=>∃w2,Kept [mb] w w2∧B w2 Ks.flatten.length w'∧ReadsP w' v6 Ks.flatten∧(Fresh w v6∧∀g,v6.ownBlock=some g→g<w2.heap.size)∧Mp w' mb (m++SE (Ks.flatten.map ρ))) (I:=fun v6 vt i wr=>∃w1 w2,Kept [mb] w w2∧w.heap.size≤w1.heap.size∧w1.heap.size≤w2.heap.size∧B w2 i wr∧ReadsP wr v6 Ks.flatten∧(Fresh w v6∧∀g,v6.ownBlock=some g→g<w2.heap.size)∧Mp wr mb (m++SE (Ks.flatten.map ρ))∧Txs w1 wr vt (Ks.flatten.map fun u=>tx (ρ u).1)) hps hne hK hB hU hl hlv hpl hvl ?_ ?_ ?_
 ·intro w1 v6 v7 hG
  have k1:=hG.kept
  have hv7:v7.ownBlock≠some mb:=fun e=>by have:=hG.freshR mb e;omega
  refine (texts_any (rs:=Ks.flatten.map ρ) (k1.keeps hb (by simp)) (hm.kept k1 (by simp)) hlm (hG.refs.reads (fun r hr=>?_)) hv7 hX (hR.later k1 (by simp)) (fun r hr=>?_) (fun r hr=>?_) ?_ (fun r hr=>?_) (by rw [List.length_map];exact hl) hml).mono ?_
  ·obtain ⟨x,hx,rfl⟩:=List.mem_map.1 hr
   exact ⟨rfl,fun u hu=>by
    simp at hu
    rcases hu with rfl|rfl<;>rfl⟩
  ·obtain ⟨u,hu,rfl⟩:=List.mem_map.1 hr
   exact hD u hu
  ·obtain ⟨u,hu,rfl⟩:=List.mem_map.1 hr
   exact hsum u hu
  ·rw [List.map_map]
   exact hnew
  ·obtain ⟨u,hu,rfl⟩:=List.mem_map.1 hr
   exact hlt u hu
  ·rintro e w2 ⟨vt,rfl,hT,hM2,k2⟩
   rw [List.map_map] at hT
   refine ⟨vt,rfl,w1,w2,(k1.mono (by simp)).trans k2 (fun x hx=>.inl hx),k1.size,k2.size,hF.start w2 (fun u hu=>?_),hG.own.reads.kept k2 (fun g hg hmm=>?_),⟨hG.fresh,fun g hg=>by have h1:=hG.own.lt hg;have h2:=k2.size;omega⟩,hM2,hT⟩
   ·exact k2.keeps (k1.keeps (hU u hu) (by simp)) (fun hmm=>hmU (by simp at hmm;subst hmm;exact hu))
   ·have:=hG.fresh g hg
    simp at hmm
    omega
 ·rintro v6 vt i wr ⟨w1,w2,kw,hz1,hz2,hBi,hv6,hf6,hMr,hT⟩ hi
  obtain ⟨u,hu⟩:∃u,Ks.flatten[i]?=some u:=⟨_,List.getElem?_eq_getElem hi⟩
  have hum:=List.mem_of_getElem? hu
  obtain ⟨b6,o6,c6,e6,d6⟩:=hv6.at i u hu
  obtain ⟨bt,ot,ct,v,et,dt,hrv,hnv⟩:=hT.at i (tx (ρ u).1) (by rw [List.getElem?_map,hu];rfl)
  rw [List.length_map] at et
  have kr:=hF.kept _ _ _ hBi
  have hz3:=kw.size
  have hz4:=kr.size
  have hq0:∀(b:Nat) (p:Addr) (x:Value),p.block=b→b<w.heap.size→b∉Ks.flatten→b≠mb→w.cell? p=some x→wr.cell? p=some x:=fun b p x e h1 h2 h3 h4=>by
   subst e
   rw [kr.cell (by omega) h2,kw.cell h1 (by simpa using h3)]
   exact h4
  have f0:=hq0 bl ⟨bl,ol,none⟩ _ rfl hbl hblU.1 hblU.2 hc0
  have f1:=hq0 p0 ⟨p0,2,none⟩ _ rfl hp0l hp0U.1 hp0U.2 hc1
  have kd:Kept [] wr wr.drew:=(Kept.refl [] wr).drew
  refine ⟨u,b6,o6,c6,bt,ot,ct,v,e6,d6,et,dt,f0,f1,(hF.fill w2 i wr.drew u (tx (ρ u).1) v (hF.later _ _ _ _ hBi kd) hu (by rw [List.getElem?_map,hu];rfl) (hrv.kept kd (by simp)) (fun g hg e=>?_) (fun u' hu'=>by have:=hUl u' hu';omega)).mono ?_⟩
  ·have h1:=(hnv g hg).1
   have h2:=hUl u hum
   omega
  ·rintro e w' ⟨rfl,g2,hB',k'⟩
   have k'':Kept [u] wr w':=(kd.mono (by simp)).trans k' (fun x hx=>.inl hx)
   have hT':=hT.kept k'' (fun x hx=>.inl (by simp at hx;subst hx;have:=hUl x hum;omega))
   have hul:=hUl u hum
   have hkeep:∀(p:Addr) (x:Value),p.block≠u→wr.cell? p=some x→w'.cell? p=some x:=fun p x h1 h2=>by
    rw [k''.cell (cell_lt h2) (by simpa using h1)]
    exact h2
   have hbt:bt≠u:=fun e=>by
    obtain ⟨vs,a1,a2,a3,a4⟩:=hT
    have:=(a3 bt (by rw [et];simp [Value.ownBlock])).1
    omega
   refine ⟨rfl,g2,hkeep ⟨bt,ot+i,none⟩ _ hbt dt,hkeep ⟨bl,ol,none⟩ _ (fun e=>hblU.1 (by have e':bl=u:=e;rw [e'];exact hum)) f0,hkeep ⟨p0,2,none⟩ _ (fun e=>hp0U.1 (by have e':p0=u:=e;rw [e'];exact hum)) f1,w1,w2,kw,hz1,hz2,hB',hv6.kept k'' (fun g hg hmm=>?_),hf6,hMr.kept k'' (fun hmm=>hmU (by simp at hmm;subst hmm;exact hum)),hT'⟩
   have:=hf6.1 g hg
   simp at hmm
   omega
 ·rintro v6 vt wr ⟨w1,w2,kw,hz1,hz2,hBi,hv6,hf6,hMr,hT⟩
  exact ⟨w2,kw,hBi,hv6,hf6,hMr⟩
theorem fills_branch {k:Nat}{ρ0 ρ:Rho}{U:List Nat}{N:List (Tr (k+1))} (hN:N.length=U.length) (hUd:U.Nodup) (hok:∀n∈N,(∀u∈n.2,(ρ0 (adr u)).1<65536∧(ρ0 (adr u)).2<18446744073709551616)∧(encNode 3 ρ0 n).length≤238∧n.2≠[]) (hk:k+1<256) :
  Fills (k+1) ρ U (N.map (encNode 3 ρ0)) (fun w2 i w=>∃Us,Brs w2 w ρ0 k U (U.map ρ) N i Us):=by
 refine ⟨fun w2 h=>⟨[],Brs.start fun j u r hu hr=>?_⟩,fun w2 i w ⟨Us,h⟩=>h.kept,fun w2 i w w' ⟨Us,h⟩ q=>⟨Us,h.later q⟩,fun w2 i w u l v ⟨Us,h⟩ hu hl hr hv hU=>?_⟩
 ·rw [List.getElem?_map,hu] at hr
  simp at hr
  subst hr
  exact h u (List.mem_of_getElem? hu)
 ·obtain ⟨n,hn⟩:∃n,N[i]?=some n:=⟨_,List.getElem?_eq_getElem (by rw [hN];exact (List.getElem?_eq_some_iff.1 hu).1)⟩
  rw [List.getElem?_map,hn] at hl
  simp at hl
  subst hl
  have hru:(U.map ρ)[i]?=some (ρ u):=by rw [List.getElem?_map,hu];rfl
  obtain ⟨o1,o2,o3⟩:=hok n (List.mem_of_getElem? hn)
  refine (fill_branch (kd:=3) (h.todo i u (ρ u) (Nat.le_refl _) hu hru) hv hr o1 o2 o3 hk).mono ?_
  rintro e w' ⟨rfl,us,vu,g⟩
  have hnode:=g.node
  exact ⟨rfl,by simp [World.cell?,hnode],⟨Us++[us],h.next hUd hU hu hru hn g⟩,g.kept⟩
theorem fills_leaf {ρ0 ρ:Rho}{U:List Nat}{N:List (Tr 0)} (hN:N.length=U.length) (hUd:U.Nodup) (hok:∀n∈N,(∀i∈n.2,ItOk ρ0 i)∧n.2.length≤1000∧(encNode 3 ρ0 n).length≤238∧n.2≠[]) :
  Fills 0 ρ U (N.map (encNode 3 ρ0)) (fun w2 i w=>∃Ss,Lvs w2 w ρ0 U (U.map ρ) N i Ss):=by
 refine ⟨fun w2 h=>⟨[],Lvs.start fun j u r hu hr=>?_⟩,fun w2 i w ⟨Us,h⟩=>h.kept,fun w2 i w w' ⟨Us,h⟩ q=>⟨Us,h.later q⟩,fun w2 i w u l v ⟨Us,h⟩ hu hl hr hv hU=>?_⟩
 ·rw [List.getElem?_map,hu] at hr
  simp at hr
  subst hr
  exact h u (List.mem_of_getElem? hu)
 ·obtain ⟨n,hn⟩:∃n,N[i]?=some n:=⟨_,List.getElem?_eq_getElem (by rw [hN];exact (List.getElem?_eq_some_iff.1 hu).1)⟩
  rw [List.getElem?_map,hn] at hl
  simp at hl
  subst hl
  have hru:(U.map ρ)[i]?=some (ρ u):=by rw [List.getElem?_map,hu];rfl
  obtain ⟨o1,o2,o3,o4⟩:=hok n (List.mem_of_getElem? hn)
  refine (fill_leaf (kd:=3) (h.todo i u (ρ u) (Nat.le_refl _) hu hru) hv hr o1 o2 o3 o4).mono ?_
  rintro e w' ⟨rfl,us,vu,g⟩
  have hnode:=g.node
  exact ⟨rfl,by simp [World.cell?,hnode],⟨Us++[us],h.next hUd hU hu hru hn g⟩,g.kept⟩
abbrev Pl:=(Nat × Nat × Nat) × Itm
theorem pw_or {α:Type}{Q:α→α→Prop}:∀{l:List α},l.Pairwise Q→∀{a b:α},a∈l→b∈l→a=b∨Q a b∨Q b a
 | [],_,_,_,h,_=>by simp at h
 | x::l,hp,a,b,ha,hb=>by
  have hc:=List.pairwise_cons.1 hp
  rcases List.mem_cons.1 ha with ea|ha2<;>rcases List.mem_cons.1 hb with eb|hb2
  ·exact .inl (ea.trans eb.symm)
  ·exact .inr (.inl (by rw [ea];exact hc.1 b hb2))
  ·exact .inr (.inr (by rw [eb];exact hc.1 a ha2))
  ·exact pw_or hc.2 ha2 hb2
def itAt (Z:List Pl) (u:Nat):Itm:=((Z.find? fun z=>z.1.1 == u).map (·.2)).getD ⟨0,[],[]⟩
theorem itAt_eq {Z:List Pl} (hd:∀a∈Z,∀b∈Z,a.1.1=b.1.1→a=b) {z:Pl} (hz:z∈Z):itAt Z z.1.1=z.2:=by
 unfold itAt
 cases hf:Z.find? fun y=>y.1.1 == z.1.1 with
 | none =>
  have:=List.find?_eq_none.1 hf z hz
  simp at this
 | some y =>
  have h1:=List.find?_some hf
  have h2:=List.mem_of_find?_eq_some hf
  have:=hd y h2 z hz (by simpa using h1)
  subst this
  rfl
theorem filter_at {Z:List Pl} (hd:∀a∈Z,∀b∈Z,a.1.1=b.1.1→a=b):(Z.map fun z=>z.1.1).filter (fun u=>lng (itAt Z u))=(Z.filter fun z=>lng z.2).map fun z=>z.1.1:=by
 rw [List.filter_map]
 congr 1
 refine List.filter_congr fun z hz=>?_
 show lng (itAt Z z.1.1)=lng z.2
 rw [itAt_eq hd hz]
structure Vals (ρ:Rho) (Z:List Pl) (i:Nat) (w:World):Prop where
 short:∀z∈Z,lng z.2=false→ItB w z.1.2.1 z.1.2.2 z.1.1 (refOf ρ z.2) z.2.key z.2.val
 long:∀(x:Nat) (z:Pl),(Z.filter fun z=>lng z.2)[x]?=some z→ItB w z.1.2.1 z.1.2.2 z.1.1 (refOf ρ z.2) z.2.key (if x<i then z.2.val else half z.2)
theorem Vals.kept {ρ:Rho}{Z:List Pl}{i:Nat}{w w':World}{S:List Nat} (h:Vals ρ Z i w) (k:Kept S w w') (hS:∀x∈S,∀z∈Z,¬(z.1.2.1≤x∧x<z.1.2.2)):Vals ρ Z i w' :=
 ⟨fun z hz hl=>(h.short z hz hl).kept k (fun x hx=>hS x hx z hz),fun x z hz=>(h.long x z hz).kept k (fun y hy=>hS y hy z (List.mem_filter.1 (List.mem_of_getElem? hz)).1)⟩
theorem Vals.next {ρ:Rho}{Z:List Pl}{i g:Nat}{w w':World}{z:Pl} (h:Vals ρ Z i w) (hr:Z.Pairwise fun a b=>a.1.2.2≤b.1.2.1) (hz:(Z.filter fun z=>lng z.2)[i]?=some z) (hi:ItB w' z.1.2.1 z.1.2.2 z.1.1 (refOf ρ z.2) z.2.key z.2.val) (hg:z.1.2.1≤g∧g<z.1.2.2) (k:Kept [g] w w'):Vals ρ Z (i+1) w':=by
 have hzm:=List.mem_filter.1 (List.mem_of_getElem? hz)
 have hap:∀y∈Z,y≠z→¬(y.1.2.1≤g∧g<y.1.2.2):=fun y hy hne hb=>by
  rcases pw_or hr hy hzm.1 with e|e|e
  ·exact hne e
  ·omega
  ·omega
 refine ⟨fun y hy hl=>(h.short y hy hl).kept k (fun x hx=>?_),fun x y hy=>?_⟩
 ·simp at hx
  subst hx
  exact hap y hy (fun e=>by rw [e,hzm.2] at hl;simp at hl)
 ·by_cases hx:x=i
  ·subst hx
   rw [hz] at hy
   injection hy with hy
   subst hy
   rw [if_pos (by omega)]
   exact hi
  ·have hym:=List.mem_filter.1 (List.mem_of_getElem? hy)
   have h1:=h.long x y hy
   have e:(if x<i+1 then y.2.val else half y.2)=(if x<i then y.2.val else half y.2):=by
    by_cases hlt:x<i
    ·rw [if_pos hlt,if_pos (by omega)]
    ·rw [if_neg hlt,if_neg (by omega)]
   rw [e]
   have hp:y.1.2.2≤z.1.2.1∨z.1.2.2≤y.1.2.1:=by
    have a1:=List.getElem?_eq_some_iff.1 hy
    have a2:=List.getElem?_eq_some_iff.1 hz
    have hf:=hr.filter (fun z=>lng z.2)
    rcases Nat.lt_or_gt_of_ne hx with hlt|hlt
    ·have:=List.pairwise_iff_getElem.1 hf x i a1.1 a2.1 hlt
     rw [a1.2,a2.2] at this
     exact .inl this
    ·have:=List.pairwise_iff_getElem.1 hf i x a2.1 a1.1 hlt
     rw [a1.2,a2.2] at this
     exact .inr this
   refine h1.kept k (fun b hb hbb=>?_)
   simp at hb
   subst hb
   rcases hp with hp|hp<;>omega
theorem Vals.all {ρ:Rho}{Z:List Pl}{w:World} (h:Vals ρ Z (Z.filter fun z=>lng z.2).length w):∀z∈Z,ItB w z.1.2.1 z.1.2.2 z.1.1 (refOf ρ z.2) z.2.key z.2.val:=fun z hz=>by
 cases hl:lng z.2 with
 | false=>exact h.short z hz hl
 | true =>
  obtain ⟨x,hx,e⟩:=List.getElem_of_mem (List.mem_filter.2 ⟨hz,hl⟩:z∈Z.filter fun z=>lng z.2)
  have:=h.long x z (by rw [List.getElem?_eq_getElem hx,e])
  rw [if_pos hx] at this
  exact this
theorem Vals.start {ρ:Rho}{Z:List Pl}{w:World} (h:∀z∈Z,ItB w z.1.2.1 z.1.2.2 z.1.1 (refOf ρ z.2) z.2.key (half z.2)):Vals ρ Z 0 w:=by
 refine ⟨fun z hz hl=>?_,fun x z hz=>?_⟩
 ·have:=h z hz
  have e:half z.2=z.2.val:=by unfold half;rw [if_neg (by rw [hl];simp)]
  rw [e] at this
  exact this
 ·rw [if_neg (by omega)]
  exact h z (List.mem_filter.1 (List.mem_of_getElem? hz)).1
end Go.Proofs.YtgpbhlfdlkemjaaGreat
