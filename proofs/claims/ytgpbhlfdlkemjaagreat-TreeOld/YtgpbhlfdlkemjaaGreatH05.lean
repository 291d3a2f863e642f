import Derived.Deep.Slices
import Derived.KernelRfl
import Derived.Test.YtgpbhlfdlkemjaaGreatH04
/-
 Rows of k cells each: a slice that reads so, one that owns its row, append to one, slices of one.
-/
namespace Go.Proofs.YtgpbhlfdlkemjaaGreat
open Go.RowKit
set_option linter.unusedVariables false
def Wide (k:Nat) (rs:List (List Value)):Prop:=∀r∈rs,r.length=k∧∀u∈r,u.oneCell'=true
theorem Wide.append {k:Nat}{a b:List (List Value)} (h:Wide k a) (h':Wide k b):Wide k (a++b):=fun r hr=>by
 rcases List.mem_append.1 hr with hr|hr
 ·exact h r hr
 ·exact h' r hr
theorem Wide.flat_length {k:Nat}:∀{rs:List (List Value)},Wide k rs→rs.flatten.length=rs.length*k
 | [],_=>by simp
 | r::rs,h=>by
  rw [List.flatten_cons,List.length_append,Wide.flat_length (fun x hx=>h x (by simp [hx])),(h r (by simp)).1,List.length_cons,Nat.add_mul]
  omega
theorem Wide.one {k:Nat}{rs:List (List Value)} (h:Wide k rs):∀u∈rs.flatten,u.oneCell'=true:=fun u hu=>by
 obtain ⟨r,hr,hu⟩:=List.mem_flatten.1 hu
 exact (h r hr).2 u hu
theorem Wide.at {k:Nat}:∀{rs:List (List Value)} (h:Wide k rs) (j:Nat) (r:List Value),rs[j]?=some r→∀(i:Nat) (x:Value),r[i]?=some x→rs.flatten[j*k+i]?=some x
 | [],_,j,r,hj,_,_,_=>by simp at hj
 | s::rs,h,0,r,hj,i,x,hx=>by
  simp at hj
  subst hj
  rw [List.flatten_cons,Nat.zero_mul,Nat.zero_add,List.getElem?_append_left (List.getElem?_eq_some_iff.1 hx).1]
  exact hx
 | s::rs,h,j+1,r,hj,i,x,hx=>by
  have:=Wide.at (rs:=rs) (fun x hx=>h x (by simp [hx])) j r (by simpa using hj) i x hx
  have hl:=(h s (by simp)).1
  rw [List.flatten_cons,List.getElem?_append_right (by rw [hl,Nat.add_mul];omega),hl,show (j+1)*k+i-k=j*k+i by rw [Nat.add_mul];omega]
  exact this
theorem Wide.inv {k:Nat}:∀{rs:List (List Value)} (h:Wide k rs) (m:Nat) (x:Value),rs.flatten[m]?=some x→∃j r i,rs[j]?=some r∧r[i]?=some x∧m=j*k+i
 | [],_,m,x,hx=>by simp at hx
 | s::rs,h,m,x,hx=>by
  have hl:=(h s (by simp)).1
  rw [List.flatten_cons] at hx
  by_cases hm:m<k
  ·rw [List.getElem?_append_left (by omega)] at hx
   exact ⟨0,s,m,rfl,hx,by omega⟩
  ·rw [List.getElem?_append_right (by omega),hl] at hx
   obtain ⟨j,r,i,h1,h2,h3⟩:=Wide.inv (fun x hx=>h x (by simp [hx])) (m-k) x hx
   exact ⟨j+1,r,i,by simpa using h1,h2,by rw [Nat.add_mul];omega⟩
def ReadsR (k:Nat) (w:World) (v:Value) (rs:List (List Value)):Prop :=
 ∃a cap,v=.slice a rs.length cap∧rs.length≤cap∧cap≤maxLen∧(a=none→cap=0)∧(rs≠[]→∃b o,a=some ⟨b,o,none⟩∧∀j r,rs[j]?=some r→∀i x,r[i]?=some x→w.cell? ⟨b,o+j*k+i,none⟩=some x)
theorem ReadsR.nil (k:Nat) (w:World):ReadsR k w (.slice none 0 0) []:=⟨none,0,rfl,by simp,by simp,by simp,by simp⟩
theorem ReadsR.form {k:Nat}{w:World}{v:Value}{rs:List (List Value)} (h:ReadsR k w v rs):∃a c,v=.slice a rs.length c∧rs.length≤c∧c≤9223372036854775807:=by
 obtain ⟨a,c,h1,h2,h3,_⟩:=h
 exact ⟨a,c,h1,h2,h3⟩
theorem ReadsR.at {k:Nat}{w:World}{v:Value}{rs:List (List Value)} (h:ReadsR k w v rs) (j:Nat) (r:List Value) (hj:rs[j]?=some r):∃b o c,v=.slice (some ⟨b,o,none⟩) rs.length c∧∀i x,r[i]?=some x→w.cell? ⟨b,o+j*k+i,none⟩=some x:=by
 obtain ⟨a,cap,rfl,h2,h3,h4,h5⟩:=h
 obtain ⟨b,o,rfl,hc⟩:=h5 (by intro e;subst e;simp at hj)
 exact ⟨b,o,cap,rfl,hc j r hj⟩
theorem ReadsR.turn {k:Nat}{w w':World}{v:Value}{rs:List (List Value)} (h:ReadsR k w v rs) (hc:∀g o x,v.ownBlock=some g→w.cell? ⟨g,o,none⟩=some x→(∃r∈rs,x∈r)→w'.cell? ⟨g,o,none⟩=some x):ReadsR k w' v rs:=by
 obtain ⟨a,cap,rfl,h2,h3,h4,h5⟩:=h
 refine ⟨a,cap,rfl,h2,h3,h4,fun hl=>?_⟩
 obtain ⟨b,o,rfl,hh⟩:=h5 hl
 exact ⟨b,o,rfl,fun j r hj i x hx=>hc b _ x rfl (hh j r hj i x hx) ⟨r,List.mem_of_getElem? hj,List.mem_of_getElem? hx⟩⟩
theorem ReadsR.kept {k:Nat}{S:List Nat}{w w':World}{v:Value}{rs:List (List Value)} (h:ReadsR k w v rs) (kk:Kept S w w') (hn:∀g,v.ownBlock=some g→g∉S):ReadsR k w' v rs :=
 h.turn fun g o x hg hx _=>by rw [kk.cell (World.block_lt_of_cell? w _ hx) (hn g hg)];exact hx
theorem ReadsR.lt {k:Nat}{w:World}{v:Value}{rs:List (List Value)} (h:ReadsR k w v rs) (hw:Wide k rs) (hk:0<k) (hne:rs≠[]):∃g,v.ownBlock=some g∧g<w.heap.size:=by
 cases rs with
 | nil=>exact absurd rfl hne
 | cons r rs =>
  obtain ⟨b,o,c,rfl,hc⟩:=h.at 0 r rfl
  have hl:=(hw r (by simp)).1
  cases r with
  | nil=>simp at hl;omega
  | cons x r=>exact ⟨b,rfl,World.block_lt_of_cell? w _ (hc 0 x rfl)⟩
def OwnsR (e:TypeId) (k:Nat) (w:World) (v:Value) (rs:List (List Value)):Prop:=w.ownsRow 0 e k v rs.length rs.flatten
theorem OwnsR.nil (e:TypeId) (k:Nat) (w:World):OwnsR e k w (.slice none 0 0) []:=World.ownsRow_nil w 0 e k
theorem OwnsR.form {e:TypeId}{k:Nat}{w:World}{v:Value}{rs:List (List Value)} (h:OwnsR e k w v rs):∃a c,v=.slice a rs.length c∧rs.length≤c∧c≤9223372036854775807:=by
 rcases h.2 with ⟨rfl,h0⟩|⟨g,cap,cur,rfl,_,_,h1,h2,_⟩
 ·exact ⟨none,0,by rw [h0],by omega,by omega⟩
 ·exact ⟨_,cap,rfl,h1,h2⟩
theorem OwnsR.kept {e:TypeId}{k:Nat}{S:List Nat}{w w':World}{v:Value}{rs:List (List Value)} (h:OwnsR e k w v rs) (kk:Kept S w w') (hn:∀g,v.ownBlock=some g→g∉S):OwnsR e k w' v rs:=ownsRow_keep h kk hn
theorem OwnsR.lt {e:TypeId}{k:Nat}{w:World}{v:Value}{rs:List (List Value)} (h:OwnsR e k w v rs) {g:Nat} (hg:v.ownBlock=some g):g<w.heap.size:=(World.ownsRow.lt h g hg).2
theorem OwnsR.reads {e:TypeId}{k:Nat}{w:World}{v:Value}{rs:List (List Value)} (h:OwnsR e k w v rs) (hw:Wide k rs):ReadsR k w v rs:=by
 have hcells:=fun g hg=>World.ownsRow.cells h (g:=g) hg
 rcases h.2 with ⟨rfl,h0⟩|⟨g,cap,cur,rfl,_,hg,h1,h2,h3,h4⟩
 ·have:rs=[]:=List.eq_nil_of_length_eq_zero h0
  subst this
  exact ReadsR.nil k w
 ·refine ⟨some ⟨g,0,none⟩,cap,rfl,h1,h2,by simp,fun hl=>⟨g,0,rfl,fun j r hj i x hx=>?_⟩⟩
  have f1:=hcells g rfl _ _ (hw.at j r hj i x hx)
  rw [add_at] at f1
  rw [Nat.add_assoc]
  exact f1
structure RowT (T e:TypeId) (k b:Nat) (z:Value):Prop where
 under:Tryz.prog.underlying T=some (.slice e)
 info:(Tryz.prog.info? e).map (fun i=>(i.zero,i.size,i.bytes))=some (some z,k,b)
 zlen:z.cells.size=k
 kpos:0<k
 bytes:b≤64
section
variable {T e:TypeId}{k b:Nat}{z:Value}
theorem run_appendR (R:RowT T e k b z) (w:World) (ty:TypeId) (v:Value) (l:List (List Value)) (hown:OwnsR e k w v l) (x:Value) (m:List (List Value)) (hm:Wide k m) (hr:ReadsR k w x m) (hb:l.length+m.length≤1000000) :
  ∃ad c w',(Builtin.append_ #[T,T] ty #[v,x]).run Tryz.prog w=.ok (.slice ad (l.length+m.length) c) w'∧OwnsR e k w' (.slice ad (l.length+m.length) c) (l++m)∧w.grownBy w' v.ownBlock∧New w v (.slice ad (l.length+m.length) c):=by
 obtain ⟨i0,hi,hz0,hz1,hz2⟩:=info_parts R.info
 have key:∀v' w',(Builtin.append_ #[T,T] ty #[v,x]).run Tryz.prog w=.ok v' w'→OwnsR e k w' v' (l++m)→w.grownBy w' v.ownBlock→New w v v'→∃ad c w',(Builtin.append_ #[T,T] ty #[v,x]).run Tryz.prog w=.ok (.slice ad (l.length+m.length) c) w'∧OwnsR e k w' (.slice ad (l.length+m.length) c) (l++m)∧w.grownBy w' v.ownBlock∧New w v (.slice ad (l.length+m.length) c):=by
  intro v' w' h1 h2 h3 h4
  obtain ⟨ad,cap,rfl,-⟩:=h2.form
  rw [List.length_append] at h1 h2 h4
  exact ⟨ad,cap,w',h1,h2,h3,h4⟩
 obtain ⟨a,cap,rfl,h2,h3,h4,h5⟩:=hr
 cases a with
 | none =>
  have hc:=h4 rfl
  subst hc
  have h0:m=[]:=List.eq_nil_of_length_eq_zero (by omega)
  subst h0
  have hrun:=run_append_owned_none (P:=Tryz.prog) (w:=w) 0 T ty e i0 k R.under hi v l.length l.flatten hown
  exact key v w hrun (by rw [List.append_nil];exact hown) ⟨rfl,rfl,rfl,Nat.le_refl _,fun _ _ _=>rfl⟩ (New.refl w v)
 | some a =>
  have hcell:∀j u,m.flatten[j]?=some u→w.cell? (a.add j)=some u:=by
   intro j u hu
   obtain ⟨p,r,i,hp,hi',rfl⟩:=hm.inv j u hu
   obtain ⟨b,o,hab,hc⟩:=h5 (fun h=>by subst h;simp at hp)
   simp at hab
   subst hab
   have:=hc p r hp i u hi'
   rw [add_at,←Nat.add_assoc]
   exact this
  obtain ⟨v',w',hrun,e1,e2,e3,e4⟩:=run_append_own_at (P:=Tryz.prog) w 0 T ty e i0 z k b R.under hi hz0 hz1 hz2 R.zlen R.kpos v l.length l.flatten hown a m.length cap m.flatten hm.flat_length hcell hm.one (by unfold maxLen;omega) (by
   have:=R.bytes
   have h1:(l.length+m.length)*b≤1000000*64:=Nat.mul_le_mul hb this
   omega) (Nat.zero_le _)
  refine key v' w' hrun ?_ e2 ?_
  ·unfold OwnsR;rw [List.flatten_append,List.length_append];exact e1
  ·intro g hg
   rcases e4 with h|h
   ·exact .inl (by rw [←h];exact hg)
   ·exact .inr (Nat.le_of_eq (Option.some.inj (h.symm.trans hg)))
theorem reads_new (w:World) (cs:List Value) (hc:cs.length=k) (t:TypeId) (fr:Nat × Nat):ReadsR k (w.alloc (.cells cs.toArray t fr)) (.slice (some ⟨w.heap.size,0,none⟩) 1 1) [cs]:=by
 have hh:(w.alloc (.cells cs.toArray t fr)).heap[w.heap.size]?=some (.cells cs.toArray t fr):=heap_alloc_new w _
 refine ⟨_,1,rfl,by simp,by unfold maxLen;omega,by simp,fun _=>⟨w.heap.size,0,rfl,fun j u hu i x hx=>?_⟩⟩
 cases j with
 | zero =>
  simp at hu
  subst hu
  unfold World.cell?
  rw [hh]
  simpa using hx
 | succ j=>simp at hu
theorem append_rowR (R:RowT T e k b z) {w:World}{v:Value}{l:List (List Value)} (ho:OwnsR e k w v l) (cs:List Value) (hc:cs.length=k) (h1:∀u∈cs,u.oneCell'=true) (hn:l.length≤900000) (t:TypeId) (fr:Nat × Nat) (ty:TypeId) :
  ∃ad c w',(Builtin.append_ #[T,T] ty #[v,.slice (some ⟨w.heap.size,0,none⟩) 1 1]).run Tryz.prog (w.alloc (.cells cs.toArray t fr))=.ok (.slice ad (l.length+1) c) w'∧OwnsR e k w' (.slice ad (l.length+1) c) (l++[cs])∧Kept v.ownBlock.toList w w'∧New w v (.slice ad (l.length+1) c):=by
 have k0:=(Kept.refl [] w).alloc (.cells cs.toArray t fr)
 obtain ⟨ad,c,w',hrun,hO,hg,hN⟩:=run_appendR R _ ty v l (ho.kept k0 (by simp)) _ [cs] (fun r hr=>by simp at hr;subst hr;exact ⟨hc,h1⟩) (reads_new (k:=k) w cs hc t fr) (by simp;omega)
 refine ⟨ad,c,w',hrun,hO,(k0.mono (by simp)).grown hg (fun x hx=>.inl (by rw [Option.mem_toList];exact hx)),fun g hg=>?_⟩
 rcases hN g hg with h|h
 ·exact .inl h
 ·exact .inr (Nat.le_trans k0.size h)
theorem RowT.size (R:RowT T e k b z) (w:World):(Go.sizeOf e).run Tryz.prog w=.ok k w:=by
 obtain ⟨i0,hi,hz0,hz1,hz2⟩:=info_parts R.info
 simp [Go.sizeOf,typeInfo,hi,hz1]
theorem RowT.elem (R:RowT T e k b z):Tryz.prog.elem T=e:=by simp [Program.elem,R.under]
def cutA (a:Option Addr) (c i k:Nat):Option Addr:=if c=i then a else a.map (·.add (i*k))
theorem ReadsR.cut {w:World}{a:Option Addr}{n c i j m:Nat}{rs:List (List Value)} (hn:n=rs.length) (h:ReadsR k w (.slice a n c) rs) (hij:i≤j) (hj:j≤n) (hjm:j≤m) (hm:m≤c):ReadsR k w (.slice (cutA a m i k) (j-i) (m-i)) ((rs.take j).drop i):=by
 subst hn
 obtain ⟨a0,cap0,hv,h2,h3,h4,h5⟩:=h
 injection hv with e1 e2 e3
 subst e1 e3
 have hl:((rs.take j).drop i).length=j-i:=by rw [List.length_drop,List.length_take];omega
 refine ⟨_,m-i,by rw [hl],by rw [hl];omega,by omega,?_,?_⟩
 ·intro hn
  unfold cutA at hn
  by_cases hc:m=i
  ·omega
  ·rw [if_neg hc] at hn
   have:a=none:=by cases a<;>simp_all
   have:=h4 this
   omega
 ·intro hne
  have hlt:i<j:=by
   rcases Nat.lt_or_ge i j with h|h
   ·exact h
   ·exact absurd (List.length_eq_zero_iff.1 (by rw [hl];omega)) hne
  obtain ⟨b,o,rfl,hc⟩:=h5 (by intro h;subst h;simp at hj;omega)
  refine ⟨b,o+i*k,by unfold cutA;rw [if_neg (by omega),Option.map_some,add_at],fun p r hp q x hx=>?_⟩
  rw [List.getElem?_drop,List.getElem?_take] at hp
  split at hp
  ·have:=hc (i+p) r hp q x hx
   rw [show o+(i+p)*k+q=o+i*k+p*k+q by rw [Nat.add_mul];omega] at this
   exact this
  ·cases hp
theorem cutA_own (a:Option Addr) (c i k n m:Nat) {g:Nat} (h:(Value.slice (cutA a c i k) n m).ownBlock=some g) (n' m':Nat):(Value.slice a n' m').ownBlock=some g:=by
 cases a with
 | none=>unfold cutA at h;split at h<;>simp [Value.ownBlock] at h
 | some a =>
  obtain ⟨a',ha,hb⟩:∃a',cutA (some a) c i k=some a'∧a'.block=a.block:=by
   unfold cutA
   split
   ·exact ⟨a,rfl,rfl⟩
   ·refine ⟨_,rfl,?_⟩
    simp only [Addr.add]
    split<;>rfl
  rw [ha] at h
  simp [Value.ownBlock] at h ⊢
  omega
end
end Go.Proofs.YtgpbhlfdlkemjaaGreat
namespace Go.Proofs.YtgpbhlfdlkemjaaGreat
set_option linter.unusedVariables false
structure Itm where
 ad:Nat
 key:List UInt8
 val:List UInt8
deriving DecidableEq
def isz (i:Itm):Nat:=if 236<3+i.key.length+i.val.length then 14+i.key.length else 3+i.key.length+i.val.length
def lng (i:Itm):Bool:=decide (236<3+i.key.length+i.val.length)
@[reducible] def Tr:Nat→Type
 | 0=>Nat × List Itm
 | k+1=>Nat × List (Tr k)
def adr:{k:Nat}→Tr k→Nat
 | 0,n=>n.1
 | _+1,n=>n.1
def its:{k:Nat}→Tr k→List Itm
 | 0,n=>n.2
 | k+1,n=>n.2.flatMap (its (k:=k))
def fil:{k:Nat}→Tr k→Nat
 | 0,n=>(n.2.map isz).sum
 | _+1,n=>n.2.length*10
theorem its_zero (n:Tr 0):its n=n.2:=rfl
theorem its_succ {k:Nat} (n:Tr (k+1)):its n=n.2.flatMap its:=rfl
def Apart {α:Type} (f:α→Nat) (l:List α):Prop:=∀A a b B,l=A++a::b::B→236<f a+f b
section
variable {α:Type}{f:α→Nat}{l A B:List α}{a b:α}
theorem Apart.nil:Apart f []:=fun A a b B h=>by simp at h
theorem Apart.one:Apart f [a]:=fun A x y B h=>by
 have:=congrArg List.length h
 simp at this
 omega
theorem Apart.inner (h:Apart f (A++l++B)):Apart f l:=fun C x y D e=>h (A++C) x y (D++B) (by rw [e];simp)
theorem Apart.snoc (h:Apart f (l++[a])) (hab:236<f a+f b):Apart f (l++[a]++[b]):=fun C x y D e=>by
 rcases List.eq_nil_or_concat D with rfl|⟨D',d,rfl⟩
 ·have e2:l++[a]++[b]=(C++[x])++[y]:=by simpa using e
  obtain ⟨h1,h2⟩:=List.append_inj' e2 rfl
  obtain ⟨h3,h4⟩:=List.append_inj' h1 rfl
  simp at h2 h4
  subst h2
  subst h4
  exact hab
 ·have e2:l++[a]++[b]=(C++x::y::D')++[d]:=by simpa using e
  obtain ⟨h1,h2⟩:=List.append_inj' e2 rfl
  exact h C x y D' h1
theorem Apart.grow (h:Apart f (l++[a])) (hab:f a≤f b):Apart f (l++[b]):=fun C x y D e=>by
 rcases List.eq_nil_or_concat D with rfl|⟨D',d,rfl⟩
 ·have e2:l++[b]=(C++[x])++[y]:=by simpa using e
  obtain ⟨h1,h2⟩:=List.append_inj' e2 rfl
  simp at h2
  subst h2
  have:=h C x a [] (by rw [h1];simp)
  omega
 ·have e2:l++[b]=(C++x::y::D')++[d]:=by simpa using e
  obtain ⟨h1,h2⟩:=List.append_inj' e2 rfl
  exact h C x y (D'++[a]) (by rw [h1];simp)
end
def Wf:{k:Nat}→Tr k→Prop
 | 0,n=>n.2≠[]∧fil (k:=0) n≤236
 | k+1,n=>n.2≠[]∧n.2.length≤23∧(∀u∈n.2,Wf (k:=k) u)∧Apart (fil (k:=k)) n.2
theorem Wf.fil:{k:Nat}→{n:Tr k}→Wf n→fil n≤236
 | 0,_,h=>h.2
 | _+1,n,h=>by have:=h.2.1;show n.2.length*10≤236;omega
theorem Wf.some:{k:Nat}→{n:Tr k}→Wf n→its n≠[]
 | 0,_,h=>h.1
 | k+1,n,h=>by
  obtain ⟨h1,_,h3,_⟩:=h
  cases e:n.2 with
  | nil=>exact absurd e h1
  | cons u r =>
   rw [its_succ,e]
   intro hn
   rw [List.flatMap_cons,List.append_eq_nil_iff] at hn
   exact Wf.some (h3 u (by rw [e];simp)) hn.1
def Up (l:List Itm):Prop:=l.Pairwise fun a b=>a.key<b.key
theorem klt_irrefl (a:List UInt8):¬a<a:=List.lt_irrefl a
theorem klt_trans {a b c:List UInt8} (h:a<b) (h':b<c):a<c:=List.lt_trans h h'
theorem klt_asymm {a b:List UInt8} (h:a<b):¬b<a:=List.lt_asymm h
theorem klt_total {a b:List UInt8} (h:¬a<b) (h':a≠b):b<a:=by
 refine Classical.byContradiction fun h2=>h' (List.le_antisymm ?_ ?_)
 ·exact List.not_lt.1 h2
 ·exact List.not_lt.1 h
theorem Up.append {A B:List Itm}:Up (A++B)↔Up A∧Up B∧∀a∈A,∀b∈B,a.key<b.key:=List.pairwise_append
theorem Up.filter {A:List Itm} (h:Up A) (p:Itm→Bool):Up (A.filter p):=List.Pairwise.sublist List.filter_sublist h
abbrev Chg:=List UInt8 × Option Itm
def mrg:List Itm→List Chg→List Itm
 | is,[]=>is
 | is,c::cs=>is.filter (fun i=>decide (i.key<c.1))++c.2.toList++mrg (is.filter fun i=>decide (c.1<i.key)) cs
def ChUp (cs:List Chg):Prop:=cs.Pairwise fun a b=>a.1<b.1
def ChOk (cs:List Chg):Prop:=∀c∈cs,∀i,c.2=some i→i.key=c.1
theorem mem_mrg:∀(cs:List Chg) (is:List Itm),ChUp cs→∀i,i∈mrg is cs↔(∃c∈cs,c.2=some i)∨(i∈is∧∀c∈cs,c.1≠i.key)
 | [],is,_,i=>by simp [mrg]
 | c::cs,is,h,i=>by
  obtain ⟨h1,h2⟩:=List.pairwise_cons.1 h
  simp only [mrg,List.mem_append,List.mem_filter,decide_eq_true_eq,Option.mem_toList,mem_mrg cs _ h2,List.mem_cons]
  constructor
  ·rintro ((⟨h3,h4⟩|h3)|⟨d,hd,he⟩|⟨⟨h3,h4⟩,h5⟩)
   ·refine .inr ⟨h3,fun d hd e=>?_⟩
    rcases hd with rfl|hd
    ·exact klt_irrefl _ (e▸h4)
    ·exact klt_irrefl _ (klt_trans (e▸h1 d hd) h4)
   ·exact .inl ⟨c,.inl rfl,h3⟩
   ·exact .inl ⟨d,.inr hd,he⟩
   ·refine .inr ⟨h3,fun d hd e=>?_⟩
    rcases hd with rfl|hd
    ·exact klt_irrefl _ (e▸h4)
    ·exact h5 d hd e
  ·rintro (⟨d,rfl|hd,he⟩|⟨h3,h4⟩)
   ·exact .inl (.inr he)
   ·exact .inr (.inl ⟨d,hd,he⟩)
   ·by_cases hlt:i.key<c.1
    ·exact .inl (.inl ⟨h3,hlt⟩)
    ·exact .inr (.inr ⟨⟨h3,klt_total hlt (fun e=>h4 c (.inl rfl) e.symm)⟩,fun d hd=>h4 d (.inr hd)⟩)
theorem up_mrg:∀(cs:List Chg) (is:List Itm),ChUp cs→ChOk cs→Up is→Up (mrg is cs)
 | [],is,_,_,h=>h
 | c::cs,is,h,ho,hu=>by
  obtain ⟨h1,h2⟩:=List.pairwise_cons.1 h
  have hg:∀i∈mrg (is.filter fun i=>decide (c.1<i.key)) cs,c.1<i.key:=fun i hi=>by
   rcases (mem_mrg cs _ h2 i).1 hi with ⟨d,hd,he⟩|⟨h3,_⟩
   ·rw [ho d (by simp [hd]) i he];exact h1 d hd
   ·simpa using (List.mem_filter.1 h3).2
  have hl:∀i∈is.filter (fun i=>decide (i.key<c.1)),i.key<c.1:=fun i hi=>by simpa using (List.mem_filter.1 hi).2
  have hc:∀i∈c.2.toList,i.key=c.1:=fun i hi=>ho c (by simp) i (by simpa using hi)
  refine Up.append.2 ⟨Up.append.2 ⟨hu.filter _,?_,fun a ha b hb=>by rw [hc b hb];exact hl a ha⟩,up_mrg cs _ h2 (fun d hd=>ho d (by simp [hd])) (hu.filter _),fun a ha b hb=>?_⟩
  ·cases c.2 with
   | none=>exact List.Pairwise.nil
   | some i=>exact List.pairwise_singleton _ _
  ·rcases List.mem_append.1 ha with ha|ha
   ·exact klt_trans (hl a ha) (hg b hb)
   ·rw [hc a ha];exact hg b hb
theorem filter_all {A:List Itm}{p:Itm→Bool} (h:∀a∈A,p a=true):A.filter p=A:=List.filter_eq_self.2 h
theorem filter_none {A:List Itm}{p:Itm→Bool} (h:∀a∈A,p a=false):A.filter p=[]:=List.filter_eq_nil_iff.2 fun a ha=>by simp [h a ha]
theorem mrg_right (A B:List Itm):∀(cs:List Chg),(∀c∈cs,∀a∈A,a.key<c.1)→mrg (A++B) cs=A++mrg B cs
 | [],_=>rfl
 | c::cs,h=>by
  have h1:=h c (by simp)
  simp only [mrg,List.filter_append]
  rw [filter_all (A:=A) (fun a ha=>by simpa using h1 a ha),filter_none (A:=A) (fun a ha=>by simpa using klt_asymm (h1 a ha))]
  simp
theorem mrg_append:∀(cs ds:List Chg) (A B:List Itm),(∀c∈cs,∀b∈B,c.1<b.key)→(∀c∈ds,∀a∈A,a.key<c.1)→(∀c∈cs,∀d∈ds,c.1<d.1)→mrg (A++B) (cs++ds)=mrg A cs++mrg B ds
 | [],ds,A,B,_,h,_=>mrg_right A B ds h
 | c::cs,ds,A,B,h1,h2,h3=>by
  have hb:=h1 c (by simp)
  simp only [mrg,List.filter_append,List.cons_append]
  rw [filter_none (A:=B) (fun b hB=>by simpa using klt_asymm (hb b hB)),filter_all (A:=B) (fun b hB=>by simpa using hb b hB),mrg_append cs ds _ B (fun d hd=>h1 d (by simp [hd])) (fun d hd a ha=>h2 d hd a (List.mem_filter.1 ha).1) (fun x hx=>h3 x (by simp [hx]))]
  simp
theorem sum_mrg (f:Itm→Nat):∀(cs:List Chg) (is:List Itm),((mrg is cs).map f).sum≤(is.map f).sum+(cs.map fun c=>(c.2.toList.map f).sum).sum
 | [],is=>by simp [mrg]
 | c::cs,is=>by
  have h:=sum_mrg f cs (is.filter fun i=>decide (c.1<i.key))
  have h2:∀(l:List Itm),((l.filter (fun i=>decide (i.key<c.1))).map f).sum+((l.filter (fun i=>decide (c.1<i.key))).map f).sum≤(l.map f).sum:=by
   intro l
   induction l with
   | nil=>simp
   | cons a r ih =>
    by_cases h3:a.key<c.1
    ·have h4:=klt_asymm h3
     simp only [List.filter_cons,h3,h4,decide_true,decide_false,if_true,List.map_cons,List.sum_cons] at *
     simp only [Bool.false_eq_true,if_false]
     omega
    ·by_cases h4:c.1<a.key
     ·simp only [List.filter_cons,h3,h4,decide_true,decide_false,if_true,List.map_cons,List.sum_cons] at *
      simp only [Bool.false_eq_true,if_false]
      omega
     ·simp only [List.filter_cons,h3,h4,decide_false,List.map_cons,List.sum_cons] at *
      simp only [Bool.false_eq_true,if_false]
      omega
  have h3:=h2 is
  simp only [mrg,List.map_append,List.sum_append,List.map_cons,List.sum_cons]
  omega
theorem up_ext:∀{A B:List (List UInt8 × List UInt8)},A.Pairwise (fun a b=>a.1<b.1)→B.Pairwise (fun a b=>a.1<b.1)→(∀x,x∈A↔x∈B)→A=B
 | [],[],_,_,_=>rfl
 | [],b::B,_,_,h=>absurd ((h b).2 (by simp)) (by simp)
 | a::A,[],_,_,h=>absurd ((h a).1 (by simp)) (by simp)
 | a::A,b::B,hA,hB,h=>by
  obtain ⟨a1,a2⟩:=List.pairwise_cons.1 hA
  obtain ⟨b1,b2⟩:=List.pairwise_cons.1 hB
  have e:a=b:=by
   rcases List.mem_cons.1 ((h a).1 (by simp)) with h1|h1
   ·exact h1
   ·rcases List.mem_cons.1 ((h b).2 (by simp)) with h2|h2
    ·exact h2.symm
    ·exact absurd (b1 a h1) (klt_asymm (a1 b h2))
  subst e
  rw [up_ext a2 b2 fun x=>?_]
  constructor
  ·intro hx
   rcases List.mem_cons.1 ((h x).1 (by simp [hx])) with h1|h1
   ·subst h1;exact absurd (a1 x hx) (klt_irrefl _)
   ·exact h1
  ·intro hx
   rcases List.mem_cons.1 ((h x).2 (by simp [hx])) with h1|h1
   ·subst h1;exact absurd (b1 x hx) (klt_irrefl _)
   ·exact h1
def nf {α:Type} (f:α→Nat):List α→Nat
 | a::b::r=>(if 236<f a+f b then 1 else 0)+nf f (b::r)
 | _=>0
theorem nf_snoc {α:Type} (f:α→Nat) (a b:α):∀l:List α,nf f (l++[a]++[b])=nf f (l++[a])+if 236<f a+f b then 1 else 0
 | []=>by simp [nf]
 | [x]=>by simp [nf]
 | x::y::r=>by
  have:=nf_snoc f a b (y::r)
  simp only [List.cons_append,nf] at this ⊢
  omega
theorem nf_one {α:Type} (f:α→Nat):∀(b:α) (r:List α),Apart f (b::r)→r.length≤nf f (b::r)
 | _,[],_=>by simp
 | b,c::r,hB=>by
  have h1:=nf_one f c r (Apart.inner (A:=[b]) (B:=[]) (by simpa using hB))
  have h2:=hB [] b c r rfl
  simp only [nf,h2,if_true,List.length_cons] at *
  omega
theorem nf_join {α:Type} (f:α→Nat):∀(A B:List α),Apart f A→Apart f B→A.length+B.length≤nf f (A++B)+2
 | [],[],_,_=>by simp
 | [],[b],_,_=>by simp
 | [],b::c::r,hA,hB=>by
  have h1:=nf_join f [] (c::r) hA (Apart.inner (A:=[b]) (B:=[]) (by simpa using hB))
  have h2:=hB [] b c r rfl
  simp only [List.nil_append,nf,h2,if_true,List.length_cons,List.length_nil] at *
  omega
 | [a],[],_,_=>by simp
 | [a],b::r,hA,hB=>by
  have h1:=nf_one f b r hB
  simp only [List.nil_append,List.cons_append,nf,List.length_cons,List.length_nil] at *
  omega
 | a::c::r,B,hA,hB=>by
  have h1:=nf_join f (c::r) B (Apart.inner (A:=[a]) (B:=[]) (by simpa using hA)) hB
  have h2:=hA [] a c r rfl
  simp only [List.cons_append,nf,h2,if_true,List.length_cons] at *
  omega
def nn:{k:Nat}→Tr k→Nat
 | 0,_=>1
 | k+1,n=>1+(n.2.map (nn (k:=k))).sum
theorem len_its_succ {k:Nat} (n:Tr (k+1)):(its n).length=(n.2.map fun u=>(its u).length).sum:=by
 rw [its_succ,List.length_flatMap]
theorem sum_ones {α:Type} (l:List α):(l.map fun _=>1).sum=l.length:=by induction l<;>simp_all;omega
theorem sum_ge {α:Type} (f g:α→Nat) (l:List α) (h:∀a∈l,f a≤g a):(l.map f).sum≤(l.map g).sum:=by
 induction l with
 | nil=>simp
 | cons a r ih =>
  have h1:=ih fun x hx=>h x (by simp [hx])
  have h2:=h a (by simp)
  simp only [List.map_cons,List.sum_cons]
  omega
theorem sum_ch:∀{k:Nat} (l:List (Tr (k+1))),Apart fil l→(∀u∈l,Wf u)→l.length*12≤(l.map fun u=>u.2.length).sum+11
 | _,[],_,_=>by simp
 | _,[a],_,hw=>by
  have:=(hw a (by simp)).1
  have:=List.length_pos_iff.2 this
  simp
  omega
 | k,a::b::r,hA,hw=>by
  have h1:=hA [] a b r rfl
  have h3:236<a.2.length*10+b.2.length*10:=h1
  cases r with
  | nil=>simp;omega
  | cons c r =>
   have h2:=sum_ch (c::r) (Apart.inner (A:=[a,b]) (B:=[]) (by simpa using hA)) (fun u hu=>hw u (List.mem_cons_of_mem _ (List.mem_cons_of_mem _ hu)))
   simp only [List.length_cons,List.map_cons,List.sum_cons] at *
   omega
def many:Nat→Nat
 | 0=>1
 | k+1=>11*many k+1
theorem many_pos (k:Nat):1≤many k:=by cases k<;>simp [many]
theorem sum_affine {α:Type} (f g:α→Nat) (c d:Nat) (l:List α) (h:∀a∈l,c*g a≤f a+d):c*(l.map g).sum≤(l.map f).sum+d*l.length:=by
 induction l with
 | nil=>simp
 | cons a r ih =>
  have h1:=ih fun x hx=>h x (by simp [hx])
  have h2:=h a (by simp)
  simp only [List.map_cons,List.sum_cons,List.length_cons,Nat.mul_add,Nat.mul_one]
  omega
theorem items_ge:∀{k:Nat} (n:Tr (k+1)),Wf n→many k*n.2.length≤(its n).length+(many k-1)
 | 0,n,h=>by
  rw [len_its_succ]
  have h1:=sum_ge (fun _=>1) (fun u:Tr 0=>(its u).length) n.2 fun u hu=>List.length_pos_iff.2 (h.2.2.1 u hu).some
  rw [sum_ones] at h1
  simp only [many]
  omega
 | k+1,n,h=>by
  rw [len_its_succ]
  obtain ⟨h1,h2,h3,h4⟩:=h
  have e1:=sum_affine (fun u:Tr (k+1)=>(its u).length) (fun u:Tr (k+1)=>u.2.length) (many k) (many k-1) n.2 (fun u hu=>items_ge u (h3 u hu))
  have e2:=sum_ch n.2 h4 h3
  have e3:=many_pos k
  have e4:=Nat.mul_le_mul_left (many k) e2
  generalize (n.2.map fun u:Tr (k+1)=>u.2.length).sum=S at *
  generalize (n.2.map fun u:Tr (k+1)=>(its u).length).sum=I at *
  generalize n.2.length=c at *
  simp only [many]
  generalize many k=m at *
  obtain ⟨m,rfl⟩:∃j,m=j+1:=⟨m-1,by omega⟩
  simp only [Nat.add_sub_cancel] at *
  have a1:(m+1)*(c*12)=12*(m*c)+12*c:=by rw [Nat.add_mul,Nat.one_mul,Nat.mul_comm c 12,Nat.mul_left_comm]
  have a2:(m+1)*(S+11)=(m+1)*S+(11*m+11):=by rw [Nat.mul_add];omega
  have a3:(11*(m+1)+1)*c=11*(m*c)+12*c:=by rw [Nat.add_mul,Nat.mul_assoc,Nat.add_mul];omega
  omega
def Top:{k:Nat}→Tr k→Prop
 | 0,_=>True
 | _+1,n=>n.2.length≠1
theorem many_ge:∀k,3≤k→1464≤many k
 | 3,_=>by decide
 | k+4,_=>by have:=many_ge (k+3) (by omega);simp only [many] at *;omega
theorem level_le {k:Nat} (n:Tr k) (h:Wf n) (ht:Top n) (hi:(its n).length≤500):k≤3:=by
 refine Classical.byContradiction fun hk=>?_
 obtain ⟨j,rfl⟩:∃j,k=j+1:=⟨k-1,by omega⟩
 have h1:=items_ge n h
 have h2:=many_ge j (by omega)
 have h3:n.2.length≠1:=ht
 have h4:=List.length_pos_iff.2 h.1
 have h5:many j*2≤many j*n.2.length:=Nat.mul_le_mul_left _ (by omega)
 omega
theorem nn_le {k:Nat} (n:Tr k) (h:Wf n) (ht:Top n) (hi:(its n).length≤500):nn n≤560:=by
 have hk:=level_le n h ht hi
 have n0:∀u:Tr 0,nn u=1:=fun u=>rfl
 have n1:∀u:Tr 1,nn u=1+u.2.length:=fun u=>by
  show 1+(u.2.map (nn (k:=0))).sum=_
  have:u.2.map (nn (k:=0))=u.2.map fun _=>1:=List.map_congr_left fun x _=>n0 x
  rw [this,sum_ones]
 have hs:∀(j:Nat) (l:List (Tr j)),(l.map fun u=>1+(its u).length).sum=l.length+(l.map fun u=>(its u).length).sum:=fun j l=>by
  induction l with
  | nil=>rfl
  | cons a r ih=>simp only [List.map_cons,List.sum_cons,List.length_cons] at *;omega
 have hs2:∀(l:List (Tr 2)),(l.map fun u:Tr 2=>1+u.2.length+(its u).length).sum=l.length+(l.map fun u:Tr 2=>u.2.length).sum+(l.map fun u=>(its u).length).sum:=fun l=>by
  induction l with
  | nil=>rfl
  | cons a r ih=>simp only [List.map_cons,List.sum_cons,List.length_cons] at *;omega
 have b1:∀u:Tr 1,Wf u→nn u≤1+(its u).length:=fun u hu=>by
  have:=items_ge u hu
  simp [many] at this
  rw [n1]
  omega
 have b2:∀u:Tr 2,Wf u→nn u≤1+u.2.length+(its u).length:=fun u hu=>by
  have e1:=sum_ge (nn (k:=1)) (fun u:Tr 1=>1+(its u).length) u.2 fun x hx=>b1 x (hu.2.2.1 x hx)
  rw [hs,←len_its_succ] at e1
  show 1+(u.2.map (nn (k:=1))).sum≤_
  omega
 match k,hk,n,h,hi with
 | 0,_,n,h,hi=>rw [n0];omega
 | 1,_,n,h,hi=>have:=b1 n h;omega
 | 2,_,n,h,hi =>
  have:=b2 n h
  have:=h.2.1
  omega
 | 3,_,n,h,hi =>
  have e1:=sum_ge (nn (k:=2)) (fun u:Tr 2=>1+u.2.length+(its u).length) n.2 fun x hx=>b2 x (h.2.2.1 x hx)
  rw [hs2,←len_its_succ] at e1
  have e2:=sum_affine (fun u:Tr 2=>(its u).length) (fun u:Tr 2=>u.2.length) 12 11 n.2 (fun u hu=>by have:=items_ge u (h.2.2.1 u hu);simpa [many] using this)
  rw [←len_its_succ] at e2
  have e3:=items_ge n h
  simp [many] at e3
  show 1+(n.2.map (nn (k:=2))).sum≤_
  omega
end Go.Proofs.YtgpbhlfdlkemjaaGreat
