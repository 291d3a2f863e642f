import Derived.Maps.OwnSet
import Derived.Maps.RangeWalk
import Derived.Maps.Ext
import Derived.Lib.SlKeysI
import Derived.Lib.MinMax
import Derived.Laws.Rows
import Derived.Test.YtgpbhlfdlkemjaaGreatH04
import Derived.Test.YtgpbhlfdlkemjaaGreatH05
/-
 Trees in memory.
-/
namespace Go.Proofs.YtgpbhlfdlkemjaaGreat
open Go.RowKit
set_option linter.unusedVariables false
abbrev Pp (a:Nat):Value:=.pointer (some ⟨a,0,none⟩)
def CP (l:List Nat):List (List Value):=l.map fun a=>[Pp a]
theorem CP_length (l:List Nat):(CP l).length=l.length:=by simp [CP]
theorem CP_append (a b:List Nat):CP (a++b)=CP a++CP b:=by simp [CP]
theorem CP_wide (l:List Nat):Wide 1 (CP l):=fun r hr=>by
 obtain ⟨a,_,rfl⟩:=List.mem_map.1 hr
 exact ⟨rfl,fun u hu=>by simp at hu;subst hu;rfl⟩
theorem CP_at {l:List Nat}{j a:Nat} (h:l[j]?=some a):(CP l)[j]?=some [Pp a]:=by simp [CP,h]
def ReadsP (w:World) (v:Value) (l:List Nat):Prop:=ReadsR 1 w v (CP l)
theorem ReadsP.nil (w:World):ReadsP w (.slice none 0 0) []:=ReadsR.nil 1 w
theorem ReadsP.form {w:World}{v:Value}{l:List Nat} (h:ReadsP w v l):∃a c,v=.slice a l.length c∧l.length≤c∧c≤9223372036854775807:=by
 have:=ReadsR.form h
 rwa [CP_length] at this
theorem ReadsP.kept {S:List Nat}{w w':World}{v:Value}{l:List Nat} (h:ReadsP w v l) (k:Kept S w w') (hn:∀g,v.ownBlock=some g→g∉S):ReadsP w' v l:=ReadsR.kept h k hn
theorem ReadsP.keptE {S:List Nat}{w w':World}{v:Value}{l:List Nat} (h:ReadsP w v l) (k:Kept S w w') (hn:l≠[]→∀g,v.ownBlock=some g→g∉S):ReadsP w' v l:=by
 by_cases hl:l=[]
 ·subst hl
  obtain ⟨a,cap,rfl,h2,h3,h4,_⟩:=h
  exact ⟨a,cap,rfl,h2,h3,h4,fun h=>absurd rfl h⟩
 ·exact h.kept k (hn hl)
theorem Reads.keptE {S:List Nat}{w w':World}{v:Value}{l:List UInt8} (h:Reads w v l) (k:Kept S w w') (hn:l≠[]→∀g,v.ownBlock=some g→g∉S):Reads w' v l:=by
 by_cases hl:l=[]
 ·subst hl
  obtain ⟨a,cap,rfl,h2,h3,h4,_⟩:=h
  exact ⟨a,cap,rfl,h2,h3,h4,fun h=>absurd rfl h⟩
 ·exact h.kept k (hn hl)
theorem ReadsP.at {w:World}{v:Value}{l:List Nat} (h:ReadsP w v l) (j a:Nat) (hj:l[j]?=some a):∃b o c,v=.slice (some ⟨b,o,none⟩) l.length c∧w.cell? ⟨b,o+j,none⟩=some (.pointer (some ⟨a,0,none⟩)):=by
 obtain ⟨b,o,c,rfl,hc⟩:=ReadsR.at h j _ (CP_at hj)
 rw [CP_length]
 refine ⟨b,o,c,rfl,?_⟩
 have:=hc 0 (Pp a) rfl
 rwa [Nat.mul_one,Nat.add_zero] at this
theorem ReadsP.lt {w:World}{v:Value}{l:List Nat} (h:ReadsP w v l) (hl:l≠[]) {g:Nat} (hg:v.ownBlock=some g):g<w.heap.size:=by
 obtain ⟨b,hb,hlt⟩:=ReadsR.lt h (CP_wide l) (by omega) (by intro e;have:=congrArg List.length e;rw [CP_length] at this;exact hl (List.eq_nil_of_length_eq_zero this))
 have e:b=g:=Option.some.inj (hb.symm.trans hg)
 subst e
 exact hlt
theorem ReadsP.det {w:World}{v:Value}{l m:List Nat} (h:ReadsP w v l) (h':ReadsP w v m):l=m:=by
 obtain ⟨a,c,rfl,-⟩:=h.form
 obtain ⟨a2,c2,e,-⟩:=h'.form
 injection e with _ hl _
 refine List.ext_getElem? fun j=>?_
 by_cases hj:j<l.length
 ·obtain ⟨x,hx⟩:∃x,l[j]?=some x:=⟨_,List.getElem?_eq_getElem hj⟩
  obtain ⟨y,hy⟩:∃y,m[j]?=some y:=⟨_,List.getElem?_eq_getElem (by omega)⟩
  obtain ⟨b,o,c3,e3,hc3⟩:=h.at j x hx
  obtain ⟨b',o',c4,e4,hc4⟩:=h'.at j y hy
  rw [e3] at e4
  injection e4 with e5 _ _
  injection e5 with e5
  injection e5 with e6 e7 _
  subst e6 e7
  rw [hc3] at hc4
  injection hc4 with hc4
  injection hc4 with hc4
  injection hc4 with hc4
  injection hc4 with hc4 _ _
  rw [hx,hy,hc4]
 ·rw [List.getElem?_eq_none (by omega),List.getElem?_eq_none (by omega)]
def OwnsP (e:TypeId) (w:World) (v:Value) (l:List Nat):Prop:=OwnsR e 1 w v (CP l)
theorem OwnsP.nil (e:TypeId) (w:World):OwnsP e w (.slice none 0 0) []:=OwnsR.nil e 1 w
theorem OwnsP.form {e:TypeId}{w:World}{v:Value}{l:List Nat} (h:OwnsP e w v l):∃a c,v=.slice a l.length c∧l.length≤c∧c≤9223372036854775807:=by
 have:=OwnsR.form h
 rwa [CP_length] at this
theorem OwnsP.kept {e:TypeId}{S:List Nat}{w w':World}{v:Value}{l:List Nat} (h:OwnsP e w v l) (k:Kept S w w') (hn:∀g,v.ownBlock=some g→g∉S):OwnsP e w' v l:=OwnsR.kept h k hn
theorem OwnsP.lt {e:TypeId}{w:World}{v:Value}{l:List Nat} (h:OwnsP e w v l) {g:Nat} (hg:v.ownBlock=some g):g<w.heap.size:=OwnsR.lt h hg
theorem OwnsP.reads {e:TypeId}{w:World}{v:Value}{l:List Nat} (h:OwnsP e w v l):ReadsP w v l:=OwnsR.reads h (CP_wide l)
theorem rt112:RowT 112 77 1 8 (.pointer none):=⟨Tryz.underlying112,by kernel_rfl,rfl,by omega,by omega⟩
theorem rt111:RowT 111 100 1 8 (.pointer none):=⟨Tryz.underlying111,by kernel_rfl,rfl,by omega,by omega⟩
theorem run_appendP {T e:TypeId}{b:Nat}{z:Value} (R:RowT T e 1 b z) (w:World) (ty:TypeId) (v:Value) (l:List Nat) (hown:OwnsP e w v l) (x:Value) (m:List Nat) (hr:ReadsP w x m) (hb:l.length+m.length≤1000000) :
  ∃ad c w',(Builtin.append_ #[T,T] ty #[v,x]).run Tryz.prog w=.ok (.slice ad (l.length+m.length) c) w'∧OwnsP e w' (.slice ad (l.length+m.length) c) (l++m)∧Kept v.ownBlock.toList w w'∧New w v (.slice ad (l.length+m.length) c):=by
 have h:=run_appendR R w ty v (CP l) hown x (CP m) (CP_wide m) hr (by simpa [CP_length] using hb)
 rw [CP_length,CP_length] at h
 obtain ⟨ad,c,w',h1,h2,h3,h4⟩:=h
 exact ⟨ad,c,w',h1,by unfold OwnsP;rw [CP_append];exact h2,(Kept.refl _ w).grown h3 (fun x hx=>.inl (by rw [Option.mem_toList];exact hx)),h4⟩
theorem append_ptr {T e:TypeId}{b:Nat}{z:Value} (R:RowT T e 1 b z) {w:World}{v:Value}{l:List Nat} (ho:OwnsP e w v l) (a:Nat) (hn:l.length≤900000) (t:TypeId) (fr:Nat × Nat) (ty:TypeId) :
  ∃ad c w',(Builtin.append_ #[T,T] ty #[v,.slice (some ⟨w.heap.size,0,none⟩) 1 1]).run Tryz.prog (w.alloc (.cells #[Pp a] t fr))=.ok (.slice ad (l.length+1) c) w'∧OwnsP e w' (.slice ad (l.length+1) c) (l++[a])∧Kept v.ownBlock.toList w w'∧New w v (.slice ad (l.length+1) c):=by
 have h:=append_rowR R ho [Pp a] rfl (fun u hu=>by simp at hu;subst hu;rfl) (by simpa [CP_length] using hn) t fr ty
 rw [CP_length] at h
 obtain ⟨ad,c,w',h1,h2,h3,h4⟩:=h
 exact ⟨ad,c,w',h1,by unfold OwnsP;rw [CP_append];exact h2,h3,h4⟩
theorem ReadsP.cut {w:World}{a:Option Addr}{n c i j m:Nat}{l:List Nat} (hn:n=l.length) (h:ReadsP w (.slice a n c) l) (hij:i≤j) (hj:j≤n) (hjm:j≤m) (hm:m≤c):ReadsP w (.slice (cutA a m i 1) (j-i) (m-i)) ((l.take j).drop i):=by
 have:=ReadsR.cut (by rw [CP_length];exact hn) h hij hj hjm hm
 unfold ReadsP CP
 rw [List.map_drop,List.map_take]
 exact this
abbrev Rho:=Nat→Nat × Nat
def IsI (w:World) (F:Nat→Prop) (ρ:Rho) (i:Itm):Prop :=
 ∃v,w.heap[i.ad]?=some (.cells #[.int .i64 ((ρ i.ad).1:Int),.int .u64 ((ρ i.ad).2:Int),.string ⟨i.key.toArray⟩,v] 104 (0,0))∧Reads w v i.val∧F i.ad∧(i.val≠[]→∀g,v.ownBlock=some g→F g)
def IsB (w:World) (F:Nat→Prop) (a:Nat) (r:Nat × Nat) (lv:Nat) (is us:List Nat):Prop :=
 ∃vi vu,w.heap[a]?=some (.cells #[.int .i64 (r.1:Int),.int .u64 (r.2:Int),.int .i64 (lv:Int),vi,vu] 114 (0,0))∧ReadsP w vi is∧ReadsP w vu us∧F a∧(is≠[]→∀g,vi.ownBlock=some g→F g)∧(us≠[]→∀g,vu.ownBlock=some g→F g)
def IsN (w:World) (F:Nat→Prop) (ρ:Rho):{k:Nat}→Tr k→Prop
 | 0,n=>IsB w F n.1 (ρ n.1) 0 (n.2.map Itm.ad) []∧∀i∈n.2,IsI w F ρ i
 | k+1,n=>IsB w F n.1 (ρ n.1) (k+1) [] (n.2.map adr)∧∀u∈n.2,IsN w F ρ (k:=k) u
section
variable {w w':World}{F F':Nat→Prop}{ρ ρ':Rho}
theorem IsI.kept {S:List Nat}{i:Itm} (h:IsI w F ρ i) (k:Kept S w w') (hS:∀x∈S,¬F x):IsI w' F ρ i:=by
 obtain ⟨v,h1,h2,h3,h4⟩:=h
 exact ⟨v,k.keeps h1 (fun hm=>hS _ hm h3),h2.keptE k (fun hl g hg hm=>hS g hm (h4 hl g hg)),h3,h4⟩
theorem IsI.monoS {i:Itm} (h:IsI w F ρ i) (hF:∀x,x<w.heap.size→F x→F' x):IsI w F' ρ i:=by
 obtain ⟨v,h1,h2,h3,h4⟩:=h
 exact ⟨v,h1,h2,hF _ (lt_of_block h1) h3,fun hl g hg=>by
  obtain ⟨b,hb,hlt⟩:=h2.lt hl
  have e:b=g:=Option.some.inj (hb.symm.trans hg)
  subst e
  exact hF b hlt (h4 hl b hg)⟩
theorem IsI.mono {i:Itm} (h:IsI w F ρ i) (hF:∀x,F x→F' x):IsI w F' ρ i:=by
 obtain ⟨v,h1,h2,h3,h4⟩:=h
 exact ⟨v,h1,h2,hF _ h3,fun hl g hg=>hF g (h4 hl g hg)⟩
theorem IsI.lt {i:Itm} (h:IsI w F ρ i):i.ad<w.heap.size:=by
 obtain ⟨v,h1,_⟩:=h
 exact lt_of_block h1
theorem IsB.kept {S:List Nat}{a lv:Nat}{r:Nat × Nat}{is us:List Nat} (h:IsB w F a r lv is us) (k:Kept S w w') (hS:∀x∈S,¬F x):IsB w' F a r lv is us:=by
 obtain ⟨vi,vu,h1,h2,h3,h4,h5,h6⟩:=h
 exact ⟨vi,vu,k.keeps h1 (fun hm=>hS _ hm h4),h2.keptE k (fun hl g hg hm=>hS g hm (h5 hl g hg)),h3.keptE k (fun hl g hg hm=>hS g hm (h6 hl g hg)),h4,h5,h6⟩
theorem IsB.monoS {a lv:Nat}{r:Nat × Nat}{is us:List Nat} (h:IsB w F a r lv is us) (hF:∀x,x<w.heap.size→F x→F' x):IsB w F' a r lv is us:=by
 obtain ⟨vi,vu,h1,h2,h3,h4,h5,h6⟩:=h
 exact ⟨vi,vu,h1,h2,h3,hF _ (lt_of_block h1) h4,fun hl g hg=>hF g (h2.lt hl hg) (h5 hl g hg),fun hl g hg=>hF g (h3.lt hl hg) (h6 hl g hg)⟩
theorem IsB.mono {a lv:Nat}{r:Nat × Nat}{is us:List Nat} (h:IsB w F a r lv is us) (hF:∀x,F x→F' x):IsB w F' a r lv is us:=by
 obtain ⟨vi,vu,h1,h2,h3,h4,h5,h6⟩:=h
 exact ⟨vi,vu,h1,h2,h3,hF _ h4,fun hl g hg=>hF g (h5 hl g hg),fun hl g hg=>hF g (h6 hl g hg)⟩
theorem IsB.lt {a lv:Nat}{r:Nat × Nat}{is us:List Nat} (h:IsB w F a r lv is us):a<w.heap.size:=by
 obtain ⟨vi,vu,h1,_⟩:=h
 exact lt_of_block h1
theorem IsN.kept {S:List Nat} (kk:Kept S w w') (hS:∀x∈S,¬F x):{k:Nat}→{n:Tr k}→IsN w F ρ n→IsN w' F ρ n
 | 0,n,h=>⟨h.1.kept kk hS,fun i hi=>(h.2 i hi).kept kk hS⟩
 | k+1,n,h=>⟨h.1.kept kk hS,fun u hu=>IsN.kept kk hS (h.2 u hu)⟩
theorem IsN.mono (hF:∀x,F x→F' x):{k:Nat}→{n:Tr k}→IsN w F ρ n→IsN w F' ρ n
 | 0,n,h=>⟨h.1.mono hF,fun i hi=>(h.2 i hi).mono hF⟩
 | k+1,n,h=>⟨h.1.mono hF,fun u hu=>IsN.mono hF (h.2 u hu)⟩
theorem IsN.monoS (hF:∀x,x<w.heap.size→F x→F' x):{k:Nat}→{n:Tr k}→IsN w F ρ n→IsN w F' ρ n
 | 0,n,h=>⟨h.1.monoS hF,fun i hi=>(h.2 i hi).monoS hF⟩
 | k+1,n,h=>⟨h.1.monoS hF,fun u hu=>IsN.monoS hF (h.2 u hu)⟩
theorem IsN.item:{k:Nat}→{n:Tr k}→IsN w F ρ n→∀i∈its n,IsI w F ρ i
 | 0,n,h,i,hi=>h.2 i hi
 | k+1,n,h,i,hi=>by
  rw [its_succ] at hi
  obtain ⟨u,hu,hi⟩:=List.mem_flatMap.1 hi
  exact IsN.item (h.2 u hu) i hi
theorem IsN.lt:{k:Nat}→{n:Tr k}→IsN w F ρ n→adr n<w.heap.size
 | 0,_,h=>h.1.lt
 | _+1,_,h=>h.1.lt
theorem IsN.inF:{k:Nat}→{n:Tr k}→IsN w F ρ n→F (adr n)
 | 0,_,h=>by obtain ⟨_,_,_,_,_,h4,_⟩:=h.1;exact h4
 | _+1,_,h=>by obtain ⟨_,_,_,_,_,h4,_⟩:=h.1;exact h4
theorem IsN.level:{k:Nat}→{n:Tr k}→IsN w F ρ n→w.cell? ⟨adr n,2,none⟩=some (.int .i64 (k:Int))
 | 0,n,h=>by obtain ⟨vi,vu,h1,_⟩:=h.1;show w.cell? ⟨n.1,2,none⟩=_;simp [World.cell?,h1]
 | k+1,n,h=>by obtain ⟨vi,vu,h1,_⟩:=h.1;show w.cell? ⟨n.1,2,none⟩=_;simp [World.cell?,h1]
theorem IsN.ref:{k:Nat}→{n:Tr k}→IsN w F ρ n→w.cell? ⟨adr n,0,none⟩=some (.int .i64 ((ρ (adr n)).1:Int))∧w.cell? ⟨adr n,1,none⟩=some (.int .u64 ((ρ (adr n)).2:Int))
 | 0,n,h=>by obtain ⟨vi,vu,h1,_⟩:=h.1;show w.cell? ⟨n.1,0,none⟩=some (.int .i64 ((ρ n.1).1:Int))∧w.cell? ⟨n.1,1,none⟩=some (.int .u64 ((ρ n.1).2:Int));simp [World.cell?,h1]
 | k+1,n,h=>by obtain ⟨vi,vu,h1,_⟩:=h.1;show w.cell? ⟨n.1,0,none⟩=some (.int .i64 ((ρ n.1).1:Int))∧w.cell? ⟨n.1,1,none⟩=some (.int .u64 ((ρ n.1).2:Int));simp [World.cell?,h1]
theorem IsI.cells {i:Itm} (h:IsI w F ρ i):∃a c,w.cell? ⟨i.ad,0,none⟩=some (.int .i64 ((ρ i.ad).1:Int))∧w.cell? ⟨i.ad,1,none⟩=some (.int .u64 ((ρ i.ad).2:Int))∧w.cell? ⟨i.ad,2,none⟩=some (.string ⟨i.key.toArray⟩)∧w.cell? ⟨i.ad,3,none⟩=some (.slice a i.val.length c)∧Reads w (.slice a i.val.length c) i.val:=by
 obtain ⟨v,h1,h2,_⟩:=h
 obtain ⟨a,c,rfl,hr⟩:=id h2
 exact ⟨a,c,by simp [World.cell?,h1],by simp [World.cell?,h1],by simp [World.cell?,h1],by simp [World.cell?,h1],h2⟩
theorem IsI.det {i j:Itm} (h:IsI w F ρ i) (h':IsI w F' ρ' j) (e:i.ad=j.ad):i=j:=by
 obtain ⟨v,h1,h2,_⟩:=h
 obtain ⟨v',h1',h2',_⟩:=h'
 rw [←e,h1] at h1'
 simp at h1'
 obtain ⟨_,_,hk,hv⟩:=h1'
 subst hv
 have hval:i.val=j.val:=by
  obtain ⟨a,c,rfl,_,_,_,h5⟩:=h2
  obtain ⟨a',c',e2,_,_,_,h5'⟩:=h2'
  injection e2 with ea hl ec
  subst ea ec
  refine List.ext_getElem? fun p=>?_
  by_cases hp:p<i.val.length
  ·obtain ⟨x,hx⟩:∃x,i.val[p]?=some x:=⟨_,List.getElem?_eq_getElem hp⟩
   obtain ⟨y,hy⟩:∃y,j.val[p]?=some y:=⟨_,List.getElem?_eq_getElem (by omega)⟩
   obtain ⟨b,o,rfl,hc⟩:=h5 (by intro e;rw [e] at hx;simp at hx)
   obtain ⟨b',o',e3,hc'⟩:=h5' (by intro e;rw [e] at hy;simp at hy)
   injection e3 with e3
   injection e3 with e4 e5 _
   subst e4 e5
   have c1:=hc p x hx
   rw [hc' p y hy] at c1
   simp only [B8] at c1
   injection c1 with c1
   injection c1 with _ c1
   have c2:x=y:=UInt8.toNat_inj.1 (by omega)
   rw [hx,hy,c2]
  ·rw [List.getElem?_eq_none (by omega),List.getElem?_eq_none (by omega)]
 cases i
 cases j
 simp_all
end
end Go.Proofs.YtgpbhlfdlkemjaaGreat
namespace Go.Proofs.YtgpbhlfdlkemjaaGreat
open Go.RowKit
open Go.Maps (Keyed)
set_option linter.unusedVariables false
def RV (v:Value):Option (DataW Value × List MemPlace):=some (.held v,[])
abbrev kl (k:Int):Lit:=.int .i64 k
theorem law3:Keyed Tryz.prog 3:=Maps.int_keyed Tryz.underlying3
theorem key3 {k:Int} (h:(Lit.int .i64 k).wf=true):keyOf Tryz.prog 3 (.int .i64 k)=some (kl k):=Maps.keyOf_int_mk Tryz.underlying3 h
theorem zero36 (w:World):(zeroValue 41).run Tryz.prog w=.ok (.slice none 0 0) w:=by kernel_rfl
theorem wf_nat {n:Nat} (h:n<9223372036854775808):(Lit.int .i64 (n:Int)).wf=true:=by
 simp [Lit.wf,IntKind.min,IntKind.max,IntKind.bits,IntKind.signed];omega
structure Mp (w:World) (b:Nat) (m:List (Int × Value)):Prop where
 own:∃D,w.ownsMap Tryz.prog 3 RV b m.length D∧(∀k,Maps.has D (kl k)=m.any (fun x=>x.1 == k))∧(∀x∈m,∀z,D.atKey (kl x.1) z=.held x.2)∧(∀x,Maps.has D x=true→∃k,x=kl k)
 nodup:(m.map (·.1)).Nodup
 wf:∀x∈m,(Lit.int .i64 x.1).wf=true
theorem Mp.lt {w:World}{b:Nat}{m:List (Int × Value)} (h:Mp w b m):b<w.heap.size:=by
 obtain ⟨D,h1,_⟩:=h.own
 exact h1.lt
theorem ownsMap_keep {S:List Nat}{w w':World}{b n:Nat}{D:DataW Value} (h:w.ownsMap Tryz.prog 3 RV b n D) (k:Kept S w w') (hn:b∉S):w'.ownsMap Tryz.prog 3 RV b n D:=by
 obtain ⟨es,clock,hb,F,hs,hD⟩:=h
 exact ⟨es,clock,k.keeps hb hn,F,hs,hD⟩
theorem Mp.kept {S:List Nat}{w w':World}{b:Nat}{m:List (Int × Value)} (h:Mp w b m) (k:Kept S w w') (hn:b∉S):Mp w' b m:=by
 obtain ⟨D,h1,h2⟩:=h.own
 exact ⟨⟨D,ownsMap_keep h1 k hn,h2⟩,h.nodup,h.wf⟩
theorem Mp.made (w:World):Mp (w.alloc (.map #[] 0)) w.heap.size [] :=
 ⟨⟨.map [],World.ownsMap_made w Tryz.prog 3 RV,fun k=>rfl,by simp,fun x h=>by simp [Maps.has] at h⟩,by simp,by simp⟩
theorem any_mem {m:List (Int × Value)}{k:Int}{v:Value} (h:(k,v)∈m):m.any (fun x=>x.1 == k)=true:=List.any_eq_true.2 ⟨_,h,by simp⟩
theorem any_not {m:List (Int × Value)}{k:Int} (h:k∉m.map (·.1)):m.any (fun x=>x.1 == k)=false:=by
 rw [List.any_eq_false]
 intro x hx
 simp
 rintro rfl
 exact h (List.mem_map.2 ⟨x,hx,rfl⟩)
theorem Mp.look {w:World}{b:Nat}{m:List (Int × Value)} (h:Mp w b m) {k:Int}{v:Value} (hm:(k,v)∈m):(Instr.lookup 63 (.map (some b)) (.int .i64 k) true).run Tryz.prog w=.ok (.tuple #[v,.bool true]) w:=by
 obtain ⟨D,h1,h2,h3,_⟩:=h.own
 obtain ⟨v',ps,hrun,hv⟩:=h1.look_ok law3 Tryz.underlying63 (zero36 w) (zd:=.held (.slice none 0 0)) (zp:=[]) rfl (key3 (h.wf _ hm))
 rw [h2,any_mem hm] at hrun
 rw [h3 _ hm] at hv
 unfold RV at hv
 simp at hv
 rw [hrun,hv.1]
theorem Mp.look_none {w:World}{b:Nat}{m:List (Int × Value)} (h:Mp w b m) {k:Int} (hw:(Lit.int .i64 k).wf=true) (hm:k∉m.map (·.1)):(Instr.lookup 63 (.map (some b)) (.int .i64 k) true).run Tryz.prog w=.ok (.tuple #[.slice none 0 0,.bool false]) w:=by
 obtain ⟨D,h1,h2,h3,_⟩:=h.own
 obtain ⟨v',ps,hrun,hv⟩:=h1.look_ok law3 Tryz.underlying63 (zero36 w) (zd:=.held (.slice none 0 0)) (zp:=[]) rfl (key3 hw)
 rw [h2,any_not hm] at hrun
 rw [Maps.atKey_of_not_has (by rw [h2,any_not hm])] at hv
 unfold RV at hv
 simp at hv
 rw [hrun,hv.1]
theorem Mp.get {w:World}{b:Nat}{m:List (Int × Value)} (h:Mp w b m) {k:Int}{v:Value} (hm:(k,v)∈m):(Instr.lookup 63 (.map (some b)) (.int .i64 k) false).run Tryz.prog w=.ok v w:=by
 obtain ⟨D,h1,h2,h3,_⟩:=h.own
 obtain ⟨v',ps,hrun,hv⟩:=h1.lookup law3 Tryz.underlying63 (zero36 w) (zd:=.held (.slice none 0 0)) (zp:=[]) rfl (key3 (h.wf _ hm))
 rw [h3 _ hm] at hv
 unfold RV at hv
 simp at hv
 rw [hrun,hv.1]
theorem kept_map {w w':World}{b:Nat} (h:w.grownBy w' (some b)):Kept [b] w w':=(Kept.refl [b] w).grown h (fun k hk=>.inl (by simp at hk;simp [hk]))
theorem Mp.put {w:World}{b:Nat}{m:List (Int × Value)} (h:Mp w b m) {k:Int} (v:Value) (hw:(Lit.int .i64 k).wf=true) (hm:k∉m.map (·.1)) (hn:m.length<1000000) :
  ∃w',(Instr.mapUpdate 63 (.map (some b)) (.int .i64 k) v).run Tryz.prog w=.ok () w'∧Mp w' b (m++[(k,v)])∧Kept [b] w w':=by
 obtain ⟨D,h1,h2,h3,h4⟩:=h.own
 obtain ⟨w',hrun,h1',hg⟩:=h1.update law3 Tryz.underlying63 (by unfold maxLen;omega) (val:=v) (d:=.held v) (ps:=[]) (key3 hw) rfl
 have hKey:=law3.key (key3 hw)
 refine ⟨w',hrun,⟨⟨D.put (kl k) (.held v),by rw [List.length_append];exact h1',fun x=>?_,fun x hx z=>?_,fun x hx=>?_⟩,?_,?_⟩,kept_map hg⟩
 ·rw [List.any_append]
  by_cases hx:x=k
  ·subst hx
   rw [Maps.has_put_same h1.isMap hKey]
   simp
  ·rw [Maps.has_put_other (by simp [kl];exact hx),h2]
   have:(k == x)=false:=by simp;exact fun e=>hx e.symm
   simp [this]
 ·rcases List.mem_append.1 hx with hx|hx
  ·have:x.1≠k:=fun e=>hm (List.mem_map.2 ⟨x,hx,e⟩)
   rw [Maps.atKey_put_other (by simp [kl];exact this)]
   exact h3 x hx z
  ·simp at hx
   subst hx
   exact Maps.atKey_put_same h1.isMap hKey _ _
 ·by_cases he:x=kl k
  ·exact ⟨k,he⟩
  ·rw [Maps.has_put_other he] at hx
   exact h4 x hx
 ·rw [List.map_append,List.nodup_append]
  refine ⟨h.nodup,by simp,fun a ha c hc e=>?_⟩
  simp at hc
  subst hc e
  exact hm ha
 ·intro x hx
  rcases List.mem_append.1 hx with hx|hx
  ·exact h.wf x hx
  ·simp at hx;subst hx;exact hw
set_option maxRecDepth 4000 in
theorem Mp.del {w:World}{b:Nat}{m:List (Int × Value)} (h:Mp w b m) {k:Int}{v:Value} (hm:(k,v)∈m) (ty:TypeId) :
  ∃w',(Builtin.delete_ #[63,3] ty #[.map (some b),.int .i64 k]).run Tryz.prog w=.ok (.tuple #[]) w'∧Mp w' b (m.filter fun x=>x.1 != k)∧Kept [b] w w':=by
 obtain ⟨D,h1,h2,h3,h4⟩:=h.own
 obtain ⟨w',hrun,h1',hg⟩:=h1.drop law3 Tryz.underlying63 (key3 (h.wf _ hm)) ty
 have hsz:Maps.size (D.del (kl k))≤(m.filter fun x=>x.1 != k).length:=by
  have e1:=Maps.size_del (k:=kl k) (h1.tidy law3)
  rw [h2,any_mem hm,if_pos rfl] at e1
  have e2:=h1.size_le
  have e3:(m.filter fun x=>x.1 != k).length+1=m.length:=by
   clear h1 h2 h3 h4 h1' hrun hg e1 e2
   have hn:=h.nodup
   clear h
   induction m with
   | nil=>simp at hm
   | cons x t ih =>
    simp only [List.map_cons,List.nodup_cons] at hn
    rcases List.mem_cons.1 hm with rfl|hm
    ·have:t.filter (fun x=>x.1 != k)=t:=by
      rw [List.filter_eq_self]
      intro y hy
      simp
      rintro rfl
      exact hn.1 (List.mem_map.2 ⟨y,hy,rfl⟩)
     simp [this]
    ·have hx:x.1≠k:=fun e=>hn.1 (List.mem_map.2 ⟨_,hm,e.symm⟩)
     have:=ih hm hn.2
     simp [hx]
     exact this
  omega
 refine ⟨w',hrun,⟨⟨D.del (kl k),?_,fun x=>?_,fun x hx z=>?_,fun x hx=>?_⟩,?_,fun x hx=>h.wf x (List.mem_filter.1 hx).1⟩,kept_map hg.grown⟩
 ·obtain ⟨es,clock,hb,F,hs,hD⟩:=h1'
  refine ⟨es,clock,hb,F,?_,hD⟩
  rw [hD] at hsz
  simpa [Maps.size,length_sorted] using hsz
 ·by_cases hx:x=k
  ·subst hx
   rw [Maps.has_del_same]
   simp
  ·rw [Maps.has_del_other (by simp [kl];exact hx),h2,List.any_filter]
   congr 1
   funext y
   by_cases hy:y.1=x
   ·simp [hy,hx]
   ·have:(y.1 == x)=false:=by simpa using hy
    simp [this]
 ·have hx':=List.mem_filter.1 hx
  rw [Maps.atKey_del_other (by simp [kl];simpa using hx'.2)]
  exact h3 x hx'.1 z
 ·by_cases he:x=kl k
  ·exact ⟨k,he⟩
  ·rw [Maps.has_del_other he] at hx
   exact h4 x hx
 ·exact (List.filter_sublist.map _).nodup h.nodup
theorem Mp.keys {w:World}{b:Nat}{m:List (Int × Value)} (h:Mp w b m):∃D,w.ownsMap Tryz.prog 3 RV b m.length D∧Maps.size D≤m.length∧(m.map (·.1)).Perm (intKeys D):=by
 obtain ⟨D,h1,h2,h3,h4⟩:=h.own
 refine ⟨D,h1,h1.size_le,?_⟩
 obtain ⟨es,rfl,hp,hk⟩:=h1.entries law3
 refine perm_intKeys hp (fun p hp'=>?_) h.nodup (fun x=>?_)
 ·exact h4 p.1 (List.any_eq_true.2 ⟨p,hp',WideAt.sameKey_self (hk p hp')⟩)
 ·rw [h2,List.any_eq_true,List.mem_map]
  simp
end Go.Proofs.YtgpbhlfdlkemjaaGreat
namespace Go.Proofs.YtgpbhlfdlkemjaaGreat
open Go.RowKit
set_option linter.unusedVariables false
theorem Hid.mk {P:Prop} (h:P):Hid P:=h
theorem bks_quo2 (n:Nat):max (((n:Int)+238-1) / 238) 1=(bks n:Int):=by
 unfold bks
 omega
set_option maxRecDepth 100000 in
theorem bks_any (n:Nat) (h:n≤4294967296) (w:World):Calls Tryz.prog 169 #[.int .i64 (n:Int)] w fun e w'=>e=.returned (.int .i64 (bks n:Int))∧w=w':=by
 go_enter Tryz.func169,Tryz.ntmps169
 go_wp2
 go_ret
 exact ⟨ret_int (bks_quo2 n),rfl⟩
theorem or_plc (st x:Nat) (hs:st<65536) (hx:x<65536):bits .or .u32 ((st:Int)*65536) (x:Int)=(plc st x:Int):=by
 have e:(st:Int)*65536=((2 ^ 16*st:Nat):Int):=by omega
 rw [e,u32_or_nat _ _ (by omega) (by omega),←Nat.two_pow_add_eq_or_of_lt (i:=16) (by omega) st]
 unfold plc
 omega
set_option maxRecDepth 100000 in
theorem place_any (nm i:Nat) (w:World) (hs:nm<65536) (hi:i<65536) :
  Calls Tryz.prog 139 #[.int .i64 (nm:Int),.int .i64 (i:Int)] w fun e w'=>e=.returned (.int .u32 (plc nm i:Int))∧w=w':=by
 have e1:IntKind.u32.wrap (nm:Int)=(nm:Int):=by rw [IntKind.wrap_u32];omega
 have e2:IntKind.u32.wrap (i:Int)=(i:Int):=by rw [IntKind.wrap_u32];omega
 have e3:=or_plc nm i hs hi
 go_enter Tryz.func139,Tryz.ntmps139
 go_wp2
 go_ret
 exact ⟨rfl,rfl⟩
abbrev ptV (t:Bool) (n nx:Nat) (v:Value):Value:=.agg #[.bool t,.int .i64 (n:Int),.int .i64 (nx:Int),v]
theorem kept_alloc (w:World) (o:Obj):Kept [] w (w.alloc o):=(Kept.refl [] w).alloc o
set_option maxRecDepth 100000 in
theorem isLast_any (t:Bool) (n nx:Nat) (a:Option Addr) (k c:Nat) (w:World):Calls Tryz.prog 98 #[ptV t n nx (.slice a k c)] w fun e w'=>e=.returned (.bool (decide (n≤238)))∧Kept [] w w':=by
 have e1:decide ((n:Int)≤238)=decide (n≤238):=by congr 1;apply propext;omega
 go_enter Tryz.func98,Tryz.ntmps98
 go_wp2
 go_ret
 exact ⟨rfl,kept_alloc _ _⟩
set_option maxRecDepth 100000 in
theorem follows_yes (t:Bool) (n nx n2 nx2:Nat) (a a2:Option Addr) (k c k2 c2:Nat) (w:World) (h:n+238=n2) (hn:n2≤1000000):Calls Tryz.prog 97 #[ptV t n nx (.slice a k c),ptV t n2 nx2 (.slice a2 k2 c2)] w fun e w'=>e=.returned (.bool true)∧Kept [] w w':=by
 have e1:((n:Int) == (n2:Int)-238)=true:=by simp;omega
 go_enter Tryz.func97,Tryz.ntmps97
 go_wp2
 go_ret
 exact ⟨rfl,(kept_alloc _ _).trans (kept_alloc _ _) (by simp)⟩
theorem ofInt64 (a:Nat) (ha:a<18446744073709551616):(BitVec.ofInt 64 (a:Int)).toNat=a:=by
 rw [BitVec.ofInt_natCast,BitVec.toNat_ofNat];exact Nat.mod_eq_of_lt (by omega)
theorem i64_or_nat (a b:Nat) (ha:a<4611686018427387904) (hb:b<4611686018427387904):bits .or .i64 (a:Int) (b:Int)=((a ||| b:Nat):Int):=by
 have hx:a ||| b<2 ^ 62:=Nat.or_lt_two_pow (by omega) (by omega)
 show IntKind.i64.wrap ((BitVec.ofInt 64 (a:Int) ||| BitVec.ofInt 64 (b:Int)).toNat:Int)=_
 rw [BitVec.toNat_or,ofInt64 a (by omega),ofInt64 b (by omega),IntKind.wrap_i64]
 omega
theorem i64_and_nat (a b:Nat) (ha:a<4611686018427387904) (hb:b<4611686018427387904):bits .and .i64 (a:Int) (b:Int)=((a &&& b:Nat):Int):=by
 have hx:a &&& b<2 ^ 62:=Nat.and_lt_two_pow _ (by omega)
 show IntKind.i64.wrap ((BitVec.ofInt 64 (a:Int) &&& BitVec.ofInt 64 (b:Int)).toNat:Int)=_
 rw [BitVec.toNat_and,ofInt64 a (by omega),ofInt64 b (by omega),IntKind.wrap_i64]
 omega
theorem or_head (n:Nat) (h:n<32768):bits .or .i64 (n:Int) 32768=((n+32768:Nat):Int):=by
 have:=i64_or_nat n 32768 (by omega) (by omega)
 rw [Nat.or_comm,show (32768:Nat)=2 ^ 15*1 from rfl,←Nat.two_pow_add_eq_or_of_lt (i:=15) (by omega)] at this
 rw [show ((2 ^ 15*1:Nat):Int)=32768 from rfl] at this
 rw [this]
 omega
theorem or_two (a b:Nat) (ha:a<256) (hb:b<256):bits .or .i64 ((a:Int)*256) (b:Int)=((a*256+b:Nat):Int):=by
 have e:(a:Int)*256=((2 ^ 8*a:Nat):Int):=by omega
 rw [e,i64_or_nat _ _ (by omega) (by omega),←Nat.two_pow_add_eq_or_of_lt (i:=8) (by omega)]
 omega
theorem and_turn (L:Nat) (h:L<65536):(bits .and .i64 (L:Int) 32768 != 0)=decide (32768≤L):=by
 have:=i64_and_nat L 32768 (by omega) (by omega)
 rw [show ((32768:Nat):Int)=32768 from rfl] at this
 have ht:L.testBit 15=decide (32768≤L):=by
  rw [Nat.testBit_eq_decide_div_mod_eq]
  congr 1
  apply propext
  rw [show 2 ^ 15=32768 from rfl]
  omega
 have hb:(L &&& 2 ^ 15).testBit 15=decide (32768≤L):=by rw [Nat.testBit_and,ht,Nat.testBit_two_pow_self,Bool.and_true]
 have h0:(L &&& 2 ^ 15)=0↔L<32768:=by
  constructor
  ·intro e
   rw [e] at hb
   simp at hb
   exact hb
  ·intro hL
   apply Nat.eq_of_testBit_eq
   intro i
   rw [Nat.testBit_and,Nat.testBit_two_pow]
   by_cases hi:15=i
   ·subst hi
    rw [ht]
    simp
    omega
   ·simp [hi]
 rw [show (32768:Nat)=2 ^ 15 from rfl] at this
 rw [this]
 by_cases hL:32768≤L
 ·have:¬(L &&& 2 ^ 15)=0:=fun e=>by have:=h0.1 e;omega
  simp [hL]
  omega
 ·rw [h0.2 (by omega)]
  simp [hL]
theorem andNot_turn (L:Nat) (h:L<65536):bits .andNot .i64 (L:Int) 32768=((L%32768:Nat):Int):=by
 have key:L &&& (18446744073709551615-32768)=L%32768:=by
  have hlt:L &&& (18446744073709551615-32768)<2 ^ 16:=Nat.lt_of_le_of_lt Nat.and_le_left (by omega)
  rw [←Nat.mod_eq_of_lt hlt,Nat.and_mod_two_pow,show (18446744073709551615-32768)%2 ^ 16=2 ^ 15-1 from rfl,Nat.and_two_pow_sub_one_eq_mod]
  omega
 show IntKind.i64.wrap ((BitVec.ofInt 64 (L:Int) &&& ~~~BitVec.ofInt 64 ((32768:Nat):Int)).toNat:Int)=_
 rw [BitVec.toNat_and,BitVec.toNat_not,ofInt64 L (by omega),ofInt64 32768 (by omega),IntKind.wrap_i64,show 2 ^ 64-1-32768=18446744073709551615-32768 from rfl,key]
 omega
theorem Sealed.kept {w w':World}{v:Value}{l:List UInt8} (h:Sealed w w' v l):Kept [] w w':=by
 obtain ⟨_,_,_,_,_,h⟩:=h;exact h
theorem Sealed.mono {w0 w w':World}{v:Value}{l:List UInt8} (h:Sealed w w' v l) (k:Kept [] w0 w):Sealed w0 w' v l:=by
 obtain ⟨g,h1,h2,h3,h4,h5⟩:=h
 exact ⟨g,h1,Nat.le_trans k.size h2,h3,h4,k.trans h5 (by simp)⟩
def Bx (w:World) (b:Nat) (t:Bool) (n nx:Nat) (v:Value):Prop:=w.heap[b]?=some (.cells #[.bool t,.int .i64 (n:Int),.int .i64 (nx:Int),v] 161 (0,0))
theorem Bx.kept {S:List Nat}{w w':World}{b n nx:Nat}{t:Bool}{v:Value} (h:Bx w b t n nx v) (k:Kept S w w') (hn:b∉S):Bx w' b t n nx v:=k.keeps h hn
theorem Bx.lt {w:World}{b n nx:Nat}{t:Bool}{v:Value} (h:Bx w b t n nx v):b<w.heap.size:=lt_of_block h
theorem Bx.cells {w:World}{b n nx:Nat}{t:Bool}{v:Value} (h:Bx w b t n nx v):w.cell? ⟨b,0,none⟩=some (.bool t)∧w.cell? ⟨b,1,none⟩=some (.int .i64 (n:Int))∧w.cell? ⟨b,2,none⟩=some (.int .i64 (nx:Int))∧w.cell? ⟨b,3,none⟩=some v:=by
 unfold Bx at h
 simp [World.cell?,h]
theorem Bx.free {w:World}{b n nx:Nat}{t:Bool}{v:Value} (h:Bx w b t n nx v) (j:Nat):w.frozen? ⟨b,j,none⟩=false:=by
 unfold Bx at h
 simp [World.frozen?,h]
theorem Bx.set {w:World}{b n nx:Nat}{t:Bool}{v:Value} (h:Bx w b t n nx v) (t':Bool) (n' nx':Nat) (v':Value) :
  Bx ((((w.setCell ⟨b,0,none⟩ (.bool t')).setCell ⟨b,1,none⟩ (.int .i64 (n':Int))).setCell ⟨b,2,none⟩ (.int .i64 (nx':Int))).setCell ⟨b,3,none⟩ v') b t' n' nx' v' ∧
  Kept [b] w ((((w.setCell ⟨b,0,none⟩ (.bool t')).setCell ⟨b,1,none⟩ (.int .i64 (n':Int))).setCell ⟨b,2,none⟩ (.int .i64 (nx':Int))).setCell ⟨b,3,none⟩ v'):=by
 refine ⟨?_,((((Kept.refl [b] w).setCell (.inl (by simp)) _).setCell (.inl (by simp)) _).setCell (.inl (by simp)) _).setCell (.inl (by simp)) _⟩
 unfold Bx
 rw [heap_setCell_same _ b 3 _ 161 _ (heap_setCell_same _ b 2 _ 161 _ (heap_setCell_same _ b 1 _ 161 _ (heap_setCell_same w b 0 _ 161 _ h)))]
 rfl
end Go.Proofs.YtgpbhlfdlkemjaaGreat
