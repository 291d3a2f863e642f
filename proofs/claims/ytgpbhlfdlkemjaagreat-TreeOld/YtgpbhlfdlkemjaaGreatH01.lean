import Derived.WalkKit
import Derived.Deep.AppendLies
import Derived.Lib.AppendStr
import Derived.Laws.IdiomStrings
import Derived.OneCell
import Derived.KernelRfl
import Derived.Test.YtgpbhlfdlkemjaaGreatRows
import Derived.WalkLawsBesides
import Derived.WalkSpells
import Derived.Lib.Zigzag
import Derived.Lib.BitFns
import Derived.Lib.SliceRun
/-
 Memory: what is kept, slices of bytes that read and own, numbers in bytes, texts: carried from the stages before.
-/
namespace Go.Proofs.YtgpbhlfdlkemjaaGreat
open Go.RowKit
structure Kept (S:List Nat) (w w':World):Prop where
 os:w'.os=w.os
 tape:w'.tape=w.tape
 output:w'.output=w.output
 size:w.heap.size≤w'.heap.size
 block:∀k,k<w.heap.size→k∉S→w'.heap[k]?=w.heap[k]?
theorem Kept.refl (S:List Nat) (w:World):Kept S w w:=⟨rfl,rfl,rfl,Nat.le_refl _,fun _ _ _=>rfl⟩
theorem Kept.trans {S T:List Nat}{a b c:World} (h:Kept S a b) (k:Kept T b c) (hT:∀x∈T,x∈S∨a.heap.size≤x):Kept S a c :=
 ⟨k.os.trans h.os,k.tape.trans h.tape,k.output.trans h.output,Nat.le_trans h.size k.size,fun i hi hn=>by
  rw [k.block i (Nat.lt_of_lt_of_le hi h.size) (fun hm=>by rcases hT i hm with h1|h1;exact hn h1;omega)]
  exact h.block i hi hn⟩
theorem Kept.mono {S T:List Nat}{a b:World} (h:Kept S a b) (hT:∀x∈S,x∈T∨a.heap.size≤x):Kept T a b :=
 ⟨h.os,h.tape,h.output,h.size,fun i hi hn=>h.block i hi (fun hm=>by rcases hT i hm with h1|h1;exact hn h1;omega)⟩
theorem Kept.drew {S:List Nat}{a w:World} (h:Kept S a w):Kept S a w.drew:=⟨h.os,h.tape,h.output,h.size,h.block⟩
theorem Kept.alloc {S:List Nat}{a w:World} (h:Kept S a w) (o:Obj):Kept S a (w.alloc o) :=
 ⟨h.os,h.tape,h.output,by have:=h.size;simp;omega,fun k hk hn=>by
  rw [Below.heap_alloc _ _ _ (Nat.lt_of_lt_of_le hk h.size)];exact h.block k hk hn⟩
theorem Kept.setCell {S:List Nat}{a w:World} (h:Kept S a w) {p:Addr} (hp:p.block∈S∨a.heap.size≤p.block) (u:Value):Kept S a (w.setCell p u) :=
 ⟨h.os,h.tape,h.output,by simpa using h.size,fun k hk hn=>by
  rw [Below.heap_setCell _ _ _ _ (fun e=>by subst e;rcases hp with h1|h1;exact hn h1;omega)];exact h.block k hk hn⟩
theorem Kept.grown {S:List Nat}{a w w':World}{row:Option Nat} (h:Kept S a w) (hg:w.grownBy w' row) (hr:∀k,row=some k→k∈S∨a.heap.size≤k):Kept S a w' :=
 ⟨hg.os.trans h.os,hg.tape.trans h.tape,hg.output.trans h.output,Nat.le_trans h.size hg.size,fun i hi hn=>by
  rw [hg.block i (Nat.lt_of_lt_of_le hi h.size) (fun e=>by rcases hr i e.symm with h1|h1;exact hn h1;omega)]
  exact h.block i hi hn⟩
theorem Kept.below {w w':World} (h:Kept [] w w'):Below w.heap.size w w':=⟨h.os,h.tape,h.output,h.size,fun k hk=>h.block k hk (by simp)⟩
theorem Kept.cell {S:List Nat}{w w':World} (h:Kept S w w') {p:Addr} (hp:p.block<w.heap.size) (hn:p.block∉S):w'.cell? p=w.cell? p:=World.cell?_of_block (w:=w) (h.block p.block hp hn)
theorem Kept.keeps {S:List Nat}{w w':World} (h:Kept S w w') {g:Nat}{o:Obj} (hg:w.heap[g]?=some o) (hn:g∉S):w'.heap[g]?=some o:=by
 rw [h.block g (lt_of_block hg) hn];exact hg
def B8 (u:UInt8):Value:=.int .u8 u.toNat
def C8 (l:List UInt8):List Value:=l.map B8
theorem C8_length (l:List UInt8):(C8 l).length=l.length:=by simp [C8]
theorem C8_one (l:List UInt8):∀u∈C8 l,u.oneCell'=true:=by
 intro u hu
 simp only [C8,List.mem_map] at hu
 obtain ⟨b,_,rfl⟩:=hu
 rfl
theorem C8_append (a b:List UInt8):C8 (a++b)=C8 a++C8 b:=by simp [C8]
def Reads (w:World) (v:Value) (l:List UInt8):Prop :=
 ∃a cap,v=.slice a l.length cap∧l.length≤cap∧cap≤maxLen∧(a=none→cap=0)∧(l≠[]→∃b o,a=some ⟨b,o,none⟩∧∀j u,l[j]?=some u→w.cell? ⟨b,o+j,none⟩=some (B8 u))
theorem Reads.nil (w:World):Reads w (.slice none 0 0) []:=⟨none,0,rfl,by simp,by simp,by simp,by simp⟩
theorem Reads.lt {w:World}{v:Value}{l:List UInt8} (h:Reads w v l) (hl:l≠[]):∃k,v.ownBlock=some k∧k<w.heap.size:=by
 obtain ⟨a,cap,rfl,_,_,_,h5⟩:=h
 obtain ⟨b,o,rfl,hc⟩:=h5 hl
 match l,hl with
 | x::t,_=>exact ⟨b,rfl,World.block_lt_of_cell? w _ (hc 0 x rfl)⟩
theorem Reads.kept {S:List Nat}{w w':World}{v:Value}{l:List UInt8} (h:Reads w v l) (k:Kept S w w') (hn:∀g,v.ownBlock=some g→g∉S):Reads w' v l:=by
 obtain ⟨a,cap,rfl,h2,h3,h4,h5⟩:=h
 refine ⟨a,cap,rfl,h2,h3,h4,fun hl=>?_⟩
 obtain ⟨b,o,rfl,hc⟩:=h5 hl
 refine ⟨b,o,rfl,fun j u hu=>?_⟩
 have:=hc j u hu
 rw [k.cell (World.block_lt_of_cell? w _ this) (hn b rfl)]
 exact this
def Owns (e:TypeId) (w:World) (v:Value) (l:List UInt8):Prop:=w.ownsRow 0 e 1 v l.length (C8 l)
theorem Owns.nil (e:TypeId) (w:World):Owns e w (.slice none 0 0) []:=World.ownsRow_nil w 0 e 1
theorem Owns.reads {e:TypeId}{w:World}{v:Value}{l:List UInt8} (h:Owns e w v l):Reads w v l:=by
 have hcells:=fun g hg=>World.ownsRow.cells h (g:=g) hg
 rcases h.2 with ⟨rfl,h0⟩|⟨g,cap,cur,rfl,_,hg,h1,h2,h3,h4⟩
 ·have:l=[]:=List.eq_nil_of_length_eq_zero h0
  subst this
  exact Reads.nil w
 ·refine ⟨some ⟨g,0,none⟩,cap,rfl,h1,h2,by simp,fun hl=>⟨g,0,rfl,fun j u hu=>?_⟩⟩
  have:=hcells g rfl j (B8 u) (by simp [C8,hu])
  have hadd:(⟨g,0,Option.none⟩:Addr).add j=⟨g,0+j,Option.none⟩:=by unfold Addr.add;split<;>simp_all
  rw [hadd] at this
  exact this
theorem Owns.kept {e:TypeId}{S:List Nat}{w w':World}{v:Value}{l:List UInt8} (h:Owns e w v l) (k:Kept S w w') (hn:∀g,v.ownBlock=some g→g∉S):Owns e w' v l:=by
 refine ⟨h.1,?_⟩
 rcases h.2 with h0|⟨g,cap,cur,rfl,hb,hg,r⟩
 ·exact .inl h0
 ·exact .inr ⟨g,cap,cur,rfl,hb,k.keeps hg (hn g rfl),r⟩
theorem Owns.lt {e:TypeId}{w:World}{v:Value}{l:List UInt8} (h:Owns e w v l) {k:Nat} (hk:v.ownBlock=some k):k<w.heap.size:=(World.ownsRow.lt h k hk).2
theorem B8_of (n:Nat) (z:Int) (h:z=((n%256:Nat):Int)):Value.int .u8 z=B8 (UInt8.ofNat n):=by
 unfold B8;rw [h];simp
def New (w:World) (v v1:Value):Prop:=∀g,v1.ownBlock=some g→v.ownBlock=some g∨w.heap.size≤g
theorem New.refl (w:World) (v:Value):New w v v:=fun _ h=>.inl h
theorem New.trans {w w1:World}{v v1 v2:Value} (h:New w v v1) (k:New w1 v1 v2) (hs:w.heap.size≤w1.heap.size):New w v v2:=fun g hg=>by
 rcases k g hg with h1|h1
 ·exact h g h1
 ·exact .inr (by omega)
end Go.Proofs.YtgpbhlfdlkemjaaGreat
namespace Go.Proofs.YtgpbhlfdlkemjaaGreat
end Go.Proofs.YtgpbhlfdlkemjaaGreat
namespace Go.Proofs.YtgpbhlfdlkemjaaGreat
open Go.RowKit
theorem Owns.form {e:TypeId}{w:World}{v:Value}{l:List UInt8} (h:Owns e w v l):∃a cap,v=.slice a l.length cap:=by
 rcases h.2 with ⟨rfl,h0⟩|⟨g,cap,cur,rfl,_⟩
 ·exact ⟨none,0,by rw [h0]⟩
 ·exact ⟨_,cap,rfl⟩
section
variable {P:Program} (w:World)
theorem run_append_str_lies (t u ty e:TypeId) (i:TypeInfo) (ht:P.underlying t=some (.slice e)) (hu:P.underlying u=some .string) (hi:P.info? e=some i) (hz:i.zero=some (.int .u8 0))
  (hsize:i.size=1) (hby:i.bytes=1) (v:Value) (l:List UInt8) (hown:Owns e w v l) (s:ByteArray) (hb:l.length+s.size≤140737488355328) :
  ∃v' w',(Builtin.append_ #[t,u] ty #[v,.string s]).run P w=.ok v' w'∧Owns e w' v' (l++s.data.toList)∧w.grownBy w' v.ownBlock∧(∀g,v'.ownBlock=some g→v.ownBlock=some g∨w.heap.size≤g):=by
 obtain ⟨v',w',hr,h1,h2,h3⟩:=Lib.run_append_own_string (P:=P) w 0 t u ty e i ht hu hi hz hsize hby v l.length (C8 l) hown s (by unfold maxLen;omega) hb (Nat.zero_le _)
 refine ⟨v',w',hr,?_,h2,?_⟩
 ·unfold Owns
  rw [C8_append,List.length_append]
  exact h1
 ·have key:∀v2 w2,(Builtin.append_ #[t,u] ty #[v,.string s]).run P w=.ok v2 w2→v2=v':=fun v2 w2 h=>by
   rw [hr] at h;injection h with h _;exact h.symm
  intro g hg
  rcases hown.2 with ⟨rfl,h0⟩|⟨g0,cap,cur,rfl,hb0,hg0,hnc,hcm,hcs,htake⟩
  ·by_cases hs:s.size=0
   ·have:=h3.2 ⟨rfl,hs⟩
    rw [this] at hg
    simp [Value.ownBlock] at hg
   ·have hr2:=run_append_nil_string (P:=P) w t u ty e i (.int .u8 0) ht hu hi hz s (by omega) (by omega) (by rw [hby];omega)
    have e1:=key _ _ hr2
    rw [←e1] at hg
    simp [Value.ownBlock] at hg
    exact .inr (by omega)
  ·by_cases hroom:l.length+s.size≤cap
   ·have hcs':cur.size=cap:=by simpa using hcs
    have hr2:=Lib.run_append_room_string (P:=P) w t u ty e i ht hu hi hsize g0 l.length cap cur hg0 s hroom (by omega)
    have e1:=key _ _ hr2
    rw [←e1] at hg
    exact .inl hg
   ·have holds:∀j u,(C8 l)[j]?=some u→w.cell? ((⟨g0,0,none⟩:Addr).add j)=some u:=World.ownsRow.cells hown (g:=g0) rfl
    have hr2:=Lib.run_append_grow_string (P:=P) w t u ty e i (.int .u8 0) ht hu hi hz ⟨g0,0,none⟩ l.length cap (C8 l) (by rw [hsize,Nat.mul_one];exact C8_length l) holds s (by omega) (by omega) (by rw [hby];exact growslice_fits (by omega) (by omega))
    have e1:=key _ _ hr2
    rw [←e1] at hg
    simp [Value.ownBlock] at hg
    exact .inr (by omega)
end
end Go.Proofs.YtgpbhlfdlkemjaaGreat
namespace Go.Proofs.YtgpbhlfdlkemjaaGreat
open Go.RowKit
def Within (v v1:Value):Prop:=∀g,v1.ownBlock=some g→v.ownBlock=some g
theorem slice_from {P:Program} (t e:TypeId) (ht:P.underlying t=some (.slice e)) (hz:∀w,(Go.sizeOf e).run P w=.ok 1 w) (kl:IntKind) (a:Option Addr) (cap k:Nat) (l:List UInt8) (w:World) (h:Reads w (.slice a l.length cap) l) (hk:k≤l.length) :
  ∃a' c',(∀W,(Instr.slice t (.slice a l.length cap) (some (.int kl (k:Int))) none none).run P W=.ok (.slice a' (l.length-k) c') W)∧Reads w (.slice a' (l.length-k) c') (l.drop k)∧Within (.slice a l.length cap) (.slice a' (l.length-k) c'):=by
 have ht':P.underlying t=some (.slice (P.elem t)):=by simp [Program.elem,ht]
 have he:P.elem t=e:=by simp [Program.elem,ht]
 obtain ⟨a0,cap0,hv,h2,h3,h4,h5⟩:=h
 injection hv with e1 e2 e3
 subst e1 e3
 refine ⟨if cap=k then a else a.map (·.add (k*1)),cap-k,fun W=>?_,?_,?_⟩
 ·rw [run_slice_l W t _ _ _ ht' kl _ (by omega) (by omega),he,hz]
  simp [Result.andThen,sliced]
 ·refine ⟨_,cap-k,by rw [List.length_drop],by rw [List.length_drop];omega,by omega,?_,?_⟩
  ·intro hn
   by_cases hc:cap=k
   ·omega
   ·rw [if_neg hc] at hn
    have:a=none:=by cases a<;>simp_all
    have:=h4 this
    omega
  ·intro hne
   have hlt:k<l.length:=by
    rcases Nat.lt_or_ge k l.length with h|h
    ·exact h
    ·exact absurd (List.drop_eq_nil_of_le h) hne
   obtain ⟨b,o,rfl,hc⟩:=h5 (by intro h;subst h;simp at hlt)
   refine ⟨b,o+k,?_,fun j u hu=>?_⟩
   ·rw [if_neg (by omega)]
    simp only [Option.map_some,Nat.mul_one]
    congr 1
    unfold Addr.add;split<;>simp_all
   ·rw [List.getElem?_drop] at hu
    have:=hc (k+j) u hu
    rw [Nat.add_assoc]
    exact this
 ·intro g hg
  by_cases hc:cap=k
  ·rw [if_pos hc] at hg
   cases a<;>exact hg
  ·rw [if_neg hc] at hg
   cases a with
   | none=>simp [Value.ownBlock] at hg
   | some x =>
    simp only [Option.map_some,Value.ownBlock] at hg ⊢
    rw [←hg]
    congr 1
    unfold Addr.add;split<;>rfl
theorem slice_to {P:Program} (t e:TypeId) (ht:P.underlying t=some (.slice e)) (hz:∀w,(Go.sizeOf e).run P w=.ok 1 w) (kh:IntKind) (a:Option Addr) (cap k:Nat) (l:List UInt8) (w:World) (h:Reads w (.slice a l.length cap) l) (hk:k≤l.length) :
  ∃a' c',(∀W,(Instr.slice t (.slice a l.length cap) none (some (.int kh (k:Int))) none).run P W=.ok (.slice a' k c') W)∧Reads w (.slice a' k c') (l.take k):=by
 have ht':P.underlying t=some (.slice (P.elem t)):=by simp [Program.elem,ht]
 have he:P.elem t=e:=by simp [Program.elem,ht]
 obtain ⟨a0,cap0,hv,h2,h3,h4,h5⟩:=h
 injection hv with e1 e2 e3
 subst e1 e3
 have hl:(l.take k).length=k:=by rw [List.length_take];omega
 refine ⟨if cap=0 then a else a.map (·.add 0),cap,fun W=>?_,?_⟩
 ·rw [run_slice_h W t _ _ _ ht' kh _ (by omega) (by omega),he,hz]
  simp [Result.andThen,sliced]
 ·refine ⟨_,cap,by rw [hl],by omega,h3,?_,?_⟩
  ·intro hn
   by_cases hc:cap=0
   ·exact hc
   ·rw [if_neg hc] at hn
    have:a=none:=by cases a<;>simp_all
    exact h4 this
  ·intro hne
   have hne':l≠[]:=by intro h;subst h;simp at hne
   obtain ⟨b,o,rfl,hc⟩:=h5 hne'
   have hpos:0<l.length:=List.length_pos_iff.2 hne'
   refine ⟨b,o,?_,fun j u hu=>?_⟩
   ·rw [if_neg (by omega)]
    simp [Addr.add]
   ·have hj:j<k:=by
     have:=(List.getElem?_eq_some_iff.1 hu).1;omega
    rw [List.getElem?_take_of_lt hj] at hu
    exact hc j u hu
theorem string_of {P:Program} (t e:TypeId) (ht:P.underlying t=some (.slice e)) (u:TypeId) (he:P.underlying e=some (.int .u8)) (hu:P.underlying u=some .string) (v:Value) (l:List UInt8) (w:World) (h:Reads w v l) :
  (convert t u v).run P w=.ok (.string ⟨l.toArray⟩) w:=by
 obtain ⟨a,cap,rfl,h2,h3,h4,h5⟩:=h
 cases a with
 | none =>
  have h0:l=[]:=List.eq_nil_of_length_eq_zero (by have:=h4 rfl;omega)
  subst h0
  rw [run_convert_bytes_string w t u e _ _ _ ht he hu]
  simp [Conv.bytesToString]
  rfl
 | some a =>
  refine run_convert_bytes_back w t u e a cap l ht he hu fun j hj=>?_
  obtain ⟨b,o,hab,hc⟩:=h5 (by intro h;subst h;simp at hj)
  simp at hab
  subst hab
  have hadd:(⟨b,o,Option.none⟩:Addr).add j=⟨b,o+j,Option.none⟩:=by unfold Addr.add;split<;>simp_all
  rw [hadd]
  exact hc j l[j] (by simp)
theorem two_set1 {w:World}{b:Nat}{v u x:Value}{t:TypeId} (h:w.heap[b]?=some (.cells #[v,u] t (0,0))):(w.setCell ⟨b,1,none⟩ x).heap[b]?=some (.cells #[v,x] t (0,0)):=by
 have hlt:=lt_of_block h
 have h':w.heap[b]=.cells #[v,u] t (0,0):=by simpa [Array.getElem?_eq_getElem hlt] using h
 show (w.heap.modify b _)[b]?=_
 rw [Array.getElem?_eq_getElem (by simpa using hlt),Array.getElem_modify_self,h']
 rfl
end Go.Proofs.YtgpbhlfdlkemjaaGreat
namespace Go.Proofs.YtgpbhlfdlkemjaaGreat
open Go.RowKit
theorem ret_int {k:IntKind}{a b:Int} (h:a=b):Ending.returned (.int k a)=.returned (.int k b):=by rw [h]
end Go.Proofs.YtgpbhlfdlkemjaaGreat
namespace Go.Proofs.YtgpbhlfdlkemjaaGreat
open Go.RowKit
theorem inf5:(Tryz.prog.info? 5).map (fun i=>(i.zero,i.size,i.bytes))=some (some (.int .u8 0),1,1):=by kernel_rfl
def Fresh (w:World) (v:Value):Prop:=∀g,v.ownBlock=some g→w.heap.size≤g
set_option maxHeartbeats 400000 in
theorem clone_nil (c:Nat) (w:World):Calls Tryz.prog 57 #[.slice none 0 c] w fun e w'=>e=.returned (.slice none 0 0)∧w=w':=by
 have hq:=fun w:World=>Lib.run_eql_slice_nil (P:=Tryz.prog) w 48 5 none 0 c 0 0 Tryz.underlying48
 go_enter Tryz.func57,Tryz.ntmps57
 go_wp2
 go_ret
 exact ⟨rfl,rfl⟩
set_option maxHeartbeats 400000 in
theorem clone_some (a:Addr) (c:Nat) (l:List UInt8) (w:World) (hl:l.length≤140737488355328) (hc:∀j u,l[j]?=some u→w.cell? (a.add j)=some (B8 u)) :
  Calls Tryz.prog 57 #[.slice (some a) l.length c] w fun e w'=>∃v',e=.returned v'∧Owns 5 w' v' l∧Kept [] w w'∧Fresh w v':=by
 obtain ⟨i0,hi,hz0,hz1,hz2⟩:=info_parts inf5
 have hq:=fun w:World=>Lib.run_eql_slice_nil (P:=Tryz.prog) w 48 5 (some a) l.length c 0 0 Tryz.underlying48
 have hcell:Hid (∀j u,(C8 l)[j]?=some u→(w.alloc (.cells #[] 5)).cell? (a.add j)=some u):=by
  intro j u hu
  simp only [C8,List.getElem?_map,Option.map_eq_some_iff] at hu
  obtain ⟨b,hb,rfl⟩:=hu
  have h1:=hc j b hb
  rw [World.cell?_of_block (w:=w) (Below.heap_alloc _ _ _ (World.block_lt_of_cell? w _ h1))]
  exact h1
 have hmade:=World.ownsRow_made (base:=0) (e:=5) (size:=1) w #[] 0 (Nat.zero_le _) (by simp) (by simp)
 clear hc
 go_enter Tryz.func57,Tryz.ntmps57
 go_wp2_with (at_builtin;refine wpList_append_own_at _ rfl _ _ _ rfl 0 5 i0 _ 1 1 Tryz.underlying48 hi hz0 hz1 hz2 rfl (by omega) _ 0 [] rfl hmade a l.length c (C8 l) rfl (by rw [C8_length,Nat.mul_one]) hcell.out (C8_one l) (by unfold maxLen;omega) (by omega) (by omega) ?_;intro v1 w1 hown hgrow hnil hat)
 go_ret
 refine ⟨v1,rfl,?_,((Kept.refl [] w).alloc _).grown hgrow ?_,?_⟩
 ·rw [Nat.zero_add] at hown;exact hown
 ·intro k hk
  have hk':some w.heap.size=some k:=hk
  injection hk' with hk'
  exact .inr (by omega)
 ·intro g hg
  rcases hat with h|h
  ·have h':some g=some w.heap.size:=hg.symm.trans h
   injection h' with h'
   omega
  ·rw [hg] at h;simp at h;omega
theorem clone_any (v:Value) (l:List UInt8) (w:World) (h:Reads w v l) (hl:l.length≤140737488355328) :
  Calls Tryz.prog 57 #[v] w fun e w'=>∃v',e=.returned v'∧Owns 5 w' v' l∧Kept [] w w'∧Fresh w v':=by
 obtain ⟨a,cap,rfl,h2,h3,h4,h5⟩:=h
 match a with
 | none =>
  have hc:=h4 rfl
  subst hc
  have h0:l=[]:=List.eq_nil_of_length_eq_zero (by omega)
  subst h0
  exact (clone_nil 0 w).mono fun e w' ⟨he,hw⟩=>⟨_,he,hw▸Owns.nil 5 w,hw▸Kept.refl [] w,fun g hg=>by simp [Value.ownBlock] at hg⟩
 | some a =>
  refine clone_some a cap l w hl fun j u hu=>?_
  have hne:l≠[]:=fun h=>by subst h;simp at hu
  obtain ⟨b,o,hab,hc⟩:=h5 hne
  simp at hab
  subst hab
  have hadd:(⟨b,o,Option.none⟩:Addr).add j=⟨b,o+j,Option.none⟩:=by unfold Addr.add;split<;>simp_all
  rw [hadd]
  exact hc j u hu
end Go.Proofs.YtgpbhlfdlkemjaaGreat
