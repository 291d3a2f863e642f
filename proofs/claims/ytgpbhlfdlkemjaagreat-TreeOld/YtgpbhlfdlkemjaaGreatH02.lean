import Derived.WalkKit
import Derived.Deep.AppendLies
import Derived.Lib.AppendStr
import Derived.Laws.IdiomStrings
import Derived.OneCell
import Derived.Test.YtgpbhlfdlkemjaaGreatRows
import Derived.WalkLawsBesides
import Derived.WalkSpells
import Derived.Laws.BitsAllLaws
import Derived.Laws.CopyRow
import Derived.Laws.CopyOwn
import Derived.Laws.OwnMore
import Derived.Lib.SliceRun
import Derived.ProofKit
import Derived.OpenShut
import Derived.Laws.AppendOwnNone
import Derived.Maps.AppendAt
import Derived.Test.YtgpbhlfdlkemjaaGreatH01
/-
 sum: the check of bytes, sealed blocks, what opens of them: carried from the stages before.
-/
namespace Go.Proofs.YtgpbhlfdlkemjaaGreat
def mix (x b:Nat):Nat:=((x ^^^ b)*1099511628211)%18446744073709551616
def fnvFrom (x:Nat) (l:List UInt8):Nat:=l.foldl (fun y b=>mix y b.toNat) x
def fnv (l:List UInt8):Nat:=fnvFrom 14695981039346656037 l
theorem mix_lt (x b:Nat):mix x b<18446744073709551616:=Nat.mod_lt _ (by decide)
theorem fnvFrom_lt (l:List UInt8):∀x,x<18446744073709551616→fnvFrom x l<18446744073709551616:=by
 induction l with
 | nil=>intro x h;exact h
 | cons b t ih=>intro x _;exact ih _ (mix_lt _ _)
theorem fnv_lt (l:List UInt8):fnv l<18446744073709551616:=by
 unfold fnv
 exact fnvFrom_lt l _ (by omega)
theorem fnvFrom_append (x:Nat) (l m:List UInt8):fnvFrom x (l++m)=fnvFrom (fnvFrom x l) m:=by simp [fnvFrom]
theorem fnvFrom_one (x:Nat) (u:UInt8):fnvFrom x [u]=mix x u.toNat:=by unfold fnvFrom;rw [List.foldl_cons,List.foldl_nil]
theorem fnvFrom_take (x:Nat) (l:List UInt8) (j:Nat) (u:UInt8) (hu:l[j]?=some u):fnvFrom x (l.take (j+1))=mix (fnvFrom x (l.take j)) u.toNat:=by
 rw [List.take_add_one,hu,fnvFrom_append]
 exact fnvFrom_one _ u
theorem fnv_take (l:List UInt8) (j:Nat) (u:UInt8) (hu:l[j]?=some u):fnv (l.take (j+1))=mix (fnv (l.take j)) u.toNat:=by
 unfold fnv
 exact fnvFrom_take _ l j u hu
def be:Nat→Nat→List UInt8
 | 0,_=>[]
 | k+1,n=>be k (n / 256)++[UInt8.ofNat n]
theorem be_length (k:Nat):∀n,(be k n).length=k:=by
 induction k with
 | zero=>intro n;rfl
 | succ k ih=>intro n;simp [be,ih]
def rest (kind:UInt8) (place:Nat) (p:List UInt8):List UInt8:=kind::(be 4 place++(UInt8.ofNat p.length::(p++List.replicate (242-p.length) 0)))
def sealedL (kind:UInt8) (place:Nat) (p:List UInt8):List UInt8:=be 8 (fnv (rest kind place p))++rest kind place p
theorem rest_length (kind:UInt8) (place:Nat) (p:List UInt8) (h:p.length≤242):(rest kind place p).length=248:=by simp [rest,be_length];omega
theorem sealedL_length (kind:UInt8) (place:Nat) (p:List UInt8) (h:p.length≤242):(sealedL kind place p).length=256:=by simp [sealedL,be_length,rest_length kind place p h]
end Go.Proofs.YtgpbhlfdlkemjaaGreat
namespace Go.Proofs.YtgpbhlfdlkemjaaGreat
open Go.RowKit
end Go.Proofs.YtgpbhlfdlkemjaaGreat
namespace Go.Proofs.YtgpbhlfdlkemjaaGreat
open Go.RowKit
set_option linter.unusedVariables false
theorem mix_run (N U:Nat) (hN:N<18446744073709551616) (hU:U<256):IntKind.u64.wrap ((bits .xor .u64 (N:Int) (U:Int))*1099511628211)=((mix N U:Nat):Int):=by
 rw [u64_xor_nat N U hN (by omega),IntKind.wrap_u64]
 unfold mix
 omega
set_option maxRecDepth 100000 in
set_option maxHeartbeats 400000 in
theorem sum_walk (b o cap:Nat) (l:List UInt8) (n:Nat) (w:World) (hn:Hid (l.length=n)) (h1:n≤cap) (h2:cap≤9223372036854775807) (hc:∀j u,l[j]?=some u→w.cell? ⟨b,o+j,none⟩=some (B8 u)) :
  Calls Tryz.prog 101 #[.slice (some ⟨b,o,none⟩) n cap] w fun e w'=>e=.returned (.int .u64 ((fnv l:Nat):Int))∧w=w':=by
 go_enter Tryz.func101,Tryz.ntmps101
 go_wp2
 go_loop [3,8] (fun x i=>∃j:Nat,j≤n∧i=.int .i64 (j:Int)∧x=.int .u64 ((fnv (l.take j):Nat):Int)) (fun _ i=>n-(intOf i).toNat)
 case atStart=>exact ⟨0,Nat.zero_le _,rfl,by simp [fnv,fnvFrom]⟩
 case round =>
  obtain ⟨j,hj,rfl,rfl⟩:=hrel
  by_cases hlt:j<n
  ·obtain ⟨u,hu⟩:∃u,l[j]?=some u:=⟨l[j]'(by rw [hn.out];exact hlt),by simp⟩
   have HU:Hid (fnv (l.take (j+1))=mix (fnv (l.take j)) u.toNat):=fnv_take l j u hu
   have hN:=fnv_lt (l.take j)
   have hcj:=hc j u hu
   unfold B8 at hcj
   have hub:=u.toNat_lt
   have hm:=mix_run (fnv (l.take j)) u.toNat hN hub
   generalize fnv (l.take j)=N at hN hm HU ⊢
   generalize u.toNat=U at hub hm HU hcj
   clear hu hc
   go_wp2
   go_round
   case rel=>exact ⟨j+1,by omega,by go_num,by rw [HU.out]⟩
   case measure=>simp [intOf];omega
  ·have hje:j=n:=by omega
   subst hje
   have HW:Hid (fnv (l.take j)=fnv l):=by show _=_;rw [List.take_of_length_le (by rw [hn.out];omega)]
   generalize fnv (l.take j)=N at HW ⊢
   clear hc
   go_wp2
   go_ret
   exact ⟨by rw [←HW.out];rfl,rfl⟩
theorem reads_cases {w:World}{v:Value}{l:List UInt8} (h:Reads w v l):(∃a cap,v=.slice a 0 cap∧l=[]∧cap≤9223372036854775807)∨(∃b o cap,v=.slice (some ⟨b,o,none⟩) l.length cap∧l.length≤cap∧cap≤9223372036854775807∧∀j u,l[j]?=some u→w.cell? ⟨b,o+j,none⟩=some (B8 u)):=by
 obtain ⟨a,cap,rfl,h2,h3,h4,h5⟩:=h
 have h3':cap≤9223372036854775807:=by unfold maxLen at h3;omega
 by_cases hl:l=[]
 ·subst hl
  exact .inl ⟨a,cap,rfl,rfl,h3'⟩
 ·obtain ⟨b,o,rfl,hc⟩:=h5 hl
  exact .inr ⟨b,o,cap,rfl,h2,h3',hc⟩
set_option maxRecDepth 100000 in
set_option maxHeartbeats 400000 in
theorem sum_nil (a:Option Addr) (cap:Nat) (w:World):Calls Tryz.prog 101 #[.slice a 0 cap] w fun e w'=>e=.returned (.int .u64 14695981039346656037)∧w=w':=by
 go_enter Tryz.func101,Tryz.ntmps101
 go_wp2
 go_loop [3,8] (fun x i=>i=.int .i64 0∧x=.int .u64 14695981039346656037) (fun _ _=>0)
 case atStart=>exact ⟨rfl,rfl⟩
 case round =>
  obtain ⟨rfl,rfl⟩:=hrel
  go_wp2
  go_ret
  exact ⟨rfl,rfl⟩
theorem fnv_nil:((fnv []:Nat):Int)=14695981039346656037:=by simp [fnv,fnvFrom]
theorem sum_any (v:Value) (l:List UInt8) (w:World) (h:Reads w v l):Calls Tryz.prog 101 #[v] w fun e w'=>e=.returned (.int .u64 ((fnv l:Nat):Int))∧w=w':=by
 rcases reads_cases h with ⟨a,cap,rfl,rfl,_⟩|⟨b,o,cap,rfl,h1,h2,hc⟩
 ·rw [fnv_nil]
  exact sum_nil a cap w
 ·exact sum_walk b o cap l l.length w rfl h1 h2 hc
end Go.Proofs.YtgpbhlfdlkemjaaGreat
namespace Go.Proofs.YtgpbhlfdlkemjaaGreat
open Go.RowKit
set_option linter.unusedVariables false
def Row (w:World) (g:Nat) (L:List UInt8):Prop:=w.heap[g]?=some (.cells (C8 L).toArray 5 (0,0))
theorem Row.cell {w:World}{g:Nat}{L:List UInt8} (h:Row w g L) (j:Nat) (u:UInt8) (hu:L[j]?=some u):w.cell? ⟨g,j,none⟩=some (B8 u):=by
 unfold Row at h
 simp [World.cell?,h,C8,hu]
theorem Row.free {w:World}{g:Nat}{L:List UInt8} (h:Row w g L) (j:Nat):w.frozen? ⟨g,j,none⟩=false:=by
 unfold Row at h
 simp [World.frozen?,h]
theorem Row.set {w:World}{g:Nat}{L:List UInt8} (h:Row w g L) (j:Nat) (u:UInt8):Row (w.setCell ⟨g,j,none⟩ (B8 u)) g (L.set j u):=by
 unfold Row at h ⊢
 rw [setCell_eq_setRow w g j _ 5 (0,0) _ h,setRow_heap w g _ _ 5 _ h]
 simp [C8]
theorem Row.kept {S:List Nat}{w w':World}{g:Nat}{L:List UInt8} (h:Row w g L) (k:Kept S w w') (hn:g∉S):Row w' g L:=k.keeps h hn
theorem Row.lt {w:World}{g:Nat}{L:List UInt8} (h:Row w g L):g<w.heap.size:=lt_of_block h
def layL (L:List UInt8) (o:Nat):Nat→Nat→List UInt8
 | 0,_=>L
 | k+1,n=>layL (L.set (o+k) (UInt8.ofNat n)) o k (n / 256)
set_option maxRecDepth 100000 in
set_option maxHeartbeats 400000 in
theorem lay_walk (g o k cap N:Nat) (L:List UInt8) (w:World) (h1:k≤cap) (h2:cap≤9223372036854775807) (hL:o+k≤L.length) (hN:N<18446744073709551616) (hR:Row w g L) :
  Calls Tryz.prog 175 #[.slice (some ⟨g,o,none⟩) k cap,.int .u64 (N:Int)] w fun e w'=>e=.returned (.tuple #[])∧Row w' g (layL L o k N)∧Kept [g] w w':=by
 go_enter Tryz.func175,Tryz.ntmps175
 go_wp2
 go_loopw [1,4] (fun n i wr=>∃j m:Nat,∃L':List UInt8,j≤k∧i=.int .i64 ((j:Int)-1)∧m<18446744073709551616∧n=.int .u64 (m:Int)∧Row wr g L'∧L'.length=L.length∧layL L' o j m=layL L o k N∧Kept [g] w wr) (fun _ i _=>(intOf i+1).toNat)
 case atStart=>exact ⟨k,N,L,Nat.le_refl _,rfl,hN,rfl,hR,rfl,rfl,Kept.refl _ _⟩
 case round =>
  obtain ⟨j,m,L',hj,rfl,hm,rfl,hR1,hl,he,hk⟩:=hrel
  have HE:Hid (layL L' o j m=layL L o k N):=he
  have HL:Hid (L'.length=L.length):=hl
  have HK:Hid (Kept [g] w wr):=hk
  have HR:Hid (Row wr g L'):=hR1
  clear he hl hk hR1
  cases j with
  | zero =>
   go_wp2
   go_end0
   exact ⟨rfl,by rw [←HE.out];exact HR.out,HK.out⟩
  | succ i =>
   have ei:((i+1:Nat):Int)-1=(i:Int):=by omega
   rw [ei]
   clear ei
   obtain ⟨u,hu⟩:∃u,L'[o+i]?=some u:=⟨L'[o+i]'(by rw [HL.out];omega),by simp⟩
   have hc:=HR.out.cell (o+i) u hu
   have hf:=HR.out.free (o+i)
   have hik:(i:Int)<(k:Int):=by omega
   have hik2:i<k:=by omega
   go_wp2
   go_roundw
   case rel =>
    have e1:Value.int .u8 ((m:Int)%256)=B8 (UInt8.ofNat m):=B8_of m _ (by omega)
    refine ⟨i,m / 256,L'.set (o+i) (UInt8.ofNat m),by omega,rfl,by omega,by simp,?_,?_,?_,?_⟩
    ·rw [e1];exact HR.out.set _ _
    ·rw [List.length_set];exact HL.out
    ·exact HE.out
    ·exact HK.out.setCell (.inl (by simp)) _
   case measure=>simp [intOf]
theorem drop_set_at (L:List UInt8) (k:Nat) (b:UInt8) (h:k<L.length):(L.set k b).drop k=b::L.drop (k+1):=by
 rw [List.set_eq_take_append_cons_drop,if_pos h,List.drop_append_of_le_length (by rw [List.length_take];omega),List.drop_of_length_le (by rw [List.length_take];omega),List.nil_append]
theorem layL_eq (o:Nat) (k:Nat):∀(L:List UInt8) (n:Nat),o+k≤L.length→layL L o k n=L.take o++(be k n++L.drop (o+k)):=by
 induction k with
 | zero=>intro L n _;simp [layL,be]
 | succ k ih =>
  intro L n h
  unfold layL be
  rw [ih _ _ (by rw [List.length_set];omega),List.take_set_of_le (by omega),drop_set_at L (o+k) _ (by omega),List.append_assoc]
  rfl
theorem layL_length (o k:Nat) (L:List UInt8) (n:Nat) (h:o+k≤L.length):(layL L o k n).length=L.length:=by
 rw [layL_eq o k L n h];simp [be_length];omega
end Go.Proofs.YtgpbhlfdlkemjaaGreat
namespace Go.Proofs.YtgpbhlfdlkemjaaGreat
open Go.RowKit
set_option linter.unusedVariables false
def zs (n:Nat):List UInt8:=List.replicate n 0
theorem zs_length (n:Nat):(zs n).length=n:=List.length_replicate ..
theorem zs_add (m n:Nat):zs m++zs n=zs (m+n):=List.replicate_append_replicate
theorem zs_succ (n:Nat):zs (n+1)=0::zs n:=rfl
theorem zs_drop (m n:Nat):(zs n).drop m=zs (n-m):=List.drop_replicate ..
def headL (kind:UInt8) (place n:Nat):List UInt8:=(layL ((zs 256).set 8 kind) 9 4 place).set 13 (UInt8.ofNat n)
def bodyL (kind:UInt8) (place:Nat) (p:List UInt8):List UInt8:=splice (headL kind place p.length) 14 p
theorem set_at {A B:List UInt8}{x y:UInt8}{n:Nat} (h:A.length=n):(A++x::B).set n y=A++y::B:=by subst h;simp
theorem take_len {A B:List UInt8}{n:Nat} (h:A.length=n):(A++B).take n=A:=by rw [List.take_append_of_le_length (by omega),List.take_of_length_le (by omega)]
theorem drop_len {A B:List UInt8}{n:Nat} (h:A.length=n):(A++B).drop n=B:=by rw [List.drop_append_of_le_length (by omega),List.drop_of_length_le (by omega)];rfl
theorem row1 (kind:UInt8):(zs 256).set 8 kind=(zs 8++[kind])++zs 247:=by
 rw [show zs 256=zs 8++0::zs 247 by rw [←zs_succ,zs_add],set_at (zs_length 8),List.append_assoc]
 rfl
theorem row1_length (kind:UInt8):((zs 256).set 8 kind).length=256:=by rw [List.length_set,zs_length]
theorem row2 (kind:UInt8) (place:Nat):layL ((zs 256).set 8 kind) 9 4 place=((zs 8++[kind])++be 4 place)++0::zs 242:=by
 rw [layL_eq 9 4 _ _ (by rw [row1_length];omega),row1,take_len (by rw [List.length_append,zs_length];rfl),←List.drop_drop,drop_len (by rw [List.length_append,zs_length];rfl),zs_drop,←List.append_assoc]
 rfl
theorem row2_length (kind:UInt8) (place:Nat):(layL ((zs 256).set 8 kind) 9 4 place).length=256:=by
 rw [layL_length 9 4 _ _ (by rw [row1_length];omega),row1_length]
theorem head_len (kind:UInt8) (place:Nat):((zs 8++[kind])++be 4 place).length=13:=by rw [List.length_append,List.length_append,zs_length,be_length];rfl
theorem headL_eq (kind:UInt8) (place n:Nat):headL kind place n=(((zs 8++[kind])++be 4 place)++[UInt8.ofNat n])++zs 242:=by
 unfold headL
 rw [row2,set_at (head_len kind place),List.append_assoc _ [_]]
 rfl
theorem headL_length (kind:UInt8) (place n:Nat):(headL kind place n).length=256:=by
 unfold headL
 rw [List.length_set,row2_length]
theorem bodyL_eq (kind:UInt8) (place:Nat) (p:List UInt8):bodyL kind place p=zs 8++rest kind place p:=by
 unfold bodyL splice
 have hl:(((zs 8++[kind])++be 4 place)++[UInt8.ofNat p.length]).length=14:=by rw [List.length_append,head_len];rfl
 rw [headL_eq,take_len hl,←List.drop_drop,drop_len hl,zs_drop]
 unfold rest
 show _=zs 8++kind::(be 4 place++UInt8.ofNat p.length::(p++zs (242-p.length)))
 simp only [List.append_assoc,List.cons_append,List.nil_append]
theorem bodyL_length (kind:UInt8) (place:Nat) (p:List UInt8) (h:p.length≤242):(bodyL kind place p).length=256:=by
 rw [bodyL_eq kind place p,List.length_append,zs_length,rest_length kind place p h]
theorem bodyL_drop (kind:UInt8) (place:Nat) (p:List UInt8):(bodyL kind place p).drop 8=rest kind place p:=by
 rw [bodyL_eq kind place p,drop_len (zs_length 8)]
theorem chain (kind:UInt8) (place:Nat) (p:List UInt8) (h:p.length≤242):layL (bodyL kind place p) 0 8 (fnv ((bodyL kind place p).drop 8))=sealedL kind place p:=by
 rw [layL_eq 0 8 _ _ (by rw [bodyL_length kind place p h];omega),List.take_zero,List.nil_append,Nat.zero_add,bodyL_drop kind place p]
 rfl
end Go.Proofs.YtgpbhlfdlkemjaaGreat
namespace Go.Proofs.YtgpbhlfdlkemjaaGreat
open Go.RowKit
set_option linter.unusedVariables false
theorem make_run (W:World):(Instr.makeSlice 48 (.int .i64 256) (.int .i64 256)).run Tryz.prog W=.ok (.slice (some ⟨W.heap.size,0,none⟩) 256 256) (W.alloc (.cells (C8 (zs 256)).toArray 5)):=by
 obtain ⟨i0,hi,hz0,hz1,hz2⟩:=info_parts inf5
 have h:=run_make (P:=Tryz.prog) W 48 5 i0 _ Tryz.underlying48 hi hz0 .i64 .i64 256 256 (by omega) (by omega) (by rw [hz2];omega) (by omega)
 rw [h]
 have e:madeCells (Value.int .u8 0).cells (Int.toNat 256*i0.size)=(C8 (zs 256)).toArray:=by
  rw [hz1]
  apply Array.toList_inj.1
  rw [show (Value.int .u8 0).cells=#[.int .u8 0] from rfl,toList_madeCells_one]
  have e0:B8 0=.int .u8 0:=by simp [B8]
  show _=List.map B8 (List.replicate 256 0)
  rw [List.map_replicate,e0]
  rfl
 rw [e]
 rfl
theorem new_row (w:World) (kind:UInt8):Row (w.alloc (.cells ((C8 (zs 256)).set 8 (.int .u8 (kind.toNat:Int))).toArray 5)) w.heap.size ((zs 256).set 8 kind):=by
 unfold Row
 rw [heap_alloc_new]
 have e:C8 ((zs 256).set 8 kind)=(C8 (zs 256)).set 8 (.int .u8 (kind.toNat:Int)):=by
  unfold C8
  rw [List.map_set]
  rfl
 rw [e]
theorem C8_splice (L p:List UInt8) (o:Nat):(C8 L).take o++C8 p++(C8 L).drop (o+(C8 p).length)=C8 (splice L o p):=by
 unfold splice
 rw [C8_append,C8_append,C8_length,List.append_assoc]
 unfold C8
 rw [List.map_take,List.map_drop]
theorem copy_part (w:World) (g o dLen dCap:Nat) (L:List UInt8) (a:Option Addr) (n cap:Nat) (p:List UInt8) (hR:Row w g L) (hr:Reads w (.slice a n cap) p) (hn:p.length=n) (h1:n≤dLen) (h2:o+n≤L.length) :
  ∃w',(Builtin.copy_ #[48,48] 3 #[.slice (some ⟨g,o,none⟩) dLen dCap,.slice a n cap]).run Tryz.prog w=.ok (goInt n) w'∧Row w' g (splice L o p)∧Kept [g] w w':=by
 obtain ⟨i0,hi,hz0,hz1,hz2⟩:=info_parts inf5
 have hs:(Tryz.prog.info? 5).map (·.size)=some 1:=by rw [hi];simp [hz1]
 rcases reads_cases hr with ⟨a',c',he,rfl,_⟩|⟨b,q,c',he,hh1,hh2,hc⟩
 ·injection he with e1 e2 e3
  subst e1 e2 e3
  refine ⟨w,run_copy_none w 48 48 3 5 _ _ _ _ _ _ Tryz.underlying48 hs (by simp),?_,Kept.refl _ _⟩
  simpa [splice] using hR
 ·injection he with e1 e2 e3
  subst e1 e2 e3
  have hrun:=run_copy_row (P:=Tryz.prog) w 48 48 3 5 g o dLen dCap ⟨b,q,none⟩ p.length cap (C8 L).toArray 5 (C8 p) Tryz.underlying48 hs hR (by rw [C8_length];exact (Nat.min_eq_left h1).symm) (fun j v hv=>by
   simp only [C8,List.getElem?_map,Option.map_eq_some_iff] at hv
   obtain ⟨u,hu,rfl⟩:=hv
   have hadd:(⟨b,q,Option.none⟩:Addr).add j=⟨b,q+j,Option.none⟩:=by unfold Addr.add;split<;>simp_all
   rw [hadd]
   exact hc j u hu) (by simp [C8_length];omega) (C8_one p)
  rw [C8_length] at hrun
  refine ⟨_,hrun,?_,⟨rfl,rfl,rfl,by simp [World.setRow],fun k hk hn=>setRow_other w g k _ (by intro e;subst e;simp at hn)⟩⟩
  unfold Row
  rw [setRow_heap w g _ _ 5 _ hR,←C8_splice,C8_length]
theorem Row.reads {w:World}{g:Nat}{L:List UInt8} (h:Row w g L) (o m c:Nat) (M:List UInt8) (hM:M.length=m) (hc:m≤c) (hm:c≤maxLen) (he:∀j u,M[j]?=some u→L[o+j]?=some u):Reads w (.slice (some ⟨g,o,none⟩) m c) M:=by
 subst hM
 exact ⟨_,c,rfl,hc,hm,by simp,fun _=>⟨g,o,rfl,fun j u hu=>h.cell (o+j) u (he j u hu)⟩⟩
theorem Row.reads_all {w:World}{g:Nat}{L:List UInt8} (h:Row w g L) (hl:L.length=256):Reads w (.slice (some ⟨g,0,none⟩) 256 256) L :=
 h.reads 0 256 256 L hl (by omega) (by unfold maxLen;omega) (fun j u hu=>by rw [Nat.zero_add];exact hu)
set_option maxRecDepth 100000 in
set_option maxHeartbeats 400000 in
theorem sealed_walk (kind:UInt8) (place:Nat) (a:Option Addr) (n cap:Nat) (p:List UInt8) (w:World) (hp:place<4294967296) (hl:n≤242) (hcap:n≤cap) (hn:Hid (p.length=n)) (hr:Reads w (.slice a n cap) p) :
  Calls Tryz.prog 164 #[.int .u8 (kind.toNat:Int),.int .u32 (place:Int),.slice a n cap] w fun e w'=>∃g,e=.returned (.slice (some ⟨g,0,none⟩) 256 256)∧w.heap.size≤g∧Row w' g (sealedL kind place p)∧Kept [] w w':=by
 have hmk:=make_run
 go_enter Tryz.func164,Tryz.ntmps164
 go_wp2_with fail
 have hR0:=new_row w kind
 have hk0:Kept [] w (w.alloc (.cells ((C8 (zs 256)).set 8 (.int .u8 (kind.toNat:Int))).toArray 5)):=(Kept.refl [] w).alloc _
 refine (lay_walk w.heap.size 9 4 247 place _ _ (by omega) (by omega) (by rw [row1_length];omega) (by omega) hR0).mono ?_
 rintro e w1 ⟨rfl,hR1,hk1⟩
 have hK1:Kept [] w w1:=hk0.trans hk1 (fun x hx=>.inr (by simp at hx;omega))
 clear hR0 hk0 hk1 hmk
 have HL2:Hid (headL kind place p.length=(layL ((zs 256).set 8 kind) 9 4 place).set 13 (UInt8.ofNat p.length)):=rfl
 have HN2:Hid ((layL ((zs 256).set 8 kind) 9 4 place).length=256):=row2_length kind place
 generalize layL ((zs 256).set 8 kind) 9 4 place=L2 at HL2 HN2 hR1
 obtain ⟨u,hu⟩:∃u,L2[13]?=some u:=⟨L2[13]'(by rw [HN2.out];omega),by simp⟩
 have hc13:=hR1.cell 13 u hu
 have hf13:=hR1.free 13
 have hsz:=hR1.lt
 go_wp2_with fail
 have e13:Value.int .u8 (n:Int)=B8 (UInt8.ofNat n):=B8_of n _ (by omega)
 have hR2:=hR1.set 13 (UInt8.ofNat n)
 have hK2:Kept [] w (w1.setCell ⟨w.heap.size,13,none⟩ (B8 (UInt8.ofNat n))):=hK1.setCell (.inr (Nat.le_refl _)) _
 rw [e13]
 have hn':=hn.out
 rw [←hn',←HL2.out,hn'] at hR2
 generalize w1.setCell ⟨w.heap.size,13,none⟩ (B8 (UInt8.ofNat n))=w2 at hR2 hK2 ⊢
 clear hR1 hK1 hc13 hf13 hsz e13 HL2 HN2 hu
 obtain ⟨w3,hrun,hR3,hk3⟩:=copy_part w2 w.heap.size 14 242 242 _ a n cap p hR2 (hr.kept hK2 (by simp)) hn' hl (by rw [headL_length];omega)
 have hK3:Kept [] w w3:=hK2.trans hk3 (fun x hx=>.inr (by simp at hx;omega))
 rw [hrun]
 rw [←hn',show splice (headL kind place p.length) 14 p=bodyL kind place p from rfl] at hR3
 have HC:Hid (layL (bodyL kind place p) 0 8 (fnv ((bodyL kind place p).drop 8))=sealedL kind place p):=chain kind place p (by omega)
 have HB:Hid ((bodyL kind place p).length=256):=bodyL_length kind place p (by omega)
 generalize bodyL kind place p=B at HC HB hR3
 clear hrun hk3 hR2 hK2 hr
 replace hR3:Row w3.drew w.heap.size B:=hR3
 replace hK3:=hK3.drew
 have hrd:Reads w3.drew (.slice (some ⟨w.heap.size,8,none⟩) 248 248) (B.drop 8):=hR3.reads 8 248 248 _ (by rw [List.length_drop,HB.out]) (by omega) (by unfold maxLen;omega) (fun j u hu=>by rw [List.getElem?_drop] at hu;exact hu)
 have hsum:=sum_any _ _ _ hrd
 have hlay:=lay_walk w.heap.size 0 8 256 (fnv (B.drop 8)) B w3.drew (by omega) (by omega) (by rw [HB.out];omega) (fnv_lt _) hR3
 generalize fnv (B.drop 8)=S at HC hsum hlay
 generalize layL B 0 8 S=R at HC hlay
 clear hrd hR3
 go_wp2_with fail
 go_region_with (first|(go_at_call 101;refine hsum.mono ?_;rintro e w4 ⟨rfl,rfl⟩)|(go_at_call 175;refine hlay.mono ?_;rintro e w4 ⟨rfl,hR4,hk4⟩))
 all_goals
  go_wp2_with fail
  go_ret
  exact ⟨w.heap.size,rfl,Nat.le_refl _,by rw [←HC.out];exact hR4,hK3.trans hk4 (fun x hx=>.inr (by simp at hx;omega))⟩
end Go.Proofs.YtgpbhlfdlkemjaaGreat
namespace Go.Proofs.YtgpbhlfdlkemjaaGreat
open Go.RowKit
set_option linter.unusedVariables false
theorem reads_of_row (W:World) (x:Addr) (zs:List Int) {len cap:Nat} (hl:len≤cap) (hm:cap≤maxLen) (hz:zs.length=cap) (hcell:∀i,i<zs.length→W.cell? (x.add i)=some (.int .u8 (zs.getD i 0))) (hwz:∀n∈zs,(Lit.int .u8 n).wf=true) (hb:len≤140737488351232) :
  ∃l,Reads W (.slice (some x) len cap) l∧l.length≤140737488351232:=by
 have hlen:((zs.take len).map fun z=>UInt8.ofNat z.toNat).length=len:=by rw [List.length_map,List.length_take];omega
 refine ⟨(zs.take len).map fun z=>UInt8.ofNat z.toNat,⟨some x,cap,by rw [hlen],by omega,hm,by simp,fun hne=>?_⟩,by omega⟩
 have hpos:0<len:=by
  rcases Nat.eq_zero_or_pos len with h|h
  ·subst h;simp at hne
  ·exact h
 obtain ⟨b,o,spot⟩:=x
 have hc:=hcell 0 (by omega)
 have hspot:spot=none:=by simpa [Addr.add] using World.cell?_spot hc
 subst hspot
 refine ⟨b,o,rfl,fun j u hu=>?_⟩
 rw [List.getElem?_map,Option.map_eq_some_iff] at hu
 obtain ⟨z,hz1,rfl⟩:=hu
 have hj:j<len:=by
  have:=(List.getElem?_eq_some_iff.1 hz1).1
  rw [List.length_take] at this;omega
 rw [List.getElem?_take_of_lt hj] at hz1
 have h:=hcell j (by omega)
 have hadd:(⟨b,o,Option.none⟩:Addr).add j=⟨b,o+j,Option.none⟩:=by unfold Addr.add;split<;>simp_all
 rw [hadd] at h
 rw [h]
 have hzz:zs.getD j 0=z:=by simp [List.getD,hz1]
 rw [hzz]
 have hw:=bounds_u8 (hwz z (List.mem_of_getElem? hz1))
 congr 1
 exact (B8_of z.toNat z (by omega))
theorem slice_mid (b o len cap l k:Nat) (h1:l+k≤cap) (h2:l<cap) (W:World) :
  (Instr.slice 48 (.slice (some ⟨b,o,none⟩) len cap) (some (.int .i64 (l:Int))) (some (.int .i64 ((l:Int)+(k:Int)))) none).run Tryz.prog W=.ok (.slice (some ⟨b,o+l,none⟩) k (cap-l)) W:=by
 obtain ⟨i0,hi,hz0,hz1,hz2⟩:=info_parts inf5
 have ht':Tryz.prog.underlying 48=some (.slice (Tryz.prog.elem 48)):=by simp [Program.elem,Tryz.underlying48]
 have he:Tryz.prog.elem 48=5:=by simp [Program.elem,Tryz.underlying48]
 have hz:∀w,(Go.sizeOf 5).run Tryz.prog w=.ok 1 w:=fun w=>by simp [Go.sizeOf,typeInfo,hi,hz1]
 rw [run_slice_lh W 48 _ _ _ ht' .i64 .i64 _ _ (by omega) (by omega) (by omega),he,hz]
 have e1:((l:Int)+(k:Int)).toNat=l+k:=by omega
 have e2:¬cap=l:=by omega
 have e3:(⟨b,o,none⟩:Addr).add l=⟨b,o+l,none⟩:=by unfold Addr.add;split<;>simp_all
 simp [Result.andThen,sliced,e1,e2,e3]
theorem str_ne (l m:List UInt8) (h:l≠m):((⟨l.toArray⟩:ByteArray).toList == (⟨m.toArray⟩:ByteArray).toList)=false:=by
 rw [ByteArray.toList_mk,ByteArray.toList_mk];simpa using h
set_option maxHeartbeats 400000 in
theorem equal_yes (v1 v2:Value) (l:List UInt8) (w:World) (h1:Reads w v1 l) (h2:Reads w v2 l) :
  Calls Tryz.prog 76 #[v1,v2] w fun e w'=>e=.returned (.bool true)∧w=w':=by
 have s1:=string_of (P:=Tryz.prog) 48 5 Tryz.underlying48 9 Tryz.underlying5 Tryz.underlying9 v1 l w h1
 have s2:=string_of (P:=Tryz.prog) 48 5 Tryz.underlying48 9 Tryz.underlying5 Tryz.underlying9 v2 l w h2
 generalize (⟨l.toArray⟩:ByteArray)=s at s1 s2
 go_enter Tryz.func76,Tryz.ntmps76
 go_wp2
 go_ret
 exact ⟨rfl,rfl⟩
set_option maxHeartbeats 400000 in
theorem equal_no (v1 v2:Value) (l1 l2:List UInt8) (w:World) (h1:Reads w v1 l1) (h2:Reads w v2 l2) (hne:l1≠l2) :
  Calls Tryz.prog 76 #[v1,v2] w fun e w'=>e=.returned (.bool false)∧w=w':=by
 have s1:=string_of (P:=Tryz.prog) 48 5 Tryz.underlying48 9 Tryz.underlying5 Tryz.underlying9 v1 l1 w h1
 have s2:=string_of (P:=Tryz.prog) 48 5 Tryz.underlying48 9 Tryz.underlying5 Tryz.underlying9 v2 l2 w h2
 have hb:=str_ne l1 l2 hne
 generalize (⟨l1.toArray⟩:ByteArray)=t1 at s1 hb
 generalize (⟨l2.toArray⟩:ByteArray)=t2 at s2 hb
 go_enter Tryz.func76,Tryz.ntmps76
 go_wp2
 go_ret
 exact ⟨rfl,rfl⟩
end Go.Proofs.YtgpbhlfdlkemjaaGreat
namespace Go.Proofs.YtgpbhlfdlkemjaaGreat
open Go.RowKit
set_option linter.unusedVariables false
def Sealed (w w':World) (v:Value) (l:List UInt8):Prop:=∃g,v=.slice (some ⟨g,0,none⟩) 256 256∧w.heap.size≤g∧Row w' g l∧l.length=256∧Kept [] w w'
theorem Sealed.reads {w w':World}{v:Value}{l:List UInt8} (h:Sealed w w' v l):Reads w' v l:=by
 obtain ⟨g,rfl,_,hR,hl,_⟩:=h
 exact hR.reads_all hl
theorem sealed_any (kind:UInt8) (place:Nat) (v:Value) (p:List UInt8) (w:World) (hp:place<4294967296) (hl:p.length≤242) (hr:Reads w v p) :
  Calls Tryz.prog 164 #[.int .u8 (kind.toNat:Int),.int .u32 (place:Int),v] w fun e w'=>∃v',e=.returned v'∧Sealed w w' v' (sealedL kind place p):=by
 have hr':=hr
 obtain ⟨a,cap,rfl,h2,h3,h4,h5⟩:=hr
 exact (sealed_walk kind place a p.length cap p w hp hl h2 rfl hr').mono fun e w' ⟨g,he,h1,h2,h3⟩=>⟨_,he,g,rfl,h1,h2,sealedL_length kind place p hl,h3⟩
set_option maxRecDepth 100000 in
set_option maxHeartbeats 400000 in
theorem seal_walk (kind:UInt8) (place:Nat) (a:Option Addr) (n cap:Nat) (L:List UInt8) (w:World) (hn:n≤242) (hs:Calls Tryz.prog 164 #[.int .u8 (kind.toNat:Int),.int .u32 (place:Int),.slice a n cap] w fun e w'=>∃v',e=.returned v'∧Sealed w w' v' L) :
  Calls Tryz.prog 182 #[.int .u8 (kind.toNat:Int),.int .u32 (place:Int),.slice a n cap] w fun e w'=>∃v',e=.returned (.tuple #[v',.int .i64 0])∧Sealed w w' v' L:=by
 go_enter Tryz.func182,Tryz.ntmps182
 go_wp2_with fail
 refine hs.mono ?_
 rintro e w1 ⟨v1,rfl,hS⟩
 go_wp2_with fail
 go_ret2
 exact ⟨v1,rfl,hS⟩
theorem seal_any (kind:UInt8) (place:Nat) (v:Value) (p:List UInt8) (w:World) (hp:place<4294967296) (hl:p.length≤242) (hr:Reads w v p) :
  Calls Tryz.prog 182 #[.int .u8 (kind.toNat:Int),.int .u32 (place:Int),v] w fun e w'=>∃v',e=.returned (.tuple #[v',.int .i64 0])∧Sealed w w' v' (sealedL kind place p):=by
 have hs:=sealed_any kind place v p w hp hl hr
 obtain ⟨a,cap,rfl,h2,h3,h4,h5⟩:=hr
 exact seal_walk kind place a p.length cap _ w hl hs
set_option maxRecDepth 100000 in
set_option maxHeartbeats 400000 in
theorem open_len (x y:Int) (a:Option Addr) (n cap:Nat) (w:World) (hn:((n:Int) != 256)=true):Calls Tryz.prog 138 #[.int .u8 x,.int .u32 y,.slice a n cap] w fun e w'=>e=.returned (.tuple #[.slice none 0 0,.bool false])∧w=w':=by
 go_enter Tryz.func138,Tryz.ntmps138
 go_wp2
 go_ret2
 exact ⟨rfl,rfl⟩
set_option maxRecDepth 100000 in
set_option maxHeartbeats 400000 in
theorem open_over (x y:Int) (b o cap k:Nat) (w:World) (hcap:256≤cap) (hk:242<k) (hc:w.cell? ⟨b,o+13,none⟩=some (.int .u8 (k:Int))):Calls Tryz.prog 138 #[.int .u8 x,.int .u32 y,.slice (some ⟨b,o,none⟩) 256 cap] w fun e w'=>e=.returned (.tuple #[.slice none 0 0,.bool false])∧w=w':=by
 go_enter Tryz.func138,Tryz.ntmps138
 go_wp2
 go_ret2
 exact ⟨rfl,rfl⟩
set_option maxRecDepth 100000 in
set_option maxHeartbeats 400000 in
theorem open_no (kind:UInt8) (place b o cap k:Nat) (B L p:List UInt8) (w:World) (hcap:256≤cap) (hk:k≤242) (hc:w.cell? ⟨b,o+13,none⟩=some (.int .u8 (k:Int))) (hB:Reads w (.slice (some ⟨b,o,none⟩) 256 cap) B)
  (hs:Calls Tryz.prog 164 #[.int .u8 (kind.toNat:Int),.int .u32 (place:Int),.slice (some ⟨b,o+14,none⟩) k (cap-14)] w fun e w'=>∃v',e=.returned v'∧Sealed w w' v' L) (hne:B≠L) :
  Calls Tryz.prog 138 #[.int .u8 (kind.toNat:Int),.int .u32 (place:Int),.slice (some ⟨b,o,none⟩) 256 cap] w fun e w'=>e=.returned (.tuple #[.slice none 0 0,.bool false])∧Kept [] w w':=by
 have hsl:=slice_mid b o 256 cap 14 k (by omega) (by omega)
 go_enter Tryz.func138,Tryz.ntmps138
 go_wp2_with fail
 refine hs.mono ?_
 rintro e w1 ⟨v1,rfl,hS⟩
 have hK:Kept [] w w1:=by obtain ⟨_,_,_,_,_,h⟩:=hS;exact h
 have hE:=equal_no _ _ B L w1 (hB.kept hK (by simp)) hS.reads hne
 clear hS hB hne
 go_wp2_with fail
 refine hE.mono ?_
 rintro e w2 ⟨rfl,rfl⟩
 go_wp2_with fail
 go_ret2
 exact ⟨rfl,hK⟩
set_option maxRecDepth 100000 in
set_option maxHeartbeats 400000 in
theorem open_yes (kind:UInt8) (place b o cap k:Nat) (B p:List UInt8) (w:World) (hcap:256≤cap) (hk:k≤242) (hpl:p.length≤242) (hc:w.cell? ⟨b,o+13,none⟩=some (.int .u8 (k:Int))) (hB:Reads w (.slice (some ⟨b,o,none⟩) 256 cap) B)
  (hp:Reads w (.slice (some ⟨b,o+14,none⟩) k (cap-14)) p)
  (hs:Calls Tryz.prog 164 #[.int .u8 (kind.toNat:Int),.int .u32 (place:Int),.slice (some ⟨b,o+14,none⟩) k (cap-14)] w fun e w'=>∃v',e=.returned v'∧Sealed w w' v' B) :
  Calls Tryz.prog 138 #[.int .u8 (kind.toNat:Int),.int .u32 (place:Int),.slice (some ⟨b,o,none⟩) 256 cap] w fun e w'=>∃v',e=.returned (.tuple #[v',.bool true])∧Reads w' v' p∧Kept [] w w'∧Fresh w v':=by
 have hsl:=slice_mid b o 256 cap 14 k (by omega) (by omega)
 go_enter Tryz.func138,Tryz.ntmps138
 go_wp2_with fail
 refine hs.mono ?_
 rintro e w1 ⟨v1,rfl,hS⟩
 have hK:Kept [] w w1:=by obtain ⟨_,_,_,_,_,h⟩:=hS;exact h
 have hE:=equal_yes _ _ B w1 (hB.kept hK (by simp)) hS.reads
 have hC:=clone_any _ p w1 (hp.kept hK (by simp)) (by omega)
 clear hS hB hp
 go_wp2_with fail
 refine hE.mono ?_
 rintro e w2 ⟨rfl,rfl⟩
 go_wp2_with fail
 refine hC.mono ?_
 rintro e w3 ⟨v3,rfl,hO,hk3,hF3⟩
 go_wp2_with fail
 go_ret2
 exact ⟨v3,rfl,hO.reads,hK.trans hk3 (by simp),fun g hg=>Nat.le_trans hK.size (hF3 g hg)⟩
end Go.Proofs.YtgpbhlfdlkemjaaGreat
namespace Go.Proofs.YtgpbhlfdlkemjaaGreat
open Go.RowKit
set_option linter.unusedVariables false
theorem own_new (w:World) (l:List UInt8) (arr:Array Value) (ha:arr=(C8 l).toArray) (n:Nat) (hn:l.length=n) (hm:n≤maxLen):Owns 5 (w.alloc (.cells arr 5)) (.slice (some ⟨w.heap.size,0,none⟩) n n) l:=by
 subst ha hn
 have h:=World.ownsRow_lit (base:=0) (e:=5) (size:=1) w (C8 l).toArray l.length (Nat.zero_le _) hm (by simp [C8_length])
 exact h
theorem run_append_reads (w:World) (ty:TypeId) (v:Value) (l:List UInt8) (hown:Owns 5 w v l) (x:Value) (m:List UInt8) (hr:Reads w x m) (hb:l.length+m.length≤140737488355328) :
  ∃ad n cap w',(Builtin.append_ #[48,48] ty #[v,x]).run Tryz.prog w=.ok (.slice ad n cap) w'∧Owns 5 w' (.slice ad n cap) (l++m)∧w.grownBy w' v.ownBlock∧New w v (.slice ad n cap):=by
 obtain ⟨i0,hi,hz0,hz1,hz2⟩:=info_parts inf5
 have key:∀v' w',(Builtin.append_ #[48,48] ty #[v,x]).run Tryz.prog w=.ok v' w'→Owns 5 w' v' (l++m)→w.grownBy w' v.ownBlock→New w v v'→∃ad n cap w',(Builtin.append_ #[48,48] ty #[v,x]).run Tryz.prog w=.ok (.slice ad n cap) w'∧Owns 5 w' (.slice ad n cap) (l++m)∧w.grownBy w' v.ownBlock∧New w v (.slice ad n cap):=by
  intro v' w' h1 h2 h3 h4
  obtain ⟨ad,cap,rfl⟩:=h2.form
  exact ⟨ad,_,cap,w',h1,h2,h3,h4⟩
 obtain ⟨a,cap,rfl,h2,h3,h4,h5⟩:=hr
 cases a with
 | none =>
  have hc:=h4 rfl
  subst hc
  have h0:m=[]:=List.eq_nil_of_length_eq_zero (by omega)
  subst h0
  have hrun:=run_append_owned_none (P:=Tryz.prog) (w:=w) 0 48 ty 5 i0 1 Tryz.underlying48 hi v l.length (C8 l) hown
  exact key v w hrun (by rw [List.append_nil];exact hown) ⟨rfl,rfl,rfl,Nat.le_refl _,fun _ _ _=>rfl⟩ (New.refl w v)
 | some a =>
  have hcell:∀j u,(C8 m)[j]?=some u→w.cell? (a.add j)=some u:=by
   intro j u hu
   simp only [C8,List.getElem?_map,Option.map_eq_some_iff] at hu
   obtain ⟨y,hy,rfl⟩:=hu
   obtain ⟨b,o,hab,hc⟩:=h5 (fun h=>by subst h;simp at hy)
   simp at hab
   subst hab
   have hadd:(⟨b,o,Option.none⟩:Addr).add j=⟨b,o+j,Option.none⟩:=by unfold Addr.add;split<;>simp_all
   rw [hadd]
   exact hc j y hy
  obtain ⟨v',w',hrun,e1,e2,e3,e4⟩:=run_append_own_at (P:=Tryz.prog) w 0 48 ty 5 i0 _ 1 1 Tryz.underlying48 hi hz0 hz1 hz2 rfl (by omega) v l.length (C8 l) hown a m.length cap (C8 m) (by rw [C8_length,Nat.mul_one]) hcell (C8_one m) (by unfold maxLen;omega) (by omega) (Nat.zero_le _)
  refine key v' w' hrun ?_ e2 ?_
  ·unfold Owns;rw [C8_append,List.length_append];exact e1
  ·intro g hg
   rcases e4 with h|h
   ·exact .inl (by rw [←h];exact hg)
   ·exact .inr (Nat.le_of_eq (Option.some.inj (h.symm.trans hg)))
end Go.Proofs.YtgpbhlfdlkemjaaGreat
namespace Go.Proofs.YtgpbhlfdlkemjaaGreat
open Go.RowKit
set_option linter.unusedVariables false
end Go.Proofs.YtgpbhlfdlkemjaaGreat
namespace Go.Proofs.YtgpbhlfdlkemjaaGreat
open Go.RowKit
set_option linter.unusedVariables false
def payloadOf (B:List UInt8):List UInt8:=(B.drop 14).take (B[13]?.getD 0).toNat
def Fits (kind:UInt8) (place:Nat) (B:List UInt8):Prop:=B.length=256∧(B[13]?.getD 0).toNat≤242∧B=sealedL kind place (payloadOf B)
def Opened (kind:UInt8) (place:Nat) (B:List UInt8) (w:World) (e:Ending) (w':World):Prop :=
 ∃v' ok p,e=.returned (.tuple #[v',.bool ok])∧Reads w' v' p∧Kept [] w w'∧Fresh w v'∧(ok=true∧Fits kind place B∧p=payloadOf B∨ok=false∧¬Fits kind place B∧p=[])
theorem opened_none {kind:UInt8}{place:Nat}{B:List UInt8}{w:World}{e:Ending}{w':World} (he:e=.returned (.tuple #[.slice none 0 0,.bool false])) (hk:Kept [] w w') (hn:¬Fits kind place B):Opened kind place B w e w' :=
 ⟨_,false,[],he,Reads.nil w',hk,(by intro g hg;simp [Value.ownBlock] at hg),.inr ⟨rfl,hn,rfl⟩⟩
theorem block_cases {w:World}{v:Value}{B:List UInt8} (h:Reads w v B) :
  (∃a n cap,v=.slice a n cap∧((n:Int) != 256)=true∧B.length≠256) ∨
  (∃b o cap k,v=.slice (some ⟨b,o,none⟩) 256 cap∧256≤cap∧w.cell? ⟨b,o+13,none⟩=some (.int .u8 ((k:Nat):Int))∧B.length=256∧(B[13]?.getD 0).toNat=k∧(k≤242→(payloadOf B).length=k∧Reads w (.slice (some ⟨b,o+14,none⟩) k (cap-14)) (payloadOf B))):=by
 by_cases hl:B.length=256
 ·rcases reads_cases h with ⟨a,cap,rfl,rfl,_⟩|⟨b,o,cap,rfl,h1,h2,hc⟩
  ·simp at hl
  ·right
   have hu:B[13]?=some (B[13]'(by omega)):=by simp
   refine ⟨b,o,cap,(B[13]'(by omega)).toNat,by rw [hl],by omega,hc 13 _ hu,hl,by rw [hu];rfl,fun hk=>?_⟩
   have hpl:(payloadOf B).length=(B[13]'(by omega)).toNat:=by
    unfold payloadOf
    rw [List.length_take,List.length_drop,hu]
    simp only [Option.getD_some]
    omega
   refine ⟨hpl,_,cap-14,by rw [hpl],by rw [hpl];omega,by unfold maxLen;omega,by simp,fun _=>⟨b,o+14,rfl,fun j u hj=>?_⟩⟩
   have hjk:j<(payloadOf B).length:=(List.getElem?_eq_some_iff.1 hj).1
   unfold payloadOf at hj
   rw [List.getElem?_take_of_lt (by rw [hu];simp only [Option.getD_some];omega),List.getElem?_drop] at hj
   have:=hc (14+j) u hj
   rw [Nat.add_assoc]
   exact this
 ·left
  obtain ⟨a,cap,rfl,_⟩:=h
  exact ⟨a,B.length,cap,rfl,by simp;omega,hl⟩
theorem open_any (kind:UInt8) (place:Nat) (v:Value) (B:List UInt8) (w:World) (hp:place<4294967296) (hr:Reads w v B) :
  Calls Tryz.prog 138 #[.int .u8 (kind.toNat:Int),.int .u32 (place:Int),v] w fun e w'=>Opened kind place B w e w':=by
 rcases block_cases hr with ⟨a,n,cap,rfl,hn,hB⟩|⟨b,o,cap,k,rfl,hcap,hc,hB,hk13,hpay⟩
 ·exact (open_len _ _ a n cap w hn).mono fun e w' ⟨he,hw⟩=>opened_none he (hw▸Kept.refl [] w) (fun h=>hB h.1)
 ·by_cases hk:k≤242
  ·obtain ⟨hpl,hpr⟩:=hpay hk
   have hs:=sealed_any kind place _ (payloadOf B) w hp (by omega) hpr
   by_cases hE:B=sealedL kind place (payloadOf B)
   ·rw [←hE] at hs
    exact (open_yes kind place b o cap k B (payloadOf B) w hcap hk (by omega) hc hr hpr hs).mono fun e w' ⟨v',he,h1,h2,h3⟩=>⟨v',true,_,he,h1,h2,h3,.inl ⟨rfl,⟨hB,by omega,hE⟩,rfl⟩⟩
   ·exact (open_no kind place b o cap k B _ (payloadOf B) w hcap hk hc hr hs hE).mono fun e w' ⟨he,h2⟩=>opened_none he h2 (fun h=>hE h.2.2)
  ·exact (open_over _ _ b o cap k w hcap (by omega) hc).mono fun e w' ⟨he,hw⟩=>opened_none he (hw▸Kept.refl [] w) (fun h=>hk (by have:=h.2.1;omega))
end Go.Proofs.YtgpbhlfdlkemjaaGreat
namespace Go.Proofs.YtgpbhlfdlkemjaaGreat
open Go.RowKit
set_option linter.unusedVariables false
theorem sealedL_split (kind:UInt8) (place:Nat) (p:List UInt8):∃A:List UInt8,A.length=13∧sealedL kind place p=A++UInt8.ofNat p.length::(p++zs (242-p.length)):=by
 refine ⟨be 8 (fnv (rest kind place p))++kind::be 4 place,by rw [List.length_append,be_length,List.length_cons,be_length],?_⟩
 unfold sealedL
 rw [List.append_assoc]
 rfl
theorem sealedL_13 (kind:UInt8) (place:Nat) (p:List UInt8) (h:p.length≤242):((sealedL kind place p)[13]?.getD 0).toNat=p.length:=by
 obtain ⟨A,hA,e⟩:=sealedL_split kind place p
 rw [e,List.getElem?_append_right (by omega),hA]
 simp
 omega
theorem sealedL_payload (kind:UInt8) (place:Nat) (p:List UInt8) (h:p.length≤242):payloadOf (sealedL kind place p)=p:=by
 unfold payloadOf
 rw [sealedL_13 kind place p h]
 obtain ⟨A,hA,e⟩:=sealedL_split kind place p
 rw [e,show 14=13+1 from rfl,←List.drop_drop,drop_len hA]
 show List.take p.length (p++_)=p
 exact take_len rfl
theorem fits_sealed (kind:UInt8) (place:Nat) (p:List UInt8) (h:p.length≤242):Fits kind place (sealedL kind place p) :=
 ⟨sealedL_length kind place p h,by rw [sealedL_13 kind place p h];exact h,by rw [sealedL_payload kind place p h]⟩
end Go.Proofs.YtgpbhlfdlkemjaaGreat
