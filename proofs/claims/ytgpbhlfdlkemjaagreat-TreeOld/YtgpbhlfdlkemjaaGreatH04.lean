import Derived.Deep.AppendSrc
import Derived.Deep.Upon
import Derived.Test.YtgpbhlfdlkemjaaGreatH03
/-
 Pages, over lists of bytes: a text's parts, what a block is read as, the writes of a text, and what lies on a disk behind them. Nothing here speaks of the program.
-/
namespace Go.Proofs.YtgpbhlfdlkemjaaGreat
set_option linter.unusedVariables false
def bks (n:Nat):Nat:=max ((n+237) / 238) 1
theorem bks_pos (n:Nat):0<bks n:=by unfold bks;omega
theorem bks_le {n:Nat} (h:n≤20000):bks n≤85:=by unfold bks;omega
theorem lt_bks {n j:Nat} (h:0<j):j<bks n↔238*j<n:=by unfold bks;omega
theorem bks_last {n j:Nat} (h:j<bks n):j+1=bks n↔n-238*j≤238:=by unfold bks at *;omega
def hdN (t:Bool) (n:Nat):Nat:=n+if t=true then 32768 else 0
def hd (t:Bool) (n nx:Nat):List UInt8:=[UInt8.ofNat (hdN t n / 256),UInt8.ofNat (hdN t n),UInt8.ofNat (nx / 256),UInt8.ofNat nx]
def bodyP (t:Bool) (n nx:Nat) (l:List UInt8):List UInt8:=hd t n nx++l
def plc (nm i:Nat):Nat:=nm*65536+i
def blkP (t:Bool) (n nx nm i:Nat) (l:List UInt8):List UInt8:=sealedL 3 (plc nm i) (bodyP t n nx l)
theorem bodyP_length (t:Bool) (n nx:Nat) (l:List UInt8):(bodyP t n nx l).length=4+l.length:=by
 unfold bodyP
 rw [List.length_append];simp [hd]
theorem blkP_length (t:Bool) (n nx nm i:Nat) (l:List UInt8) (h:l.length≤238):(blkP t n nx nm i l).length=256:=sealedL_length _ _ _ (by rw [bodyP_length];omega)
instance (k:UInt8) (p:Nat) (B:List UInt8):Decidable (Fits k p B):=by unfold Fits;infer_instance
abbrev Pt:=Bool × Nat × Nat × List UInt8
def byteN (p:List UInt8) (i:Nat):Nat:=(p[i]?.getD 0).toNat
theorem byteN_lt (p:List UInt8) (i:Nat):byteN p i<256:=(p[i]?.getD 0).toNat_lt
def bodyOf (p:List UInt8):Pt:=(decide (32768≤byteN p 0*256+byteN p 1),(byteN p 0*256+byteN p 1)%32768,byteN p 2*256+byteN p 3,p.drop 4)
def isPart (place:Nat) (B:List UInt8):Prop:=Fits 3 place B∧4≤(payloadOf B).length∧(bodyOf (payloadOf B)).2.1≤20000∧(bodyOf (payloadOf B)).2.2.2.length=min (bodyOf (payloadOf B)).2.1 238
instance (p:Nat) (B:List UInt8):Decidable (isPart p B):=by unfold isPart;infer_instance
def partOf (place:Nat) (B:List UInt8):Pt:=if isPart place B then bodyOf (payloadOf B) else (false,0,0,[])
set_option maxRecDepth 4000 in
theorem bodyOf_body (t:Bool) (n nx:Nat) (l:List UInt8) (h:n<32768) (hx:nx<65536):bodyOf (bodyP t n nx l)=(t,n,nx,l):=by
 have e0:byteN (bodyP t n nx l) 0=hdN t n / 256%256:=by simp [byteN,bodyP,hd]
 have e1:byteN (bodyP t n nx l) 1=hdN t n%256:=by simp [byteN,bodyP,hd]
 have e2:byteN (bodyP t n nx l) 2=nx / 256%256:=by simp [byteN,bodyP,hd]
 have e3:byteN (bodyP t n nx l) 3=nx%256:=by simp [byteN,bodyP,hd]
 have e4:(bodyP t n nx l).drop 4=l:=by simp [bodyP,hd]
 have hN:hdN t n<65536:=by unfold hdN;cases t<;>simp<;>omega
 have eL:byteN (bodyP t n nx l) 0*256+byteN (bodyP t n nx l) 1=hdN t n:=by rw [e0,e1];omega
 unfold bodyOf
 rw [eL,e2,e3,e4]
 have ex:nx / 256%256*256+nx%256=nx:=by omega
 rw [ex]
 unfold hdN
 cases t
 ·have:¬32768≤n:=by omega
  simp [this];omega
 ·simp;omega
theorem plc_lt {nm i:Nat} (h1:nm<65536) (h2:i<65536):plc nm i<4294967296:=by unfold plc;omega
theorem isPart_blk (t:Bool) (n nx nm i:Nat) (l:List UInt8) (h:n≤20000) (hx:nx<65536) (hl:l.length=min n 238):isPart (plc nm i) (blkP t n nx nm i l)∧partOf (plc nm i) (blkP t n nx nm i l)=(t,n,nx,l):=by
 have hb:=bodyP_length t n nx l
 have hp:payloadOf (blkP t n nx nm i l)=bodyP t n nx l:=sealedL_payload _ _ _ (by omega)
 have hi:isPart (plc nm i) (blkP t n nx nm i l):=by
  unfold isPart
  rw [hp,bodyOf_body t n nx l (by omega) hx]
  exact ⟨fits_sealed 3 _ _ (by omega),by omega,h,hl⟩
 refine ⟨hi,?_⟩
 unfold partOf
 rw [if_pos hi,hp,bodyOf_body t n nx l (by omega) hx]
def chk (l:List UInt8) (k:Nat):List UInt8:=(l.drop (238*k)).take 238
theorem chk_len (l:List UInt8) (k:Nat):(chk l k).length=min (l.length-238*k) 238:=by unfold chk;rw [List.length_take,List.length_drop];omega
theorem chk_take (l:List UInt8) (k:Nat):l.take (238*k)++chk l k=l.take (238*(k+1)):=by
 unfold chk
 rw [show 238*(k+1)=238*k+238 by omega,List.take_add]
def pblk (t:Bool) (nm:Nat) (bs:List Nat) (l:List UInt8) (k:Nat):List UInt8:=blkP t (l.length-238*k) (bs.getD (k+1) 0) nm (bs.getD k 0) (chk l k)
theorem pblk_len (t:Bool) (nm:Nat) (bs:List Nat) (l:List UInt8) (k:Nat):(pblk t nm bs l k).length=256:=blkP_length _ _ _ _ _ _ (by rw [chk_len];omega)
structure Lies (b:Nat→List UInt8) (nm:Nat) (bs:List Nat) (l:List UInt8):Prop where
 len:bs.length=bks l.length
 first:bs.head?=some nm
 long:l.length≤20000
 small:∀x∈bs,x<65536
 blocks:∃t,∀k,k<bs.length→b (bs.getD k 0)=pblk t nm bs l k
theorem getD_lt {bs:List Nat} (h:∀x∈bs,x<65536) (k:Nat):bs.getD k 0<65536:=by
 rw [List.getD_eq_getElem?_getD]
 by_cases hk:k<bs.length
 ·rw [List.getElem?_eq_getElem hk];exact h _ (List.getElem_mem _)
 ·rw [List.getElem?_eq_none (by omega)];decide
theorem getD_mem {bs:List Nat}{k:Nat} (h:k<bs.length):bs.getD k 0∈bs:=by
 rw [List.getD_eq_getElem?_getD,List.getElem?_eq_getElem h]
 exact List.getElem_mem _
theorem pblk_part (t:Bool) (nm:Nat) (bs:List Nat) (l:List UInt8) (k:Nat) (hs:∀x∈bs,x<65536) (hl:l.length≤20000) :
  isPart (plc nm (bs.getD k 0)) (pblk t nm bs l k)∧partOf (plc nm (bs.getD k 0)) (pblk t nm bs l k)=(t,l.length-238*k,bs.getD (k+1) 0,chk l k) :=
 isPart_blk t _ _ nm _ (chk l k) (by omega) (getD_lt hs _) (chk_len l k)
theorem Lies.congr {b b':Nat→List UInt8}{nm:Nat}{bs:List Nat}{l:List UInt8} (h:Lies b nm bs l) (he:∀x∈bs,b' x=b x):Lies b' nm bs l:=by
 obtain ⟨t,ht⟩:=h.blocks
 exact ⟨h.len,h.first,h.long,h.small,t,fun k hk=>by rw [he _ (getD_mem hk)];exact ht k hk⟩
def wsOf (t:Bool) (nm:Nat) (bs:List Nat) (l:List UInt8):Nat→List Wr
 | 0=>[]
 | k+1=>(bs.getD k 0,pblk t nm bs l k)::wsOf t nm bs l k
theorem wsOf_length (t:Bool) (nm:Nat) (bs:List Nat) (l:List UInt8):∀k,(wsOf t nm bs l k).length=k
 | 0=>rfl
 | k+1=>by simp [wsOf,wsOf_length t nm bs l k]
theorem wsOf_mem (t:Bool) (nm:Nat) (bs:List Nat) (l:List UInt8):∀k x,x∈wsOf t nm bs l k→∃j,j<k∧x=(bs.getD j 0,pblk t nm bs l j)
 | 0,x,h=>by simp [wsOf] at h
 | k+1,x,h=>by
  simp only [wsOf,List.mem_cons] at h
  rcases h with rfl|h
  ·exact ⟨k,by omega,rfl⟩
  ·obtain ⟨j,h1,h2⟩:=wsOf_mem t nm bs l k x h
   exact ⟨j,by omega,h2⟩
theorem blk_snoc (ws:List Wr) (x:Wr) (i:Nat):blk (ws++[x]) i=if x.1=i then x.2 else blk ws i:=by
 unfold blk
 rw [lastN_snoc]
 by_cases h:x.1=i
 ·rw [if_pos h,if_pos h,if_neg (by omega)]
  simp [List.getD_eq_getElem?_getD]
 ·rw [if_neg h,if_neg h]
  by_cases h0:lastN ws i=0
  ·rw [if_pos h0,if_pos h0]
  ·rw [if_neg h0,if_neg h0]
   have:=lastN_le ws i
   rw [List.getD_eq_getElem?_getD,List.getD_eq_getElem?_getD,List.getElem?_append_left (by omega)]
theorem blk_append_other (ws:List Wr) (i:Nat):∀(vs:List Wr),(∀x∈vs,x.1≠i)→blk (ws++vs) i=blk ws i:=by
 intro vs
 induction vs generalizing ws with
 | nil=>intro _;simp
 | cons x t ih =>
  intro h
  rw [show ws++x::t=(ws++[x])++t by simp,ih _ (fun y hy=>h y (by simp [hy])),blk_snoc,if_neg (h x (by simp))]
theorem getD_inj {bs:List Nat} (hn:bs.Nodup) {i j:Nat} (hi:i<bs.length) (hj:j<bs.length) (h:bs.getD i 0=bs.getD j 0):i=j:=by
 rw [List.getD_eq_getElem?_getD,List.getD_eq_getElem?_getD,List.getElem?_eq_getElem hi,List.getElem?_eq_getElem hj] at h
 exact List.getElem_inj hn |>.1 h
theorem blk_wsOf (t:Bool) (nm:Nat) (bs:List Nat) (l:List UInt8) (hn:bs.Nodup):∀(k:Nat) (ws:List Wr),k≤bs.length→∀j,j<k→blk (ws++wsOf t nm bs l k) (bs.getD j 0)=pblk t nm bs l j:=by
 intro k
 induction k with
 | zero=>intro ws _ j hj;omega
 | succ k ih =>
  intro ws hk j hj
  rw [wsOf,show ws++(bs.getD k 0,pblk t nm bs l k)::wsOf t nm bs l k=(ws++[(bs.getD k 0,pblk t nm bs l k)])++wsOf t nm bs l k by simp]
  by_cases h:j<k
  ·exact ih _ (by omega) j h
  ·have:j=k:=by omega
   subst this
   rw [blk_append_other,blk_snoc,if_pos rfl]
   intro x hx
   obtain ⟨i,hi,rfl⟩:=wsOf_mem t nm bs l j x hx
   intro e
   have:=getD_inj hn (by omega) (by omega) e
   omega
theorem lies_put (t:Bool) (nm:Nat) (bs:List Nat) (l:List UInt8) (ws:List Wr) (hn:bs.Nodup) (h1:bs.length=bks l.length) (h2:bs.head?=some nm) (h3:l.length≤20000) (h4:∀x∈bs,x<65536):Lies (blk (ws++wsOf t nm bs l bs.length)) nm bs l :=
 ⟨h1,h2,h3,h4,t,fun k hk=>blk_wsOf t nm bs l hn bs.length ws (Nat.le_refl _) k hk⟩
theorem Lies.other {ws vs:List Wr}{nm:Nat}{bs:List Nat}{l:List UInt8} (h:Lies (blk ws) nm bs l) (hv:∀x∈vs,x.1∉bs):Lies (blk (ws++vs)) nm bs l :=
 h.congr fun x hx=>blk_append_other ws x vs fun y hy e=>hv y hy (e▸hx)
def wrAll (s:St):List Wr→Int × St
 | []=>(0,s)
 | x::r=>if wrE s (x.1:Int) x.2.length=0 then wrAll (wrS s (x.1:Int) x.2) r else (wrE s (x.1:Int) x.2.length,wrS s (x.1:Int) x.2)
theorem wrS_ws (s:St) (i:Nat) (l:List UInt8) (h:wrE s (i:Int) l.length=0):wrS s (i:Int) l={ s with ws:=s.ws++[(i,l)],fuse:=if 0<s.fuse then s.fuse-1 else s.fuse }:=by
 unfold wrE at h
 unfold wrS
 split at h
 ·cases h
 ·rename_i h1
  split at h
  ·cases h
  ·rename_i h2
   split at h
   ·cases h
   ·rename_i h3
    rw [if_neg h1,if_neg h2,if_neg h3]
    simp
theorem wrE_zero {s:St} (i:Nat) (l:List UInt8) (hd:s.down=false) (hi:i<s.nb) (hl:l.length=256):wrE s (i:Int) l.length=if s.fuse=0 then 9 else 0:=by
 unfold wrE
 rw [if_neg (by simp [hd]),if_neg (by omega)]
theorem wrAll_ok:∀(r:List Wr) (s:St),s.down=false→(∀x∈r,x.1<s.nb∧x.2.length=256)→(s.fuse<0∨(r.length:Int)≤s.fuse) →
  wrAll s r=(0,{ s with ws:=s.ws++r,fuse:=if s.fuse<0 then s.fuse else s.fuse-r.length })
 | [],s,_,_,_=>by simp [wrAll]
 | x::r,s,hd,hx,hf=>by
  have hx0:=hx x (by simp)
  have h0:wrE s (x.1:Int) x.2.length=0:=by
   rw [wrE_zero x.1 x.2 hd hx0.1 hx0.2,if_neg]
   simp at hf
   omega
  rw [wrAll,if_pos h0,wrS_ws s x.1 x.2 h0]
  have hf':(if 0<s.fuse then s.fuse-1 else s.fuse)<0∨(r.length:Int)≤(if 0<s.fuse then s.fuse-1 else s.fuse):=by
   simp only [List.length_cons] at hf
   split<;>omega
  rw [wrAll_ok r { s with ws:=s.ws++[(x.1,x.2)],fuse:=if 0<s.fuse then s.fuse-1 else s.fuse } hd (fun y hy=>hx y (by simp [hy])) hf']
  simp only [List.length_cons]
  congr 2
  ·simp
  ·have:¬s.fuse=0:=by
    simp only [List.length_cons] at hf
    omega
   simp only [List.length_cons] at hf
   by_cases hn:s.fuse<0
   ·have e1:(if 0<s.fuse then s.fuse-1 else s.fuse)=s.fuse:=if_neg (by omega)
    rw [e1,if_pos hn,if_pos hn]
   ·have e1:(if 0<s.fuse then s.fuse-1 else s.fuse)=s.fuse-1:=if_pos (by omega)
    rw [e1,if_neg (by omega),if_neg hn]
    omega
theorem wrAll_lost:∀(r:List Wr) (s:St) (f:Nat),s.down=false→(∀x∈r,x.1<s.nb∧x.2.length=256)→s.fuse=f→f<r.length →
  wrAll s r=(9,{ s with ws:=s.ws++r.take f,fuse:=0,down:=true })
 | [],s,f,_,_,_,h=>by simp at h
 | x::r,s,f,hd,hx,hf,hlt=>by
  have hx0:=hx x (by simp)
  have h0:=wrE_zero x.1 x.2 hd hx0.1 hx0.2
  cases f with
  | zero =>
   have hf:s.fuse=0:=hf
   have h9:wrE s (x.1:Int) x.2.length=9:=by rw [h0,if_pos hf]
   rw [wrAll,if_neg (by rw [h9];decide),h9]
   unfold wrS
   rw [if_neg (by simp [hd]),if_neg (by omega),if_pos hf]
   simp
   exact hf
  | succ f =>
   have h00:wrE s (x.1:Int) x.2.length=0:=by rw [h0,if_neg (by omega)]
   rw [wrAll,if_pos h00,wrS_ws s x.1 x.2 h00]
   rw [wrAll_lost r { s with ws:=s.ws++[(x.1,x.2)],fuse:=if 0<s.fuse then s.fuse-1 else s.fuse } f hd (fun y hy=>hx y (by simp [hy])) (by show (if 0<s.fuse then s.fuse-1 else s.fuse)=(f:Int);split<;>omega) (by simp at hlt;omega)]
   simp
end Go.Proofs.YtgpbhlfdlkemjaaGreat
namespace Go.Proofs.YtgpbhlfdlkemjaaGreat
open Go.RowKit
set_option linter.unusedVariables false
theorem Kept.setCells {S:List Nat}{a:World}{b:Nat} (hb:b∈S):∀(vs:List Value) (o:Nat) (w:World),Kept S a w→Kept S a (w.setCells b o vs)
 | [],_,_,h=>h
 | v::r,o,w,h=>by
  rw [World.setCells]
  exact Kept.setCells hb r (o+1) _ (h.setCell (.inl hb) v)
theorem size_setCells' (b:Nat):∀(vs:List Value) (o:Nat) (w:World),(w.setCells b o vs).heap.size=w.heap.size
 | [],_,_=>rfl
 | v::r,o,w=>by rw [World.setCells,size_setCells' b r];simp
def C64 (l:List Nat):List Value:=l.map fun (n:Nat)=>Value.int .i64 (n:Int)
theorem C64_length (l:List Nat):(C64 l).length=l.length:=by simp [C64]
theorem C64_append (a b:List Nat):C64 (a++b)=C64 a++C64 b:=by simp [C64]
theorem C64_one (l:List Nat):∀u∈C64 l,u.oneCell'=true:=by
 intro u hu
 simp only [C64,List.mem_map] at hu
 obtain ⟨b,_,rfl⟩:=hu
 rfl
theorem C64_at {l:List Nat}{j n:Nat} (h:l[j]?=some n):(C64 l)[j]?=some (.int .i64 (n:Int)):=by simp [C64,h]
theorem C64_inv {l:List Nat}{j:Nat}{u:Value} (h:(C64 l)[j]?=some u):∃n,l[j]?=some n∧u=.int .i64 (n:Int):=by
 simp only [C64,List.getElem?_map,Option.map_eq_some_iff] at h
 obtain ⟨n,h1,h2⟩:=h
 exact ⟨n,h1,h2.symm⟩
def ReadsI (w:World) (v:Value) (l:List Nat):Prop :=
 ∃a cap,v=.slice a l.length cap∧l.length≤cap∧cap≤maxLen∧(a=none→cap=0)∧(l≠[]→∃b o,a=some ⟨b,o,none⟩∧∀(j u:Nat),l[j]?=some u→w.cell? ⟨b,o+j,none⟩=some (.int .i64 (u:Int)))
theorem ReadsI.nil (w:World):ReadsI w (.slice none 0 0) []:=⟨none,0,rfl,by simp,by simp,by simp,by simp⟩
theorem ReadsI.form {w:World}{v:Value}{l:List Nat} (h:ReadsI w v l):∃a c,v=.slice a l.length c∧l.length≤c∧c≤maxLen:=by
 obtain ⟨a,c,h1,h2,h3,_⟩:=h
 exact ⟨a,c,h1,h2,h3⟩
theorem ReadsI.at {w:World}{v:Value}{l:List Nat} (h:ReadsI w v l) (k n:Nat) (hn:l[k]?=some n):∃g o c,v=.slice (some ⟨g,o,none⟩) l.length c∧w.cell? ⟨g,o+k,none⟩=some (.int .i64 (n:Int)):=by
 obtain ⟨a,cap,rfl,_,_,_,h5⟩:=h
 obtain ⟨b,o,rfl,hc⟩:=h5 (by intro e;subst e;simp at hn)
 exact ⟨b,o,cap,rfl,hc k n hn⟩
theorem ReadsI.kept {S:List Nat}{w w':World}{v:Value}{l:List Nat} (h:ReadsI w v l) (k:Kept S w w') (hn:∀g,v.ownBlock=some g→g∉S):ReadsI w' v l:=by
 obtain ⟨a,cap,rfl,h2,h3,h4,h5⟩:=h
 refine ⟨a,cap,rfl,h2,h3,h4,fun hl=>?_⟩
 obtain ⟨b,o,rfl,hc⟩:=h5 hl
 refine ⟨b,o,rfl,fun j u hu=>?_⟩
 have:=hc j u hu
 rw [k.cell (World.block_lt_of_cell? w _ this) (hn b rfl)]
 exact this
def OwnsI (w:World) (v:Value) (l:List Nat):Prop:=w.ownsRow 0 3 1 v l.length (C64 l)
theorem OwnsI.nil (w:World):OwnsI w (.slice none 0 0) []:=World.ownsRow_nil w 0 3 1
theorem OwnsI.form {w:World}{v:Value}{l:List Nat} (h:OwnsI w v l):∃a c,v=.slice a l.length c∧l.length≤c∧c≤9223372036854775807:=by
 rcases h.2 with ⟨rfl,h0⟩|⟨g,cap,cur,rfl,_,_,h1,h2,_⟩
 ·exact ⟨none,0,by rw [h0],by omega,by omega⟩
 ·exact ⟨_,cap,rfl,h1,h2⟩
theorem OwnsI.kept {S:List Nat}{w w':World}{v:Value}{l:List Nat} (h:OwnsI w v l) (k:Kept S w w') (hn:∀g,v.ownBlock=some g→g∉S):OwnsI w' v l:=ownsRow_keep h k hn
theorem OwnsI.lt {w:World}{v:Value}{l:List Nat} (h:OwnsI w v l) {k:Nat} (hk:v.ownBlock=some k):k<w.heap.size:=(World.ownsRow.lt h k hk).2
theorem OwnsI.at {w:World}{v:Value}{l:List Nat} (h:OwnsI w v l) (k n:Nat) (hn:l[k]?=some n):∃g c,v=.slice (some ⟨g,0,none⟩) l.length c∧w.cell? ⟨g,k,none⟩=some (.int .i64 (n:Int)):=by
 have hcells:=fun g hg=>World.ownsRow.cells h (g:=g) hg
 rcases h.2 with ⟨rfl,h0⟩|⟨g,cap,cur,rfl,_,hg,_⟩
 ·have:=(List.getElem?_eq_some_iff.1 hn).1;omega
 ·refine ⟨g,cap,rfl,?_⟩
  have:=hcells g rfl k (.int .i64 (n:Int)) (by simp [C64,hn])
  rw [add_at,Nat.zero_add] at this
  exact this
theorem OwnsI.reads {w:World}{v:Value}{l:List Nat} (h:OwnsI w v l):ReadsI w v l:=by
 have hcells:=fun g hg=>World.ownsRow.cells h (g:=g) hg
 rcases h.2 with ⟨rfl,h0⟩|⟨g,cap,cur,rfl,_,hg,h1,h2,h3,h4⟩
 ·have:l=[]:=List.eq_nil_of_length_eq_zero h0
  subst this
  exact ReadsI.nil w
 ·refine ⟨some ⟨g,0,none⟩,cap,rfl,h1,h2,by simp,fun hl=>⟨g,0,rfl,fun j u hu=>?_⟩⟩
  have:=hcells g rfl j (.int .i64 (u:Int)) (by simp [C64,hu])
  rw [add_at] at this
  exact this
theorem append_int {w:World}{v:Value}{ns:List Nat} (ho:OwnsI w v ns) (m:Nat) (hn:ns.length≤1000000) :
  ∃ad c w',(Builtin.append_ #[41,41] 41 #[v,.slice (some ⟨w.heap.size,0,none⟩) 1 1]).run Tryz.prog (w.alloc (.cells #[.int .i64 (m:Int)] 3))=.ok (.slice ad (ns.length+1) c) w'∧OwnsI w' (.slice ad (ns.length+1) c) (ns++[m])∧Kept v.ownBlock.toList w w'∧New w v (.slice ad (ns.length+1) c):=by
 have k0:=(Kept.refl [] w).alloc (.cells #[.int .i64 (m:Int)] 3)
 obtain ⟨i0,hi,hz0,hz1,hz2⟩:=info_parts inf3
 obtain ⟨v',w',hrun,e1,e2,e3,e4⟩:=run_append_own_at (P:=Tryz.prog) (w.alloc (.cells #[.int .i64 (m:Int)] 3)) 0 41 41 3 i0 _ 1 8 Tryz.underlying41 hi hz0 hz1 hz2 rfl (by omega) v ns.length (C64 ns) (ho.kept k0 (by simp)) ⟨w.heap.size,0,none⟩ 1 1 [.int .i64 (m:Int)] rfl (fun j x hx=>by
  cases j with
  | zero=>simp at hx;subst hx;simp [Addr.add]
  | succ j=>simp at hx) (by simp [Value.oneCell']) (by unfold maxLen;omega) (by omega) (Nat.zero_le _)
 obtain ⟨ad,cap,rfl⟩:∃ad cap,v'=.slice ad (ns.length+1) cap:=by
  rcases e1.2 with ⟨rfl,h0⟩|⟨g,cap,cur,rfl,_⟩
  ·omega
  ·exact ⟨_,cap,rfl⟩
 refine ⟨ad,cap,w',hrun,?_,(k0.mono (by simp)).grown e2 (fun x hx=>.inl (by rw [Option.mem_toList];exact hx)),fun g hg=>?_⟩
 ·unfold OwnsI
  rw [List.length_append]
  have:C64 (ns++[m])=C64 ns++[.int .i64 (m:Int)]:=by simp [C64]
  rw [this]
  exact e1
 ·rcases e4 with h|h
  ·exact .inl (by rw [←h];exact hg)
  ·have:=Option.some.inj (h.symm.trans hg)
   have hs:=k0.size
   exact .inr (by omega)
def FrS (w:World) (v:Value) (l:List Nat):Prop :=
 (v=.slice none 0 0∧l=[])∨∃g o c,v=.slice (some ⟨g,o,none⟩) l.length c∧l.length≤c∧c≤maxLen∧g<w.heap.size∧(∀j,j<c→(w.cell? ⟨g,o+j,none⟩).isSome=true∧w.frozen? ⟨g,o+j,none⟩=false) ∧
  ∀(j u:Nat),l[j]?=some u→w.cell? ⟨g,o+j,none⟩=some (.int .i64 (u:Int))
theorem FrS.nil (w:World):FrS w (.slice none 0 0) []:=.inl ⟨rfl,rfl⟩
theorem FrS.lt {w:World}{v:Value}{l:List Nat} (h:FrS w v l) {k:Nat} (hk:v.ownBlock=some k):k<w.heap.size:=by
 rcases h with ⟨rfl,_⟩|⟨g,o,c,rfl,_,_,h4,_⟩
 ·simp [Value.ownBlock] at hk
 ·simp [Value.ownBlock] at hk;omega
theorem FrS.kept {S:List Nat}{w w':World}{v:Value}{l:List Nat} (h:FrS w v l) (k:Kept S w w') (hn:∀g,v.ownBlock=some g→g∉S):FrS w' v l:=by
 rcases h with h|⟨g,o,c,rfl,h2,h3,h4,h5,h6⟩
 ·exact .inl h
 ·have hb:=k.block g h4 (hn g rfl)
  have hc:∀j,w'.cell? ⟨g,j,none⟩=w.cell? ⟨g,j,none⟩:=fun j=>World.cell?_of_block (w:=w) hb
  have hf:∀j,w'.frozen? ⟨g,j,none⟩=w.frozen? ⟨g,j,none⟩:=fun j=>World.frozen?_of_block (w:=w) hb
  exact .inr ⟨g,o,c,rfl,h2,h3,Nat.lt_of_lt_of_le h4 k.size,fun j hj=>by rw [hc,hf];exact h5 j hj,fun j u hu=>by rw [hc];exact h6 j u hu⟩
theorem FrS.reads {w:World}{v:Value}{l:List Nat} (h:FrS w v l):ReadsI w v l:=by
 rcases h with ⟨rfl,rfl⟩|⟨g,o,c,rfl,h2,h3,h4,h5,h6⟩
 ·exact ReadsI.nil w
 ·exact ⟨_,c,rfl,h2,h3,by simp,fun _=>⟨g,o,rfl,h6⟩⟩
theorem OwnsI.frs {w:World}{v:Value}{l:List Nat} (h:OwnsI w v l):FrS w v l:=by
 have hcells:=fun g hg=>World.ownsRow.cells h (g:=g) hg
 rcases h.2 with ⟨rfl,h0⟩|⟨g,cap,cur,rfl,_,hg,h1,h2,h3,h4⟩
 ·exact .inl ⟨rfl,List.eq_nil_of_length_eq_zero h0⟩
 ·refine .inr ⟨g,0,cap,rfl,h1,h2,lt_of_block hg,fun j hj=>?_,fun j u hu=>?_⟩
  ·rw [Nat.zero_add]
   constructor
   ·simp [World.cell?,hg];omega
   ·simp [World.frozen?,hg]
  ·have:=hcells g rfl j (.int .i64 (u:Int)) (by simp [C64,hu])
   rw [add_at] at this
   exact this
theorem FrS.src {w:World}{v:Value}{l:List Nat} (h:ReadsI w v l):Src Tryz.prog 1 41 v l.length (C64 l) w:=by
 obtain ⟨a,cap,rfl,h2,h3,h4,h5⟩:=h
 cases a with
 | none =>
  have hz:=h4 rfl
  have:l=[]:=List.eq_nil_of_length_eq_zero (by omega)
  subst this
  exact Src.ofNil w Tryz.underlying41 cap
 | some a =>
  refine Src.ofSlice w Tryz.underlying41 a _ cap (C64 l) (by rw [C64_length,Nat.mul_one]) (fun j u hu=>?_) (C64_one l)
  obtain ⟨n,hn,rfl⟩:=C64_inv hu
  obtain ⟨b,o,e,hc⟩:=h5 (by intro e;subst e;simp at hn)
  injection e with e
  subst e
  rw [add_at]
  exact hc j n hn
theorem FrS.append {w:World}{v v2:Value}{l m:List Nat} (h:FrS w v l) (hr:ReadsI w v2 m) (hb:l.length+m.length≤1000000) :
  ∃ad c w',(Builtin.append_ #[41,41] 41 #[v,v2]).run Tryz.prog w=.ok (.slice ad (l.length+m.length) c) w'∧FrS w' (.slice ad (l.length+m.length) c) (l++m)∧Kept v.ownBlock.toList w w'∧New w v (.slice ad (l.length+m.length) c):=by
 obtain ⟨i0,hi,hz0,hz1,hz2⟩:=info_parts inf3
 have hs:Src Tryz.prog i0.size 41 v2 m.length (C64 m) w:=by rw [hz1];exact FrS.src hr
 -- a new row
 have grow:∀(bs:Option Addr) (c:Nat),v=.slice bs l.length c→c<l.length+m.length→(Builtin.firstCells i0.size l.length (.slice bs l.length c)).run Tryz.prog w.drew=.ok (C64 l).toArray w.drew →
   ∃ad c w',(Builtin.append_ #[41,41] 41 #[v,v2]).run Tryz.prog w=.ok (.slice ad (l.length+m.length) c) w'∧FrS w' (.slice ad (l.length+m.length) c) (l++m)∧Kept v.ownBlock.toList w w'∧New w v (.slice ad (l.length+m.length) c):=by
  rintro bs c rfl hc hold
  have hrun:=run_append_grow_src (P:=Tryz.prog) w 41 41 41 3 i0 _ Tryz.underlying41 hi hz0 bs l.length c (C64 l) hold v2 m.length (C64 m) hs hc (by omega) (growslice_fits hc (by rw [hz2];omega))
  have hge:=grownCap_ge w (l.length+m.length) c 3
  have hcm:=grownCap_le_maxLen w (l.length+m.length) c 3 (by unfold maxLen;omega)
  generalize grownCap w (l.length+m.length) c 3=gc at hrun hge hcm
  have hsz:((C64 l++C64 m).toArray++Builtin.zeroCells (Value.int .i64 0).cells (gc-(l.length+m.length))).size=gc:=by
   rw [Array.size_append,size_zeroCells,List.size_toArray,List.length_append,C64_length,C64_length]
   simp [Value.cells]
   omega
  have hat:∀(j u:Nat),(l++m)[j]?=some u→((C64 l++C64 m).toArray++Builtin.zeroCells (Value.int .i64 0).cells (gc-(l.length+m.length)))[j]?=some (Value.int .i64 ((u:Nat):Int)):=fun j u hu=>by
   have h1:(C64 (l++m))[j]?=some (Value.int .i64 (u:Int)):=C64_at hu
   rw [C64_append] at h1
   have hlt:=(List.getElem?_eq_some_iff.1 h1).1
   rw [Array.getElem?_append_left (by simpa using hlt),List.getElem?_toArray]
   exact h1
  generalize ((C64 l++C64 m).toArray++Builtin.zeroCells (Value.int .i64 0).cells (gc-(l.length+m.length)))=arr at hrun hsz hat
  have hbk:(w.drew.alloc (.cells arr 3)).heap[w.heap.size]?=some (.cells arr 3 (0,0)):=heap_alloc_new w.drew _
  have kk:Kept (Value.slice bs l.length c).ownBlock.toList w (w.drew.alloc (.cells arr 3)):=(((Kept.refl [] w).drew).alloc _).mono (by simp)
  have hlt:w.heap.size<(w.drew.alloc (.cells arr 3)).heap.size:=lt_of_block hbk
  generalize w.drew.alloc (.cells arr 3)=W at hrun hbk kk hlt
  refine ⟨_,gc,_,hrun,.inr ⟨w.heap.size,0,gc,by rw [List.length_append],by rw [List.length_append];exact hge,hcm,hlt,fun j hj=>?_,fun j u hu=>?_⟩,kk,fun g hg=>?_⟩
  ·rw [Nat.zero_add]
   simp [World.cell?,World.frozen?,hbk]
   omega
  ·rw [Nat.zero_add]
   simp only [World.cell?,hbk]
   exact hat j u hu
  ·simp [Value.ownBlock] at hg
   exact .inr (by omega)
 rcases h with ⟨rfl,rfl⟩|⟨g,o,c,rfl,h2,h3,h4,h5,h6⟩
 ·by_cases hm:m=[]
  ·subst hm
   have:=run_append_nothing (P:=Tryz.prog) w 41 41 41 3 i0 Tryz.underlying41 hi none 0 0 (Nat.le_refl _) v2 hs
   exact ⟨none,0,w,this,FrS.nil w,Kept.refl _ w,New.refl w _⟩
  ·exact grow none 0 rfl (by have:=List.length_pos_iff.2 hm;simp;omega) (run_firstCells_none w.drew _ _ _ _)
 ·by_cases hc:l.length+m.length≤c
  ·have hrun:=run_append_room_src (P:=Tryz.prog) w 41 41 41 3 i0 Tryz.underlying41 hi g o l.length c v2 m.length (C64 m) hs hc (fun j hj=>by rw [hz1,Nat.mul_one,Nat.add_assoc];rw [C64_length] at hj;exact (h5 _ (by omega)).1) (fun j hj=>by rw [hz1,Nat.mul_one,Nat.add_assoc];rw [C64_length] at hj;exact (h5 _ (by omega)).2)
   rw [hz1,Nat.mul_one] at hrun
   refine ⟨_,c,_,hrun,.inr ⟨g,o,c,by rw [List.length_append],by rw [List.length_append];exact hc,h3,?_,?_,?_⟩,?_,New.refl w _⟩
   ·rw [size_setCells'];exact h4
   ·intro j hj
    refine ⟨?_,by rw [World.frozen?_setCells];exact (h5 j hj).2⟩
    by_cases hjl:j<l.length
    ·rw [World.cell?_setCells_out _ _ _ _ _ (fun _ _=>.inl (by show o+j<_;omega))]
     exact (h5 j hj).1
    ·by_cases hjm:j<l.length+m.length
     ·have:=World.cell?_setCells_in g (C64 m) (o+l.length) w (fun i hi=>by rw [Nat.add_assoc];rw [C64_length] at hi;exact (h5 _ (by omega)).1) (j-l.length) (by rw [C64_length];omega)
      rw [show o+l.length+(j-l.length)=o+j by omega] at this
      rw [this];rfl
     ·rw [World.cell?_setCells_out _ _ _ _ _ (fun _ _=>.inr (by show _≤o+j;rw [C64_length];omega))]
      exact (h5 j hj).1
   ·intro j u hu
    by_cases hjl:j<l.length
    ·rw [World.cell?_setCells_out _ _ _ _ _ (fun _ _=>.inl (by show o+j<_;omega))]
     rw [List.getElem?_append_left hjl] at hu
     exact h6 j u hu
    ·rw [List.getElem?_append_right (by omega)] at hu
     have hlt:=(List.getElem?_eq_some_iff.1 hu).1
     have:=World.cell?_setCells_in g (C64 m) (o+l.length) w (fun i hi=>by rw [Nat.add_assoc];rw [C64_length] at hi;exact (h5 _ (by omega)).1) (j-l.length) (by rw [C64_length];omega)
     rw [show o+l.length+(j-l.length)=o+j by omega] at this
     rw [this]
     have h9:=C64_at hu
     rw [List.getElem?_eq_getElem (by rw [C64_length];omega)] at h9
     exact h9
   ·exact Kept.setCells (by simp [Value.ownBlock]) _ _ _ (Kept.refl _ w)
  ·refine grow _ c rfl (by omega) ?_
   refine run_firstCells_some w.drew _ _ _ _ _ (C64 l) (by rw [hz1,C64_length,Nat.mul_one]) (fun j u hu=>?_)
   obtain ⟨n,hn,rfl⟩:=C64_inv hu
   rw [add_at]
   exact h6 j n hn
end Go.Proofs.YtgpbhlfdlkemjaaGreat
