import Derived.RangeFuncNested
import Derived.RangeFuncBound
import Derived.RangeFuncCalls
import Derived.RangeFuncLeaves
import Derived.Shelf.Abstract
import Derived.Shelf.RegionOpen
import Derived.OwnWalkIn
import Derived.TacticsInMore
import Derived.LoopNIn
import Derived.LoopIn
import Derived.OrdersIn
import Derived.OrdersHeld
import Derived.Test.YtgpbhlfdlkemjaaGreatH08
/-
 A region inside a round of a range over a function, walked as anywhere; slices.Backward's iterator. Nothing of the first part speaks of the program.
-/
namespace Go.Proofs.YtgpbhlfdlkemjaaGreat
open Go.RowKit Go.Shelf
set_option linter.unusedVariables false
section
variable {P:Program}{ops:Array Oper}{Q:Exit→Act→World→Prop}{l n:Nat}
theorem rows_round {row:String}{args:Array Value}{w:World}{R:Value→World→Prop} (h:Rows P row args w R):RowsIn (Fence.wide.inRound l) n P row args w R:=fun c cs _=>by
 obtain ⟨v,w',r,s⟩:=h c cs
 exact ⟨v,w',r,stepsIn_wide.2 s⟩
theorem upon_round {o:Oper}{a:Act}{next:Act→World→Prop}:∀(r:Result Next),o.upon P a next Q r→o.uponIn (Fence.wide.inRound l) n P a next Q r:=by
 intro r h
 cases r with
 | ok x w' =>
  cases x with
  | value v=>exact h
  | skip=>exact h
  | defer d=>exact h
  | enter f args=>exact ⟨(fun hd=>absurd hd (by simp [Fence.inRound,Fence.wide])),CallsIn.inRound l (callsIn_wide.2 h)⟩
  | row r args=>exact ⟨(fun hd=>absurd hd (by simp [Fence.inRound,Fence.wide])),rows_round h⟩
  | _=>exact h.elim
 | halt x w' =>
  cases x with
  | panic v=>exact h
  | _=>exact h.elim
theorem wpOp_round (hnd:∀(i:Nat) (o:Oper),ops[i]?=some o→∀c,o.op≠.defer c) (hQ:¬LetsOut Q) {i:Nat}{K:Act→World→Prop}{a:Act}{w:World} (h:wpOp P ops Q i K a w):wpOpIn (Fence.wide.inRound l) n P ops Q i K a w:=by
 unfold wpOp at h
 unfold wpOpIn
 cases ho:ops[i]? with
 | none=>rw [ho] at h;exact h
 | some o =>
  rw [ho] at h
  simp only at h ⊢
  by_cases hw:Region.wanted o (yielded ops a.tmps)=true
  ·rw [if_pos hw] at h ⊢
   rcases h with h|h
   ·refine ⟨fun _ _=>trivial,?_⟩
    rw [Fence.inRound_round,Oper.semAt_some l _ _ (hnd i o ho)]
    exact upon_round _ h
   ·exact absurd h.2 hQ
  ·rw [if_neg hw] at h ⊢
   exact ⟨fun _ _=>trivial,h⟩
theorem wpAny_round {md:Region.Mode} (hnd:∀(i:Nat) (o:Oper),ops[i]?=some o→∀c,o.op≠.defer c) (hQ:¬LetsOut Q):∀(fuel:Nat) (listed:Array Bool) (a:Act) (w:World),wpAny P md ops Q fuel listed a w→wpAnyIn (Fence.wide.inRound l) n P md ops Q fuel listed a w
 | 0,_,_,_,h=>h
 | fuel+1,_,_,_,h=>⟨h.1,fun i hi=>wpOpIn_mono (fun a w=>wpAny_round hnd hQ fuel _ a w) (wpOp_round hnd hQ (h.2 i hi))⟩
def noDefer (o:Oper):Bool:=match o.op with
 | .defer _=>false
 | _=>true
theorem noDefer_all (h:ops.all noDefer=true):∀(i:Nat) (o:Oper),ops[i]?=some o→∀c,o.op≠.defer c:=fun i o ho c hc=>by
 obtain ⟨hi,rfl⟩:=Array.getElem?_eq_some_iff.1 ho
 have:=(Array.all_eq_true.1 h) i hi
 unfold noDefer at this
 rw [hc] at this
 cases this
theorem wpIn_region_held {id:Nat}{a:Act}{w:World}{S:World→Prop} (hm:P.follows .mixedOrders=true) (hnd:ops.all noDefer=true) (hQ:¬LetsOut Q) (hS:S w.drew)
  (h:S w.drew→wpAnyH P .any ops Q S ops.size (Array.replicate ops.size false) a w.drew):(Code.region id ops true).wpIn (Fence.wide.inRound l) n P Q a w :=
 wpIn_region_any hm (wpAny_round (noDefer_all hnd) hQ _ _ _ _ (wpAny_of_held _ _ _ _ (h hS)))
end
attribute [local go_sem] Oper.semAt_some
def numOf:Value→Int
 | .int _ a=>a
 | _=>0
def KpB (b1 b2:Nat) (W W':World):Prop:=W'.heap[b1]?=W.heap[b1]?∧W'.heap[b2]?=W.heap[b2]?
theorem kpB_t {b1 b2:Nat}{A B C:World} (h:KpB b1 b2 A B) (k:KpB b1 b2 B C):KpB b1 b2 A C:=⟨k.1.trans h.1,k.2.trans h.2⟩
abbrev Ix (bs:List Nat):={ j:Nat // j<bs.length }
def back (bs:List Nat) (h:0<bs.length) (k:Nat):List (Ix bs):=(List.range k).map fun j=>⟨bs.length-1-j,by omega⟩
theorem back_succ (bs:List Nat) (h:0<bs.length) (k:Nat):back bs h (k+1)=back bs h k++[⟨bs.length-1-k,by omega⟩]:=by simp [back,List.range_succ]
theorem back_length (bs:List Nat) (h:0<bs.length) (k:Nat):(back bs h k).length=k:=by simp [back]
set_option maxRecDepth 100000 in
set_option maxHeartbeats 2000000 in
theorem backward1 (n:Nat) (l Bs b off cap:Nat) (bs:List Nat) (hp:0<bs.length) (hbig:bs.length≤1000000) (J Jx:List (Ix bs)→World→Prop)
  (hY:∀pre x W,J pre W→pre.length<bs.length→YieldAt Fence.wide (n-1) Tryz.prog l #[.int .i64 (x.1:Int),.int .i64 (bs.getD x.1 0:Int)] W fun e W' =>
   (e=.returned (.bool true)∧J (pre++[x]) W'∧KpB Bs b W W')∨(e=.returned (.bool false)∧Jx (pre++[x]) W'))
  (W:World) (hBs:W.heap[Bs]?=some (.cells #[.slice (some ⟨b,off,none⟩) bs.length cap] 41 (0,0))) (hc:∀j,j<bs.length→W.cell? ⟨b,off+j,none⟩=some (.int .i64 (bs.getD j 0:Int))) (h0:J [] W) :
  CallsIn Fence.wide n Tryz.prog 181 #[.func (.yield l) #[] #[],.pointer (some ⟨Bs,0,none⟩)] W fun e W'=>(∃v,e=.returned v) ∧
   ((∃ys,ys=back bs hp bs.length∧J ys W')∨(∃pre,(∃k,k≤bs.length∧pre=back bs hp k)∧Jx pre W')):=by
 refine callsIn_of_wp Tryz.func181 rfl trivial ?_ rfl
 simp only [Tryz.ntmps181,List.size_toArray,List.length_cons,List.length_nil,Nat.reduceAdd,Nat.reduceSub,Array.replicate_succ,Array.replicate_zero,List.push_toArray,List.append_toArray,List.nil_append,List.cons_append]
 have hBc:W.cell? ⟨Bs,0,none⟩=some (.slice (some ⟨b,off,none⟩) bs.length cap):=by simp [World.cell?,hBs]
 gi_wp2
 gi_loopw [3] (fun i wr=>∃k:Nat,k≤bs.length∧i=.int .i64 ((bs.length:Int)-1-(k:Int))∧J (back bs hp k) wr∧KpB Bs b W wr)
  (fun i _=>(numOf i+1).toNat)
 case atStart=>exact ⟨0,Nat.zero_le _,by simp,h0,rfl,rfl⟩
 case round =>
  obtain ⟨k,hk,rfl,hJs,hnx⟩:=hrel
  have hBr:wr.cell? ⟨Bs,0,none⟩=some (.slice (some ⟨b,off,none⟩) bs.length cap):=(World.cell?_of_block (w:=W) hnx.1).trans hBc
  by_cases hlt:k<bs.length
  ·have hj:(bs.length:Int)-1-(k:Int)=((bs.length-1-k:Nat):Int):=by omega
   have hcx:wr.cell? ⟨b,off+(bs.length-1-k),none⟩=some (.int .i64 (bs.getD (bs.length-1-k) 0:Int)):=(World.cell?_of_block (w:=W) hnx.2).trans (hc _ (by omega))
   obtain ⟨fn,tmps,assign,body,hy,hR⟩:=hY _ ⟨bs.length-1-k,by omega⟩ wr hJs (by rw [back_length];exact hlt)
   dsimp only at hy
   rw [hj]
   have Hbk:=Hid.mk (back_succ bs hp k)
   rw [←Hbk.out] at hR
   have hjl:((bs.length-1-k:Nat):Int)<(bs.length:Int):=by omega
   have Hje:Hid (((bs.length-1-k:Nat):Int)-1=(bs.length:Int)-1-((k+1:Nat):Int)):=by show _=_;omega
   have hjk:bs.length-1-k<1000000:=by omega
   clear Hbk hj
   generalize bs.length-1-k=j at hcx hy hR hjl Hje hjk ⊢
   generalize bs.getD j 0=A at hcx hy hR
   gi_wp2
   refine ⟨fun hd=>absurd hd (by simp [Fence.wide]),hR.mono ?_⟩
   rintro e W3 (⟨rfl,hJ3,hk3⟩|⟨rfl,hJx3⟩)
   ·gi_wp2
    go_roundw
    case rel=>exact ⟨k+1,by omega,by rw [Hje.out],hJ3,kpB_t hnx hk3⟩
    case measure=>simp only [numOf];omega
   ·gi_wp2
    refine bodyPost_ret (results_none rfl _ _ _) rfl ?_
    exact ⟨⟨_,rfl⟩,.inr ⟨_,⟨k+1,by omega,rfl⟩,hJx3⟩⟩
  ·obtain rfl:k=bs.length:=by omega
   have hneg:(bs.length:Int)-1-(bs.length:Int)=-1:=by omega
   rw [hneg]
   gi_wp2
   go_end0
   exact ⟨⟨_,rfl⟩,.inl ⟨_,rfl,hJs⟩⟩
set_option maxHeartbeats 1000000 in
theorem backward_in (n:Nat) (a:Option Addr) (len cap:Nat) (w:World) :
  CallsIn Fence.wide n Tryz.prog 177 #[.slice a len cap] w fun e w'=>e=.returned (.func (.func 181) #[] #[.pointer (some ⟨w.heap.size,0,none⟩)])∧w'=w.alloc (.cells #[.slice a len cap] 41):=by
 refine callsIn_of_wp Tryz.func177 rfl trivial ?_ rfl
 simp only [Tryz.ntmps177,List.size_toArray,List.length_cons,List.length_nil,Nat.reduceAdd,Nat.reduceSub,Array.replicate_succ,Array.replicate_zero,List.push_toArray,List.append_toArray,List.nil_append,List.cons_append]
 gi_wp2
 go_ret
 exact ⟨rfl,rfl⟩
theorem backward_stops (n:Nat) (Bs b off cap:Nat) (bs:List Nat) (hp:0<bs.length) (hbig:bs.length≤1000000) (w:World) (hbl:b<w.heap.size)
  (hBs:w.heap[Bs]?=some (.cells #[.slice (some ⟨b,off,none⟩) bs.length cap] 41 (0,0))) (hc:∀j,j<bs.length→w.cell? ⟨b,off+j,none⟩=some (.int .i64 (bs.getD j 0:Int))) :
  SeqStopsK Fence.wide n Tryz.prog 181 #[.pointer (some ⟨Bs,0,none⟩)] (fun x:Ix bs=>#[Value.int .i64 (x.1:Int),Value.int .i64 (bs.getD x.1 0:Int)]) (KpB Bs b) (fun ys=>ys=back bs hp bs.length) (fun pre=>∃k,k≤bs.length∧pre=back bs hp k) bs.length w:=fun l J Jx W hW _ _ hY h0 =>
 backward1 n l Bs b off cap bs hp hbig J Jx hY W ((hW.block Bs (lt_of_block hBs)).trans hBs) (fun j hj=>(hW.cell (p:=⟨b,off+j,none⟩) hbl).trans (hc j hj)) h0
end Go.Proofs.YtgpbhlfdlkemjaaGreat
namespace Go.Proofs.YtgpbhlfdlkemjaaGreat
open Go.RowKit
set_option linter.unusedVariables false
def gw (t:Bool) (nm:Nat) (bs:List Nat) (l:List UInt8):Nat→List Nat→List Wr
 | _,[]=>[]
 | nx,j::r=>(bs.getD j 0,blkP t (l.length-238*j) nx nm (bs.getD j 0) (chk l j))::gw t nm bs l (bs.getD j 0) r
def lastAt (bs:List Nat):Nat→List Nat→Nat
 | nx,[]=>nx
 | _,j::r=>lastAt bs (bs.getD j 0) r
theorem lastAt_snoc (bs:List Nat) (j:Nat):∀(pre:List Nat) (nx:Nat),lastAt bs nx (pre++[j])=bs.getD j 0
 | [],nx=>rfl
 | i::r,nx=>by simp only [List.cons_append,lastAt];exact lastAt_snoc bs j r _
theorem lastAt_lt {bs:List Nat} (h:∀x∈bs,x<65536):∀(pre:List Nat) (nx:Nat),nx<65536→lastAt bs nx pre<65536
 | [],nx,hn=>hn
 | i::r,nx,hn=>lastAt_lt h r _ (getD_lt h i)
theorem gw_snoc (t:Bool) (nm:Nat) (bs:List Nat) (l:List UInt8) (j:Nat):∀(pre:List Nat) (nx:Nat),gw t nm bs l nx (pre++[j])=gw t nm bs l nx pre++[(bs.getD j 0,blkP t (l.length-238*j) (lastAt bs nx pre) nm (bs.getD j 0) (chk l j))]
 | [],nx=>rfl
 | i::r,nx=>by simp only [List.cons_append,gw,lastAt];rw [gw_snoc t nm bs l j r]
theorem gw_length (t:Bool) (nm:Nat) (bs:List Nat) (l:List UInt8):∀(pre:List Nat) (nx:Nat),(gw t nm bs l nx pre).length=pre.length
 | [],nx=>rfl
 | i::r,nx=>by simp only [gw,List.length_cons];rw [gw_length t nm bs l r]
def down (n k:Nat):List Nat:=(List.range k).map fun j=>n-1-j
theorem down_succ (n k:Nat):down n (k+1)=down n k++[n-1-k]:=by simp [down,List.range_succ]
theorem lastAt_down (bs:List Nat) (k:Nat) (h:k≤bs.length):lastAt bs 0 (down bs.length k)=bs.getD (bs.length-k) 0:=by
 cases k with
 | zero=>simp [down,lastAt]
 | succ k =>
  rw [down_succ,lastAt_snoc]
  congr 1
  omega
theorem gw_down (t:Bool) (nm:Nat) (bs:List Nat) (l:List UInt8):∀k,k≤bs.length→wsOf t nm bs l bs.length=gw t nm bs l 0 (down bs.length k)++wsOf t nm bs l (bs.length-k):=by
 intro k
 induction k with
 | zero=>intro _;simp [down,gw]
 | succ k ih =>
  intro hk
  rw [ih (by omega),down_succ,gw_snoc,lastAt_down bs k (by omega),List.append_assoc]
  congr 1
  rw [show bs.length-k=(bs.length-1-k)+1 by omega]
  simp only [wsOf,List.singleton_append]
  have e1:bs.length-1-k+1=bs.length-k:=by omega
  have e2:bs.length-1-k=bs.length-(k+1):=by omega
  unfold pblk
  rw [e1,e2]
theorem gw_all (t:Bool) (nm:Nat) (bs:List Nat) (l:List UInt8):wsOf t nm bs l bs.length=gw t nm bs l 0 (down bs.length bs.length):=by
 have:=gw_down t nm bs l bs.length (Nat.le_refl _)
 rw [Nat.sub_self] at this
 simpa [wsOf] using this
theorem back_down (bs:List Nat) (h:0<bs.length) (k:Nat):(back bs h k).map (·.1)=down bs.length k:=by simp [back,down]
theorem wrAll_snoc (x:Wr):∀(r:List Wr) (s sk:St),wrAll s r=(0,sk)→wrAll s (r++[x])=if wrE sk (x.1:Int) x.2.length=0 then (0,wrS sk (x.1:Int) x.2) else (wrE sk (x.1:Int) x.2.length,wrS sk (x.1:Int) x.2)
 | [],s,sk,h=>by
  simp only [wrAll,Prod.mk.injEq,true_and] at h
  subst h
  rfl
 | y::r,s,sk,h=>by
  simp only [wrAll] at h
  simp only [List.cons_append,wrAll]
  split at h
  ·rename_i h0
   rw [if_pos h0]
   exact wrAll_snoc x r _ sk h
  ·rename_i h0
   simp only [Prod.mk.injEq] at h
   exact absurd h.1 h0
theorem wrAll_stop (r':List Wr):∀(r:List Wr) (s:St),(wrAll s r).1≠0→wrAll s (r++r')=wrAll s r
 | [],s,h=>by simp [wrAll] at h
 | y::r,s,h=>by
  simp only [wrAll] at h
  simp only [List.cons_append,wrAll]
  split
  ·rename_i h0
   rw [if_pos h0] at h
   exact wrAll_stop r' r _ h
  ·rfl
theorem wrAll_len:∀(r:List Wr) (s:St),(wrAll s r).2.ws.length≤s.ws.length+r.length
 | [],s=>by simp [wrAll]
 | y::r,s=>by
  simp only [wrAll,List.length_cons]
  have h1:=wrS_len s (y.1:Int) y.2
  split
  ·have:=wrAll_len r (wrS s (y.1:Int) y.2)
   omega
  ·show (wrS s (y.1:Int) y.2).ws.length≤_
   omega
set_option maxRecDepth 100000 in
set_option maxHeartbeats 1000000 in
theorem turn_any {w:World}{F:List Nat}{p q:Nat}{s:St} (hD:IsD w F q s) (c0:w.cell? ⟨p,0,none⟩=some (.pointer (some ⟨q,0,none⟩))) (hd:s.down=false) (nm:Nat) (hn:nm<s.nb) :
  Calls Tryz.prog 176 #[.pointer (some ⟨p,0,none⟩),.int .i64 (nm:Int)] w fun e w'=>∃t:Bool,e=.returned (.tuple #[.bool t,.int .i64 0])∧Kept [] w w':=by
 have hnb:=hD.ok.nb
 have hrdr:=read_ok hD nm hd hn
 have hbl:=blk_len s.nb s.ws hD.ok.ws nm
 go_enter Tryz.func176,Tryz.ntmps176
 go_wp2_with fail
 refine hrdr.mono ?_
 rintro e w2 ⟨rfl,hR2,k2⟩
 have hr2:=hR2.reads_all hbl
 have hp2:=pin_any nm nm _ _ w2 (by omega) (by omega) hr2
 clear hrdr hR2 hr2 hbl
 generalize w.heap.size=rb at hp2
 go_wp2_with fail
 refine hp2.mono ?_
 rintro e w3 ⟨v3,rfl,hr3,k3,-⟩
 obtain ⟨a3,cp3,rfl,-⟩:=hr3
 clear hp2
 have kk:=k2.trans k3 (by simp)
 clear k2 k3
 generalize partOf (plc nm nm) (blk s.ws nm)=P
 generalize decide (isPart (plc nm nm) (blk s.ws nm))=Z
 obtain ⟨t,lf,nx,l⟩:=P
 simp only
 have hfin:=Hid.mk (kk.alloc (.cells #[.bool t,.int .i64 (lf:Int),.int .i64 (nx:Int),.slice a3 l.length cp3] 161))
 clear kk
 generalize l.length=n3 at hfin
 go_wp2
 go_ret2
 exact ⟨_,rfl,hfin.out⟩
end Go.Proofs.YtgpbhlfdlkemjaaGreat
