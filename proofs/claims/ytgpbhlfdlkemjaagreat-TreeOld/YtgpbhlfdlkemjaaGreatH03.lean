import Derived.WalkKit
import Derived.Deep.AppendLies
import Derived.Lib.AppendStr
import Derived.Laws.IdiomStrings
import Derived.OneCell
import Derived.BigQuiet
import Derived.Laws.CopyRow
import Derived.Laws.CopyOwn
import Derived.Laws.OwnMore
import Derived.Lib.SliceRun
import Derived.ProofKit
import Derived.OpenShut
import Derived.Test.YtgpbhlfdlkemjaaGreatRows
import Derived.Tactics2
import Derived.Laws.Pointers
import Derived.RegionTactic
import Derived.RegionCalls
import Derived.Deep.RegionWith
import Derived.Laws.NewBlocks
import Derived.Outline
import Derived.Deep.RegionHeld3
import Derived.Deep.RegionLaw
import Derived.Deep.WholeRow
import Derived.Test.YtgpbhlfdlkemjaaGreatH02
/-
 disk: its state, its calls as contracts: carried from the stages before.
-/
namespace Go.Proofs.YtgpbhlfdlkemjaaGreat
open Go.RowKit
theorem Kept.drewN {S:List Nat}{a w:World} (h:Kept S a w) (n:Nat):Kept S a (w.drewN n):=⟨h.os,h.tape,h.output,h.size,h.block⟩
end Go.Proofs.YtgpbhlfdlkemjaaGreat
namespace Go.Proofs.YtgpbhlfdlkemjaaGreat
set_option linter.unusedVariables false
abbrev Wr:=Nat × List UInt8
structure St where
 nb:Nat
 ws:List Wr
 fuse:Int
 down:Bool
def lastOf:List Wr→Nat→Nat→Nat→Nat
 | [],_,r,_=>r
 | x::t,n,r,i=>lastOf t (n+1) (if x.1=i then n+1 else r) i
def lastN (ws:List Wr) (i:Nat):Nat:=lastOf ws 0 0 i
theorem lastOf_snoc (x:Wr) (i:Nat):∀(ws:List Wr) (n r:Nat),lastOf (ws++[x]) n r i=if x.1=i then n+ws.length+1 else lastOf ws n r i
 | [],n,r=>by simp [lastOf]
 | y::t,n,r=>by
  simp only [List.cons_append,lastOf,List.length_cons]
  rw [lastOf_snoc x i t (n+1)]
  by_cases h:x.1=i
  ·rw [if_pos h,if_pos h];omega
  ·rw [if_neg h,if_neg h]
theorem lastN_snoc (ws:List Wr) (x:Wr) (i:Nat):lastN (ws++[x]) i=if x.1=i then ws.length+1 else lastN ws i:=by
 unfold lastN
 rw [lastOf_snoc,Nat.zero_add]
theorem lastOf_le (i:Nat):∀(ws:List Wr) (n r:Nat),r≤n→lastOf ws n r i≤n+ws.length
 | [],n,r,h=>by simpa [lastOf] using h
 | y::t,n,r,h=>by
  simp only [lastOf,List.length_cons]
  have:=lastOf_le i t (n+1) (if y.1=i then n+1 else r) (by split<;>omega)
  omega
theorem lastN_le (ws:List Wr) (i:Nat):lastN ws i≤ws.length:=by
 have:=lastOf_le i ws 0 0 (Nat.le_refl _)
 unfold lastN;omega
def blk (ws:List Wr) (i:Nat):List UInt8:=if lastN ws i=0 then zs 256 else (ws.getD (lastN ws i-1) (0,[])).2
def okW (nb:Nat) (ws:List Wr):Prop:=∀x∈ws,x.1<nb∧x.2.length=256
theorem okW.snoc {nb:Nat}{ws:List Wr} (h:okW nb ws) {i:Nat}{l:List UInt8} (hi:i<nb) (hl:l.length=256):okW nb (ws++[(i,l)]):=by
 intro x hx
 rcases List.mem_append.1 hx with hx|hx
 ·exact h x hx
 ·simp at hx;subst hx;exact ⟨hi,hl⟩
theorem okW.nil (nb:Nat):okW nb []:=fun _ h=>by cases h
theorem blk_len (nb:Nat) (ws:List Wr) (h:okW nb ws) (i:Nat):(blk ws i).length=256:=by
 unfold blk
 split
 ·exact zs_length 256
 ·rename_i hne
  have hle:=lastN_le ws i
  rw [List.getD_eq_getElem?_getD,List.getElem?_eq_getElem (by omega)]
  exact (h _ (List.getElem_mem _)).2
def wrE (s:St) (i:Int) (n:Nat):Int:=if s.down=true then 9 else if i<0∨(s.nb:Int)≤i∨n≠256 then 1 else if s.fuse=0 then 9 else 0
def wrS (s:St) (i:Int) (l:List UInt8):St :=
 if s.down=true then s else if i<0∨(s.nb:Int)≤i∨l.length≠256 then s else if s.fuse=0 then { s with down:=true }
 else { s with ws:=s.ws++[(i.toNat,l)],fuse:=if 0<s.fuse then s.fuse-1 else s.fuse }
structure St.ok (s:St):Prop where
 nb:s.nb≤65536
 ws:okW s.nb s.ws
 fuse:-1≤s.fuse
 top:s.fuse<9223372036854775808
theorem wrS_len (s:St) (i:Int) (l:List UInt8):(wrS s i l).ws.length≤s.ws.length+1:=by
 unfold wrS
 split
 ·omega
 split
 ·omega
 split
 ·exact Nat.le_succ _
 ·simp
def newN (b:Int):Nat:=(min (max b 0) 65536).toNat
def newS (b:Int):St:=⟨newN b,[],-1,false⟩
theorem newN_le (b:Int):newN b≤65536:=by unfold newN;omega
def cutN (s:St) (n:Int):Nat:=(min (max n 0) (s.ws.length:Int)).toNat
def cutS (s:St) (n:Int):St:=⟨s.nb,s.ws.take (cutN s n),-1,false⟩
end Go.Proofs.YtgpbhlfdlkemjaaGreat
namespace Go.Proofs.YtgpbhlfdlkemjaaGreat
open Go.RowKit
set_option linter.unusedVariables false
def wcells (i:Int) (l:List UInt8):List Value:=.int .i64 i::C8 l
theorem wcells_length (i:Int) (l:List UInt8) (h:l.length=256):(wcells i l).length=257:=by simp [wcells,C8_length,h]
theorem wcells_one (i:Int) (l:List UInt8):∀u∈wcells i l,u.oneCell'=true:=by
 intro u hu
 rcases List.mem_cons.1 hu with rfl|hu
 ·rfl
 ·exact C8_one l u hu
def wsC (ws:List Wr):List Value:=ws.flatMap fun x=>wcells (x.1:Int) x.2
theorem wsC_snoc (ws:List Wr) (i:Nat) (l:List UInt8):wsC (ws++[(i,l)])=wsC ws++wcells (i:Int) l:=by simp [wsC]
theorem wsC_at {nb:Nat}:∀(ws:List Wr),okW nb ws→∀(k:Nat) (x:Wr),ws[k]?=some x→∀j u,(wcells (x.1:Int) x.2)[j]?=some u→(wsC ws)[k*257+j]?=some u
 | [],_,k,x,hx,_,_,_=>by simp at hx
 | y::t,h,0,x,hx,j,u,hu=>by
  have e:wsC (y::t)=wcells (y.1:Int) y.2++wsC t:=by simp [wsC]
  simp at hx
  subst hx
  rw [e,Nat.zero_mul,Nat.zero_add,List.getElem?_append_left (List.getElem?_eq_some_iff.1 hu).1]
  exact hu
 | y::t,h,k+1,x,hx,j,u,hu=>by
  have e:wsC (y::t)=wcells (y.1:Int) y.2++wsC t:=by simp [wsC]
  have hl:(wcells (y.1:Int) y.2).length=257:=wcells_length _ _ (h y (by simp)).2
  rw [e,List.getElem?_append_right (by rw [hl];omega),hl,show (k+1)*257+j-257=k*257+j by omega]
  exact wsC_at t (fun z hz=>h z (by simp [hz])) k x (by simpa using hx) j u hu
def lastC (ws:List Wr) (nb:Nat):List Value:=(List.range nb).map fun k=>.int .i64 (lastN ws k:Int)
theorem lastC_length (ws:List Wr) (nb:Nat):(lastC ws nb).length=nb:=by simp [lastC]
theorem lastC_at (ws:List Wr) (nb i:Nat) (h:i<nb):(lastC ws nb)[i]?=some (.int .i64 (lastN ws i:Int)):=by simp [lastC,h]
theorem lastC_snoc (ws:List Wr) (nb i:Nat) (l:List UInt8):lastC (ws++[(i,l)]) nb=(lastC ws nb).set i (.int .i64 ((ws.length+1:Nat):Int)):=by
 apply List.ext_getElem?
 intro k
 rw [List.getElem?_set]
 by_cases hk:k<nb
 ·rw [lastC_at _ _ _ hk,lastN_snoc]
  by_cases h:i=k
  ·subst h
   simp [lastC_length,hk]
  ·simp [h,lastC_at _ _ _ hk]
 ·rw [List.getElem?_eq_none (by rw [lastC_length];omega),List.getElem?_eq_none (by rw [lastC_length];omega),lastC_length]
  by_cases h:i=k
  ·subst h
   simp [hk]
  ·simp [h]
def IsD (w:World) (F:List Nat) (p:Nat) (s:St):Prop :=
 ∃vd g,F=p::g::vd.ownBlock.toList∧w.heap[p]?=some (.cells #[vd,.slice (some ⟨g,0,none⟩) s.nb s.nb,.int .i64 s.fuse,.bool s.down] 71 (0,0)) ∧
  w.ownsRow 0 119 257 vd s.ws.length (wsC s.ws)∧w.heap[g]?=some (.cells (lastC s.ws s.nb).toArray 3 (0,0))∧p≠g∧vd.ownBlock≠some p∧vd.ownBlock≠some g∧s.ok
def NewF (w:World) (F F':List Nat):Prop:=∀x∈F',x∈F∨w.heap.size≤x
theorem NewF.refl (w:World) (F:List Nat):NewF w F F:=fun _ h=>.inl h
theorem NewF.trans {w w1:World}{F F1 F2:List Nat} (h:NewF w F F1) (k:NewF w1 F1 F2) (hs:w.heap.size≤w1.heap.size):NewF w F F2:=fun x hx=>by
 rcases k x hx with h1|h1
 ·exact h x h1
 ·exact .inr (by omega)
theorem ownsRow_keep {S:List Nat}{w w':World}{e:TypeId}{size:Nat}{v:Value}{n:Nat}{xs:List Value} (h:w.ownsRow 0 e size v n xs) (k:Kept S w w') (hn:∀g,v.ownBlock=some g→g∉S):w'.ownsRow 0 e size v n xs:=by
 refine ⟨h.1,?_⟩
 rcases h.2 with h0|⟨g,cap,cur,rfl,hb,hg,r⟩
 ·exact .inl h0
 ·exact .inr ⟨g,cap,cur,rfl,hb,k.keeps hg (hn g rfl),r⟩
theorem IsD.kept {S:List Nat}{w w':World}{F:List Nat}{p:Nat}{s:St} (h:IsD w F p s) (k:Kept S w w') (hn:∀x∈F,x∉S):IsD w' F p s:=by
 obtain ⟨vd,g,rfl,h1,h2,h3,h4,h5,h6,h7⟩:=h
 exact ⟨vd,g,rfl,k.keeps h1 (hn p (by simp)),ownsRow_keep h2 k (fun x hx=>hn x (by simp [hx])),k.keeps h3 (hn g (by simp)),h4,h5,h6,h7⟩
theorem IsD.lt {w:World}{F:List Nat}{p:Nat}{s:St} (h:IsD w F p s):∀x∈F,x<w.heap.size:=by
 obtain ⟨vd,g,rfl,h1,h2,h3,h4,h5,h6,h7⟩:=h
 intro x hx
 simp only [List.mem_cons,Option.mem_toList] at hx
 rcases hx with rfl|rfl|hx
 ·exact lt_of_block h1
 ·exact lt_of_block h3
 ·exact (World.ownsRow.lt h2 x hx).2
theorem IsD.ok {w:World}{F:List Nat}{p:Nat}{s:St} (h:IsD w F p s):s.ok:=by obtain ⟨_,_,_,_,_,_,_,_,_,h⟩:=h;exact h
set_option maxRecDepth 100000 in
theorem run_build (i:Int) (w:World):(Instr.build 119 #[(0,.int .i64 i)]).run Tryz.prog w=.ok (.agg (wcells i (zs 256)).toArray) w:=by kernel_rfl
set_option maxRecDepth 100000 in
theorem run_allocw (w:World):(Instr.alloc 119 true (.tuple #[])).run Tryz.prog w=.ok (.pointer (some ⟨w.heap.size,0,none⟩)) (w.alloc (.cells (wcells 0 (zs 256)).toArray 119)):=by kernel_rfl
theorem size56:(Tryz.prog.info? 119).map (·.size)=some 257:=by kernel_rfl
theorem inf56:(Tryz.prog.info? 119).map (fun i=>(i.zero,i.size,i.bytes))=some (some (.agg (wcells 0 (zs 256)).toArray),257,264):=by kernel_rfl
theorem inf3:(Tryz.prog.info? 3).map (fun i=>(i.zero,i.size,i.bytes))=some (some (.int .i64 0),1,8):=by kernel_rfl
theorem lay_list:∀(vs:List Value) (k:Nat) (cells:Array Value),k+vs.length≤cells.size→((vs.zipIdx k).foldl (fun cs (x:Value × Nat)=>cs.setIfInBounds x.2 x.1) cells).toList=cells.toList.take k++(vs++cells.toList.drop (k+vs.length))
 | [],k,cells,h=>by simp
 | v::t,k,cells,h=>by
  simp only [List.length_cons] at h
  rw [List.zipIdx_cons,List.foldl_cons,lay_list t (k+1) _ (by simp;omega)]
  simp only [Array.toList_setIfInBounds,List.length_cons]
  rw [List.take_set,List.drop_set_of_lt (by omega),List.take_succ_eq_append_getElem (by simp;omega),List.set_append_right _ _ (by simp;omega)]
  simp only [List.length_take,Array.length_toList]
  rw [show k-min k cells.size=0 by omega,List.set_cons_zero,List.append_assoc]
  simp only [List.cons_append,List.nil_append]
  rw [show k+1+t.length=k+(t.length+1) by omega]
theorem lay_all (cs Z:Array Value) (n:Nat) (h:cs.size=n) (hZ:Z.size=n):Array.foldl (fun cs (x:Value × Nat)=>cs.setIfInBounds x.snd x.fst) Z cs.zipIdx 0 n=cs:=by
 subst h
 apply Array.toList_inj.1
 have:=lay_list cs.toList 0 Z (by simp [hZ])
 have e:Array.foldl (fun cs (x:Value × Nat)=>cs.setIfInBounds x.snd x.fst) Z cs.zipIdx 0 cs.size=cs.zipIdx.foldl (fun cs (x:Value × Nat)=>cs.setIfInBounds x.snd x.fst) Z:=by rw [Array.size_zipIdx]
 rw [e,←Array.foldl_toList,Array.toList_zipIdx,this]
 simp [←hZ]
theorem run_buildw (cs:Array Value) (h:cs.size=257) (w:World):(Instr.buildSlice 69 1 #[(0,.agg cs)]).run Tryz.prog w=.ok (.slice (some ⟨w.heap.size,0,none⟩) 1 1) (w.alloc (.cells cs 119)):=by
 obtain ⟨i0,hi,hz0,hz1,hz2⟩:=info_parts inf56
 simp only [Instr.buildSlice,Sem.run_bind,run_underlying Tryz.underlying69,Result.andThen_ok,sizeOf,typeInfo,zeroValue,Sem.run_pure]
 simp [Value.cells,hi,hz0,hz1,Instr.fill,h]
 rw [lay_all cs _ 257 h (by simp)]
 rfl
theorem load47 (w:World) (a:Addr) (v:Value) (hc:w.cell? a=some v):(Instr.loadAt 69 (.pointer (some a))).run Tryz.prog w=.ok v w:=by go_simp
theorem load56 (w:World) (r:Nat) (i:Int) (l:List UInt8) (hl:l.length=256) (h:w.heap[r]?=some (.cells (wcells i l).toArray 119 (0,0))):(Instr.loadAt 119 (.pointer (some ⟨r,0,none⟩))).run Tryz.prog w=.ok (.agg (wcells i l).toArray) w:=by
 simp only [Instr.loadAt,Instr.sureAddr,Sem.run_bind,Sem.run_pure,Result.andThen_ok]
 exact run_loadVar_row w r 119 119 _ (0,0) _ h Tryz.underlying119 rfl (by rw [List.size_toArray,wcells_length _ _ hl];exact size56)
theorem store47 (w:World) (a:Addr) (u:Value) (ad:Option Addr) (n cap:Nat) (hc:w.cell? a=some u) (hz:w.frozen? a=false):(Instr.storeAt 69 (.pointer (some a)) (.slice ad n cap)).run Tryz.prog w=.ok () (w.setCell a (.slice ad n cap)):=by go_simp
theorem cells4 {w:World}{b:Nat}{x0 x1 x2 x3:Value}{t:TypeId} (h:w.heap[b]?=some (.cells #[x0,x1,x2,x3] t (0,0))):w.cell? ⟨b,0,none⟩=some x0∧w.cell? ⟨b,1,none⟩=some x1∧w.cell? ⟨b,2,none⟩=some x2∧w.cell? ⟨b,3,none⟩=some x3:=by simp [World.cell?,h]
theorem free4 {w:World}{b:Nat}{cs:Array Value}{t:TypeId} (h:w.heap[b]?=some (.cells cs t (0,0))) (j:Nat):w.frozen? ⟨b,j,none⟩=false:=by simp [World.frozen?,h]
section
variable {P:Program}{ops:Array Oper}{rest:List Oper}{o:Oper}{a:Act}{w:World}{Q:Exit→Act→World→Prop}
theorem wpList_move (hg:o.guard=none) (x:Operand) (ho:o.op=.move x) (v:Value) (hx:a.eval x=v) (k:wpList P ops Q rest (a.put o.dst v) w):wpList P ops Q (o::rest) a w :=
 wpList_plain hg fun K hK=>by
  unfold Oper.wp execOp
  simp only [ho,hx,Sem.run_pure]
  exact hK _ _ k
theorem wpList_build (hg:o.guard=none) (t:TypeId) (j:Nat) (x:Operand) (ho:o.op=.build t #[(j,x)]) (vx:Value) (hx:a.eval x=vx) {v:Value}{w':World} (h:(Instr.build t #[(j,vx)]).run P w=.ok v w') (k:wpList P ops Q rest (a.put o.dst v) w'):wpList P ops Q (o::rest) a w :=
 wpList_plain hg fun K hK=>by
  unfold Oper.wp execOp
  simp only [ho,hx,List.map_toArray,List.map_cons,List.map_nil,Sem.run_bind,Sem.run_pure,Result.andThen_ok,h]
  exact hK _ _ k
theorem wpList_alloc (hg:o.guard=none) (t:TypeId) (ho:o.op=.alloc t) {v:Value}{w':World} (h:(Instr.alloc t true (.tuple #[])).run P w=.ok v w') (k:wpList P ops Q rest (a.put o.dst v) w'):wpList P ops Q (o::rest) a w :=
 wpList_plain hg fun K hK=>by
  unfold Oper.wp execOp
  simp only [ho,Sem.run_bind,Sem.run_pure,Result.andThen_ok,h]
  exact hK _ _ k
theorem wpList_store (hg:o.guard=none) (t:TypeId) (x y:Operand) (ho:o.op=.store t x y) (vx vy:Value) (hx:a.eval x=vx) (hy:a.eval y=vy) {w':World} (h:(Instr.storeAt t vx vy).run P w=.ok () w') (k:wpList P ops Q rest (a.put o.dst undef) w'):wpList P ops Q (o::rest) a w :=
 wpList_plain hg fun K hK=>by
  unfold Oper.wp execOp
  simp only [ho,hx,hy,Sem.run_bind,Sem.run_pure,Result.andThen_ok,h]
  exact hK _ _ k
theorem step_load (hg:o.guard=none) (t:TypeId) (x:Operand) (ho:o.op=.load t x) (vx:Value) (hx:a.eval x=vx) {K:Act→World→Prop}{E:Prop}{v:Value} (h:(Instr.loadAt t vx).run P w=.ok v w) (hK:K (a.put o.dst v) w) :
  if Region.wanted o (yielded ops a.tmps)=true then Oper.wp P o a w K Q else E:=by
 have hw:Region.wanted o (yielded ops a.tmps)=true:=by simp [Region.wanted,hg]
 rw [if_pos hw]
 unfold Oper.wp execOp
 simp only [ho,hx,Sem.run_bind,Sem.run_pure,Result.andThen_ok,h]
 exact hK
theorem step_store (hg:o.guard=none) (t:TypeId) (x y:Operand) (ho:o.op=.store t x y) (vx vy:Value) (hx:a.eval x=vx) (hy:a.eval y=vy) {K:Act→World→Prop}{E:Prop}{w':World} (h:(Instr.storeAt t vx vy).run P w=.ok () w') (hK:K (a.put o.dst undef) w') :
  if Region.wanted o (yielded ops a.tmps)=true then Oper.wp P o a w K Q else E:=by
 have hw:Region.wanted o (yielded ops a.tmps)=true:=by simp [Region.wanted,hg]
 rw [if_pos hw]
 unfold Oper.wp execOp
 simp only [ho,hx,hy,Sem.run_bind,Sem.run_pure,Result.andThen_ok,h]
 exact hK
theorem step_buildSlice (hg:o.guard=none) (t:TypeId) (n:Nat) (j:Nat) (x:Operand) (ho:o.op=.buildSlice t n #[(j,x)]) (vx:Value) (hx:a.eval x=vx) {K:Act→World→Prop}{E:Prop}{v:Value}{w':World} (h:(Instr.buildSlice t n #[(j,vx)]).run P w=.ok v w') (hK:K (a.put o.dst v) w') :
  if Region.wanted o (yielded ops a.tmps)=true then Oper.wp P o a w K Q else E:=by
 have hw:Region.wanted o (yielded ops a.tmps)=true:=by simp [Region.wanted,hg]
 rw [if_pos hw]
 unfold Oper.wp execOp
 simp only [ho,hx,List.map_toArray,List.map_cons,List.map_nil,Sem.run_bind,Sem.run_pure,Result.andThen_ok,h]
 exact hK
end
end Go.Proofs.YtgpbhlfdlkemjaaGreat
namespace Go.Proofs.YtgpbhlfdlkemjaaGreat
open Go.RowKit
set_option linter.unusedVariables false
theorem copy_w (w:World) (r:Nat) (i:Int) (L:List UInt8) (hL:L.length=256) (a:Option Addr) (n cap:Nat) (p:List UInt8) (hR:w.heap[r]?=some (.cells (wcells i L).toArray 119 (0,0))) (hr:Reads w (.slice a n cap) p) (hn:p.length=n) (h1:n=256) :
  ∃w',(Builtin.copy_ #[48,48] 3 #[.slice (some ⟨r,1,none⟩) 256 256,.slice a n cap]).run Tryz.prog w=.ok (goInt n) w'∧w'.heap[r]?=some (.cells (wcells i p).toArray 119 (0,0))∧Kept [r] w w':=by
 obtain ⟨i0,hi,hz0,hz1,hz2⟩:=info_parts inf5
 have hs:(Tryz.prog.info? 5).map (·.size)=some 1:=by rw [hi];simp [hz1]
 rcases reads_cases hr with ⟨a',c',he,rfl,_⟩|⟨b,q,c',he,hh1,hh2,hc⟩
 ·simp at hn;omega
 ·injection he with e1 e2 e3
  subst e1 e2 e3
  have hrun:=run_copy_row (P:=Tryz.prog) w 48 48 3 5 r 1 256 256 ⟨b,q,none⟩ p.length cap (wcells i L).toArray 119 (C8 p) Tryz.underlying48 hs hR (by rw [C8_length,h1];rfl) (fun j v hv=>by
   simp only [C8,List.getElem?_map,Option.map_eq_some_iff] at hv
   obtain ⟨u,hu,rfl⟩:=hv
   have hadd:(⟨b,q,Option.none⟩:Addr).add j=⟨b,q+j,Option.none⟩:=by unfold Addr.add;split<;>simp_all
   rw [hadd]
   exact hc j u hu) (by rw [List.size_toArray,wcells_length _ _ hL,C8_length,h1];omega) (C8_one p)
  rw [C8_length] at hrun
  refine ⟨_,hrun,?_,⟨rfl,rfl,rfl,by simp [World.setRow],fun k hk hn=>setRow_other w r k _ (by intro e;subst e;simp at hn)⟩⟩
  rw [setRow_heap w r _ _ 119 _ hR]
  have e:(wcells i L).take 1++C8 p++(wcells i L).drop (1+p.length)=wcells i p:=by
   rw [List.drop_of_length_le (by rw [wcells_length _ _ hL,h1];omega)]
   simp [wcells]
  rw [e]
structure Mid (w w4:World) (F:List Nat) (p i:Nat) (s:St) (l:List UInt8) (vd:Value) (g:Nat) (v3:Value):Prop where
 box:w4.heap[p]?=some (.cells #[v3,.slice (some ⟨g,0,none⟩) s.nb s.nb,.int .i64 s.fuse,.bool s.down] 71 (0,0))
 own:w4.ownsRow 0 119 257 v3 (s.ws.length+1) (wsC s.ws++wcells (i:Int) l)
 last:w4.heap[g]?=some (.cells (lastC s.ws s.nb).toArray 3 (0,0))
 pg:p≠g
 ap:v3.ownBlock≠some p
 ag:v3.ownBlock≠some g
 kept:Kept F w w4
 new:NewF w F (p::g::v3.ownBlock.toList)
 pF:p∈F
 gF:g∈F
theorem mid_of (w w2 w2' w3:World) (F:List Nat) (p i:Nat) (s:St) (l:List UInt8) (vd:Value) (g g2 cap2:Nat) (hF:F=p::g::vd.ownBlock.toList) (hK2:Kept [] w w2) (hk:Kept [] w2 w2') (hbox:w2.heap[p]?=some (.cells #[vd,.slice (some ⟨g,0,none⟩) s.nb s.nb,.int .i64 s.fuse,.bool s.down] 71 (0,0)))
  (hlast:w2.heap[g]?=some (.cells (lastC s.ws s.nb).toArray 3 (0,0))) (hpg:p≠g) (hap:vd.ownBlock≠some p) (hag:vd.ownBlock≠some g)
  (hown3:w3.ownsRow 0 119 257 (.slice (some ⟨g2,0,none⟩) (s.ws.length+1) cap2) (s.ws.length+1) (wsC s.ws++wcells (i:Int) l)) (hgrow3:w2'.grownBy w3 vd.ownBlock) (hat3:vd.ownBlock=some g2∨g2=w2'.heap.size) :
  Mid w (w3.setCell ⟨p,0,none⟩ (.slice (some ⟨g2,0,none⟩) (s.ws.length+1) cap2)) F p i s l vd g (.slice (some ⟨g2,0,none⟩) (s.ws.length+1) cap2):=by
 have hp2:=lt_of_block hbox
 have hg2:=lt_of_block hlast
 have hs:=hk.size
 have hs2:=hK2.size
 have hpl:p<w2'.heap.size:=by omega
 have hgl:g<w2'.heap.size:=by omega
 have hne1:g2≠p:=fun e=>by
  rcases hat3 with h|h
  ·exact hap (by rw [h,e])
  ·omega
 have hne2:g2≠g:=fun e=>by
  rcases hat3 with h|h
  ·exact hag (by rw [h,e])
  ·omega
 have hbox3:w3.heap[p]?=some (.cells #[vd,.slice (some ⟨g,0,none⟩) s.nb s.nb,.int .i64 s.fuse,.bool s.down] 71 (0,0)):=by
  rw [hgrow3.block p hpl (fun e=>hap e.symm)];exact hk.keeps hbox (by simp)
 have hlast3:w3.heap[g]?=some (.cells (lastC s.ws s.nb).toArray 3 (0,0)):=by
  rw [hgrow3.block g hgl (fun e=>hag e.symm)];exact hk.keeps hlast (by simp)
 have kF:Kept F w w3:=((hK2.mono (by simp)).trans (hk.mono (T:=F) (by simp)) (fun x hx=>.inl hx)).grown hgrow3 (fun k hk=>.inl (by rw [hF];simp [hk]))
 refine ⟨?_,ownsRow_setCell_other hown3 (by simpa [Value.ownBlock] using hne1) _,?_,hpg,by simpa [Value.ownBlock] using hne1,by simpa [Value.ownBlock] using hne2,kF.setCell (.inl (by rw [hF];simp)) _,?_,by rw [hF];simp,by rw [hF];simp⟩
 ·rw [heap_setCell_same w3 p 0 _ 71 _ hbox3];rfl
 ·rw [heap_setCell_other _ _ _ _ (fun e=>hpg e.symm)];exact hlast3
 ·intro x hx
  simp only [Value.ownBlock,Option.toList_some,List.mem_cons,List.not_mem_nil,or_false] at hx
  rcases hx with rfl|rfl|rfl
  ·exact .inl (by rw [hF];simp)
  ·exact .inl (by rw [hF];simp)
  ·rcases hat3 with h|h
   ·exact .inl (by rw [hF];simp [h])
   ·exact .inr (by omega)
theorem Mid.done {w w4:World}{F:List Nat}{p i:Nat}{s:St}{l:List UInt8}{vd:Value}{g:Nat}{v3:Value} (h:Mid w w4 F p i s l vd g v3) (hok:s.ok) (hi:i<s.nb) (hl:l.length=256) :
  ∃F',IsD (w4.setCell ⟨g,i,none⟩ (.int .i64 ((s.ws.length+1:Nat):Int))) F' p { s with ws:=s.ws++[(i,l)] }∧Kept F w (w4.setCell ⟨g,i,none⟩ (.int .i64 ((s.ws.length+1:Nat):Int)))∧NewF w F F':=by
 refine ⟨_,⟨v3,g,rfl,?_,?_,?_,h.pg,h.ap,h.ag,⟨hok.nb,hok.ws.snoc hi hl,hok.fuse,hok.top⟩⟩,h.kept.setCell (.inl h.gF) _,h.new⟩
 ·rw [heap_setCell_other _ _ _ _ h.pg];exact h.box
 ·show World.ownsRow _ 0 119 257 v3 (s.ws++[(i,l)]).length (wsC (s.ws++[(i,l)]))
  rw [wsC_snoc,List.length_append]
  exact ownsRow_setCell_other h.own h.ag _
 ·show _=some (Obj.cells (lastC (s.ws++[(i,l)]) s.nb).toArray 3 (0,0))
  rw [heap_setCell_same _ g i _ 3 _ h.last,lastC_snoc]
  simp
set_option maxRecDepth 100000 in
set_option maxHeartbeats 400000 in
theorem lay_walk_D (F:List Nat) (p i:Nat) (s:St) (a:Option Addr) (n cap:Nat) (l:List UInt8) (w:World) (hD:IsD w F p s) (hi:i<s.nb) (hn:Hid (l.length=n)) (h1:Hid (n=256)) (hr:Reads w (.slice a n cap) l) (hb:s.ws.length≤100000) :
  Calls Tryz.prog 62 #[.pointer (some ⟨p,0,none⟩),.int .i64 (i:Int),.slice a n cap] w fun e w'=>e=.returned (.tuple #[])∧∃F',IsD w' F' p { s with ws:=s.ws++[(i,l)] }∧Kept F w w'∧NewF w F F':=by
 go_enter Tryz.func62,Tryz.ntmps62
 refine wp_seq_k fun K hK=>?_
 refine wp_region_lit ?_
 refine wpList_move rfl _ rfl (.int .i64 (i:Int)) rfl ?_
 refine wpList_build rfl 119 0 _ rfl (.int .i64 (i:Int)) rfl (run_build (i:Int) w) ?_
 refine wpList_alloc rfl 119 rfl (run_allocw w) ?_
 refine wpList_store rfl 119 _ _ rfl (.pointer (some ⟨w.heap.size,0,none⟩)) (.agg (wcells (i:Int) (zs 256)).toArray) rfl rfl (run_storeAt_new w 119 _ _ (by rw [List.size_toArray,wcells_length _ _ (zs_length 256)];exact size56) (by rw [List.size_toArray,List.size_toArray,wcells_length _ _ (zs_length 256),wcells_length _ _ (zs_length 256)]) (all_oneCell_toArray (wcells_one _ _))) ?_
 refine wpList_nil (hK _ _ ?_)
 clear hK K
 have hR1:=heap_alloc_new w (.cells (wcells (i:Int) (zs 256)).toArray 119)
 have hK1:=(Kept.refl [] w).alloc (.cells (wcells (i:Int) (zs 256)).toArray 119)
 have hD1:=hD.kept hK1 (by simp)
 have hr1:=hr.kept hK1 (by simp)
 have hrF:∀x∈F,x≠w.heap.size:=fun x hx=>by have:=hD.lt x hx;omega
 generalize w.alloc (.cells (wcells (i:Int) (zs 256)).toArray 119)=w1 at hR1 hK1 hD1 hr1
 generalize hrr:w.heap.size=r at hR1 hrF
 have HR:Hid (w.heap.size=r):=hrr
 generalize Value.agg (wcells (i:Int) (zs 256)).toArray=Z
 clear hrr hr
 obtain ⟨w2,hrun,hR2,hk2⟩:=copy_w w1 r (i:Int) (zs 256) (zs_length 256) a n cap l hR1 hr1 hn.out h1.out
 have hK2:Kept [] w w2:=hK1.trans hk2 (fun x hx=>.inr (by have:=HR.out;simp at hx;omega))
 have hD2:=hD1.kept hk2 (fun x hx=>by simpa using hrF x hx)
 clear hK1 hR1 hk2 hD1 hr1
 go_wp2_with fail
 obtain ⟨vd,g,hF,hbox,hown,hlast,hpg,hap,hag,hok⟩:=hD2
 have hcp:w2.drew.cell? ⟨p,0,none⟩=some vd:=(cells4 hbox).1
 have hpr:p≠r:=hrF p (by rw [hF];simp)
 refine wp_region_any (by kernel_rfl) ?_
 change wpAny _ _ _ _ _ _ _ (World.drew _)
 refine wpAny_take (i:=0) (v:=.pointer (some ⟨p,0,none⟩)) rfl (by kernel_rfl) (by kernel_rfl) (by kernel_rfl) (fun _ _ _ h=>h) (Or.inl ⟨by rfl,fun w=>by go_simp⟩) ?_
 refine wpAny_take (i:=1) (v:=.pointer (some ⟨p,0,none⟩)) rfl (by kernel_rfl) (by kernel_rfl) (by kernel_rfl) (fun _ _ _ h=>h) (Or.inl ⟨by rfl,fun w=>by go_simp⟩) ?_
 refine wpAny_take (i:=2) (v:=.pointer (some ⟨p,0,none⟩)) rfl (by kernel_rfl) (by kernel_rfl) (by kernel_rfl) (fun _ _ _ h=>h) (Or.inl ⟨by rfl,fun w=>by go_simp⟩) ?_
 refine wpAny_take (i:=3) (v:=.pointer (some ⟨p,0,none⟩)) rfl (by kernel_rfl) (by kernel_rfl) (by kernel_rfl) (fun _ _ _ h=>h) (Or.inl ⟨by rfl,fun w=>by go_simp⟩) ?_
 have hl256:l.length=256:=by rw [hn.out,h1.out]
 have hsz:(wcells (i:Int) l).toArray.size=257:=by rw [List.size_toArray,wcells_length _ _ hl256]
 have hld:=load56 w2.drew r (i:Int) l hl256 hR2
 have hbl:=run_buildw (wcells (i:Int) l).toArray hsz w2.drew
 have hone:∀u∈(wcells (i:Int) l).toArray.toList,u.oneCell'=true:=wcells_one _ _
 have hCl:Hid ((wcells (i:Int) l).toArray.toList=wcells (i:Int) l):=rfl
 obtain ⟨i0,hi0,hz0,hz1,hz2⟩:=info_parts inf56
 have hz3:(Value.agg (wcells 0 (zs 256)).toArray).cells.size=257:=by show (wcells 0 (zs 256)).toArray.size=257;rw [List.size_toArray,wcells_length _ _ (zs_length 256)]
 generalize Value.agg (wcells 0 (zs 256)).toArray=Zz at hz0 hz3
 generalize hC:(wcells (i:Int) l).toArray=C at hsz hld hbl hone hCl
 have HC:Hid ((wcells (i:Int) l).toArray=C):=hC
 clear hC
 have hcp2:(w2.drew.alloc (.cells C 119)).cell? ⟨p,0,none⟩=some vd:=by rw [World.cell?_alloc_lt _ _ _ (World.block_lt_of_cell? _ _ hcp)];exact hcp
 go_simp
 refine wpAny_ready (rs:=[4,5]) (by kernel_rfl) (by simp) ?_
 refine AllReady.cons rfl (fun K hK=>?a1) (AllReady.cons rfl (fun K hK=>?a2) AllReady.nil)
 case' a1 =>
  refine step_load (by kernel_rfl) 69 (.tmp 16) (by kernel_rfl) (.pointer (some ⟨p,0,none⟩)) (by kernel_rfl) (load47 _ _ _ hcp) (hK _ _ ?_)
  clear hK K
  go_simp
  refine wpAny_ready (rs:=[5]) (by kernel_rfl) (by simp) (AllReady.cons rfl (fun K hK=>?_) AllReady.nil)
  refine step_load (by kernel_rfl) 119 (.tmp 6) (by kernel_rfl) (.pointer (some ⟨r,0,none⟩)) (by kernel_rfl) hld (hK _ _ ?_)
  clear hK K
  go_simp
  refine wpAny_ready (rs:=[6]) (by kernel_rfl) (by simp) (AllReady.cons rfl (fun K hK=>?_) AllReady.nil)
  refine step_buildSlice (by kernel_rfl) 69 1 0 (.tmp 18) (by kernel_rfl) (.agg C) (by kernel_rfl) hbl (hK _ _ ?_)
  clear hK K
  go_simp
 case' a2 =>
  refine step_load (by kernel_rfl) 119 (.tmp 6) (by kernel_rfl) (.pointer (some ⟨r,0,none⟩)) (by kernel_rfl) hld (hK _ _ ?_)
  clear hK K
  go_simp
  refine wpAny_ready (rs:=[4,6]) (by kernel_rfl) (by simp) ?_
  refine AllReady.cons rfl (fun K hK=>?b1) (AllReady.cons rfl (fun K hK=>?b2) AllReady.nil)
  case' b1 =>
   refine step_load (by kernel_rfl) 69 (.tmp 16) (by kernel_rfl) (.pointer (some ⟨p,0,none⟩)) (by kernel_rfl) (load47 _ _ _ hcp) (hK _ _ ?_)
   clear hK K
   go_simp
   refine wpAny_ready (rs:=[6]) (by kernel_rfl) (by simp) (AllReady.cons rfl (fun K hK=>?_) AllReady.nil)
   refine step_buildSlice (by kernel_rfl) 69 1 0 (.tmp 18) (by kernel_rfl) (.agg C) (by kernel_rfl) hbl (hK _ _ ?_)
   clear hK K
   go_simp
  case' b2 =>
   refine step_buildSlice (by kernel_rfl) 69 1 0 (.tmp 18) (by kernel_rfl) (.agg C) (by kernel_rfl) hbl (hK _ _ ?_)
   clear hK K
   go_simp
   refine wpAny_ready (rs:=[4]) (by kernel_rfl) (by simp) (AllReady.cons rfl (fun K hK=>?_) AllReady.nil)
   refine step_load (by kernel_rfl) 69 (.tmp 16) (by kernel_rfl) (.pointer (some ⟨p,0,none⟩)) (by kernel_rfl) (load47 _ _ _ hcp2) (hK _ _ ?_)
   clear hK K
   go_simp
 all_goals
  refine wpAny_ready (rs:=[7]) (by kernel_rfl) (by simp) (AllReady.cons rfl (fun K hK=>?_) AllReady.nil)
  refine step_append_lies _ (by rfl) (.tmp 17) (.tmp 19) 69 (by rfl) 0 119 i0 _ 257 264 Tryz.underlying69 hi0 hz0 hz1 hz2 hz3 (by omega) vd s.ws.length (wsC s.ws) (by rfl) (hown.drew.alloc _) ⟨w2.heap.size,0,none⟩ 1 1 C.toList (by rfl) (by simp [hsz]) (World.news_of_block (cs:=C) (t:=119) (fr:=(0,0)) (heap_alloc_new w2.drew _)) hone (by omega) (by unfold maxLen;omega) (by omega) (by omega) (w2.heap.size+1) (by simp) ?_
  intro g2 cap2 w3 hown3 hgrow3 hat3 hlt3
  refine hK _ _ ?_
  clear hK K
  go_simp
  have hM:=mid_of w w2 _ w3 F p i s l vd g g2 cap2 hF hK2 ((Kept.refl [] w2).drew.alloc _) hbox hlast hpg hap hag (by rw [←hCl.out];exact hown3) hgrow3 (by rcases hat3 with h|h;exact .inl h;exact .inr (by rw [h];simp))
  have hc3:w3.cell? ⟨p,0,none⟩=some vd∧w3.frozen? ⟨p,0,none⟩=false:=by
   have hb3:w3.heap[p]?=some (.cells #[vd,.slice (some ⟨g,0,none⟩) s.nb s.nb,.int .i64 s.fuse,.bool s.down] 71 (0,0)):=by
    rw [hgrow3.block p (by have:=lt_of_block hbox;simp;omega) (fun e=>hap e.symm)];exact ((Kept.refl [] w2).drew.alloc _).keeps hbox (by simp)
   exact ⟨(cells4 hb3).1,free4 hb3 0⟩
  obtain ⟨hc3,hf3⟩:=hc3
  clear hown3 hgrow3 hat3 hlt3 hcp2 hbl hld hown
  refine wpAny_take (i:=8) (v:=.pointer (some ⟨p,0,none⟩)) rfl (by kernel_rfl) (by kernel_rfl) (by kernel_rfl) (fun _ _ _ h=>h) (Or.inl ⟨by rfl,fun w=>by go_simp⟩) ?_
  refine wpAny_take (i:=9) (v:=.pointer (some ⟨p,0,none⟩)) rfl (by kernel_rfl) (by kernel_rfl) (by kernel_rfl) (fun _ _ _ h=>h) (Or.inl ⟨by rfl,fun w=>by go_simp⟩) ?_
  go_simp
  refine wpAny_ready (rs:=[10]) (by kernel_rfl) (by simp) (AllReady.cons rfl (fun K hK=>?_) AllReady.nil)
  refine step_store (by kernel_rfl) 69 (.tmp 22) (.tmp 20) (by kernel_rfl) (.pointer (some ⟨p,0,none⟩)) (.slice (some ⟨g2,0,none⟩) (s.ws.length+1) cap2) (by kernel_rfl) (by kernel_rfl) (store47 _ _ vd _ _ _ hc3 hf3) (hK _ _ ?_)
  clear hK K hc3 hf3
  go_simp
  refine wpAny_done (by kernel_rfl) ?_ _
  generalize w3.setCell ⟨p,0,none⟩ (.slice (some ⟨g2,0,none⟩) (s.ws.length+1) cap2)=w4 at hM
  obtain ⟨c0,c1,c2,c3⟩:=cells4 hM.box
  have hcg:w4.cell? ⟨g,i,none⟩=some (.int .i64 (lastN s.ws i:Int)):=by
   rw [cell_of_row w4 g i _ 3 (0,0) hM.last]
   simpa using lastC_at s.ws s.nb i hi
  have hfg:=free4 hM.last i
  have hin:(i:Int)<(s.nb:Int):=by omega
  obtain ⟨F',hD5,hK5,hN5⟩:=hM.done hok hi hl256
  have hfin:Hid (∃F',IsD (w4.setCell ⟨g,i,none⟩ (.int .i64 ((s.ws.length+1:Nat):Int))).drew F' p { s with ws:=s.ws++[(i,l)] }∧Kept F w (w4.setCell ⟨g,i,none⟩ (.int .i64 ((s.ws.length+1:Nat):Int))).drew∧NewF w F F'):=⟨F',hD5.kept (Kept.refl [] _).drew (by simp),hK5.drew,hN5⟩
  clear hD5 hK5 hN5 F'
  generalize lastN s.ws i=y at hcg
  clear hbox hlast hR2 hcp
  have hnb:s.nb≤65536:=hok.nb
  go_wp2_with fail
  go_region
  go_end0
  exact ⟨rfl,hfin.out⟩
theorem lay_any (F:List Nat) (p i:Nat) (s:St) (v:Value) (l:List UInt8) (w:World) (hD:IsD w F p s) (hi:i<s.nb) (hl:l.length=256) (hr:Reads w v l) (hb:s.ws.length≤100000) :
  Calls Tryz.prog 62 #[.pointer (some ⟨p,0,none⟩),.int .i64 (i:Int),v] w fun e w'=>e=.returned (.tuple #[])∧∃F',IsD w' F' p { s with ws:=s.ws++[(i,l)] }∧Kept F w w'∧NewF w F F':=by
 have hr':=hr
 obtain ⟨a,cap,rfl,h2,h3,h4,h5⟩:=hr
 exact lay_walk_D F p i s a l.length cap l w hD hi rfl hl hr' hb
end Go.Proofs.YtgpbhlfdlkemjaaGreat
namespace Go.Proofs.YtgpbhlfdlkemjaaGreat
open Go.RowKit
set_option linter.unusedVariables false
theorem down_any {F:List Nat}{p:Nat}{s:St}{w:World} (hD:IsD w F p s):Calls Tryz.prog 31 #[.pointer (some ⟨p,0,none⟩)] w fun e w'=>e=.returned (.bool s.down)∧w=w':=by
 obtain ⟨vd,g,hF,hbox,_⟩:=hD
 obtain ⟨c0,c1,c2,c3⟩:=cells4 hbox
 generalize s.down=b at c3
 clear hbox c0 c1 c2
 go_enter Tryz.func31,Tryz.ntmps31
 go_wp2
 go_ret
 exact ⟨rfl,rfl⟩
theorem blocks_any {F:List Nat}{p:Nat}{s:St}{w:World} (hD:IsD w F p s):Calls Tryz.prog 33 #[.pointer (some ⟨p,0,none⟩)] w fun e w'=>e=.returned (.int .i64 (s.nb:Int))∧w=w':=by
 obtain ⟨vd,g,hF,hbox,_⟩:=hD
 obtain ⟨c0,c1,c2,c3⟩:=cells4 hbox
 generalize s.nb=b at c1
 clear hbox c0 c3 c2
 go_enter Tryz.func33,Tryz.ntmps33
 go_wp2
 go_ret
 exact ⟨rfl,rfl⟩
theorem own_form {w:World}{e:TypeId}{size n:Nat}{v:Value}{xs:List Value} (h:w.ownsRow 0 e size v n xs):∃a cap,v=.slice a n cap:=by
 rcases h.2 with ⟨rfl,h0⟩|⟨g,cap,cur,rfl,_⟩
 ·exact ⟨none,0,by rw [h0]⟩
 ·exact ⟨_,cap,rfl⟩
theorem writes_any {F:List Nat}{p:Nat}{s:St}{w:World} (hD:IsD w F p s):Calls Tryz.prog 28 #[.pointer (some ⟨p,0,none⟩)] w fun e w'=>e=.returned (.int .i64 (s.ws.length:Int))∧w=w':=by
 obtain ⟨vd,g,hF,hbox,hown,_⟩:=hD
 obtain ⟨a,cap,rfl⟩:=own_form hown
 obtain ⟨c0,c1,c2,c3⟩:=cells4 hbox
 clear hown
 generalize s.ws.length=b at c0
 clear hbox c1 c3 c2
 go_enter Tryz.func28,Tryz.ntmps28
 go_wp2
 go_ret
 exact ⟨rfl,rfl⟩
theorem has_no {F:List Nat}{p:Nat}{s:St}{w:World} (hD:IsD w F p s) (i:Int) (h:i<0∨(s.nb:Int)≤i):Calls Tryz.prog 137 #[.pointer (some ⟨p,0,none⟩),.int .i64 i] w fun e w'=>e=.returned (.bool false)∧w=w':=by
 have hb:=blocks_any hD
 generalize s.nb=b at hb h
 clear hD
 by_cases h0:0≤i
 ·have h1:decide (i<(b:Int))=false:=by simp;omega
  go_enter Tryz.func137,Tryz.ntmps137
  go_wp2_with (go_at_call 33;refine hb.mono ?_;rintro e w' ⟨rfl,rfl⟩)
  go_ret
  exact ⟨rfl,rfl⟩
 ·go_enter Tryz.func137,Tryz.ntmps137
  go_wp2
  go_ret
  exact ⟨rfl,rfl⟩
theorem has_yes {F:List Nat}{p:Nat}{s:St}{w:World} (hD:IsD w F p s) (i:Nat) (h:i<s.nb):Calls Tryz.prog 137 #[.pointer (some ⟨p,0,none⟩),.int .i64 (i:Int)] w fun e w'=>e=.returned (.bool true)∧w=w':=by
 have hb:=blocks_any hD
 generalize s.nb=b at hb h
 clear hD
 have h0:(0:Int)≤(i:Int):=by omega
 have h1:(i:Int)<(b:Int):=by omega
 go_enter Tryz.func137,Tryz.ntmps137
 go_wp2_with (go_at_call 33;refine hb.mono ?_;rintro e w' ⟨rfl,rfl⟩)
 go_ret
 exact ⟨rfl,rfl⟩
theorem IsD.fuse {F:List Nat}{p:Nat}{s:St}{w:World} (hD:IsD w F p s) (f:Int) (h1:-1≤f) (h2:f<9223372036854775808):IsD (w.setCell ⟨p,2,none⟩ (.int .i64 f)) F p { s with fuse:=f }∧Kept F w (w.setCell ⟨p,2,none⟩ (.int .i64 f)):=by
 obtain ⟨vd,g,hF,hbox,hown,hlast,hpg,hap,hag,hok⟩:=hD
 refine ⟨⟨vd,g,hF,?_,ownsRow_setCell_other hown hap _,?_,hpg,hap,hag,⟨hok.nb,hok.ws,h1,h2⟩⟩,(Kept.refl F w).setCell (.inl (by rw [hF];simp)) _⟩
 ·rw [heap_setCell_same w p 2 _ 71 _ hbox];rfl
 ·rw [heap_setCell_other _ _ _ _ (fun e=>hpg e.symm)];exact hlast
theorem IsD.setDown {F:List Nat}{p:Nat}{s:St}{w:World} (hD:IsD w F p s) (b:Bool):IsD (w.setCell ⟨p,3,none⟩ (.bool b)) F p { s with down:=b }∧Kept F w (w.setCell ⟨p,3,none⟩ (.bool b)):=by
 obtain ⟨vd,g,hF,hbox,hown,hlast,hpg,hap,hag,hok⟩:=hD
 refine ⟨⟨vd,g,hF,?_,ownsRow_setCell_other hown hap _,?_,hpg,hap,hag,⟨hok.nb,hok.ws,hok.fuse,hok.top⟩⟩,(Kept.refl F w).setCell (.inl (by rw [hF];simp)) _⟩
 ·rw [heap_setCell_same w p 3 _ 71 _ hbox];rfl
 ·rw [heap_setCell_other _ _ _ _ (fun e=>hpg e.symm)];exact hlast
theorem IsD.cells {F:List Nat}{p:Nat}{s:St}{w:World} (hD:IsD w F p s):(w.cell? ⟨p,2,none⟩=some (.int .i64 s.fuse)∧w.frozen? ⟨p,2,none⟩=false)∧(w.cell? ⟨p,3,none⟩=some (.bool s.down)∧w.frozen? ⟨p,3,none⟩=false):=by
 obtain ⟨vd,g,hF,hbox,_⟩:=hD
 obtain ⟨c0,c1,c2,c3⟩:=cells4 hbox
 exact ⟨⟨c2,free4 hbox 2⟩,⟨c3,free4 hbox 3⟩⟩
end Go.Proofs.YtgpbhlfdlkemjaaGreat
namespace Go.Proofs.YtgpbhlfdlkemjaaGreat
open Go.RowKit
set_option linter.unusedVariables false
theorem IsD.row {F:List Nat}{p:Nat}{s:St}{w:World} (hD:IsD w F p s) (k:Nat) (x:Wr) (hx:s.ws[k]?=some x) :
  ∃gd cap,w.cell? ⟨p,0,none⟩=some (.slice (some ⟨gd,0,none⟩) s.ws.length cap)∧w.cell? ⟨gd,k*257,none⟩=some (.int .i64 (x.1:Int))∧Reads w (.slice (some ⟨gd,k*257+1,none⟩) 256 256) x.2∧s.ws.length≤cap∧cap≤maxLen∧gd∈F:=by
 obtain ⟨vd,g,hF,hbox,hown,hlast,hpg,hap,hag,hok⟩:=hD
 have hlt:k<s.ws.length:=(List.getElem?_eq_some_iff.1 hx).1
 obtain ⟨gd,cap,cur,rfl,_,hg,h1,h2,h3,h4⟩:∃g cap cur,vd=.slice (some ⟨g,0,none⟩) s.ws.length cap∧0≤g∧w.heap[g]?=some (.cells cur 119 (0,0))∧s.ws.length≤cap∧cap≤maxLen∧cur.size=cap*257∧cur.toList.take (s.ws.length*257)=wsC s.ws:=by
  rcases hown.2 with ⟨_,h0⟩|h
  ·omega
  ·exact h
 have hcell:∀j u,(wcells (x.1:Int) x.2)[j]?=some u→w.cell? ⟨gd,k*257+j,none⟩=some u:=by
  intro j u hu
  rw [cell_of_row w gd _ cur 119 (0,0) hg]
  have h:=wsC_at s.ws hok.ws k x hx j u hu
  rw [←h4,List.getElem?_take] at h
  split at h
  ·simpa using h
  ·cases h
 have hc0:=hcell 0 (.int .i64 (x.1:Int)) (by simp [wcells])
 rw [Nat.add_zero] at hc0
 have hxm:=hok.ws x (List.mem_of_getElem? hx)
 refine ⟨gd,cap,(cells4 hbox).1,hc0,⟨_,256,by rw [hxm.2],by omega,by unfold maxLen;omega,by simp,fun _=>⟨gd,k*257+1,rfl,fun j u hu=>?_⟩⟩,h1,h2,by rw [hF];simp [Value.ownBlock]⟩
 have:=hcell (j+1) (B8 u) (by simp [wcells,C8,hu])
 rw [show k*257+(j+1)=k*257+1+j by omega] at this
 exact this
theorem make_ints (W:World) (n:Nat) (h:n≤65536):(Instr.makeSlice 41 (.int .i64 (n:Int)) (.int .i64 (n:Int))).run Tryz.prog W=.ok (.slice (some ⟨W.heap.size,0,none⟩) n n) (W.alloc (.cells (lastC [] n).toArray 3)):=by
 obtain ⟨i0,hi,hz0,hz1,hz2⟩:=info_parts inf3
 have h:=run_make (P:=Tryz.prog) W 41 3 i0 _ Tryz.underlying41 hi hz0 .i64 .i64 (n:Int) (n:Int) (by omega) (by omega) (by rw [hz2];omega) (by omega)
 rw [h]
 have e:madeCells (Value.int .i64 0).cells (Int.toNat (n:Int)*i0.size)=(lastC [] n).toArray:=by
  rw [hz1]
  apply Array.toList_inj.1
  rw [show (Value.int .i64 0).cells=#[.int .i64 0] from rfl,toList_madeCells_one]
  apply List.ext_getElem?
  intro k
  simp [lastC,lastN,lastOf,List.getElem?_replicate]
  by_cases hk:k<n<;>simp [hk]
 rw [e]
 rfl
theorem isD_new (w:World) (n:Nat) (hn:n≤65536) :
  IsD ((w.alloc (.cells (lastC [] n).toArray 3)).alloc (.cells #[.slice none 0 0,.slice (some ⟨w.heap.size,0,none⟩) n n,.int .i64 (-1),.bool false] 71)) [w.heap.size+1,w.heap.size] (w.heap.size+1) ⟨n,[],-1,false⟩ :=
 ⟨.slice none 0 0,w.heap.size,rfl,heap_alloc2_new w _ _,World.ownsRow_nil _ 0 119 257,heap_alloc2_old w _ _,by omega,by simp [Value.ownBlock],by simp [Value.ownBlock],⟨hn,okW.nil _,by show (-1:Int)≤-1;omega,by show (-1:Int)<_;omega⟩⟩
set_option maxHeartbeats 400000 in
theorem new_any (b:Int) (w:World):Calls Tryz.prog 12 #[.int .i64 b] w fun e w'=>∃p,e=.returned (.pointer (some ⟨p,0,none⟩))∧∃F,IsD w' F p (newS b)∧Kept [] w w'∧∀x∈F,w.heap.size≤x:=by
 have hle:=newN_le b
 have hmk:=fun W=>make_ints W (newN b) hle
 have hfin:=isD_new w (newN b) hle
 have hN:Hid (newN b=(min (max b 0) 65536).toNat):=rfl
 have hS:Hid (newS b=⟨newN b,[],-1,false⟩):=rfl
 generalize newS b=s at hS
 generalize newN b=n at hmk hfin hN hS hle
 have fin:∀w',w'=((w.alloc (.cells (lastC [] n).toArray 3)).alloc (.cells #[.slice none 0 0,.slice (some ⟨w.heap.size,0,none⟩) n n,.int .i64 (-1),.bool false] 71))→∃p,Ending.returned (.pointer (some ⟨w.heap.size+1,0,none⟩))=.returned (.pointer (some ⟨p,0,none⟩))∧∃F,IsD w' F p s∧Kept [] w w'∧∀x∈F,w.heap.size≤x:=by
  rintro _ rfl
  refine ⟨_,rfl,_,hS.out▸hfin,((Kept.refl [] w).alloc _).alloc _,?_⟩
  intro x hx
  simp at hx
  rcases hx with rfl|rfl<;>omega
 clear hfin hS
 generalize (lastC [] n).toArray=L at hmk fin
 by_cases h0:b<0
 ·have hn:n=0:=by rw [hN.out];omega
  subst hn
  clear hN hle
  have h1:¬0≤b:=by omega
  have hmk0:∀W:World,(Instr.makeSlice 41 (.int .i64 0) (.int .i64 0)).run Tryz.prog W=.ok (.slice (some ⟨W.heap.size,0,none⟩) 0 0) (W.alloc (.cells L 3)):=hmk
  clear hmk
  go_enter Tryz.func12,Tryz.ntmps12
  go_wp2
  go_ret
  exact fin _ rfl
 ·by_cases h2:b≤65536
  ·have hn:b=(n:Int):=by rw [hN.out];omega
   subst hn
   clear hN
   have h3:(0:Int)≤(n:Int):=by omega
   have h4:¬(65536:Int)<(n:Int):=by omega
   go_enter Tryz.func12,Tryz.ntmps12
   go_wp2
   go_ret
   exact fin _ rfl
  ·have hn:n=65536:=by rw [hN.out];omega
   subst hn
   clear hN hle
   have h3:(0:Int)≤b:=by omega
   have h4:(65536:Int)<b:=by omega
   have hmk0:∀W:World,(Instr.makeSlice 41 (.int .i64 65536) (.int .i64 65536)).run Tryz.prog W=.ok (.slice (some ⟨W.heap.size,0,none⟩) 65536 65536) (W.alloc (.cells L 3)):=hmk
   clear hmk
   go_enter Tryz.func12,Tryz.ntmps12
   go_wp2
   go_ret
   exact fin _ rfl
end Go.Proofs.YtgpbhlfdlkemjaaGreat
namespace Go.Proofs.YtgpbhlfdlkemjaaGreat
open Go.RowKit
set_option linter.unusedVariables false
theorem write_down {F:List Nat}{p:Nat}{s:St}{w:World} (hD:IsD w F p s) (i:Int) (v:Value) (hd:s.down=true):Calls Tryz.prog 178 #[.pointer (some ⟨p,0,none⟩),.int .i64 i,v] w fun e w'=>e=.returned (.int .i64 9)∧w=w':=by
 have h1:=down_any hD
 rw [hd] at h1
 clear hD hd
 go_enter Tryz.func178,Tryz.ntmps178
 go_wp2_with (go_at_call 31;refine h1.mono ?_;rintro e w' ⟨rfl,rfl⟩)
 go_ret
 exact ⟨rfl,rfl⟩
theorem write_arg {F:List Nat}{p:Nat}{s:St}{w:World} (hD:IsD w F p s) (i:Int) (a:Option Addr) (n cap:Nat) (hd:s.down=false) (h:i<0∨(s.nb:Int)≤i∨n≠256):Calls Tryz.prog 178 #[.pointer (some ⟨p,0,none⟩),.int .i64 i,.slice a n cap] w fun e w'=>e=.returned (.int .i64 1)∧w=w':=by
 have h1:=down_any hD
 rw [hd] at h1
 by_cases hb:i<0∨(s.nb:Int)≤i
 ·have h2:=has_no hD i hb
  clear hD hd h hb
  go_enter Tryz.func178,Tryz.ntmps178
  go_wp2_with (first|(go_at_call 31;refine h1.mono ?_;rintro e w' ⟨rfl,rfl⟩)|(go_at_call 137;refine h2.mono ?_;rintro e w' ⟨rfl,rfl⟩))
  go_ret
  exact ⟨rfl,rfl⟩
 ·obtain ⟨k,rfl⟩:=Int.eq_ofNat_of_zero_le (show 0≤i by omega)
  have h2:=has_yes hD k (by omega)
  have hne:((n:Int) != 256)=true:=by simp;omega
  clear hD hd h hb
  go_enter Tryz.func178,Tryz.ntmps178
  go_wp2_with (first|(go_at_call 31;refine h1.mono ?_;rintro e w' ⟨rfl,rfl⟩)|(go_at_call 137;refine h2.mono ?_;rintro e w' ⟨rfl,rfl⟩))
  go_ret
  exact ⟨rfl,rfl⟩
theorem write_fuse {F:List Nat}{p:Nat}{s:St}{w:World} (hD:IsD w F p s) (k:Nat) (a:Option Addr) (cap:Nat) (hd:s.down=false) (hk:k<s.nb) (hf:s.fuse=0):Calls Tryz.prog 178 #[.pointer (some ⟨p,0,none⟩),.int .i64 (k:Int),.slice a 256 cap] w fun e w'=>e=.returned (.int .i64 9)∧IsD w' F p { s with down:=true }∧Kept F w w':=by
 have h1:=down_any hD
 rw [hd] at h1
 have h2:=has_yes hD k hk
 have hfin:=hD.setDown true
 obtain ⟨⟨c2,f2⟩,⟨c3,f3⟩⟩:=hD.cells
 rw [hf] at c2
 generalize s.down=y at c3
 clear hD hd hf
 go_enter Tryz.func178,Tryz.ntmps178
 go_wp2_with (first|(go_at_call 31;refine h1.mono ?_;rintro e w' ⟨rfl,rfl⟩)|(go_at_call 137;refine h2.mono ?_;rintro e w' ⟨rfl,rfl⟩))
 go_ret
 exact ⟨rfl,hfin⟩
theorem write_free {F:List Nat}{p:Nat}{s:St}{w:World} (hD:IsD w F p s) (k:Nat) (a:Option Addr) (cap:Nat) (l:List UInt8) (hd:s.down=false) (hk:k<s.nb) (hf:s.fuse<0) (hl:l.length=256) (hr:Reads w (.slice a 256 cap) l) (hb:s.ws.length≤100000):Calls Tryz.prog 178 #[.pointer (some ⟨p,0,none⟩),.int .i64 (k:Int),.slice a 256 cap] w fun e w'=>e=.returned (.int .i64 0)∧∃F',IsD w' F' p { s with ws:=s.ws++[(k,l)] }∧Kept F w w'∧NewF w F F':=by
 have h1:=down_any hD
 rw [hd] at h1
 have h2:=has_yes hD k hk
 have h3:=lay_any F p k s _ l w hD hk hl hr hb
 obtain ⟨⟨c2,f2⟩,⟨c3,f3⟩⟩:=hD.cells
 generalize hfu:s.fuse=f at c2 hf h3
 clear hD hd hfu hl hr hb c3 f3 f2
 have hf0:(f == 0)=false:=by simp;omega
 have hf1:¬0<f:=by omega
 go_enter Tryz.func178,Tryz.ntmps178
 go_wp2_with (first|(go_at_call 31;refine h1.mono ?_;rintro e w' ⟨rfl,rfl⟩)|(go_at_call 137;refine h2.mono ?_;rintro e w' ⟨rfl,rfl⟩)|(go_at_call 62;refine h3.mono ?_;rintro e w' ⟨rfl,h4⟩))
 go_ret
 exact ⟨rfl,h4⟩
theorem write_burn {F:List Nat}{p:Nat}{s:St}{w:World} (hD:IsD w F p s) (k:Nat) (a:Option Addr) (cap:Nat) (l:List UInt8) (hd:s.down=false) (hk:k<s.nb) (hf:0<s.fuse) (hl:l.length=256) (hr:Reads w (.slice a 256 cap) l) (hv:∀g,(Value.slice a 256 cap).ownBlock=some g→g∉F) (hb:s.ws.length≤100000):Calls Tryz.prog 178 #[.pointer (some ⟨p,0,none⟩),.int .i64 (k:Int),.slice a 256 cap] w fun e w'=>e=.returned (.int .i64 0)∧∃F',IsD w' F' p { s with fuse:=s.fuse-1,ws:=s.ws++[(k,l)] }∧Kept F w w'∧NewF w F F':=by
 have h1:=down_any hD
 rw [hd] at h1
 have h2:=has_yes hD k hk
 have ht:=hD.ok.top
 obtain ⟨hD1,hk1⟩:=hD.fuse (s.fuse-1) (by omega) (by omega)
 have h3:Calls Tryz.prog 62 #[.pointer (some ⟨p,0,none⟩),.int .i64 (k:Int),.slice a 256 cap] (w.setCell ⟨p,2,none⟩ (.int .i64 (s.fuse-1))) fun e w'=>e=.returned (.tuple #[])∧∃F',IsD w' F' p { s with fuse:=s.fuse-1,ws:=s.ws++[(k,l)] }∧Kept F w w'∧NewF w F F' :=
  (lay_any F p k _ _ l _ hD1 hk hl (hr.kept hk1 hv) hb).mono fun e w' ⟨he,F',a1,a2,a3⟩=>⟨he,F',a1,hk1.trans a2 (fun x hx=>.inl hx),fun x hx=>by rcases a3 x hx with h|h;exact .inl h;exact .inr (by simpa using h)⟩
 obtain ⟨⟨c2,f2⟩,⟨c3,f3⟩⟩:=hD.cells
 clear hD1 hk1
 generalize hfu:s.fuse=f at c2 hf h3 ht
 clear hD hd hfu hl hr hb c3 f3 hv
 have hf0:(f == 0)=false:=by simp;omega
 go_enter Tryz.func178,Tryz.ntmps178
 go_wp2_with (first|(go_at_call 31;refine h1.mono ?_;rintro e w' ⟨rfl,rfl⟩)|(go_at_call 137;refine h2.mono ?_;rintro e w' ⟨rfl,rfl⟩)|(go_at_call 62;refine h3.mono ?_;rintro e w' ⟨rfl,h4⟩))
 go_ret
 exact ⟨rfl,h4⟩
theorem write_any {F:List Nat}{p:Nat}{s:St}{w:World} (hD:IsD w F p s) (i:Int) (v:Value) (l:List UInt8) (hr:Reads w v l) (hv:∀g,v.ownBlock=some g→g∉F) (hb:s.ws.length≤100000) :
  Calls Tryz.prog 178 #[.pointer (some ⟨p,0,none⟩),.int .i64 i,v] w fun e w'=>e=.returned (.int .i64 (wrE s i l.length))∧∃F',IsD w' F' p (wrS s i l)∧Kept F w w'∧NewF w F F':=by
 have hr':=hr
 obtain ⟨a,cap,rfl,_,_,_,_⟩:=hr
 unfold wrE wrS
 by_cases hd:s.down=true
 ·rw [if_pos hd,if_pos hd]
  exact (write_down hD i _ hd).mono fun e w' ⟨he,hw⟩=>⟨he,F,hw▸hD,hw▸Kept.refl F w,NewF.refl w F⟩
 have hd':s.down=false:=by simpa using hd
 rw [if_neg hd,if_neg hd]
 by_cases h:i<0∨(s.nb:Int)≤i∨l.length≠256
 ·rw [if_pos h,if_pos h]
  exact (write_arg hD i a _ cap hd' h).mono fun e w' ⟨he,hw⟩=>⟨he,F,hw▸hD,hw▸Kept.refl F w,NewF.refl w F⟩
 rw [if_neg h,if_neg h]
 obtain ⟨k,rfl⟩:=Int.eq_ofNat_of_zero_le (show 0≤i by omega)
 have hl:l.length=256:=by omega
 have hk:k<s.nb:=by omega
 rw [hl] at hr' ⊢
 rw [hl] at hv
 by_cases hf:s.fuse=0
 ·rw [if_pos hf,if_pos hf]
  exact (write_fuse hD k a cap hd' hk hf).mono fun e w' ⟨he,h1,h2⟩=>⟨he,F,h1,h2,NewF.refl w F⟩
 rw [if_neg hf,if_neg hf]
 by_cases hp:0<s.fuse
 ·rw [if_pos hp]
  exact write_burn hD k a cap l hd' hk hp hl hr' hv hb
 ·rw [if_neg hp]
  exact write_free hD k a cap l hd' hk (by omega) hl hr' hb
end Go.Proofs.YtgpbhlfdlkemjaaGreat
namespace Go.Proofs.YtgpbhlfdlkemjaaGreat
open Go.RowKit
set_option linter.unusedVariables false
theorem make_bytes (W:World):(Instr.makeSlice 48 (.int .i64 256) (.int .i64 256)).run Tryz.prog W=.ok (.slice (some ⟨W.heap.size,0,none⟩) 256 256) (W.alloc (.cells (C8 (zs 256)).toArray 5)):=by
 obtain ⟨i0,hi,hz0,hz1,hz2⟩:=info_parts inf5
 have h:=run_make (P:=Tryz.prog) W 48 5 i0 _ Tryz.underlying48 hi hz0 .i64 .i64 256 256 (by omega) (by omega) (by rw [hz2];omega) (by omega)
 rw [h]
 have e:madeCells (Value.int .u8 0).cells (Int.toNat 256*i0.size)=(C8 (zs 256)).toArray:=by
  rw [hz1]
  apply Array.toList_inj.1
  rw [show (Value.int .u8 0).cells=#[.int .u8 0] from rfl,toList_madeCells_one]
  have e0:B8 0=.int .u8 0:=by simp [B8]
  show _=List.map B8 (List.replicate 256 0)
  rw [List.map_replicate,e0]
  rfl
 rw [e]
 rfl
theorem add_at (b o j:Nat):(⟨b,o,none⟩:Addr).add j=⟨b,o+j,none⟩:=by unfold Addr.add;split<;>simp_all
theorem copy_all (w:World) (g:Nat) (L p:List UInt8) (a:Option Addr) (cap:Nat) (hR:Row w g L) (hL:L.length=256) (hr:Reads w (.slice a 256 cap) p) (hp:p.length=256) :
  ∃w',(Builtin.copy_ #[48,48] 3 #[.slice (some ⟨g,0,none⟩) 256 256,.slice a 256 cap]).run Tryz.prog w=.ok (.int .i64 256) w'∧Row w' g p∧Kept [g] w w':=by
 obtain ⟨i0,hi,hz0,hz1,hz2⟩:=info_parts inf5
 have hs:(Tryz.prog.info? 5).map (·.size)=some 1:=by rw [hi];simp [hz1]
 rcases reads_cases hr with ⟨a',c',he,rfl,_⟩|⟨b,q,c',he,hh1,hh2,hc⟩
 ·simp at hp
 ·injection he with e1 e2 e3
  subst e1 e3
  have hrun:=run_copy_row (P:=Tryz.prog) w 48 48 3 5 g 0 256 256 ⟨b,q,none⟩ 256 cap (C8 L).toArray 5 (C8 p) Tryz.underlying48 hs hR (by rw [C8_length,hp];rfl) (fun j v hv=>by
   simp only [C8,List.getElem?_map,Option.map_eq_some_iff] at hv
   obtain ⟨u,hu,rfl⟩:=hv
   rw [add_at]
   exact hc j u hu) (by rw [List.size_toArray,C8_length,C8_length,hL,hp];omega) (C8_one p)
  rw [C8_length,hp] at hrun
  refine ⟨_,hrun,?_,⟨rfl,rfl,rfl,by simp [World.setRow],fun k hk hn=>setRow_other w g k _ (by intro e;subst e;simp at hn)⟩⟩
  unfold Row
  rw [setRow_heap w g _ _ 5 _ hR]
  have e:(C8 L).take 0++C8 p++(C8 L).drop (0+256)=C8 p:=by
   rw [List.drop_of_length_le (by rw [C8_length,hL];omega)]
   simp
  rw [e]
theorem new_zs (w:World):Row (w.alloc (.cells (C8 (zs 256)).toArray 5)) w.heap.size (zs 256):=heap_alloc_new w _
theorem IsD.lastCell {F:List Nat}{p:Nat}{s:St}{w:World} (hD:IsD w F p s) (i:Nat) (hi:i<s.nb):∃g,w.cell? ⟨p,1,none⟩=some (.slice (some ⟨g,0,none⟩) s.nb s.nb)∧w.cell? ⟨g,i,none⟩=some (.int .i64 (lastN s.ws i:Int)):=by
 obtain ⟨vd,g,hF,hbox,hown,hlast,_⟩:=hD
 refine ⟨g,(cells4 hbox).2.1,?_⟩
 rw [cell_of_row w g i _ 3 (0,0) hlast]
 simpa using lastC_at s.ws s.nb i hi
set_option maxRecDepth 100000 in
set_option maxHeartbeats 400000 in
theorem read_ok {F:List Nat}{p:Nat}{s:St}{w:World} (hD:IsD w F p s) (i:Nat) (hd:s.down=false) (hi:i<s.nb):Calls Tryz.prog 95 #[.pointer (some ⟨p,0,none⟩),.int .i64 (i:Int)] w fun e w'=>e=.returned (.tuple #[.slice (some ⟨w.heap.size,0,none⟩) 256 256,.int .i64 0])∧Row w' w.heap.size (blk s.ws i)∧Kept [] w w':=by
 have h1:=down_any hD
 rw [hd] at h1
 have h2:=has_yes hD i hi
 have hnb:=hD.ok.nb
 have hle:=lastN_le s.ws i
 have hmk:=make_bytes
 have hR0:=new_zs w
 have hK0:Kept [] w (w.alloc (.cells (C8 (zs 256)).toArray 5)):=(Kept.refl [] w).alloc _
 have hD0:=hD.kept hK0 (by simp)
 obtain ⟨g,c1,c2⟩:=hD0.lastCell i hi
 have hin:(i:Int)<(s.nb:Int):=by omega
 by_cases h0:lastN s.ws i=0
 ·have hb:blk s.ws i=zs 256:=by unfold blk;rw [if_pos h0]
  rw [hb]
  rw [h0] at c2
  generalize (Obj.cells (C8 (zs 256)).toArray 5)=O at hmk hR0 hK0 c1 c2
  generalize zs 256=Z at hR0
  clear hD hd hle h0 hb hD0
  go_enter Tryz.func95,Tryz.ntmps95
  go_wp2_with (first|(go_at_call 31;refine h1.mono ?_;rintro e w' ⟨rfl,rfl⟩)|(go_at_call 137;refine h2.mono ?_;rintro e w' ⟨rfl,rfl⟩))
  go_ret2
  exact ⟨rfl,hR0,hK0⟩
 ·obtain ⟨k,hk⟩:∃k,lastN s.ws i=k+1:=⟨lastN s.ws i-1,by omega⟩
  have hkl:k<s.ws.length:=by omega
  obtain ⟨x,hx⟩:∃x,s.ws[k]?=some x:=⟨s.ws[k],by simp⟩
  have hb:blk s.ws i=x.2:=by
   unfold blk
   rw [if_neg h0,hk,Nat.add_sub_cancel,List.getD_eq_getElem?_getD,hx]
   rfl
  have hxl:x.2.length=256:=(hD.ok.ws x (List.mem_of_getElem? hx)).2
  obtain ⟨gd,cap,c0,_,hrd,hcap,hm,_⟩:=hD0.row k x hx
  have hm':cap≤9223372036854775807:=hm
  rw [hb]
  rw [hk] at c2
  obtain ⟨w2,hrun,hR2,hk2⟩:=copy_all _ w.heap.size (zs 256) x.2 _ _ hR0 (zs_length 256) hrd hxl
  have hK2:Kept [] w w2:=hK0.trans hk2 (fun y hy=>.inr (by simp at hy;omega))
  have ek:((k+1:Nat):Int)=(k:Int)+1:=by omega
  rw [ek] at c2
  generalize (Obj.cells (C8 (zs 256)).toArray 5)=O at hmk hK0 c0 c1 c2 hrun
  generalize x.2=L at hR2
  generalize s.ws.length=n at hkl c0 hcap
  clear hD hd hle h0 hb hD0 hR0 hrd hk hx hxl hm ek hk2
  have hk0:(0:Int)<(k:Int)+1:=by omega
  have hkn:(k:Int)<(n:Int):=by omega
  go_enter Tryz.func95,Tryz.ntmps95
  go_wp2_with (first|(go_at_call 31;refine h1.mono ?_;rintro e w' ⟨rfl,rfl⟩)|(go_at_call 137;refine h2.mono ?_;rintro e w' ⟨rfl,rfl⟩))
  go_ret2
  exact ⟨rfl,hR2,hK2⟩
end Go.Proofs.YtgpbhlfdlkemjaaGreat
namespace Go.Proofs.YtgpbhlfdlkemjaaGreat
open Go.RowKit
set_option linter.unusedVariables false
end Go.Proofs.YtgpbhlfdlkemjaaGreat
namespace Go.Proofs.YtgpbhlfdlkemjaaGreat
open Go.RowKit
set_option linter.unusedVariables false
theorem make_writes (c:Nat) (h:c≤100000):∃M:Array Value,M.size=c*257∧∀W,(Instr.makeSlice 69 (.int .i64 0) (.int .i64 (c:Int))).run Tryz.prog W=.ok (.slice (some ⟨W.heap.size,0,none⟩) 0 c) (W.alloc (.cells M 119)):=by
 obtain ⟨i0,hi,hz0,hz1,hz2⟩:=info_parts inf56
 refine ⟨madeCells (Value.agg (wcells 0 (zs 256)).toArray).cells (Int.toNat (c:Int)*i0.size),?_,fun W=>?_⟩
 ·rw [hz1]
  simp [madeCells]
 ·have h:=run_make (P:=Tryz.prog) W 69 119 i0 _ Tryz.underlying69 hi hz0 .i64 .i64 0 (c:Int) (by omega) (by omega) (by rw [hz2];omega) (by omega)
  rw [h]
  rfl
theorem cut_start {F:List Nat}{p:Nat}{s:St}{w:World} (hD:IsD w F p s) (h0:s.ws=[]) (M:Array Value) (c:Nat) (hM:M.size=c*257) (hc:c≤100000) :
  ((w.alloc (.cells M 119)).frozen? ⟨p,0,none⟩=false∧∃vd,(w.alloc (.cells M 119)).cell? ⟨p,0,none⟩=some vd)∧∃F',IsD ((w.alloc (.cells M 119)).setCell ⟨p,0,none⟩ (.slice (some ⟨w.heap.size,0,none⟩) 0 c)) F' p s∧Kept F w ((w.alloc (.cells M 119)).setCell ⟨p,0,none⟩ (.slice (some ⟨w.heap.size,0,none⟩) 0 c))∧NewF w F F':=by
 have hlt:=hD.lt
 obtain ⟨vd,g,hF,hbox,hown,hlast,hpg,hap,hag,hok⟩:=hD
 have hp:p<w.heap.size:=hlt p (by rw [hF];simp)
 have hg:g<w.heap.size:=hlt g (by rw [hF];simp)
 have hbox1:=((Kept.refl [] w).alloc (.cells M 119)).keeps hbox (by simp)
 have hlast1:=((Kept.refl [] w).alloc (.cells M 119)).keeps hlast (by simp)
 have hmade:=World.ownsRow_made (base:=0) (e:=119) (size:=257) w M c (Nat.zero_le _) (by unfold maxLen;omega) hM
 refine ⟨⟨free4 hbox1 0,vd,(cells4 hbox1).1⟩,_,⟨.slice (some ⟨w.heap.size,0,none⟩) 0 c,g,rfl,?_,?_,?_,hpg,?_,?_,hok⟩,?_,?_⟩
 ·rw [heap_setCell_same _ p 0 _ 71 _ hbox1];rfl
 ·rw [h0]
  exact ownsRow_setCell_other hmade (by simp [Value.ownBlock];omega) _
 ·rw [heap_setCell_other _ _ _ _ (fun e=>hpg e.symm)];exact hlast1
 ·simp [Value.ownBlock];omega
 ·simp [Value.ownBlock];omega
 ·exact ((Kept.refl F w).alloc _).setCell (.inl (by rw [hF];simp)) _
 ·intro x hx
  simp only [Value.ownBlock,Option.toList_some,List.mem_cons,List.not_mem_nil,or_false] at hx
  rcases hx with rfl|rfl|rfl
  ·exact .inl (by rw [hF];simp)
  ·exact .inl (by rw [hF];simp)
  ·exact .inr (Nat.le_refl _)
theorem new_nb (n:Nat) (h:n≤65536) (w:World):Calls Tryz.prog 12 #[.int .i64 (n:Int)] w fun e w'=>∃p,e=.returned (.pointer (some ⟨p,0,none⟩))∧∃F,IsD w' F p ⟨n,[],-1,false⟩∧Kept [] w w'∧∀x∈F,w.heap.size≤x:=by
 have h1:=new_any (n:Int) w
 have e:newS (n:Int)=⟨n,[],-1,false⟩:=by
  unfold newS newN
  congr 1
  omega
 rw [e] at h1
 exact h1
theorem take_snoc (ws:List Wr) (j:Nat) (x:Wr) (hx:ws[j]?=some x):ws.take (j+1)=ws.take j++[(x.1,x.2)]:=by
 obtain ⟨h,rfl⟩:=List.getElem?_eq_some_iff.1 hx
 rw [List.take_succ_eq_append_getElem h]
set_option maxRecDepth 100000 in
set_option maxHeartbeats 1000000 in
theorem cut_some {F:List Nat}{p:Nat}{s:St}{w:World} (hD:IsD w F p s) (c:Nat) (hc:c≤s.ws.length) (hb:s.ws.length≤100000) :
  Calls Tryz.prog 29 #[.pointer (some ⟨p,0,none⟩),.int .i64 (c:Int)] w fun e w'=>∃q,e=.returned (.pointer (some ⟨q,0,none⟩))∧∃G,IsD w' G q ⟨s.nb,s.ws.take c,-1,false⟩∧Kept [] w w'∧∀x∈G,w.heap.size≤x:=by
 have hok:=hD.ok
 have hw1:=writes_any hD
 have hb1:=blocks_any hD
 have hn1:=new_nb s.nb hok.nb w
 obtain ⟨M,hM,hmk⟩:=make_writes c (by omega)
 have HD:Hid (∀W,Kept [] w W→IsD W F p s):=fun W k=>hD.kept k (by simp)
 have hlt:=hD.lt
 clear hD
 have t1:¬(c:Int)<0:=by omega
 have t2:¬(s.ws.length:Int)<(c:Int):=by omega
 go_enter Tryz.func29,Tryz.ntmps29
 go_wp2_with (first|(go_at_call 28;refine hw1.mono ?_;rintro e w' ⟨rfl,rfl⟩)|(go_at_call 33;refine hb1.mono ?_;rintro e w' ⟨rfl,rfl⟩))
 refine hn1.mono ?_
 rintro e wa ⟨q,rfl,F1,hDa,ka,n1⟩
 obtain ⟨⟨hfz,vd,hcv⟩,F2,hDb,kb,n2⟩:=cut_start hDa rfl M c hM (by omega)
 have hKb:Kept [] w ((wa.alloc (.cells M 119)).setCell ⟨q,0,none⟩ (.slice (some ⟨wa.heap.size,0,none⟩) 0 c)):=ka.trans kb (fun x hx=>.inr (n1 x hx))
 have hNb:∀x∈F2,w.heap.size≤x:=fun x hx=>by
  rcases n2 x hx with h|h
  ·exact n1 x h
  ·have:=ka.size;omega
 have hTk:(s.ws.take 0)=[]:=rfl
 clear hn1 hw1 hb1 hDa ka n1 kb n2 hM
 go_wp2_with fail
 generalize (wa.alloc (.cells M 119)).setCell ⟨q,0,none⟩ (.slice (some ⟨wa.heap.size,0,none⟩) 0 c)=wb at hDb hKb
 clear hfz hcv hmk
 go_loopw [6,23] (fun _ i wr=>∃j:Nat,i=.int .i64 (j:Int)∧∃F',j≤c∧IsD wr F' q ⟨s.nb,s.ws.take j,-1,false⟩∧Kept [] w wr∧(∀x∈F',w.heap.size≤x)) (fun _ i _=>c-(intOf i).toNat)
 case atStart=>exact ⟨0,rfl,F2,by omega,by rw [hTk];exact hDb,hKb,hNb⟩
 case round =>
  clear hDb hKb hNb hTk
  obtain ⟨j,rfl,F',hj,hDc,hK,hN⟩:=hrel
  by_cases hjc:j<c
  ·have hlt2:(j:Int)<(c:Int):=by omega
   have hjl:j<s.ws.length:=by omega
   obtain ⟨x,hx⟩:∃x,s.ws[j]?=some x:=⟨s.ws[j],by simp⟩
   have hD:=HD.out wr hK
   obtain ⟨gd,cap,c0,c1,hrd,hcap,hm,hgd⟩:=hD.row j x hx
   have hm':cap≤9223372036854775807:=hm
   have hxo:=hok.ws x (List.mem_of_getElem? hx)
   have hpF:p∈F:=by obtain ⟨vd,g,hF,_⟩:=hD;rw [hF];simp
   have hns:∀y∈F,y∉F':=fun y hy hm=>by have:=hlt y hy;have:=hN y hm;omega
   have S0:wr.drew.cell? ⟨p,0,none⟩=some (.slice (some ⟨gd,0,none⟩) s.ws.length cap)∧wr.drew.cell? ⟨gd,j*257,none⟩=some (.int .i64 (x.1:Int)):=⟨c0,c1⟩
   have hly:Calls Tryz.prog 62 #[.pointer (some ⟨q,0,none⟩),.int .i64 (x.1:Int),.slice (some ⟨gd,j*257+1,none⟩) 256 256] wr.drew fun e wc=>e=.returned (.tuple #[])∧(wc.cell? ⟨p,0,none⟩=some (.slice (some ⟨gd,0,none⟩) s.ws.length cap)∧wc.cell? ⟨gd,j*257,none⟩=some (.int .i64 (x.1:Int)))∧∃F'',IsD wc F'' q ⟨s.nb,s.ws.take (j+1),-1,false⟩∧Kept [] w wc∧∀y∈F'',w.heap.size≤y:=by
    refine (lay_any F' q x.1 _ _ x.2 _ (hDc.kept ((Kept.refl [] wr).drew) (by simp)) hxo.1 hxo.2 (hrd.kept ((Kept.refl [] wr).drew) (by simp)) (by show (s.ws.take j).length≤100000;rw [List.length_take];omega)).mono fun e wc ⟨he,F'',d1,d2,d3⟩=>⟨he,⟨?_,?_⟩,F'',?_,hK.drew.trans d2 (fun y hy=>.inr (hN y hy)),fun y hy=>?_⟩
    ·rw [d2.cell (World.block_lt_of_cell? _ _ S0.1) (hns p hpF)];exact S0.1
    ·rw [d2.cell (World.block_lt_of_cell? _ _ S0.2) (hns gd hgd)];exact S0.2
    ·rw [take_snoc s.ws j x hx];exact d1
    ·rcases d3 y hy with h|h
     ·exact hN y h
     ·have h':wr.heap.size≤y:=h
      have:=hK.size;omega
   generalize hTT:s.ws.take (j+1)=T at hly
   have HT:Hid (s.ws.take (j+1)=T):=hTT
   clear hTT
   generalize s.ws.length=L at S0 hly hcap hjl
   generalize x.1=y at S0 hly
   have hjL:(j:Int)<(L:Int):=by omega
   clear hD c0 c1 hrd hm hgd hxo hpF hns hx hDc hK hN
   go_wp2_with fail
   go_region_held3 (fun w'=>w'.cell? ⟨p,0,none⟩=some (.slice (some ⟨gd,0,none⟩) L cap)∧w'.cell? ⟨gd,j*257,none⟩=some (.int .i64 (y:Int))) (first|exact S0|exact S1) (first|(go_at_call 62;refine hly.mono ?_;rintro e wc ⟨rfl,S1,hE⟩))
   all_goals
    obtain ⟨F'',d1,d2,d3⟩:=hE
    clear S0 S1 hly
    go_wp2_with fail
    go_roundw
    case rel=>exact ⟨j+1,by go_num,F'',by omega,by rw [HT.out];exact d1,d2,d3⟩
    case measure=>simp [intOf];omega
  ·have hlt2:¬(j:Int)<(c:Int):=by omega
   have hjc:j=c:=by omega
   subst hjc
   go_wp2
   go_ret
   exact ⟨q,rfl,F',hDc,hK,hN⟩
set_option maxRecDepth 100000 in
set_option maxHeartbeats 1000000 in
theorem cut_over {F:List Nat}{p:Nat}{s:St}{w:World} (hD:IsD w F p s) (c:Nat) (hc:c≤s.ws.length) (hcc:s.ws.length=c) (n:Int) (hn:(c:Int)<n) (hb:s.ws.length≤100000) :
  Calls Tryz.prog 29 #[.pointer (some ⟨p,0,none⟩),.int .i64 n] w fun e w'=>∃q,e=.returned (.pointer (some ⟨q,0,none⟩))∧∃G,IsD w' G q ⟨s.nb,s.ws.take c,-1,false⟩∧Kept [] w w'∧∀x∈G,w.heap.size≤x:=by
 have hok:=hD.ok
 have hw1:=writes_any hD
 have hb1:=blocks_any hD
 have hn1:=new_nb s.nb hok.nb w
 obtain ⟨M,hM,hmk⟩:=make_writes c (by omega)
 have HD:Hid (∀W,Kept [] w W→IsD W F p s):=fun W k=>hD.kept k (by simp)
 have hlt:=hD.lt
 clear hD
 rw [hcc] at hw1
 have HCC:Hid (s.ws.length=c):=hcc
 clear hcc
 have t1:¬n<0:=by omega
 have t2:(c:Int)<n:=by omega
 go_enter Tryz.func29,Tryz.ntmps29
 go_wp2_with (first|(go_at_call 28;refine hw1.mono ?_;rintro e w' ⟨rfl,rfl⟩)|(go_at_call 33;refine hb1.mono ?_;rintro e w' ⟨rfl,rfl⟩))
 refine hn1.mono ?_
 rintro e wa ⟨q,rfl,F1,hDa,ka,n1⟩
 obtain ⟨⟨hfz,vd,hcv⟩,F2,hDb,kb,n2⟩:=cut_start hDa rfl M c hM (by omega)
 have hKb:Kept [] w ((wa.alloc (.cells M 119)).setCell ⟨q,0,none⟩ (.slice (some ⟨wa.heap.size,0,none⟩) 0 c)):=ka.trans kb (fun x hx=>.inr (n1 x hx))
 have hNb:∀x∈F2,w.heap.size≤x:=fun x hx=>by
  rcases n2 x hx with h|h
  ·exact n1 x h
  ·have:=ka.size;omega
 have hTk:(s.ws.take 0)=[]:=rfl
 clear hn1 hw1 hb1 hDa ka n1 kb n2 hM
 go_wp2_with fail
 generalize (wa.alloc (.cells M 119)).setCell ⟨q,0,none⟩ (.slice (some ⟨wa.heap.size,0,none⟩) 0 c)=wb at hDb hKb
 clear hfz hcv hmk
 go_loopw [6,23] (fun _ i wr=>∃j:Nat,i=.int .i64 (j:Int)∧∃F',j≤c∧IsD wr F' q ⟨s.nb,s.ws.take j,-1,false⟩∧Kept [] w wr∧(∀x∈F',w.heap.size≤x)) (fun _ i _=>c-(intOf i).toNat)
 case atStart=>exact ⟨0,rfl,F2,by omega,by rw [hTk];exact hDb,hKb,hNb⟩
 case round =>
  clear hDb hKb hNb hTk
  obtain ⟨j,rfl,F',hj,hDc,hK,hN⟩:=hrel
  by_cases hjc:j<c
  ·have hlt2:(j:Int)<(c:Int):=by omega
   have hjl:j<s.ws.length:=by rw [HCC.out];exact hjc
   obtain ⟨x,hx⟩:∃x,s.ws[j]?=some x:=⟨s.ws[j],by simp⟩
   have hD:=HD.out wr hK
   obtain ⟨gd,cap,c0,c1,hrd,hcap,hm,hgd⟩:=hD.row j x hx
   have hm':cap≤9223372036854775807:=hm
   have hxo:=hok.ws x (List.mem_of_getElem? hx)
   have hpF:p∈F:=by obtain ⟨vd,g,hF,_⟩:=hD;rw [hF];simp
   have hns:∀y∈F,y∉F':=fun y hy hm=>by have:=hlt y hy;have:=hN y hm;omega
   have S0:wr.drew.cell? ⟨p,0,none⟩=some (.slice (some ⟨gd,0,none⟩) s.ws.length cap)∧wr.drew.cell? ⟨gd,j*257,none⟩=some (.int .i64 (x.1:Int)):=⟨c0,c1⟩
   have hly:Calls Tryz.prog 62 #[.pointer (some ⟨q,0,none⟩),.int .i64 (x.1:Int),.slice (some ⟨gd,j*257+1,none⟩) 256 256] wr.drew fun e wc=>e=.returned (.tuple #[])∧(wc.cell? ⟨p,0,none⟩=some (.slice (some ⟨gd,0,none⟩) s.ws.length cap)∧wc.cell? ⟨gd,j*257,none⟩=some (.int .i64 (x.1:Int)))∧∃F'',IsD wc F'' q ⟨s.nb,s.ws.take (j+1),-1,false⟩∧Kept [] w wc∧∀y∈F'',w.heap.size≤y:=by
    refine (lay_any F' q x.1 _ _ x.2 _ (hDc.kept ((Kept.refl [] wr).drew) (by simp)) hxo.1 hxo.2 (hrd.kept ((Kept.refl [] wr).drew) (by simp)) (by show (s.ws.take j).length≤100000;rw [List.length_take];omega)).mono fun e wc ⟨he,F'',d1,d2,d3⟩=>⟨he,⟨?_,?_⟩,F'',?_,hK.drew.trans d2 (fun y hy=>.inr (hN y hy)),fun y hy=>?_⟩
    ·rw [d2.cell (World.block_lt_of_cell? _ _ S0.1) (hns p hpF)];exact S0.1
    ·rw [d2.cell (World.block_lt_of_cell? _ _ S0.2) (hns gd hgd)];exact S0.2
    ·rw [take_snoc s.ws j x hx];exact d1
    ·rcases d3 y hy with h|h
     ·exact hN y h
     ·have h':wr.heap.size≤y:=h
      have:=hK.size;omega
   generalize hTT:s.ws.take (j+1)=T at hly
   have HT:Hid (s.ws.take (j+1)=T):=hTT
   clear hTT
   generalize s.ws.length=L at S0 hly hcap hjl
   generalize x.1=y at S0 hly
   have hjL:(j:Int)<(L:Int):=by omega
   clear hD c0 c1 hrd hm hgd hxo hpF hns hx hDc hK hN
   go_wp2_with fail
   go_region_held3 (fun w'=>w'.cell? ⟨p,0,none⟩=some (.slice (some ⟨gd,0,none⟩) L cap)∧w'.cell? ⟨gd,j*257,none⟩=some (.int .i64 (y:Int))) (first|exact S0|exact S1) (first|(go_at_call 62;refine hly.mono ?_;rintro e wc ⟨rfl,S1,hE⟩))
   all_goals
    obtain ⟨F'',d1,d2,d3⟩:=hE
    clear S0 S1 hly
    go_wp2_with fail
    go_roundw
    case rel=>exact ⟨j+1,by go_num,F'',by omega,by rw [HT.out];exact d1,d2,d3⟩
    case measure=>simp [intOf];omega
  ·have hlt2:¬(j:Int)<(c:Int):=by omega
   have hjc:j=c:=by omega
   subst hjc
   go_wp2
   go_ret
   exact ⟨q,rfl,F',hDc,hK,hN⟩
set_option maxRecDepth 100000 in
set_option maxHeartbeats 1000000 in
theorem cut_neg {F:List Nat}{p:Nat}{s:St}{w:World} (hD:IsD w F p s) (n:Int) (hn:n<0) (hb:s.ws.length≤100000) :
  Calls Tryz.prog 29 #[.pointer (some ⟨p,0,none⟩),.int .i64 n] w fun e w'=>∃q,e=.returned (.pointer (some ⟨q,0,none⟩))∧∃G,IsD w' G q ⟨s.nb,[],-1,false⟩∧Kept [] w w'∧∀x∈G,w.heap.size≤x:=by
 have hok:=hD.ok
 have hw1:=writes_any hD
 have hb1:=blocks_any hD
 have hn1:=new_nb s.nb hok.nb w
 obtain ⟨M,hM,hmk0⟩:=make_writes 0 (by omega)
 have hmk:∀W:World,(Instr.makeSlice 69 (.int .i64 0) (.int .i64 0)).run Tryz.prog W=.ok (.slice (some ⟨W.heap.size,0,none⟩) 0 0) (W.alloc (.cells M 119)):=hmk0
 clear hmk0
 have HD:Hid (∀W,Kept [] w W→IsD W F p s):=fun W k=>hD.kept k (by simp)
 have hlt:=hD.lt
 clear hD
 have t2:¬(s.ws.length:Int)<0:=by omega
 go_enter Tryz.func29,Tryz.ntmps29
 go_wp2_with (first|(go_at_call 28;refine hw1.mono ?_;rintro e w' ⟨rfl,rfl⟩)|(go_at_call 33;refine hb1.mono ?_;rintro e w' ⟨rfl,rfl⟩))
 refine hn1.mono ?_
 rintro e wa ⟨q,rfl,F1,hDa,ka,n1⟩
 obtain ⟨⟨hfz,vd,hcv⟩,F2,hDb,kb,n2⟩:=cut_start hDa rfl M 0 hM (by omega)
 have hKb:Kept [] w ((wa.alloc (.cells M 119)).setCell ⟨q,0,none⟩ (.slice (some ⟨wa.heap.size,0,none⟩) 0 0)):=ka.trans kb (fun x hx=>.inr (n1 x hx))
 have hNb:∀x∈F2,w.heap.size≤x:=fun x hx=>by
  rcases n2 x hx with h|h
  ·exact n1 x h
  ·have:=ka.size;omega
 have hTk:(s.ws.take 0)=[]:=rfl
 clear hn1 hw1 hb1 hDa ka n1 kb n2 hM
 go_wp2_with fail
 generalize (wa.alloc (.cells M 119)).setCell ⟨q,0,none⟩ (.slice (some ⟨wa.heap.size,0,none⟩) 0 0)=wb at hDb hKb
 clear hfz hcv hmk
 go_loopw [6,23] (fun _ i wr=>i=.int .i64 0∧wr=wb) (fun _ i _=>0)
 case atStart=>exact ⟨rfl,rfl⟩
 case round =>
  obtain ⟨rfl,rfl⟩:=hrel
  go_wp2
  go_ret
  exact ⟨q,rfl,F2,hDb,hKb,hNb⟩
theorem cut_any {F:List Nat}{p:Nat}{s:St}{w:World} (hD:IsD w F p s) (n:Int) (hb:s.ws.length≤100000) :
  Calls Tryz.prog 29 #[.pointer (some ⟨p,0,none⟩),.int .i64 n] w fun e w'=>∃q,e=.returned (.pointer (some ⟨q,0,none⟩))∧∃G,IsD w' G q (cutS s n)∧Kept [] w w'∧∀x∈G,w.heap.size≤x:=by
 unfold cutS cutN
 by_cases h0:n<0
 ·rw [show (min (max n 0) (s.ws.length:Int)).toNat=0 by omega]
  exact cut_neg hD n h0 hb
 ·obtain ⟨c,rfl⟩:=Int.eq_ofNat_of_zero_le (show 0≤n by omega)
  by_cases hc:c≤s.ws.length
  ·rw [show (min (max (c:Int) 0) (s.ws.length:Int)).toNat=c by omega]
   exact cut_some hD c hc hb
  ·rw [show (min (max (c:Int) 0) (s.ws.length:Int)).toNat=s.ws.length by omega]
   exact cut_over hD s.ws.length (Nat.le_refl _) rfl (c:Int) (by omega) hb
end Go.Proofs.YtgpbhlfdlkemjaaGreat
