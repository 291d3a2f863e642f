import Derived.Test.YtgpbhlfdlkemjaaGreatH06
/-
 part.block: a part's sealed block, in new memory.
-/
namespace Go.Proofs.YtgpbhlfdlkemjaaGreat
open Go.RowKit
set_option linter.unusedVariables false
theorem owns_row {w:World}{g:Nat}{l m:List UInt8} (h:Row w g (l++m)) (n c:Nat) (hn:l.length=n) (hc:n+m.length=c) (hm:c≤maxLen):Owns 5 w (.slice (some ⟨g,0,none⟩) n c) l:=by
 subst hn hc
 refine ⟨by rw [C8_length,Nat.mul_one],.inr ⟨g,_,_,rfl,Nat.zero_le _,h,by omega,hm,by simp [C8_length],?_⟩⟩
 rw [Nat.mul_one]
 show (C8 (l++m)).take l.length=C8 l
 rw [C8_append,←C8_length l,List.take_left']
 rfl
theorem make4 (n:Nat) (hn:n≤238) (W:World):(Instr.makeSlice 48 (.int .i64 0) (.int .i64 (4+(n:Int)))).run Tryz.prog W=.ok (.slice (some ⟨W.heap.size,0,none⟩) 0 (4+n)) (W.alloc (.cells (C8 (zs (4+n))).toArray 5)):=by
 obtain ⟨i0,hi,hz0,hz1,hz2⟩:=info_parts inf5
 have h:=run_make (P:=Tryz.prog) W 48 5 i0 _ Tryz.underlying48 hi hz0 .i64 .i64 0 (4+(n:Int)) (by omega) (by omega) (by rw [hz2];omega) (by omega)
 have e9:(4+(n:Int)).toNat=4+n:=by omega
 rw [h,e9]
 have e:madeCells (Value.int .u8 0).cells ((4+n)*i0.size)=(C8 (zs (4+n))).toArray:=by
  rw [hz1]
  apply Array.toList_inj.1
  rw [show (Value.int .u8 0).cells=#[.int .u8 0] from rfl,toList_madeCells_one]
  have e0:B8 0=.int .u8 0:=by simp [B8]
  show _=List.map B8 (List.replicate (4+n) 0)
  rw [List.map_replicate,e0,Nat.mul_one]
 rw [e]
 rfl
theorem byte_hi (N:Nat):Value.int .u8 ((N:Int) / 256%256)=B8 (UInt8.ofNat (N / 256)):=B8_of (N / 256) _ (by omega)
theorem byte_lo (N:Nat):Value.int .u8 ((N:Int)%256)=B8 (UInt8.ofNat N):=B8_of N _ (by omega)
theorem step_append_run {ops:Array Oper}{o:Oper}{a:Act}{w:World}{Q:Exit→Act→World→Prop} (t:TypeId) (sl x:Operand) (ho:o.op=.call { callee:=.builtin .append,args:=#[sl,x],argTypes:=#[t,t] }) (hg:o.guard=none) (v y:Value) (hs:a.eval sl=v) (hx:a.eval x=y) {K:Act→World→Prop}{E:Prop}{r:Value}{w':World} (hrun:(Builtin.append_ #[t,t] o.type #[v,y]).run Tryz.prog w=.ok r w') (hK:K (a.put o.dst r) w') :
  if Region.wanted o (yielded ops a.tmps)=true then Oper.wp Tryz.prog o a w K Q else E:=by
 have hw:Region.wanted o (yielded ops a.tmps)=true:=by simp [Region.wanted,hg]
 rw [if_pos hw]
 unfold Oper.wp execOp
 simp only [ho,resolve,invoke,builtin,Sem.run_bind,Sem.run_pure,Result.andThen_ok,List.map_toArray,List.map_cons,List.map_nil,hs,hx,hrun]
 exact hK
theorem wpList_append_run {w:World}{ops:Array Oper}{rest:List Oper}{o:Oper}{a:Act}{Q:Exit→Act→World→Prop} (t:TypeId) (sl x:Operand)
  (ho:o.op=.call { callee:=.builtin .append,args:=#[sl,x],argTypes:=#[t,t] }) (hgd:Region.wanted o (yielded ops a.tmps)=true) (v y:Value) (hs:a.eval sl=v) (hx:a.eval x=y) (r:Value) (w':World) (hrun:(Builtin.append_ #[t,t] o.type #[v,y]).run Tryz.prog w=.ok r w')
  (h:wpList Tryz.prog ops Q rest (a.put o.dst r) w'):wpList Tryz.prog ops Q (o::rest) a w:=by
 refine wpList_step fun K hK=>?_
 rw [if_pos hgd]
 unfold Oper.wp execOp
 simp only [ho,resolve,invoke,builtin,Sem.run_bind,Sem.run_pure,Result.andThen_ok,List.map_toArray,List.map_cons,List.map_nil,hs,hx,hrun]
 exact hK _ _ h
theorem head_row (w:World) (N nx:Nat) (t:Bool) (n:Nat) (hN:N=hdN t n) (h6:N<65536) (hx:nx<65536):Reads (w.alloc (.cells #[.int .u8 ((N:Int) / 256),.int .u8 ((N:Int)%256),.int .u8 ((nx:Int) / 256),.int .u8 ((nx:Int)%256)] 5)) (.slice (some ⟨w.heap.size,0,none⟩) 4 4) (hd t n nx):=by
 have e1:(N:Int) / 256=(N:Int) / 256%256:=by omega
 have e2:(nx:Int) / 256=(nx:Int) / 256%256:=by omega
 rw [e1,e2]
 have hR:Row (w.alloc (.cells #[.int .u8 ((N:Int) / 256%256),.int .u8 ((N:Int)%256),.int .u8 ((nx:Int) / 256%256),.int .u8 ((nx:Int)%256)] 5)) w.heap.size (hd t n nx):=by
  have e:(#[.int .u8 ((N:Int) / 256%256),.int .u8 ((N:Int)%256),.int .u8 ((nx:Int) / 256%256),.int .u8 ((nx:Int)%256)]:Array Value)=(C8 (hd t n nx)).toArray:=by
   rw [byte_hi,byte_lo,byte_hi,byte_lo,hN]
   rfl
  rw [e]
  exact heap_alloc_new w _
 exact (owns_row (m:=[]) (by rw [List.append_nil];exact hR) 4 4 rfl rfl (by unfold maxLen;omega)).reads
set_option maxRecDepth 100000 in
set_option maxHeartbeats 1000000 in
theorem block_false (N n nx nm i:Nat) (a:Option Addr) (k c:Nat) (l:List UInt8) (w:World) (hN:n=hdN false n) (hnm:nm<65536) (hi:i<65536) (hn:n<32768) (hnx:nx<65536) (hk:l.length=k) (hl:k≤238) (hr:Reads w (.slice a k c) l) :
  Calls Tryz.prog 179 #[ptV false n nx (.slice a k c),.int .i64 (nm:Int),.int .i64 (i:Int)] w fun e w'=>∃v',e=.returned v'∧Sealed w w' v' (blkP false n nx nm i l):=by
 have hN6:n<65536:=by rw [hN];unfold hdN;split<;>omega
 have k2:Kept [] w (((w.alloc (.cells #[.bool false,.int .i64 (n:Int),.int .i64 (nx:Int),.slice a k c] 161)).alloc (.cells (C8 (zs (4+k))).toArray 5)).alloc (.cells #[.int .u8 ((n:Int) / 256),.int .u8 ((n:Int)%256),.int .u8 ((nx:Int) / 256),.int .u8 ((nx:Int)%256)] 5)):=((kept_alloc w _).alloc _).alloc _
 have hb2:Bx (((w.alloc (.cells #[.bool false,.int .i64 (n:Int),.int .i64 (nx:Int),.slice a k c] 161)).alloc (.cells (C8 (zs (4+k))).toArray 5)).alloc (.cells #[.int .u8 ((n:Int) / 256),.int .u8 ((n:Int)%256),.int .u8 ((nx:Int) / 256),.int .u8 ((nx:Int)%256)] 5)) w.heap.size false n nx (.slice a k c):=by
  have h0:Bx (w.alloc (.cells #[.bool false,.int .i64 (n:Int),.int .i64 (nx:Int),.slice a k c] 161)) w.heap.size false n nx (.slice a k c):=heap_alloc_new w _
  exact (h0.kept (kept_alloc _ _) (by simp)).kept (kept_alloc _ _) (by simp)
 have hR1:Row ((w.alloc (.cells #[.bool false,.int .i64 (n:Int),.int .i64 (nx:Int),.slice a k c] 161)).alloc (.cells (C8 (zs (4+k))).toArray 5)) (w.heap.size+1) (zs (4+k)):=by
  have:=heap_alloc_new (w.alloc (.cells #[.bool false,.int .i64 (n:Int),.int .i64 (nx:Int),.slice a k c] 161)) (.cells (C8 (zs (4+k))).toArray 5)
  rw [World.size_alloc] at this
  exact this
 have hO:Owns 5 (((w.alloc (.cells #[.bool false,.int .i64 (n:Int),.int .i64 (nx:Int),.slice a k c] 161)).alloc (.cells (C8 (zs (4+k))).toArray 5)).alloc (.cells #[.int .u8 ((n:Int) / 256),.int .u8 ((n:Int)%256),.int .u8 ((nx:Int) / 256),.int .u8 ((nx:Int)%256)] 5)) (.slice (some ⟨w.heap.size+1,0,none⟩) 0 (4+k)) []:=(owns_row (l:=[]) (m:=zs (4+k)) hR1 0 (4+k) rfl (by rw [zs_length];omega) (by unfold maxLen;omega)).kept (kept_alloc _ _) (by simp)
 have hh:Reads (((w.alloc (.cells #[.bool false,.int .i64 (n:Int),.int .i64 (nx:Int),.slice a k c] 161)).alloc (.cells (C8 (zs (4+k))).toArray 5)).alloc (.cells #[.int .u8 ((n:Int) / 256),.int .u8 ((n:Int)%256),.int .u8 ((nx:Int) / 256),.int .u8 ((nx:Int)%256)] 5)) (.slice (some ⟨w.heap.size+1+1,0,none⟩) 4 4) (hd false n nx):=by
  have:=head_row ((w.alloc (.cells #[.bool false,.int .i64 (n:Int),.int .i64 (nx:Int),.slice a k c] 161)).alloc (.cells (C8 (zs (4+k))).toArray 5)) n nx false n hN (by omega) hnx
  rw [World.size_alloc,World.size_alloc] at this
  exact this
 obtain ⟨ad,n1,c1,w3,hrun,hO3,hg3,hN3⟩:=run_append_reads _ 48 _ [] hO _ _ hh (by simp [hd])
 rw [List.nil_append] at hO3
 have k3:Kept [] w w3:=k2.grown hg3 (fun x hx=>.inr (by simp [Value.ownBlock] at hx;omega))
 have hb3:Bx w3 w.heap.size false n nx (.slice a k c):=hb2.kept ((Kept.refl [w.heap.size+1] _).grown hg3 (fun x hx=>.inl (by simp [Value.ownBlock] at hx;simp [hx]))) (by simp)
 have hr3:=(hr.kept k3 (by simp)).kept (Kept.refl [] w3).drew (by simp)
 have hb3d:=hb3.kept (Kept.refl [] w3).drew (by simp)
 obtain ⟨ad5,n5,c5,w5,hrun5,hO5,hg5,hN5⟩:=run_append_reads w3.drew 48 _ _ (hO3.kept (Kept.refl [] w3).drew (by simp)) _ _ hr3 (by rw [hk];simp [hd];omega)
 have hF3:Fresh w (.slice ad n1 c1):=fun g hg=>by
  rcases hN3 g hg with h|h
  ·simp [Value.ownBlock] at h;omega
  ·have:=k2.size;omega
 have hF3b:(Value.slice ad n1 c1).ownBlock≠some w.heap.size:=fun h=>by
  rcases hN3 _ h with h|h
  ·simp [Value.ownBlock] at h
  ·have:=hb2.lt;omega
 have k5:Kept [] w w5:=k3.drew.grown hg5 (fun x hx=>.inr (hF3 x hx))
 have hb5:Bx w5 w.heap.size false n nx (.slice a k c):=hb3d.kept ((Kept.refl [] _).mono (by simp) |>.grown (S:=(Value.slice ad n1 c1).ownBlock.toList) hg5 (fun x hx=>.inl (by rw [Option.mem_toList];exact hx))) (by rw [Option.mem_toList];exact hF3b)
 have hlt:(hd false n nx++l).length≤242:=by rw [List.length_append,hk];simp [hd];omega
 have hse:Calls Tryz.prog 182 #[.int .u8 3,.int .u32 (plc nm i:Int),.slice ad5 n5 c5] w5 fun e w'=>∃v',e=.returned (.tuple #[v',.int .i64 0])∧Sealed w5 w' v' (blkP false n nx nm i l):=seal_any 3 (plc nm i) _ (hd false n nx++l) w5 (plc_lt hnm hi) hlt hO5.reads
 have hmk:=make4 k hl
 have hor:bits .or .i64 (n:Int) 32768=((n+32768:Nat):Int):=or_head n hn
 have hP:=fun W=>place_any nm i W hnm hi
 have S0:w3.drew.cell? ⟨w.heap.size,3,none⟩=some (.slice a k c):=hb3d.cells.2.2.2
 have S1:w5.cell? ⟨w.heap.size,3,none⟩=some (.slice a k c):=hb5.cells.2.2.2
 have hb5lt:=hb5.lt
 have hfin:∀w' v',Sealed w5 w' v' (blkP false n nx nm i l)→Sealed w w' v' (blkP false n nx nm i l):=fun w' v' h=>h.mono k5
 generalize blkP false n nx nm i l=BL at hse hfin ⊢
 clear hk hr hR1 hO hh hO3 hg3 hN3 k3 hb3 hr3 hb3d hO5 hg5 hN5 hF3 hF3b k5 hb5 k2 hb2 hN hlt
 go_enter Tryz.func179,Tryz.ntmps179
 go_wp2_with (at_builtin;refine wpList_append_run 48 _ _ rfl rfl _ _ rfl rfl _ _ hrun ?_)
 generalize w.heap.size=b at S0 S1 hb5lt
 clear hrun hmk hor
 refine wp_region_held_drew (S:=fun w'=>w'.cell? ⟨b,3,none⟩=some (.slice a k c)) (by kernel_rfl) S0 (fun _=>?_)
 refine wpAnyH_take (i:=0) (v:=.int .i64 (nm:Int)) rfl (by kernel_rfl) (by kernel_rfl) (by kernel_rfl) (fun _ _ _ h=>h) (Or.inl ⟨by rfl,fun w hS=>by have hS':w.cell? ⟨b,3,none⟩=some (.slice a k c):=hS;go_simp⟩) S0 ?_
 go_simp
 refine wpAnyH_take (i:=1) (v:=.int .i64 (i:Int)) rfl (by kernel_rfl) (by kernel_rfl) (by kernel_rfl) (fun _ _ _ h=>h) (Or.inl ⟨by rfl,fun w hS=>by have hS':w.cell? ⟨b,3,none⟩=some (.slice a k c):=hS;go_simp⟩) S0 ?_
 go_simp
 refine wpAnyH_take (i:=3) (v:=.slice ad n1 c1) rfl (by kernel_rfl) (by kernel_rfl) (by kernel_rfl) (fun _ _ _ h=>h) (Or.inl ⟨by rfl,fun w hS=>by have hS':w.cell? ⟨b,3,none⟩=some (.slice a k c):=hS;go_simp⟩) S0 ?_
 go_simp
 refine wpAnyH_take (i:=4) (v:=.pointer (some ⟨b,3,none⟩)) rfl (by kernel_rfl) (by kernel_rfl) (by kernel_rfl) (fun _ _ _ h=>h) (Or.inl ⟨by rfl,fun w hS=>by have hS':w.cell? ⟨b,3,none⟩=some (.slice a k c):=hS;go_simp⟩) S0 ?_
 go_simp
 refine wpAnyH_take (i:=5) (v:=.slice a k c) rfl (by kernel_rfl) (by kernel_rfl) (by kernel_rfl) (fun _ _ _ h=>h) (Or.inl ⟨by rfl,fun w hS=>by have hS':w.cell? ⟨b,3,none⟩=some (.slice a k c):=hS;go_simp⟩) S0 ?_
 go_simp
 refine wpAnyH_ready (rs:=[2]) (by kernel_rfl) (by simp) (AllReadyH.cons rfl (fun K hK=>?_) AllReadyH.nil)
 go_simp
 refine (hP _).mono ?_
 rintro e wp ⟨rfl,rfl⟩
 refine hK.out _ _ S0 (fun _=>?_)
 clear hK K
 go_simp
 refine wpAnyH_ready (rs:=[6]) (by kernel_rfl) (by simp) (AllReadyH.cons rfl (fun K hK=>?_) AllReadyH.nil)
 refine step_append_run 48 (.tmp 41) (.tmp 43) (by rfl) (by rfl) _ _ (by rfl) (by rfl) hrun5 (hK.out _ _ S1 (fun _=>?_))
 clear hK K
 go_simp
 refine wpAnyH_ready (rs:=[7]) (by kernel_rfl) (by simp) (AllReadyH.cons rfl (fun K hK=>?_) AllReadyH.nil)
 go_simp
 refine (hse).mono ?_
 rintro e w9 ⟨v9,rfl,hS9⟩
 have S9:w9.cell? ⟨b,3,none⟩=some (.slice a k c):=by rw [hS9.kept.cell hb5lt (by simp)];exact S1
 refine hK.out _ _ S9 (fun _=>?_)
 clear hK K
 go_simp
 refine wpAnyH_take (i:=8) (v:=.tuple #[v9,.int .i64 0]) rfl (by kernel_rfl) (by kernel_rfl) (by kernel_rfl) (fun _ _ _ h=>h) (Or.inl ⟨by rfl,fun w hS=>by have hS':w.cell? ⟨b,3,none⟩=some (.slice a k c):=hS;go_simp⟩) S9 ?_
 go_simp
 refine wpAnyH_take (i:=9) (v:=v9) rfl (by kernel_rfl) (by kernel_rfl) (by kernel_rfl) (fun _ _ _ h=>h) (Or.inl ⟨by rfl,fun w hS=>by have hS':w.cell? ⟨b,3,none⟩=some (.slice a k c):=hS;go_simp⟩) S9 ?_
 go_simp
 refine wpAnyH_take (i:=10) (v:=.int .i64 0) rfl (by kernel_rfl) (by kernel_rfl) (by kernel_rfl) (fun _ _ _ h=>h) (Or.inl ⟨by rfl,fun w hS=>by have hS':w.cell? ⟨b,3,none⟩=some (.slice a k c):=hS;go_simp⟩) S9 ?_
 go_simp
 refine wpAnyH_take (i:=11) (v:=v9) rfl (by kernel_rfl) (by kernel_rfl) (by kernel_rfl) (fun _ _ _ h=>h) (Or.inl ⟨by rfl,fun w hS=>by have hS':w.cell? ⟨b,3,none⟩=some (.slice a k c):=hS;go_simp⟩) S9 ?_
 go_simp
 refine wpAnyH_take (i:=12) (v:=.int .i64 0) rfl (by kernel_rfl) (by kernel_rfl) (by kernel_rfl) (fun _ _ _ h=>h) (Or.inl ⟨by rfl,fun w hS=>by have hS':w.cell? ⟨b,3,none⟩=some (.slice a k c):=hS;go_simp⟩) S9 ?_
 go_simp
 refine wpAnyH_done (by kernel_rfl) ?_ _
 have hf:=hfin _ _ hS9
 clear hse hS9 hfin S0 S1 S9 hP hrun5
 go_wp2_with fail
 go_ret
 exact ⟨_,rfl,hf⟩
set_option maxRecDepth 100000 in
set_option maxHeartbeats 1000000 in
theorem block_true (N n nx nm i:Nat) (a:Option Addr) (k c:Nat) (l:List UInt8) (w:World) (hN:N=hdN true n) (hnm:nm<65536) (hi:i<65536) (hn:n<32768) (hnx:nx<65536) (hk:l.length=k) (hl:k≤238) (hr:Reads w (.slice a k c) l) :
  Calls Tryz.prog 179 #[ptV true n nx (.slice a k c),.int .i64 (nm:Int),.int .i64 (i:Int)] w fun e w'=>∃v',e=.returned v'∧Sealed w w' v' (blkP true n nx nm i l):=by
 have hN6:N<65536:=by rw [hN];unfold hdN;split<;>omega
 have k2:Kept [] w (((w.alloc (.cells #[.bool true,.int .i64 (n:Int),.int .i64 (nx:Int),.slice a k c] 161)).alloc (.cells (C8 (zs (4+k))).toArray 5)).alloc (.cells #[.int .u8 ((N:Int) / 256),.int .u8 ((N:Int)%256),.int .u8 ((nx:Int) / 256),.int .u8 ((nx:Int)%256)] 5)):=((kept_alloc w _).alloc _).alloc _
 have hb2:Bx (((w.alloc (.cells #[.bool true,.int .i64 (n:Int),.int .i64 (nx:Int),.slice a k c] 161)).alloc (.cells (C8 (zs (4+k))).toArray 5)).alloc (.cells #[.int .u8 ((N:Int) / 256),.int .u8 ((N:Int)%256),.int .u8 ((nx:Int) / 256),.int .u8 ((nx:Int)%256)] 5)) w.heap.size true n nx (.slice a k c):=by
  have h0:Bx (w.alloc (.cells #[.bool true,.int .i64 (n:Int),.int .i64 (nx:Int),.slice a k c] 161)) w.heap.size true n nx (.slice a k c):=heap_alloc_new w _
  exact (h0.kept (kept_alloc _ _) (by simp)).kept (kept_alloc _ _) (by simp)
 have hR1:Row ((w.alloc (.cells #[.bool true,.int .i64 (n:Int),.int .i64 (nx:Int),.slice a k c] 161)).alloc (.cells (C8 (zs (4+k))).toArray 5)) (w.heap.size+1) (zs (4+k)):=by
  have:=heap_alloc_new (w.alloc (.cells #[.bool true,.int .i64 (n:Int),.int .i64 (nx:Int),.slice a k c] 161)) (.cells (C8 (zs (4+k))).toArray 5)
  rw [World.size_alloc] at this
  exact this
 have hO:Owns 5 (((w.alloc (.cells #[.bool true,.int .i64 (n:Int),.int .i64 (nx:Int),.slice a k c] 161)).alloc (.cells (C8 (zs (4+k))).toArray 5)).alloc (.cells #[.int .u8 ((N:Int) / 256),.int .u8 ((N:Int)%256),.int .u8 ((nx:Int) / 256),.int .u8 ((nx:Int)%256)] 5)) (.slice (some ⟨w.heap.size+1,0,none⟩) 0 (4+k)) []:=(owns_row (l:=[]) (m:=zs (4+k)) hR1 0 (4+k) rfl (by rw [zs_length];omega) (by unfold maxLen;omega)).kept (kept_alloc _ _) (by simp)
 have hh:Reads (((w.alloc (.cells #[.bool true,.int .i64 (n:Int),.int .i64 (nx:Int),.slice a k c] 161)).alloc (.cells (C8 (zs (4+k))).toArray 5)).alloc (.cells #[.int .u8 ((N:Int) / 256),.int .u8 ((N:Int)%256),.int .u8 ((nx:Int) / 256),.int .u8 ((nx:Int)%256)] 5)) (.slice (some ⟨w.heap.size+1+1,0,none⟩) 4 4) (hd true n nx):=by
  have:=head_row ((w.alloc (.cells #[.bool true,.int .i64 (n:Int),.int .i64 (nx:Int),.slice a k c] 161)).alloc (.cells (C8 (zs (4+k))).toArray 5)) N nx true n hN (by omega) hnx
  rw [World.size_alloc,World.size_alloc] at this
  exact this
 obtain ⟨ad,n1,c1,w3,hrun,hO3,hg3,hN3⟩:=run_append_reads _ 48 _ [] hO _ _ hh (by simp [hd])
 rw [List.nil_append] at hO3
 have k3:Kept [] w w3:=k2.grown hg3 (fun x hx=>.inr (by simp [Value.ownBlock] at hx;omega))
 have hb3:Bx w3 w.heap.size true n nx (.slice a k c):=hb2.kept ((Kept.refl [w.heap.size+1] _).grown hg3 (fun x hx=>.inl (by simp [Value.ownBlock] at hx;simp [hx]))) (by simp)
 have hr3:=(hr.kept k3 (by simp)).kept (Kept.refl [] w3).drew (by simp)
 have hb3d:=hb3.kept (Kept.refl [] w3).drew (by simp)
 obtain ⟨ad5,n5,c5,w5,hrun5,hO5,hg5,hN5⟩:=run_append_reads w3.drew 48 _ _ (hO3.kept (Kept.refl [] w3).drew (by simp)) _ _ hr3 (by rw [hk];simp [hd];omega)
 have hF3:Fresh w (.slice ad n1 c1):=fun g hg=>by
  rcases hN3 g hg with h|h
  ·simp [Value.ownBlock] at h;omega
  ·have:=k2.size;omega
 have hF3b:(Value.slice ad n1 c1).ownBlock≠some w.heap.size:=fun h=>by
  rcases hN3 _ h with h|h
  ·simp [Value.ownBlock] at h
  ·have:=hb2.lt;omega
 have k5:Kept [] w w5:=k3.drew.grown hg5 (fun x hx=>.inr (hF3 x hx))
 have hb5:Bx w5 w.heap.size true n nx (.slice a k c):=hb3d.kept ((Kept.refl [] _).mono (by simp) |>.grown (S:=(Value.slice ad n1 c1).ownBlock.toList) hg5 (fun x hx=>.inl (by rw [Option.mem_toList];exact hx))) (by rw [Option.mem_toList];exact hF3b)
 have hlt:(hd true n nx++l).length≤242:=by rw [List.length_append,hk];simp [hd];omega
 have hse:Calls Tryz.prog 182 #[.int .u8 3,.int .u32 (plc nm i:Int),.slice ad5 n5 c5] w5 fun e w'=>∃v',e=.returned (.tuple #[v',.int .i64 0])∧Sealed w5 w' v' (blkP true n nx nm i l):=seal_any 3 (plc nm i) _ (hd true n nx++l) w5 (plc_lt hnm hi) hlt hO5.reads
 have hmk:=make4 k hl
 have hor:bits .or .i64 (n:Int) 32768=((n+32768:Nat):Int):=or_head n hn
 rw [show n+32768=N by rw [hN];rfl] at hor
 have hP:=fun W=>place_any nm i W hnm hi
 have S0:w3.drew.cell? ⟨w.heap.size,3,none⟩=some (.slice a k c):=hb3d.cells.2.2.2
 have S1:w5.cell? ⟨w.heap.size,3,none⟩=some (.slice a k c):=hb5.cells.2.2.2
 have hb5lt:=hb5.lt
 have hfin:∀w' v',Sealed w5 w' v' (blkP true n nx nm i l)→Sealed w w' v' (blkP true n nx nm i l):=fun w' v' h=>h.mono k5
 generalize blkP true n nx nm i l=BL at hse hfin ⊢
 clear hk hr hR1 hO hh hO3 hg3 hN3 k3 hb3 hr3 hb3d hO5 hg5 hN5 hF3 hF3b k5 hb5 k2 hb2 hN hlt
 go_enter Tryz.func179,Tryz.ntmps179
 go_wp2_with (at_builtin;refine wpList_append_run 48 _ _ rfl rfl _ _ rfl rfl _ _ hrun ?_)
 generalize w.heap.size=b at S0 S1 hb5lt
 clear hrun hmk hor
 refine wp_region_held_drew (S:=fun w'=>w'.cell? ⟨b,3,none⟩=some (.slice a k c)) (by kernel_rfl) S0 (fun _=>?_)
 refine wpAnyH_take (i:=0) (v:=.int .i64 (nm:Int)) rfl (by kernel_rfl) (by kernel_rfl) (by kernel_rfl) (fun _ _ _ h=>h) (Or.inl ⟨by rfl,fun w hS=>by have hS':w.cell? ⟨b,3,none⟩=some (.slice a k c):=hS;go_simp⟩) S0 ?_
 go_simp
 refine wpAnyH_take (i:=1) (v:=.int .i64 (i:Int)) rfl (by kernel_rfl) (by kernel_rfl) (by kernel_rfl) (fun _ _ _ h=>h) (Or.inl ⟨by rfl,fun w hS=>by have hS':w.cell? ⟨b,3,none⟩=some (.slice a k c):=hS;go_simp⟩) S0 ?_
 go_simp
 refine wpAnyH_take (i:=3) (v:=.slice ad n1 c1) rfl (by kernel_rfl) (by kernel_rfl) (by kernel_rfl) (fun _ _ _ h=>h) (Or.inl ⟨by rfl,fun w hS=>by have hS':w.cell? ⟨b,3,none⟩=some (.slice a k c):=hS;go_simp⟩) S0 ?_
 go_simp
 refine wpAnyH_take (i:=4) (v:=.pointer (some ⟨b,3,none⟩)) rfl (by kernel_rfl) (by kernel_rfl) (by kernel_rfl) (fun _ _ _ h=>h) (Or.inl ⟨by rfl,fun w hS=>by have hS':w.cell? ⟨b,3,none⟩=some (.slice a k c):=hS;go_simp⟩) S0 ?_
 go_simp
 refine wpAnyH_take (i:=5) (v:=.slice a k c) rfl (by kernel_rfl) (by kernel_rfl) (by kernel_rfl) (fun _ _ _ h=>h) (Or.inl ⟨by rfl,fun w hS=>by have hS':w.cell? ⟨b,3,none⟩=some (.slice a k c):=hS;go_simp⟩) S0 ?_
 go_simp
 refine wpAnyH_ready (rs:=[2]) (by kernel_rfl) (by simp) (AllReadyH.cons rfl (fun K hK=>?_) AllReadyH.nil)
 go_simp
 refine (hP _).mono ?_
 rintro e wp ⟨rfl,rfl⟩
 refine hK.out _ _ S0 (fun _=>?_)
 clear hK K
 go_simp
 refine wpAnyH_ready (rs:=[6]) (by kernel_rfl) (by simp) (AllReadyH.cons rfl (fun K hK=>?_) AllReadyH.nil)
 refine step_append_run 48 (.tmp 41) (.tmp 43) (by rfl) (by rfl) _ _ (by rfl) (by rfl) hrun5 (hK.out _ _ S1 (fun _=>?_))
 clear hK K
 go_simp
 refine wpAnyH_ready (rs:=[7]) (by kernel_rfl) (by simp) (AllReadyH.cons rfl (fun K hK=>?_) AllReadyH.nil)
 go_simp
 refine (hse).mono ?_
 rintro e w9 ⟨v9,rfl,hS9⟩
 have S9:w9.cell? ⟨b,3,none⟩=some (.slice a k c):=by rw [hS9.kept.cell hb5lt (by simp)];exact S1
 refine hK.out _ _ S9 (fun _=>?_)
 clear hK K
 go_simp
 refine wpAnyH_take (i:=8) (v:=.tuple #[v9,.int .i64 0]) rfl (by kernel_rfl) (by kernel_rfl) (by kernel_rfl) (fun _ _ _ h=>h) (Or.inl ⟨by rfl,fun w hS=>by have hS':w.cell? ⟨b,3,none⟩=some (.slice a k c):=hS;go_simp⟩) S9 ?_
 go_simp
 refine wpAnyH_take (i:=9) (v:=v9) rfl (by kernel_rfl) (by kernel_rfl) (by kernel_rfl) (fun _ _ _ h=>h) (Or.inl ⟨by rfl,fun w hS=>by have hS':w.cell? ⟨b,3,none⟩=some (.slice a k c):=hS;go_simp⟩) S9 ?_
 go_simp
 refine wpAnyH_take (i:=10) (v:=.int .i64 0) rfl (by kernel_rfl) (by kernel_rfl) (by kernel_rfl) (fun _ _ _ h=>h) (Or.inl ⟨by rfl,fun w hS=>by have hS':w.cell? ⟨b,3,none⟩=some (.slice a k c):=hS;go_simp⟩) S9 ?_
 go_simp
 refine wpAnyH_take (i:=11) (v:=v9) rfl (by kernel_rfl) (by kernel_rfl) (by kernel_rfl) (fun _ _ _ h=>h) (Or.inl ⟨by rfl,fun w hS=>by have hS':w.cell? ⟨b,3,none⟩=some (.slice a k c):=hS;go_simp⟩) S9 ?_
 go_simp
 refine wpAnyH_take (i:=12) (v:=.int .i64 0) rfl (by kernel_rfl) (by kernel_rfl) (by kernel_rfl) (fun _ _ _ h=>h) (Or.inl ⟨by rfl,fun w hS=>by have hS':w.cell? ⟨b,3,none⟩=some (.slice a k c):=hS;go_simp⟩) S9 ?_
 go_simp
 refine wpAnyH_done (by kernel_rfl) ?_ _
 have hf:=hfin _ _ hS9
 clear hse hS9 hfin S0 S1 S9 hP hrun5
 go_wp2_with fail
 go_ret
 exact ⟨_,rfl,hf⟩
theorem block_any (t:Bool) (n nx nm i:Nat) (a:Option Addr) (k c:Nat) (l:List UInt8) (w:World) (hnm:nm<65536) (hi:i<65536) (hn:n<32768) (hnx:nx<65536) (hk:l.length=k) (hl:k≤238) (hr:Reads w (.slice a k c) l) :
  Calls Tryz.prog 179 #[ptV t n nx (.slice a k c),.int .i64 (nm:Int),.int .i64 (i:Int)] w fun e w'=>∃v',e=.returned v'∧Sealed w w' v' (blkP t n nx nm i l):=by
 cases t with
 | false=>exact block_false 0 n nx nm i a k c l w rfl hnm hi hn hnx hk hl hr
 | true=>exact block_true _ n nx nm i a k c l w rfl hnm hi hn hnx hk hl hr
end Go.Proofs.YtgpbhlfdlkemjaaGreat
