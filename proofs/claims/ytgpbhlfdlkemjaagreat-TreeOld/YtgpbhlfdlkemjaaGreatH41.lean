import Derived.Test.YtgpbhlfdlkemjaaGreatH40
/-
 loader.texts: the texts that refs tell.
-/
namespace Go.Proofs.YtgpbhlfdlkemjaaGreat
open Go.RowKit
set_option linter.unusedVariables false
def RC (rs:List (Nat × Nat)):List (List Value):=rs.map fun r=>[.int .i64 (r.1:Int),.int .u64 (r.2:Int)]
def SE (rs:List (Nat × Nat)):List (Int × Value):=rs.map fun r=>((r.1:Int),unit0)
theorem RC_at {w:World}{a:Option Addr}{n c j:Nat}{rs:List (Nat × Nat)}{r:Nat × Nat} (h:ReadsR 2 w (.slice a n c) (RC rs)) (hj:rs[j]?=some r):∃b o,a=some ⟨b,o,none⟩∧w.cell? ⟨b,o+j*2,none⟩=some (.int .i64 (r.1:Int))∧w.cell? ⟨b,o+j*2+1,none⟩=some (.int .u64 (r.2:Int)):=by
 obtain ⟨b,o,c',h1,h2⟩:=h.at j [.int .i64 (r.1:Int),.int .u64 (r.2:Int)] (by simp [RC,hj])
 injection h1 with e1 e2 e3
 exact ⟨b,o,e1,h2 0 _ rfl,h2 1 _ rfl⟩
theorem SE_keys (m:List (Int × Value)) (rs:List (Nat × Nat)):(m++SE rs).map (·.1)=m.map (·.1)++rs.map fun r=>(r.1:Int):=by
 rw [List.map_append,SE,List.map_map]
 rfl
theorem unseen_next {m:List (Int × Value)}{rs:List (Nat × Nat)}{j:Nat}{r:Nat × Nat} (hnew:(m.map (·.1)++rs.map fun r=>(r.1:Int)).Nodup) (hr:rs[j]?=some r):(r.1:Int)∉(m++SE (rs.take j)).map (·.1):=by
 obtain ⟨hlt,hr'⟩:=List.getElem?_eq_some_iff.1 hr
 have e:rs=rs.take j++r::rs.drop (j+1):=by rw [←hr',List.getElem_cons_drop,List.take_append_drop]
 rw [e,List.map_append,List.map_cons,←List.append_assoc] at hnew
 rw [SE_keys]
 intro hm
 exact (List.nodup_append.1 hnew).2.2 _ hm _ (List.mem_cons_self ..) rfl
theorem names_nodup {m:List (Int × Value)}{rs:List (Nat × Nat)} (h:(m.map (·.1)++rs.map fun r=>(r.1:Int)).Nodup):(rs.map (·.1)).Nodup:=by
 have h1:=(List.nodup_append.1 h).2.1
 refine List.pairwise_map.2 ((List.pairwise_map.1 h1).imp fun hne e=>hne (by rw [e]))
theorem SE_next (m:List (Int × Value)) {rs:List (Nat × Nat)}{j:Nat}{r:Nat × Nat} (hr:rs[j]?=some r):m++SE (rs.take j)++[((r.1:Int),unit0)]=m++SE (rs.take (j+1)):=by
 rw [List.append_assoc,List.take_add_one,hr]
 simp [SE]
theorem cell_lt {w:World}{p:Addr}{v:Value} (h:w.cell? p=some v):p.block<w.heap.size:=by
 apply Decidable.byContradiction
 intro hn
 have e:w.heap[p.block]?=none:=Array.getElem?_eq_none (by omega)
 simp [World.cell?,e] at h
section
variable {w:World}
set_option maxRecDepth 100000 in
set_option maxHeartbeats 4000000 in
theorem texts_any {X D:Nat→Prop}{tx:Nat→List UInt8}{f:FuncId}{cap:Array Value}{lb mb:Nat}{m:List (Int × Value)}{vr:Value}{rs:List (Nat × Nat)} (hb:w.heap[lb]?=some (.cells #[.func (.func f) #[] cap,.map (some mb)] 135 (0,0))) (hm:Mp w mb m) (hlm:lb≠mb) (hrs:ReadsR 2 w vr (RC rs)) (hvm:vr.ownBlock≠some mb) (hX:¬X mb) (hR:Rdr X D tx f cap w) (hD:∀r∈rs,D r.1) (hsum:∀r∈rs,fnv (tx r.1)=r.2) (hnew:(m.map (·.1)++rs.map fun r=>(r.1:Int)).Nodup) (hlt:∀r∈rs,r.1<65536) (hl:rs.length≤100000) (hml:m.length≤500000) :
  Calls Tryz.prog 104 #[Pp lb,vr] w fun e w'=>∃vt,e=.returned (.tuple #[vt,.int .i64 0])∧Txs w w' vt (rs.map fun r=>tx r.1)∧Mp w' mb (m++SE rs)∧Kept [mb] w w':=by
 obtain ⟨ad,c,rfl,hc1,hc2⟩:=hrs.form
 have hrl:(RC rs).length=rs.length:=List.length_map ..
 rw [hrl] at hrs hvm hc1 ⊢
 have H0:=Hid.mk (And.intro hb (And.intro hm (And.intro hlm (And.intro hrs (And.intro hvm (And.intro hX hR))))))
 have H1:=Hid.mk (And.intro hD (And.intro hsum (And.intro hnew (And.intro hlt hml))))
 clear hb hm hlm hrs hvm hX hR hD hsum hnew hlt hml hrl hc1 hc2
 go_enter Tryz.func104,Tryz.ntmps104
 go_wp2
 go_loopw [6,17] (fun u x wr=>∃j:Nat,j≤rs.length∧x=.int .i64 (j:Int)∧Hid (Kept [mb] w wr∧Mp wr mb (m++SE (rs.take j))∧OwnsI wr u ((rs.take j).map (·.1))∧Fresh w u)) (fun _ x _=>rs.length-(intOf x).toNat)
 case atStart=>exact ⟨0,by omega,rfl,Hid.mk ⟨Kept.refl _ _,by simpa [SE] using H0.out.2.1,World.ownsRow_nil _ 0 3 1,fun g hg=>by simp [Value.ownBlock] at hg⟩⟩
 case round =>
  obtain ⟨j,hj,rfl,HX⟩:=hrel
  by_cases hlt:j<rs.length
  ·obtain ⟨r,hr⟩:∃r,rs[j]?=some r:=⟨_,List.getElem?_eq_getElem hlt⟩
   obtain ⟨hk,hM,hO,hF⟩:=HX.out
   obtain ⟨hb,hm,hlm,hrs,hvm,hX,hR⟩:=H0.out
   obtain ⟨hD,hsum,hnew,hl6,hml⟩:=H1.out
   have hrm:r∈rs:=List.mem_of_getElem? hr
   have hr6:=hl6 r hrm
   have hbw:=hk.keeps hb (by simpa using hlm)
   have hrw:=hrs.kept hk (fun g hg h=>hvm (by rw [hg];simpa using h))
   obtain ⟨b,o,rfl,c0,c1⟩:=RC_at hrw hr
   have hmb:=hM.lt
   have hlb:=lt_of_block hbw
   have hl1:wr.cell? ⟨lb,1,none⟩=some (.map (some mb)):=by simp [World.cell?,hbw]
   have hnk:(r.1:Int)∉(m++SE (rs.take j)).map (·.1):=unseen_next hnew hr
   have hwf:(Lit.int .i64 (r.1:Int)).wf=true:=wf_nat (by omega)
   have HL:=Hid.mk (And.intro hk (And.intro hM (And.intro hO (And.intro hF (And.intro hr (And.intro hbw (And.intro hrw (And.intro hnk hwf))))))))
   have k1:Kept [] wr (wr.alloc (.cells #[.int .i64 (r.1:Int),.int .u64 (r.2:Int)] 102)):=(Kept.refl [] wr).alloc _
   have hp0:=(cell_new2 wr (.int .i64 (r.1:Int)) (.int .u64 (r.2:Int)) 102).1
   have hw1:=heap_alloc_new wr (.cells #[.int .i64 (r.1:Int),.int .u64 (r.2:Int)] 102)
   have HS:Hid (∀W,Kept [] (wr.alloc (.cells #[.int .i64 (r.1:Int),.int .u64 (r.2:Int)] 102)) W→W.cell? ⟨lb,1,none⟩=some (.map (some mb))∧W.cell? ⟨wr.heap.size,0,none⟩=some (.int .i64 (r.1:Int))∧(Instr.lookup 133 (.map (some mb)) (.int .i64 (r.1:Int)) true).run Tryz.prog W=.ok (.tuple #[unit0,.bool false]) W):=Hid.mk fun W kW=>by
    have e1:=kW.keeps (k1.keeps hbw (by simp)) (by simp)
    have e2:=kW.keeps hw1 (by simp)
    exact ⟨by simp [World.cell?,e1],by simp [World.cell?,e2],((hM.kept k1 (by simp)).kept kW (by simp)).unseen hwf hnk⟩
   have HK1:=Hid.mk k1
   have HW1:=Hid.mk hw1
   have kd:Kept [] (wr.alloc (.cells #[.int .i64 (r.1:Int),.int .u64 (r.2:Int)] 102)) (wr.alloc (.cells #[.int .i64 (r.1:Int),.int .u64 (r.2:Int)] 102)).drew:=(Kept.refl [] _).drew
   clear hk hM hO hF hb hm hlm hrs hvm hX hR hD hsum hnew hl6 hml hrm hbw hrw hnk hwf HX hp0 hw1 k1 hl1
   go_wp2_with fail
   generalize wr.alloc (.cells #[.int .i64 (r.1:Int),.int .u64 (r.2:Int)] 102)=W1 at *
   go_region_held3 (fun V=>V.cell? ⟨lb,1,none⟩=some (.map (some mb))∧V.cell? ⟨wr.heap.size,0,none⟩=some (.int .i64 (r.1:Int))∧(Instr.lookup 133 (.map (some mb)) (.int .i64 (r.1:Int)) true).run Tryz.prog V=.ok (.tuple #[unit0,.bool false]) V) (first|exact HS.out _ kd|exact HS.out _ (kd.alloc _)) (fail)
   all_goals
    have k2:Kept [] W1 (W1.alloc (.cells #[] 132)).drew:=((Kept.refl [] W1).alloc _).drew
    generalize (W1.alloc (.cells #[] 132)).drew=W2 at *
    obtain ⟨hk,hM,hO,hF,hr,hbw,hrw,hnk,hwf⟩:=HL.out
    have k12:Kept [] wr W2.drew:=(HK1.out.trans k2 (by simp)).drew
    have hln:(m++SE (rs.take j)).length<1000000:=by have:=H1.out.2.2.2.2;simp [SE];omega
    obtain ⟨w3,hrun3,hM3,k3⟩:=(hM.kept k12 (by simp)).see unit0 hwf hnk hln
    have S2:=HS.out _ k2
    have S3:w3.cell? ⟨lb,1,none⟩=some (.map (some mb))∧w3.cell? ⟨wr.heap.size,0,none⟩=some (.int .i64 (r.1:Int)):=by
     have e1:=k3.keeps (k12.keeps hbw (by simp)) (by simpa using H0.out.2.2.1)
     have e2:=k3.keeps (((k2.keeps HW1.out (by simp)):W2.drew.heap[wr.heap.size]?=_)) (by have:=hM.lt;simp;omega)
     exact ⟨by simp [World.cell?,e1],by simp [World.cell?,e2]⟩
    have hO3:OwnsI w3 u6 ((rs.take j).map (·.1)):=(hO.kept k12 (by simp)).kept k3 (fun g hg hh=>by have h1:=hF g hg;have h2:=H0.out.2.1.lt;simp at hh;omega)
    have H3:=Hid.mk (And.intro hM3 (And.intro k3 k12))
    clear hk hM hO hF hr hbw hrw hnk hwf k12 hM3 k3 hln kd k2
    obtain ⟨s1,s2,-⟩:=S2
    have SD:W2.drew.cell? ⟨lb,1,none⟩=some (.map (some mb))∧W2.drew.cell? ⟨wr.heap.size,0,none⟩=some (.int .i64 (r.1:Int)):=⟨s1,s2⟩
    obtain ⟨ad4,c4,w4,hrun4,hO4,k4,hN4⟩:=append_int hO3 r.1 (by rw [List.length_map,List.length_take];omega)
    have H4:=Hid.mk (And.intro hO3 (And.intro hO4 (And.intro k4 hN4)))
    clear hO3 hO4 k4 hN4
    go_wp2_with fail
    go_region_held3 (fun V=>V.cell? ⟨lb,1,none⟩=some (.map (some mb))∧V.cell? ⟨wr.heap.size,0,none⟩=some (.int .i64 (r.1:Int))) (first|exact SD|exact S3) (fail)
    all_goals
     obtain ⟨t1,t2⟩:=S3
     rw [List.length_map,List.length_take,Nat.min_eq_left (Nat.le_of_lt hlt)] at hrun4
     go_wp2_with (at_builtin;refine wpList_append_run 41 (.tmp 39) (.tmp 42) rfl rfl _ _ rfl rfl _ _ hrun4 ?_)
     go_roundw
     case rel =>
      obtain ⟨hk,hM,hO,hF,hr,hbw,hrw,hnk,hwf⟩:=HL.out
      obtain ⟨hO3,hO4,k4,hN4⟩:=H4.out
      obtain ⟨hM3,k3,k12⟩:=H3.out
      have hz:=hk.size
      have hz2:=k12.size
      have hz3:=k3.size
      have hmb:mb<w.heap.size:=H0.out.2.1.lt
      have e1:(rs.take (j+1)).map (·.1)=(rs.take j).map (·.1)++[r.1]:=by rw [List.take_add_one,hr];simp
      rw [List.length_map,List.length_take,Nat.min_eq_left (Nat.le_of_lt hlt)] at hO4 hN4
      refine ⟨j+1,by omega,by go_num,Hid.mk ⟨((hk.trans k12 (by simp)).trans k3 (fun x hx=>.inl hx)).trans k4 (fun x hx=>.inr (hF x (by simpa using hx))),?_,by rw [e1];exact hO4,fun g hg=>?_⟩⟩
      ·rw [←SE_next m hr]
       exact hM3.kept k4 (fun hx=>by have:=hF mb (by simpa using hx);omega)
      ·rcases hN4 g hg with h5|h5
       ·exact hF g h5
       ·omega
     case measure=>simp [intOf];omega
  ·have hje:j=rs.length:=by omega
   subst hje
   rw [List.take_length] at HX
   obtain ⟨hk,hM,hO,hF⟩:=HX.out
   obtain ⟨hb,hm,hlm,hrs,hvm,hX,hR⟩:=H0.out
   obtain ⟨hD,hsum,hnew,hl6,hml⟩:=H1.out
   have hbw:=hk.keeps hb (by simpa using hlm)
   have HC:=Hid.mk (hR.ask [mb] wr u6 (rs.map (·.1)) hk (fun x hx=>by simp at hx;subst hx;exact hX) hO.reads (by rw [List.length_map];exact hl) (names_nodup hnew) (fun n hn=>by
    obtain ⟨r,hr,rfl⟩:=List.mem_map.1 hn
    exact hD r hr))
   have hent:=hR.ent
   have HE:=Hid.mk hent
   clear hent
   have hl0:wr.cell? ⟨lb,0,none⟩=some (.func (.func f) #[] cap):=by simp [World.cell?,hbw]
   have hrw:=hrs.kept hk (fun g hg h=>hvm (by rw [hg];simpa using h))
   have HL:=Hid.mk (And.intro hk (And.intro hM (And.intro hrw hk)))
   clear hk hM hO hF hb hm hlm hrs hvm hX hR hD hsum hnew hl6 hml hbw hrw HX hlt hj
   go_wp2_with (go_at_fn f)
   rw [HE.out]
   refine HC.out.mono ?_
   rintro e w2 ⟨vt,rfl,hT,k2⟩
   obtain ⟨ad2,c2,rfl,hc3,hc4⟩:=hT.form
   have hlm:(List.map tx (List.map (·.1) rs)).length=rs.length:=by simp
   rw [hlm] at hT hc3 ⊢
   have HT:=Hid.mk (And.intro hT k2)
   have HL2:=Hid.mk (HL.out.2.2.1.kept k2 (by simp))
   clear hT k2 hl0 HC hc3 hc4 hlm
   go_wp2_with fail
   go_loopw [59] (fun x w3=>∃j:Nat,j≤rs.length∧x=.int .i64 (j:Int)∧Hid (Kept [] w2 w3)) (fun x _=>rs.length-(intOf x).toNat)
   case atStart=>exact ⟨0,by omega,rfl,Hid.mk (Kept.refl [] _)⟩
   case round =>
    obtain ⟨j,hj,rfl,HX⟩:=hrel
    by_cases hlt:j<rs.length
    ·obtain ⟨r,hr⟩:∃r,rs[j]?=some r:=⟨_,List.getElem?_eq_getElem hlt⟩
     obtain ⟨b,o,e1,d0,d1⟩:=RC_at (HL2.out.kept HX.out (by simp)) hr
     obtain ⟨b2,o2,c3,v,e2,d2,hv,-⟩:=(HT.out.1.kept HX.out (by simp)).at j (tx r.1) (by simp [hr])
     have hsr:=H1.out.2.1 r (List.mem_of_getElem? hr)
     subst e1
     injection e2 with e3 e4 e5
     subst e3
     clear e4 e5
     have k1:Kept [] wr (wr.alloc (.cells #[.int .i64 (r.1:Int),.int .u64 (r.2:Int)] 102)):=(Kept.refl [] wr).alloc _
     have hw1:=heap_alloc_new wr (.cells #[.int .i64 (r.1:Int),.int .u64 (r.2:Int)] 102)
     have HS:Hid (∀W,Kept [] (wr.alloc (.cells #[.int .i64 (r.1:Int),.int .u64 (r.2:Int)] 102)) W→W.cell? ⟨wr.heap.size,0,none⟩=some (.int .i64 (r.1:Int))∧W.cell? ⟨wr.heap.size,1,none⟩=some (.int .u64 (r.2:Int))∧W.cell? ⟨b2,o2+j,none⟩=some v):=Hid.mk fun W kW=>by
      have e2:=kW.keeps hw1 (by simp)
      have e3:=(((k1.trans kW (by simp)).cell (p:=⟨b2,o2+j,none⟩) (cell_lt d2) (by simp)).trans d2:W.cell? ⟨b2,o2+j,none⟩=some v)
      exact ⟨by simp [World.cell?,e2],by simp [World.cell?,e2],e3⟩
     have HR:Hid (∀W,Kept [] (wr.alloc (.cells #[.int .i64 (r.1:Int),.int .u64 (r.2:Int)] 102)) W→Calls Tryz.prog 68 #[.int .i64 (r.1:Int),v] W fun e w'=>e=.returned (.agg #[.int .i64 (r.1:Int),.int .u64 (r.2:Int)])∧Kept [] W w'):=Hid.mk fun W kW=>by
      have h:=refTo_any r.1 (hv.kept (k1.trans kW (by simp)) (by simp))
      rw [hsr] at h
      exact h
     have kd:Kept [] (wr.alloc (.cells #[.int .i64 (r.1:Int),.int .u64 (r.2:Int)] 102)) (wr.alloc (.cells #[.int .i64 (r.1:Int),.int .u64 (r.2:Int)] 102)).drew:=(Kept.refl [] _).drew
     have HK:=Hid.mk (HX.out.trans k1 (by simp))
     clear k1 hw1 hv hsr HX HT HL HL2 H0
     go_wp2_with fail
     generalize wr.alloc (.cells #[.int .i64 (r.1:Int),.int .u64 (r.2:Int)] 102)=W1 at *
     go_region_held3 (fun V=>V.cell? ⟨wr.heap.size,0,none⟩=some (.int .i64 (r.1:Int))∧V.cell? ⟨wr.heap.size,1,none⟩=some (.int .u64 (r.2:Int))∧V.cell? ⟨b2,o2+j,none⟩=some v) (first|exact HS.out _ kd|exact S5) (first|(go_at_call 68;refine (HR.out _ kd).mono ?_;rintro e w5 ⟨rfl,k5⟩;have S5:=HS.out _ (kd.trans k5 (by simp))))
     all_goals
      have HK5:=Hid.mk ((HK.out.trans kd (by simp)).trans k5 (by simp))
      clear HK kd k5 S5 HS HR
      go_wp2_with fail
      go_roundw
      case rel=>exact ⟨j+1,by omega,by go_num,HK5⟩
      case measure=>simp [intOf];omega
    ·have hje:j=rs.length:=by omega
     subst hje
     have HZ:=Hid.mk (And.intro HX.out (And.intro HT.out HL.out))
     clear HX HT HL HL2 hlt hj
     go_wp2_with fail
     go_ret2
     obtain ⟨k3,⟨hT,k2⟩,hk,hM,-⟩:=HZ.out
     refine ⟨_,rfl,?_,(hM.kept k2 (by simp)).kept k3 (by simp),(hk.trans k2 (by simp)).trans k3 (by simp)⟩
     have:=(hT.kept k3 (by simp)).older hk.size
     rw [List.map_map] at this
     exact this
end
theorem rt170:RowT 170 102 2 16 (.agg #[.int .i64 0,.int .u64 0]):=⟨Tryz.underlying170,by kernel_rfl,rfl,by omega,by omega⟩
theorem RC_length (rs:List (Nat × Nat)):(RC rs).length=rs.length:=List.length_map ..
theorem RC_snoc (rs:List (Nat × Nat)) (r:Nat × Nat):RC (rs++[r])=RC rs++[[.int .i64 (r.1:Int),.int .u64 (r.2:Int)]]:=by simp [RC]
structure Gat (e:TypeId) (ρ:Rho) (w wr:World) (v vr:Value) (U:List Nat):Prop where
 kept:Kept [] w wr
 own:OwnsP e wr v U
 refs:OwnsR 102 2 wr vr (RC (U.map ρ))
 fresh:Fresh w v
 freshR:Fresh w vr
 apart:∀g,v.ownBlock=some g→vr.ownBlock≠some g
theorem Gat.start (e:TypeId) (ρ:Rho) (w:World):Gat e ρ w w (.slice none 0 0) (.slice none 0 0) [] :=
 ⟨Kept.refl _ _,OwnsP.nil e w,OwnsR.nil 102 2 w,fun g hg=>by simp [Value.ownBlock] at hg,fun g hg=>by simp [Value.ownBlock] at hg,fun g hg=>by simp [Value.ownBlock] at hg⟩
theorem Gat.later {e:TypeId}{ρ:Rho}{w wr w':World}{v vr:Value}{U:List Nat} (h:Gat e ρ w wr v vr U) (k:Kept [] wr w'):Gat e ρ w w' v vr U :=
 ⟨h.kept.trans k (by simp),h.own.kept k (by simp),h.refs.kept k (by simp),h.fresh,h.freshR,h.apart⟩
theorem Gat.next {T e:TypeId}{b:Nat}{z:Value} (R:RowT T e 1 b z) {ρ:Rho}{w wr:World}{v vr:Value}{U:List Nat} (h:Gat e ρ w wr v vr U) (u:Nat) (hn:U.length≤900000) (t:TypeId) :
  ∃ad c w1,(Builtin.append_ #[T,T] T #[v,.slice (some ⟨wr.heap.size,0,none⟩) 1 1]).run Tryz.prog (wr.alloc (.cells #[Pp u] t))=.ok (.slice ad (U.length+1) c) w1∧Kept [] w w1 ∧
   ∃ad2 c2 w2,(Builtin.append_ #[170,170] 170 #[vr,.slice (some ⟨w1.heap.size,0,none⟩) 1 1]).run Tryz.prog (w1.alloc (.cells #[.int .i64 ((ρ u).1:Int),.int .u64 ((ρ u).2:Int)] 102))=.ok (.slice ad2 (U.length+1) c2) w2∧Gat e ρ w w2 (.slice ad (U.length+1) c) (.slice ad2 (U.length+1) c2) (U++[u]):=by
 obtain ⟨ad,c,w1,h1,h2,k1,n1⟩:=append_ptr R h.own u hn t (0,0) T
 have kw1:Kept [] w w1:=h.kept.trans k1 (fun x hx=>.inr (h.fresh x (by simpa using hx)))
 have hr1:OwnsR 102 2 w1 vr (RC (U.map ρ)):=h.refs.kept k1 (fun g hg hm=>h.apart g (by simpa using hm) hg)
 obtain ⟨ad2,c2,w2,h3,h4,k2,n2⟩:=append_rowR rt170 hr1 [.int .i64 ((ρ u).1:Int),.int .u64 ((ρ u).2:Int)] rfl (fun x hx=>by
  simp at hx
  rcases hx with rfl|rfl<;>rfl) (by rw [RC_length,List.length_map];exact hn) 102 (0,0) 170
 rw [RC_length,List.length_map] at h3 h4 n2
 have hz:=h.kept.size
 have hz1:=k1.size
 have hlt:∀g,(Value.slice ad (U.length+1) c).ownBlock=some g→g<w1.heap.size:=fun g hg=>h2.lt hg
 have hlr:∀g,vr.ownBlock=some g→g<wr.heap.size:=fun g hg=>h.refs.lt hg
 have hap:∀g,(Value.slice ad (U.length+1) c).ownBlock=some g→vr.ownBlock≠some g:=fun g hg hm=>by
  rcases n1 g hg with h5|h5
  ·exact h.apart g h5 hm
  ·have:=hlr g hm;omega
 refine ⟨ad,c,w1,h1,kw1,ad2,c2,w2,h3,⟨kw1.trans k2 (fun x hx=>.inr (h.freshR x (by simpa using hx))),h2.kept k2 (fun g hg hm=>hap g hg (by simpa using hm)),?_,fun g hg=>?_,fun g hg=>?_,fun g hg hm=>?_⟩⟩
 ·rw [List.map_append,List.map_singleton,RC_snoc]
  exact h4
 ·rcases n1 g hg with h5|h5
  ·exact h.fresh g h5
  ·omega
 ·rcases n2 g hg with h5|h5
  ·exact h.freshR g h5
  ·omega
 ·rcases n2 g hm with h5|h5
  ·exact hap g hg h5
  ·have:=hlt g hg;omega
theorem flat_take {α:Type}{Ks:List (List α)}{i:Nat}{us:List α} (h:Ks[i]?=some us):(Ks.take (i+1)).flatten=(Ks.take i).flatten++us:=by
 rw [List.take_add_one,h]
 simp
theorem flat_take_le {α:Type} (Ks:List (List α)) (n:Nat):(Ks.take n).flatten.length≤Ks.flatten.length:=by
 have e:Ks.flatten=(Ks.take n).flatten++(Ks.drop n).flatten:=by rw [←List.flatten_append,List.take_append_drop]
 rw [e,List.length_append]
 omega
theorem flat_mem {α:Type}{Ks:List (List α)}{i j:Nat}{us:List α}{u:α} (h:Ks[i]?=some us) (hu:us[j]?=some u):u∈Ks.flatten:=List.mem_flatten.2 ⟨us,List.mem_of_getElem? h,List.mem_of_getElem? hu⟩
section
variable {w:World}
set_option maxRecDepth 100000 in
set_option maxHeartbeats 4000000 in
theorem nodes_walk {lb lv:Nat}{ρ:Rho}{vl:Value}{ps:List Nat}{Ks:List (List Nat)} (hps:ReadsP w vl ps) (hne:ps≠[]) (hK:ps.length=Ks.length)
  (hB:∀(i p:Nat) (us:List Nat),ps[i]?=some p→Ks[i]?=some us→∃a b vi vu,w.heap[p]?=some (.cells #[a,b,.int .i64 ((lv:Int)+1),vi,vu] 114 (0,0))∧ReadsP w vu us) (hU:∀u∈Ks.flatten,Bare w u (ρ u)) (hl:Ks.flatten.length≤100000) (hlv:lv≤1000) (hpl:ps.length≤100000)
  {bl ol cl p0:Nat} (hvl:vl=.slice (some ⟨bl,ol,none⟩) ps.length cl) {I:Value→Value→Nat→World→Prop}{R:Value→World→Prop}
  (HT:∀w1 v6 v7,Gat 77 ρ w w1 v6 v7 Ks.flatten→Calls Tryz.prog 104 #[Pp lb,v7] w1 fun e w2=>∃vt,e=.returned (.tuple #[vt,.int .i64 0])∧I v6 vt 0 w2)
  (HI:∀v6 vt i wr,I v6 vt i wr→i<Ks.flatten.length→∃u b6 o6 c6 bt ot ct v,v6=.slice (some ⟨b6,o6,none⟩) Ks.flatten.length c6∧wr.cell? ⟨b6,o6+i,none⟩=some (Pp u)∧vt=.slice (some ⟨bt,ot,none⟩) Ks.flatten.length ct∧wr.cell? ⟨bt,ot+i,none⟩=some v∧wr.cell? ⟨bl,ol,none⟩=some (Pp p0)∧wr.cell? ⟨p0,2,none⟩=some (.int .i64 ((lv:Int)+1))∧Calls Tryz.prog 69 #[Pp u,.int .u8 3,v] wr.drew fun e w'=>e=.returned (.bool true)∧w'.cell? ⟨u,2,none⟩=some (.int .i64 (lv:Int))∧w'.cell? ⟨bt,ot+i,none⟩=some v∧w'.cell? ⟨bl,ol,none⟩=some (Pp p0)∧w'.cell? ⟨p0,2,none⟩=some (.int .i64 ((lv:Int)+1))∧I v6 vt (i+1) w')
  (HZ:∀v6 vt wr,I v6 vt Ks.flatten.length wr→R v6 wr) :
  Calls Tryz.prog 70 #[Pp lb,vl] w fun e w'=>∃v6,e=.returned (.tuple #[v6,.int .i64 0])∧R v6 w':=by
 subst hvl
 have H0:=Hid.mk (And.intro hps (And.intro hK (And.intro hB hU)))
 have H1:=Hid.mk (And.intro HT (And.intro HI HZ))
 have HP:=Hid.mk (List.length_pos_iff.2 hne)
 clear hps hK hB hU HT HI HZ hne
 go_enter Tryz.func70,Tryz.ntmps70
 go_wp2
 go_loopw [6,7,18] (fun v6 v7 x wr=>∃i:Nat,i≤ps.length∧x=.int .i64 (i:Int)∧Hid (Gat 77 ρ w wr v6 v7 (Ks.take i).flatten)) (fun _ _ x _=>ps.length-(intOf x).toNat)
 case atStart=>exact ⟨0,by omega,rfl,Hid.mk (Gat.start 77 ρ w)⟩
 case round =>
  obtain ⟨i,hi,rfl,HG⟩:=hrel
  by_cases hlt:i<ps.length
  ·obtain ⟨p,hp⟩:∃p,ps[i]?=some p:=⟨_,List.getElem?_eq_getElem hlt⟩
   obtain ⟨us,hus⟩:∃us,Ks[i]?=some us:=⟨_,List.getElem?_eq_getElem (by rw [←H0.out.2.1];exact hlt)⟩
   have hk:=HG.out.kept
   obtain ⟨b,o,c',e,hcp⟩:=(H0.out.1.kept hk (by simp)).at i p hp
   injection e with e eN e2
   injection e with e
   injection e with ea eb ec
   subst ea eb e2
   clear eN ec
   obtain ⟨xa,xb,vi,vu,hpb,hvu⟩:=H0.out.2.2.1 i p us hp hus
   obtain ⟨au,cu,rfl,-,-⟩:=hvu.form
   have hpw:=hk.keeps hpb (by simp)
   have d4:wr.cell? ⟨p,4,none⟩=some (.slice au us.length cu):=by simp [World.cell?,hpw]
   have HV:=Hid.mk (And.intro hvu (And.intro hus hp))
   have hul:(Ks.take i).flatten.length+us.length≤100000:=by
    have h1:=flat_take_le Ks (i+1)
    rw [flat_take hus,List.length_append] at h1
    omega
   have HLT:=Hid.mk hlt
   obtain ⟨Lx,HLx⟩:∃Lx,Hid ((Ks.take i).flatten.length=Lx):=⟨_,Hid.mk rfl⟩
   rw [HLx.out] at hul
   clear hpb hvu hpw hk hp hus
   go_wp2_with fail
   go_loopw [6,7,27] (fun v6 v7 x w'=>∃j:Nat,j≤us.length∧x=.int .i64 (j:Int)∧Hid (Gat 77 ρ w w' v6 v7 ((Ks.take i).flatten++us.take j))) (fun _ _ x _=>us.length-(intOf x).toNat)
   case atStart=>exact ⟨0,by omega,rfl,by simpa using HG⟩
   case round =>
    obtain ⟨j,hj,rfl,HG2⟩:=hrel
    by_cases hlt2:j<us.length
    ·obtain ⟨u,hu⟩:∃u,us[j]?=some u:=⟨_,List.getElem?_eq_getElem hlt2⟩
     have hub:=H0.out.2.2.2 u (flat_mem HV.out.2.1 hu)
     obtain ⟨b3,o3,c3,e3,hcu⟩:=(HV.out.1.kept HG2.out.kept (by simp)).at j u hu
     injection e3 with e3 eN e4
     subst e3 e4
     clear eN
     have hlen:((Ks.take i).flatten++us.take j).length=Lx+j:=by rw [List.length_append,List.length_take,HLx.out];omega
     obtain ⟨ad6,c6,w1,hrun1,k1,ad7,c7,w2,hrun2,hG2⟩:=Gat.next rt112 HG2.out u (by omega) 77
     rw [hlen] at hrun1 hrun2 hG2
     have hub1:w1.heap[u]?=_:=k1.keeps hub (by simp)
     have d0:w1.cell? ⟨u,0,none⟩=some (.int .i64 ((ρ u).1:Int)):=by simp [World.cell?,hub1]
     have d1:w1.cell? ⟨u,1,none⟩=some (.int .u64 ((ρ u).2:Int)):=by simp [World.cell?,hub1]
     have HG3:=Hid.mk (And.intro hG2 hu)
     clear hub hub1 hG2 hu k1 hlen
     go_wp2_with (at_builtin;first|refine wpList_append_run 112 (.tmp 31) (.tmp 33) rfl rfl _ _ rfl rfl _ _ hrun1 ?_|refine wpList_append_run 170 (.tmp 35) (.tmp 40) rfl rfl _ _ rfl rfl _ _ hrun2 ?_)
     go_roundw
     case rel =>
      refine ⟨j+1,by omega,by go_num,Hid.mk ?_⟩
      have h:=HG3.out.1
      rw [List.append_assoc] at h
      have e:us.take j++[u]=us.take (j+1):=by rw [List.take_add_one,HG3.out.2];rfl
      rw [e] at h
      exact h
     case measure=>simp [intOf];omega
    ·have hje:j=us.length:=by omega
     subst hje
     have HG3:Hid (Gat 77 ρ w wr u6 u7 (Ks.take (i+1)).flatten):=by
      rw [flat_take HV.out.2.1]
      have:=HG2.out
      rw [List.take_length] at this
      exact this
     clear HG2 hlt2 hj
     go_wp2_with fail
     go_roundw
     case rel=>exact ⟨i+1,by have:=HLT.out;omega,by go_num,HG3⟩
     case measure=>have:=HLT.out;simp [intOf];omega
  ·have hie:i=ps.length:=by omega
   subst hie
   rw [H0.out.2.1,List.take_length] at HG
   obtain ⟨a6,c6,rfl,-,-⟩:=HG.out.own.form
   have HC:=Hid.mk (H1.out.1 wr _ u7 HG.out)
   have HI:=Hid.mk H1.out.2.1
   have HZ:=Hid.mk H1.out.2.2
   clear HG hlt hi H1 H0
   generalize Ks.flatten.length=N at *
   go_wp2_with fail
   refine HC.out.mono ?_
   rintro e w2 ⟨vt,rfl,hI⟩
   have HI0:=Hid.mk hI
   clear hI HC
   go_wp2_with fail
   go_loopw [55] (fun x wr=>∃i:Nat,i≤N∧x=.int .i64 (i:Int)∧Hid (I (.slice a6 N c6) vt i wr)) (fun x _=>N-(intOf x).toNat)
   case atStart=>exact ⟨0,by omega,rfl,HI0⟩
   case round =>
    obtain ⟨i,hi,rfl,HX⟩:=hrel
    by_cases hlt:i<N
    ·obtain ⟨u,b6,o6,c6',bt,ot,ct,v,e6,d6,et,dt,f0,f1,hcall⟩:=HI.out _ _ i wr HX.out hlt
     injection e6 with e6 eN e7
     subst e6 e7 et
     clear eN
     have HCL:=Hid.mk hcall
     clear hcall HX HI0
     go_wp2_with fail
     have S0:wr.drew.cell? ⟨bt,ot+i,none⟩=some v∧wr.drew.cell? ⟨bl,ol,none⟩=some (Pp p0)∧wr.drew.cell? ⟨p0,2,none⟩=some (.int .i64 ((lv:Int)+1)):=⟨dt,f0,f1⟩
     have hsb:IntKind.i64.wrap ((lv:Int)+1-1)=(lv:Int):=by rw [IntKind.wrap_i64];omega
     have hwl:IntKind.i64.wrap (lv:Int)=(lv:Int):=by rw [IntKind.wrap_i64];omega
     have hne0:((lv:Int) != IntKind.i64.wrap (lv:Int))=false:=by rw [hwl];simp
     have hpp:(0:Int)<(ps.length:Int):=by have:=HP.out;omega
     have hpq:0<ps.length:=HP.out
     obtain ⟨q0,q1,q2⟩:=S0
     go_region_with (refine HCL.out.mono ?_;rintro e w5 ⟨rfl,g2,g3,g4,g5,hI5⟩;have HI5:=Hid.mk hI5;clear hI5)
     all_goals
      clear HCL g2 g3 g4 g5 q0 q1 q2 f0 f1 dt d6
      go_wp2_with fail
      go_roundw
      case rel=>exact ⟨i+1,by omega,by go_num,HI5⟩
      case measure=>simp [intOf];omega
    ·have hie:i=N:=by omega
     subst hie
     have HF:=Hid.mk (HZ.out _ _ _ HX.out)
     clear HX HI0 hlt hi
     go_wp2_with fail
     go_ret2
     exact ⟨_,rfl,HF.out⟩
end
end Go.Proofs.YtgpbhlfdlkemjaaGreat
