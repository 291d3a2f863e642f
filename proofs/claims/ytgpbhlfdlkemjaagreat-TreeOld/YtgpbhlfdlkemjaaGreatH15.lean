import Derived.Lib.Bytealg
import Derived.Laws.Cover1
import Derived.Deep.QuietTactic
import Derived.BigQuiet
import Derived.Lib.MinMax
import Derived.Test.YtgpbhlfdlkemjaaGreatH06
import Derived.Test.YtgpbhlfdlkemjaaGreatH14
/-
 A disk and its Pages beside the caller's own memory: the calls in the words of the texts.
-/
namespace Go.Proofs.YtgpbhlfdlkemjaaGreat
open Go.RowKit
set_option linter.unusedVariables false
abbrev Ent:=Nat × List Nat × List UInt8
def ets (L:List Ent):List (Nat × List Nat):=L.map fun x=>(x.1,x.2.1)
def bls (L:List Ent):List Nat:=L.flatMap fun x=>x.2.1
theorem ets_names (L:List Ent):(ets L).map (·.1)=L.map (·.1):=by simp [ets]
theorem bls_append (A B:List Ent):bls (A++B)=bls A++bls B:=by simp [bls]
theorem bls_one (x:Ent):bls [x]=x.2.1:=by simp [bls]
theorem bls_cons (x:Ent) (B:List Ent):bls (x::B)=x.2.1++bls B:=by simp [bls]
theorem mem_bls {L:List Ent}{b:Nat}:b∈bls L↔∃x∈L,b∈x.2.1:=by simp [bls]
structure Okp (s:St) (fr ct:Nat) (L:List Ent) (fl:List Nat):Prop where
 lies:∀x∈L,Lies (blk s.ws) x.1 x.2.1 x.2.2
 perm:(bls L++fl).Perm (List.range' fr ct)
 area:fr+ct≤s.nb
 one:1≤ct
 nb:s.nb≤65536
section
variable {s:St}{fr ct:Nat}{L:List Ent}{fl:List Nat}
theorem Okp.nodup (h:Okp s fr ct L fl):(bls L++fl).Nodup:=(h.perm.nodup_iff).2 (List.nodup_range')
theorem Okp.mem (h:Okp s fr ct L fl) {x:Nat} (hx:x∈bls L++fl):fr≤x∧x<fr+ct:=by
 have:=h.perm.mem_iff.1 hx
 rw [List.mem_range'_1] at this
 exact this
theorem Okp.length (h:Okp s fr ct L fl):(bls L).length+fl.length=ct:=by
 have:=h.perm.length_eq
 simpa using this
theorem Okp.self (h:Okp s fr ct L fl) {x:Ent} (hx:x∈L):x.1∈x.2.1:=List.mem_of_mem_head? (h.lies x hx).first
theorem len_bls:∀(L:List Ent),(∀x∈L,x.2.1≠[])→L.length≤(bls L).length
 | [],_=>by simp
 | x::r,h=>by
  have h1:=len_bls r fun y hy=>h y (by simp [hy])
  have h2:=List.length_pos_iff.2 (h x (by simp))
  rw [bls_cons,List.length_append,List.length_cons]
  omega
theorem Okp.few (h:Okp s fr ct L fl):L.length+fl.length≤ct:=by
 have h1:=h.length
 have h2:=len_bls L fun x hx e=>by have:=h.self hx;rw [e] at this;simp at this
 omega
theorem Okp.pair (h:Okp s fr ct L fl):L.Pairwise fun x y=>∀a∈x.2.1,∀b∈y.2.1,a≠b:=by
 have h1:=(List.nodup_append.1 h.nodup).1
 unfold bls at h1
 exact (List.pairwise_flatMap.1 h1).2
theorem Okp.names (h:Okp s fr ct L fl):(L.map (·.1)).Nodup:=by
 refine List.pairwise_map.2 (h.pair.imp_of_mem fun {x y} hx hy hp=>hp x.1 (h.self hx) y.1 (h.self hy))
theorem Okp.notFree (h:Okp s fr ct L fl) {x b:Nat} (hx:x∈bls L) (hb:b∈fl):x≠b:=(List.nodup_append.1 h.nodup).2.2 x hx b hb
theorem Okp.newName (h:Okp s fr ct L fl) {b:Nat} (hb:b∈fl):b∉L.map (·.1):=fun hm=>by
 obtain ⟨x,hx,rfl⟩:=List.mem_map.1 hm
 exact h.notFree (mem_bls.2 ⟨x,hx,h.self hx⟩) hb rfl
theorem Okp.wrote (h:Okp s fr ct L fl) (vs:List Wr) (hv:∀x∈vs,x.1∈fl) (fu:Int) (dn:Bool):Okp { s with ws:=s.ws++vs,fuse:=fu,down:=dn } fr ct L fl :=
 ⟨fun x hx=>(h.lies x hx).other fun y hy hm=>h.notFree (mem_bls.2 ⟨x,hx,hm⟩) (hv y hy) rfl,h.perm,h.area,h.one,h.nb⟩
theorem Okp.put (h:Okp s fr ct L fl) (t:Bool) (nm:Nat) (l:List UInt8) (hl:l.length≤20000) (hn:fl.head?=some nm) (hk:bks l.length≤fl.length) (fu:Int) (dn:Bool) :
  Okp { s with ws:=s.ws++wsOf t nm (fl.take (bks l.length)) l (bks l.length),fuse:=fu,down:=dn } fr ct (L++[(nm,fl.take (bks l.length),l)]) (fl.drop (bks l.length)):=by
 have hlen:(fl.take (bks l.length)).length=bks l.length:=by rw [List.length_take];omega
 have hv:∀x∈wsOf t nm (fl.take (bks l.length)) l (bks l.length),x.1∈fl:=fun x hx=>by
  obtain ⟨j,hj,rfl⟩:=wsOf_mem _ _ _ _ _ _ hx
  exact List.mem_of_mem_take (getD_mem (by rw [hlen];exact hj))
 have hw:=h.wrote _ hv fu dn
 refine ⟨fun x hx=>?_,?_,h.area,h.one,h.nb⟩
 ·rcases List.mem_append.1 hx with hx|hx
  ·exact hw.lies x hx
  ·simp at hx
   subst hx
   have:=lies_put t nm (fl.take (bks l.length)) l s.ws ((List.nodup_append.1 h.nodup).2.1.sublist (List.take_sublist _ _)) hlen (by
    have:=bks_pos l.length
    cases fl with
    | nil=>simp at hn
    | cons a r=>obtain ⟨k,hk⟩:∃k,bks l.length=k+1:=⟨bks l.length-1,by omega⟩;rw [hk];simpa using hn) hl (fun x hx=>by
    have:=h.mem (List.mem_append.2 (.inr (List.mem_of_mem_take hx)));have:=h.area;have:=h.nb;omega)
   rw [hlen] at this
   exact this
 ·rw [bls_append,bls_one,List.append_assoc,List.take_append_drop]
  exact h.perm
theorem Okp.drop {A B:List Ent}{x:Ent} (h:Okp s fr ct (A++x::B) fl):Okp s fr ct (A++B) (fl++x.2.1):=by
 refine ⟨fun y hy=>h.lies y ?_,?_,h.area,h.one,h.nb⟩
 ·rcases List.mem_append.1 hy with h1|h1
  ·simp [h1]
  ·simp [h1]
 ·refine List.Perm.trans ?_ h.perm
  rw [bls_append,bls_append,bls_cons]
  refine (List.Perm.of_eq (by simp:bls A++bls B++(fl++x.2.1)=bls A++(bls B++(fl++x.2.1)))).trans ((List.Perm.append_left _ ?_).trans (List.Perm.of_eq (by simp:bls A++(x.2.1++(bls B++fl))=bls A++(x.2.1++bls B)++fl)))
  exact (List.Perm.of_eq (by simp:bls B++(fl++x.2.1)=(bls B++fl)++x.2.1)).trans List.perm_append_comm
theorem freeOf_perm (hn:(bls L).Nodup) (hin:∀b∈bls L,fr≤b∧b<fr+ct):(bls L++freeOf fr ct (ets L)).Perm (List.range' fr ct):=by
 have hf:(freeOf fr ct (ets L)).Nodup:=by
  unfold freeOf unmarked
  refine List.pairwise_map.2 ((List.nodup_range.sublist List.filter_sublist).imp fun {a b} h=>by omega)
 have hm:∀b,b∈freeOf fr ct (ets L)↔(fr≤b∧b<fr+ct)∧b∉bls L:=by
  intro b
  unfold freeOf unmarked
  simp only [List.mem_map,List.mem_filter,List.mem_range,Bool.not_eq_true',List.any_eq_false,List.contains_eq_mem,decide_eq_true_eq]
  constructor
  ·rintro ⟨j,⟨h1,h2⟩,rfl⟩
   refine ⟨⟨by omega,by omega⟩,fun hb=>?_⟩
   obtain ⟨x,hx,hb⟩:=mem_bls.1 hb
   exact h2 (x.1,x.2.1) (List.mem_map.2 ⟨x,hx,rfl⟩) hb
  ·rintro ⟨⟨h1,h2⟩,h3⟩
   refine ⟨b-fr,⟨by omega,fun x hx hb=>h3 ?_⟩,by omega⟩
   obtain ⟨y,hy,rfl⟩:=List.mem_map.1 hx
   rw [show fr+(b-fr)=b by omega] at hb
   exact mem_bls.2 ⟨y,hy,hb⟩
 refine (List.perm_ext_iff_of_nodup (List.nodup_append.2 ⟨hn,hf,fun a ha b hb e=>((hm b).1 hb).2 (e▸ha)⟩) List.nodup_range').2 fun b=>?_
 rw [List.mem_append,hm,List.mem_range'_1]
 constructor
 ·rintro (h|h)
  ·exact hin b h
  ·exact h.1
 ·intro h
  by_cases hb:b∈bls L
  ·exact .inl hb
  ·exact .inr ⟨h,hb⟩
end
section
variable {w0 w w':World}{q p:Nat}{s:St}{fr ct:Nat}{L:List Ent}{fl X Y:List Nat}
def Rises (ns:List Nat) (l:List Nat):Prop:=ns.Perm l∧ns.Pairwise (·<·)
end
abbrev Sv (l:List UInt8):Value:=.string ⟨l.toArray⟩
set_option maxRecDepth 100000 in
theorem cmp_any (a b:List UInt8) (w:World):Calls Tryz.prog 45 #[Sv a,Sv b] w fun e w'=>e=.returned (.int .i64 (Lib.compareBytes a b))∧w=w':=by
 have h75:Calls Tryz.prog 75 #[Sv a,Sv b] w fun e w'=>e=.returned (.int .i64 (Lib.compareBytes a b))∧w=w':=by
  go_enter Tryz.func75,Tryz.ntmps75
  go_wp2
  rw [run_callFunc_extern Tryz.func116 (by kernel_rfl) (by kernel_rfl) (by kernel_rfl) (e:=Extern.BytealgCompare.compare) (by kernel_rfl),Lib.run_compareString]
  simp only [Result.andThen]
  rw [Oper.upon_value]
  go_wp2
  go_ret
  exact ⟨rfl,rfl⟩
 generalize Lib.compareBytes a b=r at h75 ⊢
 go_enter Tryz.func45,Tryz.ntmps45
 go_wp2_with fail
 refine h75.mono ?_
 rintro e w' ⟨rfl,rfl⟩
 go_wp2
 go_ret
 exact ⟨rfl,rfl⟩
theorem cmp_lt:∀(a b:List UInt8),Lib.compareBytes a b<0↔a<b
 | [],[]=>by simp [Lib.compareBytes]
 | [],_::_=>by simp [Lib.compareBytes]
 | _::_,[]=>by simp [Lib.compareBytes]
 | x::a,y::b=>by
  rw [List.cons_lt_cons_iff,Lib.compareBytes]
  by_cases h1:x<y
  ·simp [h1]
  ·by_cases h2:y<x
   ·have:¬x=y:=by rintro rfl;exact h1 h2
    simp [h1,h2,this]
   ·have e:x=y:=UInt8.toNat_inj.1 (by rw [UInt8.lt_iff_toNat_lt] at h1 h2;omega)
    subst e
    simp [h1,cmp_lt a b]
theorem cmp_eq:∀(a b:List UInt8),Lib.compareBytes a b=0↔a=b
 | [],[]=>by simp [Lib.compareBytes]
 | [],_::_=>by simp [Lib.compareBytes]
 | _::_,[]=>by simp [Lib.compareBytes]
 | x::a,y::b=>by
  rw [Lib.compareBytes]
  by_cases h1:x<y
  ·have:¬x=y:=by rintro rfl;rw [UInt8.lt_iff_toNat_lt] at h1;omega
   simp [h1,this]
  ·by_cases h2:y<x
   ·have:¬x=y:=by rintro rfl;exact h1 h2
    simp [h1,h2,this]
   ·have e:x=y:=UInt8.toNat_inj.1 (by rw [UInt8.lt_iff_toNat_lt] at h1 h2;omega)
    subst e
    simp [h1,cmp_eq a b]
theorem isLong_any (k v:Nat) (hk:k≤1000000) (hv:v≤1000000) (w:World):Calls Tryz.prog 126 #[.int .i64 (k:Int),.int .i64 (v:Int)] w fun e w'=>e=.returned (.bool (decide (236<3+k+v)))∧w'=w:=by
 go_enter Tryz.func126,Tryz.ntmps126
 go_wp2
 go_ret
 exact ⟨congrArg (fun b=>Ending.returned (.bool b)) (by rw [Bool.eq_iff_iff];simp;omega),rfl⟩
theorem itemSize_any (k v:Nat) (hk:k≤1000000) (hv:v≤1000000) (w:World):Calls Tryz.prog 165 #[.int .i64 (k:Int),.int .i64 (v:Int)] w fun e w'=>e=.returned (.int .i64 ((if 236<3+k+v then 14+k else 3+k+v:Nat):Int))∧w'=w:=by
 have hl:=isLong_any k v hk hv w
 by_cases h:236<3+k+v
 ·rw [if_pos h]
  rw [decide_eq_true h] at hl
  go_enter Tryz.func165,Tryz.ntmps165
  go_wp2_with fail
  refine hl.mono ?_
  rintro e w' ⟨rfl,rfl⟩
  go_wp2
  go_ret
  exact ⟨congrArg (fun x=>Ending.returned (.int .i64 x)) (by omega),rfl⟩
 ·rw [if_neg h]
  rw [decide_eq_false h] at hl
  go_enter Tryz.func165,Tryz.ntmps165
  go_wp2_with fail
  refine hl.mono ?_
  rintro e w' ⟨rfl,rfl⟩
  go_wp2
  go_ret
  exact ⟨congrArg (fun x=>Ending.returned (.int .i64 x)) (by omega),rfl⟩
section
variable {w:World}{F:Nat→Prop}{ρ:Rho}
set_option maxRecDepth 100000 in
theorem item_isLong {i:Itm} (h:IsI w F ρ i) (hk:i.key.length≤1000) (hv:i.val.length≤100000):Calls Tryz.prog 83 #[Pp i.ad] w fun e w'=>e=.returned (.bool (lng i))∧∃q,w'=w.drewN q:=by
 obtain ⟨a,c,-,-,c2,c3,-⟩:=h.cells
 have hl:=fun W=>isLong_any i.key.length i.val.length (by omega) (by omega) W
 have e:lng i=decide (236<3+i.key.length+i.val.length):=rfl
 rw [e]
 generalize decide (236<3+i.key.length+i.val.length)=r at hl ⊢
 clear h e
 go_enter Tryz.func83,Tryz.ntmps83
 go_wp2_with fail
 go_quiet ((go_at_call 126;exact Calls.quiet_of_same (hl _)))
 go_wp2
 go_ret
 exact ⟨rfl,_,rfl⟩
set_option maxRecDepth 100000 in
theorem item_size {i:Itm} (h:IsI w F ρ i) (hk:i.key.length≤1000) (hv:i.val.length≤100000):Calls Tryz.prog 142 #[Pp i.ad] w fun e w'=>e=.returned (.int .i64 (isz i:Int))∧∃q,w'=w.drewN q:=by
 obtain ⟨a,c,-,-,c2,c3,-⟩:=h.cells
 have hl:=fun W=>itemSize_any i.key.length i.val.length (by omega) (by omega) W
 have e:isz i=(if 236<3+i.key.length+i.val.length then 14+i.key.length else 3+i.key.length+i.val.length):=rfl
 rw [e]
 generalize (if 236<3+i.key.length+i.val.length then 14+i.key.length else 3+i.key.length+i.val.length)=r at hl ⊢
 clear h e
 go_enter Tryz.func142,Tryz.ntmps142
 go_wp2_with fail
 go_quiet ((go_at_call 165;exact Calls.quiet_of_same (hl _)))
 go_wp2
 go_ret
 exact ⟨rfl,_,rfl⟩
end
section
variable {w:World}{F:Nat→Prop}{ρ:Rho}
theorem IsN.br {k:Nat}{n:Tr (k+1)} (h:IsN w F ρ n):∃aI cI aU cU,w.cell? ⟨n.1,2,none⟩=some (.int .i64 ((k:Int)+1))∧w.cell? ⟨n.1,3,none⟩=some (.slice aI 0 cI)∧w.cell? ⟨n.1,4,none⟩=some (.slice aU n.2.length cU)∧ReadsP w (.slice aI 0 cI) []∧ReadsP w (.slice aU n.2.length cU) (n.2.map adr):=by
 obtain ⟨vi,vu,h1,h2,h3,_⟩:=h.1
 obtain ⟨aI,cI,rfl,-⟩:=h2.form
 obtain ⟨aU,cU,rfl,-⟩:=h3.form
 rw [List.length_map] at h3 h1
 exact ⟨aI,cI,aU,cU,by simp [World.cell?,h1],by simp [World.cell?,h1],by simp [World.cell?,h1],h2,h3⟩
theorem IsN.lf {n:Tr 0} (h:IsN w F ρ n):∃aI cI aU cU,w.cell? ⟨n.1,2,none⟩=some (.int .i64 0)∧w.cell? ⟨n.1,3,none⟩=some (.slice aI n.2.length cI)∧w.cell? ⟨n.1,4,none⟩=some (.slice aU 0 cU)∧ReadsP w (.slice aI n.2.length cI) (n.2.map Itm.ad)∧ReadsP w (.slice aU 0 cU) []:=by
 obtain ⟨vi,vu,h1,h2,h3,_⟩:=h.1
 obtain ⟨aI,cI,rfl,-⟩:=h2.form
 obtain ⟨aU,cU,rfl,-⟩:=h3.form
 rw [List.length_map] at h2 h1
 exact ⟨aI,cI,aU,cU,by simp [World.cell?,h1],by simp [World.cell?,h1],by simp [World.cell?,h1],h2,h3⟩
def lvAt (w:World) (v:Value):Nat:=match v with
 | .pointer (some a)=>(match w.cell? ⟨a.block,2,none⟩ with
  | some (.int _ z)=>z.toNat
  | _=>0)
 | _=>0
theorem lvAt_of {k:Nat}{n:Tr k} (h:IsN w F ρ n):lvAt w (Pp (adr n))=k:=by
 simp [lvAt,h.level]
theorem Wf.head {k:Nat}{n:Tr (k+1)} (h:Wf n):∃u r,n.2=u::r∧Wf u∧(its n).head?=(its u).head?:=by
 cases e:n.2 with
 | nil=>exact absurd e h.1
 | cons u r =>
  have hu:=h.2.2.1 u (by rw [e];simp)
  refine ⟨u,r,rfl,hu,?_⟩
  rw [its_succ,e,List.flatMap_cons]
  cases e2:its u with
  | nil=>exact absurd e2 hu.some
  | cons a b=>rfl
set_option maxRecDepth 100000 in
set_option maxHeartbeats 400000 in
theorem first_any {k:Nat}{n:Tr k} (h:IsN w F ρ n) (hw:Wf n) (i:Itm) (hi:(its n).head?=some i):Calls Tryz.prog 134 #[Pp (adr n)] w fun e w'=>e=.returned (Sv i.key)∧w=w':=by
 go_enter Tryz.func134,Tryz.ntmps134
 go_wp2_with fail
 go_loop [0] (fun v=>∃(j:Nat) (m:Tr j),v=Pp (adr m)∧IsN w F ρ m∧Wf m∧(its m).head?=some i) (fun v=>lvAt w v)
 case atStart=>exact ⟨k,n,rfl,h,hw,hi⟩
 case round =>
  obtain ⟨j,m,rfl,hm,hwm,him⟩:=hrel
  cases j with
  | zero =>
   obtain ⟨aI,cI,aU,cU,c2,c3,c4,r3,r4⟩:=hm.lf
   obtain ⟨x,r,hx⟩:∃x r,m.2=x::r:=by
    cases e:m.2 with
    | nil=>exact absurd e hwm.1
    | cons x r=>exact ⟨x,r,rfl⟩
   have ex:x=i:=by rw [its_zero,hx] at him;simpa using him
   subst ex
   obtain ⟨b,o,c,e3,hc⟩:=r3.at 0 x.ad (by rw [hx];rfl)
   injection e3 with e3 _ e33
   subst e3 e33
   obtain ⟨a,c',-,-,d2,-,-⟩:=(hm.2 x (by rw [hx];simp)).cells
   have hlen:m.2.length=r.length+1:=by rw [hx];rfl
   rw [hlen] at c3
   have ha:adr m=m.1:=rfl
   rw [ha]
   rw [Nat.add_zero] at hc
   generalize m.1=A at *
   clear h hw hi hm hwm him r3 r4 ha hlen
   go_wp2
   go_ret
   exact ⟨rfl,rfl⟩
  | succ j =>
   obtain ⟨aI,cI,aU,cU,c2,c3,c4,r3,r4⟩:=hm.br
   obtain ⟨u,r,hu,hwu,hh⟩:=hwm.head
   obtain ⟨b,o,c,e4,hc⟩:=r4.at 0 (adr u) (by rw [hu];rfl)
   injection e4 with e4 _ e44
   subst e4 e44
   have hlen:m.2.length=r.length+1:=by rw [hu];rfl
   rw [hlen] at c4
   have hiu:=hm.2 u (by rw [hu];simp)
   have HR:Hid ((∃(j:Nat) (m:Tr j),Pp (adr u)=Pp (adr m)∧IsN w F ρ m∧Wf m∧(its m).head?=some i)∧lvAt w (Pp (adr u))<lvAt w (Pp (adr m))):=⟨⟨j,u,rfl,hiu,hwu,by rw [←hh];exact him⟩,by rw [lvAt_of hiu,lvAt_of hm];omega⟩
   have ha:adr m=m.1:=rfl
   rw [ha] at HR ⊢
   rw [Nat.add_zero] at hc
   generalize m.1=A at *
   generalize adr u=U at *
   clear h hw hi hm hwm him r3 r4 ha hlen hiu hwu hh
   go_wp2
   exact HR.out
end
def PlaceOf (fs:List (List UInt8)) (key:List UInt8) (at_:Nat):Prop:=at_≤fs.length∧∀(j:Nat) (x:List UInt8),fs[j]?=some x→(x<key↔j<at_)
def Searched (fs:List (List UInt8)) (key:List UInt8) (w:World) (e:Ending) (w':World):Prop:=∃(at_:Nat) (b:Bool),e=.returned (.tuple #[.int .i64 (at_:Int),.bool b])∧(b=true↔fs[at_]?=some key)∧PlaceOf fs key at_∧w=w'
theorem rising_le {fs:List (List UInt8)} (h:fs.Pairwise (·<·)) {i j:Nat}{x y:List UInt8} (hi:fs[i]?=some x) (hj:fs[j]?=some y) (hij:i<j):x<y:=by
 obtain ⟨h1,e1⟩:=List.getElem?_eq_some_iff.1 hi
 obtain ⟨h2,e2⟩:=List.getElem?_eq_some_iff.1 hj
 rw [←e1,←e2]
 exact List.pairwise_iff_getElem.1 h i j h1 h2 hij
theorem half_range (i j:Nat) (h:i<j):(i+j) / 2<j∧i≤(i+j) / 2:=by omega
section
variable {w:World}{F:Nat→Prop}{ρ:Rho}
set_option maxRecDepth 100000 in
set_option maxHeartbeats 1000000 in
theorem searchN (a:Option Addr) (n c:Nat) (l:List Nat) (hn:Hid (n=l.length)) (hr:ReadsP w (.slice a n c) l) (hc:n≤1000000) (key:List UInt8) (fs:List (List UInt8)) (hf:Hid (fs.length=n)) (hup:fs.Pairwise (·<·))
  (hcmp:Hid (∀(j x:Nat) (kx:List UInt8),l[j]?=some x→fs[j]?=some kx→Calls Tryz.prog 133 #[Pp x,Sv key] w fun e w'=>e=.returned (.int .i64 (Lib.compareBytes kx key))∧w=w')) :
  Calls Tryz.prog 132 #[.slice a n c,Sv key,.func (.func 133) #[] #[]] w fun e w'=>Searched fs key w e w':=by
 have eg:∀args w,(callFunc 133 args).run Tryz.prog w=.ok (.enter 133 args) w:=enters_of Tryz.func133 (by kernel_rfl) rfl
 have HU:=Hid.mk hup
 clear hup
 go_enter Tryz.func132,Tryz.ntmps132
 go_wp2_with fail
 go_loopw [9,10] (fun vi vj wr=>∃i j:Nat,w=wr∧vi=.int .i64 (i:Int)∧vj=.int .i64 (j:Int)∧i≤j∧j≤n∧Hid ((∀(p:Nat) (x:List UInt8),fs[p]?=some x→p<i→x<key)∧∀(p:Nat) (x:List UInt8),fs[p]?=some x→j≤p→¬x<key)) (fun vi vj _=>(intOf vj-intOf vi).toNat)
 case atStart=>exact ⟨0,n,rfl,rfl,rfl,by omega,by omega,Hid.mk ⟨by intros;omega,fun p x hp hj=>by have:=(List.getElem?_eq_some_iff.1 hp).1;have:=hf.out;omega⟩⟩
 case round =>
  obtain ⟨i,j,rfl,rfl,rfl,hij,hjn,H1⟩:=hrel
  by_cases hlt:i<j
  ·have hh:=half_range i j hlt
   obtain ⟨x,hx⟩:∃x,l[(i+j) / 2]?=some x:=⟨_,List.getElem?_eq_getElem (by have:=hn.out;omega)⟩
   obtain ⟨kx,hkx⟩:∃kx,fs[(i+j) / 2]?=some kx:=⟨_,List.getElem?_eq_getElem (by have:=hf.out;omega)⟩
   obtain ⟨b,o,c',e,hcell⟩:=hr.at _ x hx
   rw [←hn.out] at e
   injection e with e _ e2
   subst e e2
   have hcc:=hcmp.out _ x kx hx hkx
   have hcl:=cmp_lt kx key
   generalize Lib.compareBytes kx key=cv at hcc hcl
   have Hx:=Hid.mk hkx
   clear hx hkx
   by_cases hneg:cv<0
   ·have hk:kx<key:=hcl.1 hneg
    clear hcl
    go_wp2_with (go_at_fn 133;refine hcc.mono ?_;rintro e w' ⟨rfl,rfl⟩)
    go_roundw
    case rel =>
     exact ⟨(i+j) / 2+1,j,trivial,by rw [show ((i:Int)+(j:Int)) / 2+1=(((i+j) / 2+1:Nat):Int) by omega],rfl,by omega,hjn,Hid.mk ⟨fun p y hp hlt=>by
      rcases Nat.lt_or_ge p ((i+j) / 2) with h|h
      ·exact klt_trans (rising_le HU.out hp Hx.out h) hk
      ·have:p=(i+j) / 2:=by omega
       subst this
       rw [Hx.out] at hp
       injection hp with hp
       rw [←hp]
       exact hk,H1.out.2⟩⟩
    case measure=>simp [intOf];omega
   ·have hk:¬kx<key:=fun h=>hneg (hcl.2 h)
    clear hcl
    go_wp2_with (go_at_fn 133;refine hcc.mono ?_;rintro e w' ⟨rfl,rfl⟩)
    go_roundw
    case rel =>
     exact ⟨i,(i+j) / 2,trivial,rfl,by rw [show ((i:Int)+(j:Int)) / 2=(((i+j) / 2:Nat):Int) by omega],by omega,by omega,Hid.mk ⟨H1.out.1,fun p y hp hle=>by
      rcases Nat.lt_or_ge ((i+j) / 2) p with h|h
      ·exact fun hy=>hk (klt_trans (rising_le HU.out Hx.out hp h) hy)
      ·have:p=(i+j) / 2:=by omega
       subst this
       rw [Hx.out] at hp
       injection hp with hp
       rw [←hp]
       exact hk⟩⟩
    case measure=>simp [intOf];omega
  ·obtain rfl:j=i:=by omega
   have HP:Hid (PlaceOf fs key j):=Hid.mk ⟨by have:=hf.out;omega,fun p x hp=>⟨fun h=>Nat.lt_of_not_le fun hle=>H1.out.2 p x hp hle h,fun h=>H1.out.1 p x hp h⟩⟩
   by_cases hjn2:j<n
   ·obtain ⟨x,hx⟩:∃x,l[j]?=some x:=⟨_,List.getElem?_eq_getElem (by have:=hn.out;omega)⟩
    obtain ⟨kx,hkx⟩:∃kx,fs[j]?=some kx:=⟨_,List.getElem?_eq_getElem (by have:=hf.out;omega)⟩
    obtain ⟨b,o,c',e,hcell⟩:=hr.at _ x hx
    rw [←hn.out] at e
    injection e with e _ e2
    subst e e2
    have hcc:=hcmp.out _ x kx hx hkx
    have hce:=cmp_eq kx key
    generalize Lib.compareBytes kx key=cv at hcc hce
    have hd:Hid (fs[j]?=some key↔cv=0):=Hid.mk (by
     rw [hkx]
     simp only [Option.some.injEq,hce])
    clear hx hkx hce
    by_cases h0:cv=0
    ·subst h0
     go_wp2_with (go_at_fn 133;refine hcc.mono ?_;rintro e w' ⟨rfl,rfl⟩)
     go_ret2
     exact ⟨j,true,rfl,by rw [hd.out];simp,HP.out,rfl⟩
    ·have hb:(cv == 0)=false:=by simpa using h0
     go_wp2_with (go_at_fn 133;refine hcc.mono ?_;rintro e w' ⟨rfl,rfl⟩)
     go_ret2
     exact ⟨j,false,rfl,by rw [hd.out];simp [h0],HP.out,rfl⟩
   ·have hd:Hid (fs[j]?=none):=Hid.mk (List.getElem?_eq_none (by have:=hf.out;omega))
    go_wp2
    go_ret2
    exact ⟨j,false,rfl,by rw [hd.out];simp,HP.out,rfl⟩
set_option maxRecDepth 100000 in
set_option maxHeartbeats 1000000 in
theorem searchI (a:Option Addr) (n c:Nat) (l:List Nat) (hn:Hid (n=l.length)) (hr:ReadsP w (.slice a n c) l) (hc:n≤1000000) (key:List UInt8) (fs:List (List UInt8)) (hf:Hid (fs.length=n)) (hup:fs.Pairwise (·<·))
  (hcmp:Hid (∀(j x:Nat) (kx:List UInt8),l[j]?=some x→fs[j]?=some kx→Calls Tryz.prog 136 #[Pp x,Sv key] w fun e w'=>e=.returned (.int .i64 (Lib.compareBytes kx key))∧w=w')) :
  Calls Tryz.prog 135 #[.slice a n c,Sv key,.func (.func 136) #[] #[]] w fun e w'=>Searched fs key w e w':=by
 have eg:∀args w,(callFunc 136 args).run Tryz.prog w=.ok (.enter 136 args) w:=enters_of Tryz.func136 (by kernel_rfl) rfl
 have HU:=Hid.mk hup
 clear hup
 go_enter Tryz.func135,Tryz.ntmps135
 go_wp2_with fail
 go_loopw [9,10] (fun vi vj wr=>∃i j:Nat,w=wr∧vi=.int .i64 (i:Int)∧vj=.int .i64 (j:Int)∧i≤j∧j≤n∧Hid ((∀(p:Nat) (x:List UInt8),fs[p]?=some x→p<i→x<key)∧∀(p:Nat) (x:List UInt8),fs[p]?=some x→j≤p→¬x<key)) (fun vi vj _=>(intOf vj-intOf vi).toNat)
 case atStart=>exact ⟨0,n,rfl,rfl,rfl,by omega,by omega,Hid.mk ⟨by intros;omega,fun p x hp hj=>by have:=(List.getElem?_eq_some_iff.1 hp).1;have:=hf.out;omega⟩⟩
 case round =>
  obtain ⟨i,j,rfl,rfl,rfl,hij,hjn,H1⟩:=hrel
  by_cases hlt:i<j
  ·have hh:=half_range i j hlt
   obtain ⟨x,hx⟩:∃x,l[(i+j) / 2]?=some x:=⟨_,List.getElem?_eq_getElem (by have:=hn.out;omega)⟩
   obtain ⟨kx,hkx⟩:∃kx,fs[(i+j) / 2]?=some kx:=⟨_,List.getElem?_eq_getElem (by have:=hf.out;omega)⟩
   obtain ⟨b,o,c',e,hcell⟩:=hr.at _ x hx
   rw [←hn.out] at e
   injection e with e _ e2
   subst e e2
   have hcc:=hcmp.out _ x kx hx hkx
   have hcl:=cmp_lt kx key
   generalize Lib.compareBytes kx key=cv at hcc hcl
   have Hx:=Hid.mk hkx
   clear hx hkx
   by_cases hneg:cv<0
   ·have hk:kx<key:=hcl.1 hneg
    clear hcl
    go_wp2_with (go_at_fn 136;refine hcc.mono ?_;rintro e w' ⟨rfl,rfl⟩)
    go_roundw
    case rel =>
     exact ⟨(i+j) / 2+1,j,trivial,by rw [show ((i:Int)+(j:Int)) / 2+1=(((i+j) / 2+1:Nat):Int) by omega],rfl,by omega,hjn,Hid.mk ⟨fun p y hp hlt=>by
      rcases Nat.lt_or_ge p ((i+j) / 2) with h|h
      ·exact klt_trans (rising_le HU.out hp Hx.out h) hk
      ·have:p=(i+j) / 2:=by omega
       subst this
       rw [Hx.out] at hp
       injection hp with hp
       rw [←hp]
       exact hk,H1.out.2⟩⟩
    case measure=>simp [intOf];omega
   ·have hk:¬kx<key:=fun h=>hneg (hcl.2 h)
    clear hcl
    go_wp2_with (go_at_fn 136;refine hcc.mono ?_;rintro e w' ⟨rfl,rfl⟩)
    go_roundw
    case rel =>
     exact ⟨i,(i+j) / 2,trivial,rfl,by rw [show ((i:Int)+(j:Int)) / 2=(((i+j) / 2:Nat):Int) by omega],by omega,by omega,Hid.mk ⟨H1.out.1,fun p y hp hle=>by
      rcases Nat.lt_or_ge ((i+j) / 2) p with h|h
      ·exact fun hy=>hk (klt_trans (rising_le HU.out Hx.out hp h) hy)
      ·have:p=(i+j) / 2:=by omega
       subst this
       rw [Hx.out] at hp
       injection hp with hp
       rw [←hp]
       exact hk⟩⟩
    case measure=>simp [intOf];omega
  ·obtain rfl:j=i:=by omega
   have HP:Hid (PlaceOf fs key j):=Hid.mk ⟨by have:=hf.out;omega,fun p x hp=>⟨fun h=>Nat.lt_of_not_le fun hle=>H1.out.2 p x hp hle h,fun h=>H1.out.1 p x hp h⟩⟩
   by_cases hjn2:j<n
   ·obtain ⟨x,hx⟩:∃x,l[j]?=some x:=⟨_,List.getElem?_eq_getElem (by have:=hn.out;omega)⟩
    obtain ⟨kx,hkx⟩:∃kx,fs[j]?=some kx:=⟨_,List.getElem?_eq_getElem (by have:=hf.out;omega)⟩
    obtain ⟨b,o,c',e,hcell⟩:=hr.at _ x hx
    rw [←hn.out] at e
    injection e with e _ e2
    subst e e2
    have hcc:=hcmp.out _ x kx hx hkx
    have hce:=cmp_eq kx key
    generalize Lib.compareBytes kx key=cv at hcc hce
    have hd:Hid (fs[j]?=some key↔cv=0):=Hid.mk (by
     rw [hkx]
     simp only [Option.some.injEq,hce])
    clear hx hkx hce
    by_cases h0:cv=0
    ·subst h0
     go_wp2_with (go_at_fn 136;refine hcc.mono ?_;rintro e w' ⟨rfl,rfl⟩)
     go_ret2
     exact ⟨j,true,rfl,by rw [hd.out];simp,HP.out,rfl⟩
    ·have hb:(cv == 0)=false:=by simpa using h0
     go_wp2_with (go_at_fn 136;refine hcc.mono ?_;rintro e w' ⟨rfl,rfl⟩)
     go_ret2
     exact ⟨j,false,rfl,by rw [hd.out];simp [h0],HP.out,rfl⟩
   ·have hd:Hid (fs[j]?=none):=Hid.mk (List.getElem?_eq_none (by have:=hf.out;omega))
    go_wp2
    go_ret2
    exact ⟨j,false,rfl,by rw [hd.out];simp,HP.out,rfl⟩
end
end Go.Proofs.YtgpbhlfdlkemjaaGreat
