import Derived.Test.YtkiofbikkhhdfabGreatDoorK19
import Derived.Test.YtkiofbikkhhdfabGreatDoorCZ
import Derived.SliceStrings
import Derived.OpenShut
import Derived.SizedLaws
namespace Go.Proofs.YtkiofbikkhhdfabGreatDoor
open Go.ChangeShapes Go.WideShapes Go.ChangeAt Go.RowKit
open Utf1 Pol8

theorem list_choice {α:Type}{R:Nat->α->Prop}:∀ n:Nat,(∀ i,i < n->∃ x,R i x)->∃ l:List α,l.length=n/\∀ i x,l[i]?=some x->R i x
 | 0,_=>⟨[],rfl,fun i x h=>by simp at h⟩
 | n+1,h=>by
  obtain⟨l,hl,hr⟩:=list_choice n (fun i hi=>h i (by omega))
  obtain⟨x,hx⟩:=h n (by omega)
  refine⟨l++[x],by simp[hl],?_⟩
  intro i y hy
  by_cases hi:i < l.length
  ·rw[List.getElem?_append_left hi] at hy
   exact hr i y hy
  ·have hlen:=(List.getElem?_eq_some_iff.1 hy).1
   rw[List.length_append,List.length_singleton] at hlen
   have e:i=l.length:=by omega
   subst e
   rw[List.getElem?_append_right (Nat.le_refl _),Nat.sub_self] at hy
   have:x=y:=by simpa using hy
   rw[hl,<-this]
   exact hx
section
variable {H:Type}{enc:TypeId × Value->H}{W:World}
theorem spot_first {a:Addr}{b n:Nat}{cs:List Value}(h:W.cells? b (a.add 0) n=some cs)(hn:0 < n):a.spot=none:=by
 obtain⟨_,hl,hc⟩:=World.cells?_some h
 have h0:=hc 0 hn
 rw[List.getElem?_eq_getElem (by omega)] at h0
 simpa [Addr.add] using World.cell?_spot h0
theorem at_cell {a:Addr}{i k:Nat}{v:Value}(hs:a.spot=none)(h:W.cell? ((a.add i).add k)=some v):W.cell? ⟨a.block,a.off+i+k,none⟩=some v:=by
 obtain⟨b,off,spot⟩:=a
 simp only[] at hs
 subst hs
 rw[add_plain,add_plain] at h
 exact h
theorem bytesPol:Tryz.prog.bytesOf 24=152:=by kernel_rfl
theorem open_pols_sized {a:Option Addr}{len cap:Nat}{d:DataW H}{p:List MemPlace}(h:DataW.Trod enc Tryz.prog W 0 (fun _=>true) true 51 (.slice a len cap) d p)(hw:∀ k∈d.weights Tryz.prog 51,k<=reachBytes):∃ ts,PolRow W (.slice a len cap) ts/\ts.length*152<=140737488351232:=by
 obtain⟨fuel,hf⟩:=h
 rcases DataW.trod_slice Tryz.underlying51 hf with⟨hc,e⟩ | ⟨a',len',cap',elems,rest,n',_,hc,e,hb,hl,hm,hlen,hel,hsp,hns⟩
 ·simp[Value.cells] at hc
  obtain⟨rfl,rfl,rfl⟩:=hc
  exact⟨[],polRow_nil W,by simp⟩
 ·simp[Value.cells] at hc
  obtain⟨rfl,rfl,rfl⟩:=hc
  rw[cellsPol] at hel
  have key:∀ i,i < len->∃ t:It,(∃ b off,some a'=some ⟨b,off,none⟩/\W.rangeAt b (off+i*9) t.cells)/\t.ok W:=by
   intro i hi
   have h1:=hel i hi
   have hil:i < elems.length:=by omega
   rw[List.getElem?_eq_getElem hil,Option.bind_eq_some_iff] at h1
   obtain⟨cs,hcs,ht⟩:=h1
   obtain⟨P,v1,v2,v3,v4,v5,l1,l2,l3,l4,l5,rfl,hp⟩:=pol_cells (show Glob W from trivial) ht
   obtain⟨_,_,hcell⟩:=World.cells?_some hcs
   have hsp1:a'.spot=none:=by
    have h0:=hel 0 (by omega)
    rw[List.getElem?_eq_getElem (by omega),Option.bind_eq_some_iff,Nat.zero_mul] at h0
    obtain⟨cs0,hcs0,_⟩:=h0
    exact spot_first hcs0 (by decide)
   refine⟨⟨P,v1,v2,v3,v4,v5,l1,l2,l3,l4,l5⟩,⟨a'.block,a'.off,?_,fun j u hj=>?_⟩,hp⟩
   ·obtain⟨b,off,spot⟩:=a'
    simp only[] at hsp1
    rw[hsp1]
   ·have hj9:j < 9:=(List.getElem?_eq_some_iff.1 hj).1
    have:=hcell j hj9
    rw[show ([Value.int .i64 P.ep,v1,v2,v3,v4,v5,.int .i64 P.dp,.int .i64 P.nd,.int .i64 P.bt]:List Value)[j]?=some u from hj] at this
    exact at_cell hsp1 this
  obtain⟨l,hll,hlr⟩:=list_choice len key
  refine⟨l,⟨some a',cap,by rw[hll],by omega,(fun e=>by cases e),fun i t ht=>hlr i t ht⟩,?_⟩
  injection e with ed ep
  subst ed
  have h1:=hw _ (by
   simp only[DataW.weights,Tryz.underlying51,List.mem_cons]
   exact .inl rfl)
  rw[bytesPol] at h1
  simp only[List.length_map] at h1
  have h2:reachBytes=140737488351232:=rfl
  have h3:(elems.length+rest.length)*152=elems.length*152+rest.length*152:=Nat.add_mul _ _ _
  rw[hll]
  omega
theorem open_pols {a:Option Addr}{len cap:Nat}{d:DataW H}{p:List MemPlace}(h:DataW.Trod enc Tryz.prog W 0 (fun _=>true) true 51 (.slice a len cap) d p):∃ ts,PolRow W (.slice a len cap) ts:=by
 obtain⟨fuel,hf⟩:=h
 rcases DataW.trod_slice Tryz.underlying51 hf with⟨hc,e⟩ | ⟨a',len',cap',elems,rest,n',_,hc,e,hb,hl,hm,hlen,hel,hsp,hns⟩
 ·simp[Value.cells] at hc
  obtain⟨rfl,rfl,rfl⟩:=hc
  exact⟨[],polRow_nil W⟩
 ·simp[Value.cells] at hc
  obtain⟨rfl,rfl,rfl⟩:=hc
  rw[cellsPol] at hel
  have key:∀ i,i < len->∃ t:It,(∃ b off,some a'=some ⟨b,off,none⟩/\W.rangeAt b (off+i*9) t.cells)/\t.ok W:=by
   intro i hi
   have h1:=hel i hi
   have hil:i < elems.length:=by omega
   rw[List.getElem?_eq_getElem hil,Option.bind_eq_some_iff] at h1
   obtain⟨cs,hcs,ht⟩:=h1
   obtain⟨P,v1,v2,v3,v4,v5,l1,l2,l3,l4,l5,rfl,hp⟩:=pol_cells (show Glob W from trivial) ht
   obtain⟨_,_,hcell⟩:=World.cells?_some hcs
   have hsp1:a'.spot=none:=by
    have h0:=hel 0 (by omega)
    rw[List.getElem?_eq_getElem (by omega),Option.bind_eq_some_iff,Nat.zero_mul] at h0
    obtain⟨cs0,hcs0,_⟩:=h0
    exact spot_first hcs0 (by decide)
   refine⟨⟨P,v1,v2,v3,v4,v5,l1,l2,l3,l4,l5⟩,⟨a'.block,a'.off,?_,fun j u hj=>?_⟩,hp⟩
   ·obtain⟨b,off,spot⟩:=a'
    simp only[] at hsp1
    rw[hsp1]
   ·have hj9:j < 9:=(List.getElem?_eq_some_iff.1 hj).1
    have:=hcell j hj9
    rw[show ([Value.int .i64 P.ep,v1,v2,v3,v4,v5,.int .i64 P.dp,.int .i64 P.nd,.int .i64 P.bt]:List Value)[j]?=some u from hj] at this
    exact at_cell hsp1 this
  obtain⟨l,hll,hlr⟩:=list_choice len key
  exact⟨l,some a',cap,by rw[hll],by omega,(fun e=>by cases e),fun i t ht=>hlr i t ht⟩
end
end Go.Proofs.YtkiofbikkhhdfabGreatDoor
