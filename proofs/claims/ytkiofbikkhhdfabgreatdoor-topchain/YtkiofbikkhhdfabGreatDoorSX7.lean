import Derived.Test.YtkiofbikkhhdfabGreatDoorSX6
import Derived.Test.YtkiofbikkhhdfabGreatDoorSX4
import Derived.Test.YtkiofbikkhhdfabGreatDoorK26
set_option maxRecDepth 100000
namespace San
open Utf1 Pol8 Saf
def tsum:List Nd->Nat
 | []=>0
 | x :: r=>x.text.length+tsum r
theorem tsum_app:∀ a b:List Nd,tsum (a++b)=tsum a+tsum b
 | [],b=>by simp[tsum]
 | x :: a,b=>by rw[List.cons_append,tsum,tsum,tsum_app a b];omega
mutual
theorem all_lenN (p:Pol):∀ x:Nd,(allN p x).length<=ncN x/\tsum (allN p x)<=wsN x
 | .mk n a t k=>by
  have h:=all_lenL p k
  rw[allN,ncN,wsN]
  split
  ·simp[tsum,txt,Nd.text];omega
  split
  ·simp[tsum]
  split
  ·simp[tsum,Nd.text]
  ·omega
theorem all_lenL (p:Pol):∀ l:List Nd,(allL p l).length<=ncL l/\tsum (allL p l)<=wsL l
 | []=>by simp[allL,tsum]
 | x :: r=>by
  have h1:=all_lenN p x
  have h2:=all_lenL p r
  rw[allL,ncL,wsL,List.length_append,tsum_app]
  omega
end
theorem endT_len (t:L):(endT t).length<=1:=by unfold endT;split <;> simp
theorem push_len:∀ (l:List Nd) (s:List Nd × L),(l.foldl push s).1.length<=s.1.length+2*l.length/\(l.foldl push s).2.length<=s.2.length+tsum l
 | [],s=>by simp[tsum]
 | x :: r,s=>by
  rw[List.foldl_cons]
  have h:=push_len r (push s x)
  have h1:(push s x).1.length<=s.1.length+2/\(push s x).2.length<=s.2.length+x.text.length:=by
   have:=endT_len s.2
   unfold push
   split <;> simp <;> omega
  rw[tsum,List.length_cons]
  omega
end San
namespace Go.Proofs.YtkiofbikkhhdfabGreatDoor.Dm
open Go.RowKit
open Utf1 Pol8
mutual
theorem KAt.kind {w:World}{base:Nat}{v:Value}{ns:List Nd}{fp:List Nat}(h:KAt w base v ns fp):∀ k∈fp,∃ cs fz,w.heap[k]?=some (.cells cs 80 fz) :=
 match h with
 | .mk v l fp row all=>fun k hk=>(List.mem_append.1 hk).elim (fun hk=>by
   obtain⟨_,⟨rfl,_⟩ | ⟨g,cap,cur,rfl,hb,hg,_⟩⟩:=row
   ·simp[blk,Value.ownBlock] at hk
   ·have:k=g:=by simpa [blk,Value.ownBlock] using hk
    subst this
    exact⟨_,_,hg⟩) (all.kind k)
theorem KAll.kind {w:World}{base:Nat}{l:List (Nd × Value × Value)}{fp:List Nat}(h:KAll w base l fp):∀ k∈fp,∃ cs fz,w.heap[k]?=some (.cells cs 80 fz) :=
 match h with
 | .nil=>fun k hk=>by cases hk
 | .cons n av kv l fp fps ha hk hl=>fun k hk'=>(List.mem_append.1 hk').elim (hk.kind k) (hl.kind k)
end
mutual
theorem KAt.lower {w:World}{base base':Nat}{v:Value}{ns:List Nd}{fp:List Nat}(h:KAt w base v ns fp)(hb:base'<=base):KAt w base' v ns fp :=
 match h with
 | .mk v l fp row all=>.mk v l fp (own_lower row hb) (all.lower hb)
theorem KAll.lower {w:World}{base base':Nat}{l:List (Nd × Value × Value)}{fp:List Nat}(h:KAll w base l fp)(hb:base'<=base):KAll w base' l fp :=
 match h with
 | .nil=>.nil
 | .cons n av kv l fp fps ha hk hl=>.cons n av kv l fp fps (own_lower ha hb) (hk.lower hb) (hl.lower hb)
end
theorem kat_slice {w:World}{base:Nat}{v:Value}{ns:List Nd}{fp:List Nat}(h:KAt w base v ns fp):∃ p c,v=.slice p ns.length c:=by
 cases h with
 | mk _ l fp row all =>
  obtain⟨p,c,e⟩:=own_len row
  exact⟨p,c,by rw[List.length_map];exact e⟩
theorem wa_mem {kv:List UInt8 × List UInt8}:∀ {l:List (List UInt8 × List UInt8)},kv∈l->kv.1.length+kv.2.length<=waL l
 | x :: r,h=>by
  rw[waL]
  rcases List.mem_cons.1 h with rfl | h
  ·omega
  ·have:=wa_mem h
   omega
structure CR (w:World) (N base B:Nat) (a:Nat->Value) (sv pa bv:Value) (l:List (Nd × Value × Value)) (fp:List Nat) (t:List UInt8):Prop where
 c:CB w B a sv pa bv
 t:CWait w base B pa bv t
 r:w.ownsRow base 80 4 sv l.length (ndCells l)
 k:KAll w base l fp
 d:∀ k∈blk sv,k ∉ fp
 b:base<=B
 lb:B < N
 ls:∀ k∈blk sv,k < N
def CS (w:World) (N base B:Nat) (a:Nat->Value) (ns:List Nd) (t:List UInt8):Prop:=∃ sv pa bv l fp,CR w N base B a sv pa bv l fp t/\l.map Prod.fst=ns
theorem CR.under {w w':World}{N base B:Nat}{a:Nat->Value}{sv pa bv:Value}{l:List (Nd × Value × Value)}{fp:List Nat}{t:List UInt8}(h:CR w N base B a sv pa bv l fp t)(hb:Below w.heap.size w w'):CR w' N base B a sv pa bv l fp t :=
 ⟨(hb.block _ (lt_of_block h.c)).trans h.c,⟨h.t.1,own_below h.t.2 hb⟩,own_below h.r hb,h.k.under hb,h.d,h.b,h.lb,h.ls⟩
theorem CS.under {w w':World}{N base B:Nat}{a:Nat->Value}{ns:List Nd}{t:List UInt8}(h:CS w N base B a ns t)(hb:Below w.heap.size w w'):CS w' N base B a ns t:=by
 obtain⟨sv,pa,bv,l,fp,h,e⟩:=h
 exact⟨sv,pa,bv,l,fp,h.under hb,e⟩
theorem CR.up {w:World}{N base B:Nat}{a:Nat->Value}{sv pa bv:Value}{l:List (Nd × Value × Value)}{fp:List Nat}{t:List UInt8}(h:CR w N base B a sv pa bv l fp t):CR w w.heap.size base B a sv pa bv l fp t :=
 { h with lb:=lt_of_block h.c,ls:=fun k hk=>(own_lt h.r k hk).2 }
theorem CS.up {w:World}{N base B:Nat}{a:Nat->Value}{ns:List Nd}{t:List UInt8}(h:CS w N base B a ns t):CS w w.heap.size base B a ns t:=by
 obtain⟨sv,pa,bv,l,fp,h,e⟩:=h
 exact⟨sv,pa,bv,l,fp,h.up,e⟩
theorem CS.lt {w:World}{N base B:Nat}{a:Nat->Value}{ns:List Nd}{t:List UInt8}(h:CS w N base B a ns t):base<=B/\B < w.heap.size:=by
 obtain⟨sv,pa,bv,l,fp,h,-⟩:=h
 exact⟨h.b,lt_of_block h.c⟩
theorem CR.put {w wz w':World}{N base B:Nat}{a:Nat->Value}{sv pa bv u2 u3 v':Value}{l:List (Nd × Value × Value)}{fp fp3:List Nat}{t:List UInt8}{nm tx:List UInt8}{at':List (List UInt8 × List UInt8)}{kids:List Nd}(h:CR w N base B a sv pa bv l fp t)(hw:Below w.heap.size w wz)(ha:wz.ownsRow w.heap.size 108 2 u2 at'.length (attrCells at'))(hk:KAt wz w.heap.size u3 kids fp3)
  (hp:CPut wz w' base B a sv pa bv v' (l.length+1) (ndCells l++[.string ⟨nm.toArray⟩,u2,.string ⟨tx.toArray⟩,u3])):CR w' w'.heap.size base B a v' pa bv (l++[(.mk nm at' tx kids,u2,u3)]) (fp++fp3) t/\Below base w w':=by
 have hz:=h.under hw
 have hB:=lt_of_block h.c
 have hbw:base<=w.heap.size:=Nat.le_trans h.b (Nat.le_of_lt hB)
 have hst:Stays wz w' (B :: blk sv):=⟨hp.b.size,fun k hk hS=>hp.k k hk (fun e=>hS (by rw[e];exact List.mem_cons_self ..)) (fun e=>hS (List.mem_cons_of_mem _ (by unfold blk;rw[<-e];simp))),fun k hk cs fz e=>by
  rcases List.mem_cons.1 hk with rfl | hk
  ·have:=hz.c
   unfold CB at this
   rw[this] at e
   simp at e
  ·exact own_apart hz.r e (by decide) (by unfold blk at hk;simpa using hk)⟩
 have hB3:∀ {fp:List Nat},(∀ k∈fp,∃ cs fz,wz.heap[k]?=some (.cells cs 80 fz))->B ∉ fp:=by
  intro fp hf hm
  obtain⟨cs,fz,e⟩:=hf B hm
  have:=hz.c
  unfold CB at this
  rw[this] at e
  simp at e
 have d1:∀ k∈fp,k ∉ B :: blk sv:=fun k hk hm=>by
  rcases List.mem_cons.1 hm with rfl | hm
  ·exact hB3 hz.k.kind hk
  ·exact h.d k hm hk
 have hlt3:=hk.lt
 have d3:∀ k∈fp3,k ∉ B :: blk sv:=fun k hk3 hm=>by
  have:=(hlt3 k hk3).1
  rcases List.mem_cons.1 hm with rfl | hm
  ·omega
  ·have:=(own_lt h.r k hm).2
   omega
 have hat:=attr_stays (own_lower ha hbw) hst
 have hkid:=(hk.lower hbw).stays hst d3
 have hall:=hz.k.stays hst d1
 have hbf:w'.ownsRow base 5 1 bv (Lib.byteCells t).length (Lib.byteCells t):=own_stays hz.t.2 hst.block (fun k hk hm=>by
  rcases List.mem_cons.1 hm with rfl | hm
  ·exact own_apart hz.t.2 hz.c (by decide) hk
  ·obtain⟨_,⟨rfl,_⟩ | ⟨g,cap,cur,rfl,_,hg,_⟩⟩:=hz.t.2
   ·cases hk
   ·have:g=k:=by simpa [Value.ownBlock] using hk
    subst this
    exact own_apart hz.r hg (by decide) (by unfold blk at hm;simpa using hm))
 refine⟨⟨hp.c,⟨h.t.1,hbf⟩,?_,hall.app (KAll.cons (.mk nm at' tx kids) u2 u3 [] fp3 [] hat hkid .nil |> fun x=>by simpa using x),?_,h.b,lt_of_block hp.c,fun k hk=>(own_lt hp.r k hk).2⟩,(hw.mono hbw).trans hp.b⟩
 ·rw[List.length_append,ndCells_app]
  exact hp.r
 ·intro k hk hm
  unfold blk at hk
  have hk':v'.ownBlock=some k:=by simpa using hk
  rcases hp.f with e | e
  ·rw[hk'] at e
   have hks:k∈blk sv:=by unfold blk;rw[<-e];simp
   rcases List.mem_append.1 hm with hm | hm
   ·exact h.d k hks hm
   ·exact d3 k hm (List.mem_cons_of_mem _ hks)
  ·have:k=wz.heap.size:=by rw[hk'] at e;simpa using e
   rcases List.mem_append.1 hm with hm | hm
   ·have:=(hz.k.lt k hm).2
    omega
   ·have:=(hlt3 k hm).2
    omega
theorem cend_none (w:World) (base B:Nat) (a:Nat->Value) (sv pa bv:Value)(hB:CB w B a sv pa bv)(hW:CWait w base B pa bv []) :
  Calls Tryz.prog 108 #[.pointer (some ⟨B,0,none⟩)] w fun e w'=>e=.returned (.tuple #[])/\w'=w:=by
 obtain⟨bp,bc,rfl⟩:=own_len hW.2
 have CL:=hide (clen_any w B a _ _ bp _ bc hB)
 rw[show (Lib.byteCells ([]:List UInt8)).length=0 from rfl] at CL
 clear hB hW
 go_enter Tryz.func108,Tryz.ntmps108
 go_wp2_with fail
 refine CL.out.mono ?_
 rintro e w1 ⟨rfl,rfl⟩
 go_wp2_with fail
 go_end0
 exact⟨rfl,rfl⟩
theorem cs_end {w:World}{N base B:Nat}{a:Nat->Value}{ns:List Nd}{t:List UInt8}(h:CS w N base B a ns t)(hl:ns.length<=1000000) :
  Calls Tryz.prog 108 #[.pointer (some ⟨B,0,none⟩)] w fun e w'=>e=.returned (.tuple #[])/\CS w' w'.heap.size base B a (ns++San.endT t) []/\Below base w w'/\∀ k cs,N<=k->w.heap[k]?=some (.cells cs 80 (0,0))->w'.heap[k]?=w.heap[k]?:=by
 obtain⟨sv,pa,bv,l,fp,h,rfl⟩:=h
 rw[List.length_map] at hl
 by_cases ht:t=[]
 ·subst ht
  refine (cend_none w base B a sv pa bv h.c h.t).mono ?_
  rintro e w' ⟨rfl,rfl⟩
  exact⟨rfl,⟨sv,pa,bv,l,fp,h.up,by rw[San.endT,if_pos rfl,List.append_nil]⟩,Below.refl _ _,fun _ _ _ _=>rfl⟩
 ·refine (cend_any w base B a sv pa bv l.length (ndCells l) t h.c h.t h.r hl h.b ht).mono ?_
  rintro e w' ⟨rfl,v',hc,hr,hf,hb,hk⟩
  have hst:Stays w w' (B :: (blk sv++blk bv)):=⟨hb.size,fun k hkl hS=>hk k hkl (fun e=>hS (by rw[e];exact List.mem_cons_self ..)) (fun e=>hS (List.mem_cons_of_mem _ (List.mem_append_left _ (by unfold blk;rw[<-e];simp)))) (fun e=>hS (List.mem_cons_of_mem _ (List.mem_append_right _ (by unfold blk;rw[<-e];simp)))),fun k hk cs fz e=>by
   rcases List.mem_cons.1 hk with rfl | hk
   ·have:=h.c
    unfold CB at this
    rw[this] at e
    simp at e
   ·rcases List.mem_append.1 hk with hk | hk
    ·exact own_apart h.r e (by decide) (by unfold blk at hk;simpa using hk)
    ·exact own_apart h.t.2 e (by decide) (by unfold blk at hk;simpa using hk)⟩
  have hno:∀ k cs fz,w.heap[k]?=some (.cells cs 80 fz)->k≠B/\some k≠bv.ownBlock:=by
   intro k cs fz e
   refine⟨?_,fun e2=>own_apart h.t.2 e (by decide) e2.symm⟩
   rintro rfl
   have:=h.c
   unfold CB at this
   rw[this] at e
   simp at e
  have d1:∀ k∈fp,k ∉ B :: (blk sv++blk bv):=fun k hk hm=>by
   obtain⟨cs,fz,e⟩:=h.k.kind k hk
   rcases List.mem_cons.1 hm with hm | hm
   ·exact (hno k cs fz e).1 hm
   ·rcases List.mem_append.1 hm with hm | hm
    ·exact h.d k hm hk
    ·exact (hno k cs fz e).2 (by unfold blk at hm;exact (show bv.ownBlock=some k by simpa using hm).symm)
  refine⟨rfl,⟨v',_,_,l++[(San.txt t,.slice none 0 0,.slice none 0 0)],fp++[],⟨hc,⟨.inl rfl,World.ownsRow_nil _ _ _ _⟩,?_,(h.k.stays hst d1).app (KAll.cons (San.txt t) _ _ [] [] [] (World.ownsRow_nil _ _ _ _) (KAt.empty _ _) .nil),?_,h.b,lt_of_block hc,fun k hk=>(own_lt hr k hk).2⟩,?_⟩,hb,fun k cs hN e=>?_⟩
  ·rw[List.length_append,ndCells_app]
   exact hr
  ·intro k hk hm
   rw[List.append_nil] at hm
   unfold blk at hk
   have hk':v'.ownBlock=some k:=by simpa using hk
   have hl:=(h.k.lt k hm).2
   rcases hf with e | ⟨g,e,hg⟩
   ·rw[hk'] at e
    exact h.d k (by unfold blk;rw[<-e];simp) hm
   ·have:k=g:=by rw[hk'] at e;simpa using e
    omega
  ·rw[List.map_append,San.endT,if_neg ht]
   rfl
  ·have:=h.lb
   exact hk k (lt_of_block e) (hno k cs _ e).1 (fun e2=>by have:=h.ls k (by unfold blk;rw[<-e2];simp);omega) (hno k cs _ e).2
end Go.Proofs.YtkiofbikkhhdfabGreatDoor.Dm
