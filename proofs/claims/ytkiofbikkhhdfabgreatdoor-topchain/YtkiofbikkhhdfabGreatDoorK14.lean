import Derived.Test.YtkiofbikkhhdfabGreatDoorK08
import Derived.Deep.Cut
import Derived.WalkMore
import Derived.Test.YtkiofbikkhhdfabGreatDoorShelf
import Derived.Test.YtkiofbikkhhdfabGreatDoorR3
import Derived.Test.YtkiofbikkhhdfabGreatDoorK13
import Derived.Test.YtkiofbikkhhdfabGreatDoorK12
set_option maxRecDepth 100000
set_option maxHeartbeats 16000000
namespace Go.Proofs.YtkiofbikkhhdfabGreatDoor.Dm
open Go.RowKit
open Utf1
theorem St0.len {w:World}{base B:Nat}{os:List Nd}{pa bv:Value}{o n:Nat}(h:St0 w base B os pa bv o n):∃ p c,BB w B (.slice p os.length c) pa bv (.int .i64 (o:Int)) (.int .i64 (n:Int)):=by
 obtain⟨_,_,ov,l,fp,hl,hB,hro,_⟩:=h
 obtain⟨p,c,rfl⟩:=own_len hro
 have:l.length=os.length:=by
  have:=congrArg List.length hl
  rwa [List.length_map] at this
 rw[this] at hB
 exact⟨p,c,hB⟩
theorem closeFrom_st (w:World) (base B at':Nat) (r:List Nd) (t:List UInt8) (o n:Nat)(h:St w base B r.reverse t o n)(h1:1<=at')(hle:at'<=r.length)(hM:cntL r+tx t<=100000)(ht:t.length<=100000000) :
  Calls Tryz.prog 46 #[.pointer (some ⟨B,0,none⟩),.int .i64 (at':Int)] w fun e w'=>e=.returned (.tuple #[])/\St w' base B (closeR (r.length - at') r t).1.reverse (closeR (r.length - at') r t).2 o n/\Below base w w':=by
 obtain⟨R,hR⟩:∃ R,R=closeR (r.length - at') r t:=⟨_,rfl⟩
 rw[<-hR]
 have HR:=hide hR
 have HS:=hide h
 have hrl:=len_cnt r
 clear hR h
 go_enter Tryz.func46,Tryz.ntmps46
 go_wp2_with fail
 go_loopg [4] (r.length - at') (fun g v wr=>∃ (q:List Nd) (t':List UInt8),q.length=at'+g/\Hid (St wr base B q.reverse t' o n)/\Hid (Below base w wr)/\cntL q+tx t'<=100000/\t'.length<=100000000/\Hid (R=closeR g q t'))
 case atStart=>exact⟨r,t,by omega,HS,hide (Below.refl _ _),hM,ht,HR⟩
 case round =>
  obtain⟨q,t',hqg,HS1,HB1,hM1,ht1,HR1⟩:=hrel
  clear HS HR
  have hql:=len_cnt q
  match gk,q,hqg,HS1,hM1,HR1,hql with
  | 0,q,hqg,HS1,hM1,HR1,hql =>
   obtain⟨pa,bv,h0,hw⟩:=HS1.out
   obtain⟨p,c,hB⟩:=h0.len
   rw[List.length_reverse,hqg,Nat.add_zero] at hB
   have c0:wr.cell? ⟨B,0,none⟩=some (.slice p at' c):=tag_cell hB 0 _ rfl
   have HE:Hid (St wr base B R.1.reverse R.2 o n):=hide (by
    rw[HR1.out]
    have:closeR 0 q t'=(q,t'):=by
     cases q <;> rfl
    rw[this]
    exact HS1.out)
   clear h0 hw hB HS1 HR1
   go_wp2_with fail
   go_end0
   exact⟨rfl,HE.out,HB1.out⟩
  | g+1,[],hqg,_,_,_,_=>simp only[List.length_nil] at hqg;omega
  | g+1,[_],hqg,_,_,_,_=>simp only[List.length_cons,List.length_nil] at hqg;omega
  | g+1,nd :: p :: q',hqg,HS1,hM1,HR1,hql =>
   obtain⟨pa,bv,h0,hw⟩:=HS1.out
   obtain⟨op,oc,hB⟩:=h0.len
   have hlen:(nd :: p :: q').reverse.length=q'.length+2:=by simp
   rw[hlen] at hB
   have c0:wr.cell? ⟨B,0,none⟩=some (.slice op (q'.length+2) oc):=tag_cell hB 0 _ rfl
   have HQ2:Hid (q'.length+1=at'+g):=hide (by simp only[List.length_cons] at hqg;omega)
   have hq2:at' < q'.length+2:=by have:=HQ2.out;omega
   clear hqg
   have hd:decide ((at':Int) < (q'.length:Int)+2)=true:=decide_eq_true (by omega)
   have hcn:cntN nd+(cntN p+cntL q')+tx t'<=100000:=by
    have:=hM1
    simp only[cntL] at this
    exact this
   have hkn:=cntN_kids nd
   have hkp:=cntN_kids p
   have hlk:=len_cnt nd.kids
   have hlp:=len_cnt p.kids
   have hlq:=len_cnt q'
   have hrev:(nd :: p :: q').reverse=(p :: q').reverse++[nd]:=by simp
   have HET:=hide (endText_st wr base B (p :: q').reverse nd t' o n (by rw[<-hrev];exact HS1.out) (by simp;omega) (by omega) ht1)
   have HR2:Hid (R=closeR g (addKid p (textIn nd t') :: q') []):=hide HR1.out
   clear h0 hw hB HS1 HR1 hrev hlen
   go_wp2_with fail
   refine HET.out.mono ?_
   rintro e w2 ⟨rfl,hs2,hb2⟩
   obtain⟨pa2,bv2,h02,hw2⟩:=hs2
   have hbB:=h02.1
   have hbw:=h02.2.1
   obtain⟨go,oc2,ap,am,ac,cp,cm,cc,hB2,x0,x1,x2,x3,hoc,hstx⟩:=pop_facts h02
   have hl2:(p :: q').reverse.length=q'.length+1:=by simp
   rw[hl2] at hB2 x0 x1 x2 x3 hoc hstx
   have d0:w2.cell? ⟨B,0,none⟩=some (.slice (some ⟨go,0,none⟩) (q'.length+2) oc2):=tag_cell hB2 0 _ rfl
   have f0:=tag_free hB2 0
   have hBl:B < w2.heap.size:=lt_of_block hB2
   have HB2:=hide (HB1.out.trans hb2)
   obtain⟨XN,hXN⟩:∃ X:ByteArray,X=⟨(textIn nd t').name.toArray⟩:=⟨_,rfl⟩
   obtain⟨XT,hXT⟩:∃ X:ByteArray,X=⟨(textIn nd t').text.toArray⟩:=⟨_,rfl⟩
   rw[<-hXN] at x0
   rw[<-hXT] at x2
   obtain⟨w3,hw3⟩:∃ w3,w3=w2.alloc (.cells #[.string XN,.slice ap am ac,.string XT,.slice cp cm cc] 80):=⟨_,rfl⟩
   have hb3:Below w2.heap.size w2 w3:=by
    rw[hw3]
    exact (Below.refl _ _).alloc (Nat.le_refl _) _
   have e0:=cell_keep d0 hb3
   have g0:w3.frozen? ⟨B,0,none⟩=false:=tag_free ((hb3.block _ hBl).trans hB2) 0
   have y0:w3.cell? ⟨w2.heap.size,0,none⟩=some (.string XN):=by rw[hw3];simp
   have y1:w3.cell? ⟨w2.heap.size,1,none⟩=some (.slice ap am ac):=by rw[hw3];simp
   have y2:w3.cell? ⟨w2.heap.size,2,none⟩=some (.string XT):=by rw[hw3];simp
   have y3:w3.cell? ⟨w2.heap.size,3,none⟩=some (.slice cp cm cc):=by rw[hw3];simp
   have hneB:w2.heap.size≠B:=by omega
   have HSX:=hide (hstx w3 hb3)
   have HPUT:Hid (Calls Tryz.prog 81 #[.pointer (some ⟨B,0,none⟩),.agg #[.string XN,.slice ap am ac,.string XT,.slice cp cm cc]] (w3.setCell ⟨B,0,none⟩ (.slice (some ⟨go,0,none⟩) (q'.length+1) oc2)) fun e w'=>e=.returned (.tuple #[])/\St w' base B (addKid p (textIn nd t') :: q').reverse [] o n/\Below base w w'):=hide (by
    have hrev:(p :: q').reverse=q'.reverse++[p]:=by simp
    rw[hrev] at hstx
    rw[hXN,hXT]
    refine (put_st _ base B q'.reverse p pa2 bv2 o n (textIn nd t') ap am ac cp cm cc (hstx w3 hb3) (by simp;omega) (by omega)).mono ?_
    rintro e w5 ⟨rfl,p1,p2,p3⟩
    refine⟨rfl,⟨pa2,bv2,by simpa using p1,hw2.1,p3 _ _ _ _ (own_set (own_below hw2.2 hb3) ((hb3.block _ hBl).trans hB2) (by decide) 0 _)⟩,?_⟩
    exact ((HB2.out.trans (hb3.mono hbw)).setCell (p:=⟨B,0,none⟩) hbB _).trans p2)
   have hcn2:cntL (addKid p (textIn nd t') :: q')+tx []<=100000:=by
    simp only[cntL]
    rw[cnt_add,cnt_text]
    show _+0<=_
    omega
   clear h02 hw2 hstx hb2 hB2 HSX hXN hXT HET
   go_upto_region 4 with fail
   rw[<-hw3]
   clear hw3
   go_wp2_with fail
   refine HPUT.out.mono ?_
   rintro e w5 ⟨rfl,q1,q2⟩
   have HQ:=hide q1
   have HQB:=hide q2
   clear q1 q2 HPUT
   go_wp2_with fail
   go_roundg g
   case measure=>omega
   case rel=>exact⟨addKid p (textIn nd t') :: q',[],by have:=HQ2.out;simp only[List.length_cons];omega,HQ,HQB,hcn2,by simp,HR2⟩
end Go.Proofs.YtkiofbikkhhdfabGreatDoor.Dm
namespace Go.Proofs.YtkiofbikkhhdfabGreatDoor.Dm
open Go.RowKit
open Utf1
def innerR (ns:List (List UInt8)):List Nd->Nat
 | []=>0
 | nd :: rest=>if rest=[] then 0 else if nd.name∈ns then rest.length else innerR ns rest
theorem St0.name_at {w:World}{base B:Nat}{os:List Nd}{pa bv:Value}{o n:Nat}(h:St0 w base B os pa bv o n)(h1:1<=os.length):∃ go oc,BB w B (.slice (some ⟨go,0,none⟩) os.length oc) pa bv (.int .i64 (o:Int)) (.int .i64 (n:Int))/\∀ j nd,os[j]?=some nd->w.cell? ⟨go,j*4,none⟩=some (.string ⟨nd.name.toArray⟩):=by
 obtain⟨_,_,ov,l,fp,hl,hB,hro,_⟩:=h
 have hll:l.length=os.length:=by
  have:=congrArg List.length hl
  rwa [List.length_map] at this
 rw[hll] at hro
 obtain⟨go,oc,rfl,hcell⟩:=own_at hro (by omega)
 refine⟨go,oc,hB,?_⟩
 intro j nd hj
 have hjl:j < os.length:=(List.getElem?_eq_some_iff.1 hj).1
 rw[<-hl,List.getElem?_map] at hj
 cases hp:l[j]? with
 | none=>rw[hp] at hj;cases hj
 | some p =>
  rw[hp] at hj
  have e:p.1=nd:=by simpa using hj
  have:=ndCells_at l j p hp 0 (by decide)
  rw[Nat.add_zero] at this
  rw[hcell (j*4) (by omega),this,<-e]
  rfl
theorem innermost_st (w:World) (base B:Nat) (r:List Nd) (pa bv:Value) (o n:Nat) (names:List ByteArray) (g cap:Nat)(h:St0 w base B r.reverse pa bv o n)(h1:1<=r.length)(hl:r.length<=100000)(hnl:names.length<=100000)(hc:∀ i x,names[i]?=some x->w.cell? ⟨g,i,none⟩=some (.string x)) :
  Calls Tryz.prog 112 #[.pointer (some ⟨B,0,none⟩),.slice (some ⟨g,0,none⟩) names.length cap] w fun e w'=>e=.returned (.int .i64 (innerR (names.map bl) r:Int))/\w'=w:=by
 obtain⟨go,oc,hB,hname⟩:=h.name_at (by rw[List.length_reverse];exact h1)
 rw[List.length_reverse] at hB
 have b0:w.cell? ⟨B,0,none⟩=some (.slice (some ⟨go,0,none⟩) r.length oc):=tag_cell hB 0 _ rfl
 have HNM:Hid (∀ (d:List Nd) (nd:Nd) (q:List Nd),r=d++nd :: q->w.cell? ⟨go,q.length*4,none⟩=some (.string ⟨nd.name.toArray⟩)):=hide (by
  intro d nd q e
  refine hname q.length nd ?_
  rw[e,List.reverse_append,List.reverse_cons,List.append_assoc,List.getElem?_append_right (by simp),List.length_reverse,Nat.sub_self]
  rfl)
 obtain⟨R,hR⟩:∃ R,R=innerR (names.map bl) r:=⟨_,rfl⟩
 rw[<-hR]
 have HR:=hide hR
 have HC:=hide hc
 obtain⟨N,hN⟩:∃ N,N=names.length:=⟨_,rfl⟩
 rw[<-hN] at hnl ⊢
 have HN:=hide hN
 obtain⟨M,hM⟩:∃ M,M=r.length:=⟨_,rfl⟩
 rw[<-hM] at b0 h1 hl
 have HM:=hide hM
 clear h hB hname hR hc hN hM
 go_enter Tryz.func112,Tryz.ntmps112
 go_wp2_with fail
 go_step3
 go_wp2_with fail
 go_step3
 go_wp2_with fail
 go_loopg [5] (M - 1) (fun k v wr=>∃ (d:List Nd) (nd:Nd) (q:List Nd),q.length=k/\v=.int .i64 (q.length:Int)/\wr=w/\Hid (r=d++nd :: q)/\Hid (R=innerR (names.map bl) (nd :: q)))
 case atStart =>
  have hm:=HM.out
  match r,hm,HR with
  | [],hm,HR=>simp at hm;omega
  | nd :: q,hm,HR =>
   refine⟨[],nd,q,by simp only[List.length_cons] at hm;omega,?_,rfl,hide rfl,HR⟩
   have:(M:Int) - 1=(q.length:Int):=by simp only[List.length_cons] at hm;omega
   first | (rw[this];rfl) | (rw[this]) | simp[this]
 case round =>
  obtain⟨d,nd,q,rfl,rfl,rfl,HD,HRR⟩:=hrel
  clear HR
  have hql:q.length<=100000:=by
   have h1:=congrArg List.length HD.out
   rw[List.length_append,List.length_cons,<-HM.out] at h1
   omega
  have hqM:q.length < M:=by
   have h1:=congrArg List.length HD.out
   rw[List.length_append,List.length_cons,<-HM.out] at h1
   omega
  by_cases hq:q=[]
  ·subst hq
   have hR0:R=0:=by
    rw[HRR.out]
    unfold innerR
    rw[if_pos rfl]
   subst hR0
   clear HRR HD
   go_wp2_with fail
   try rw[Exit.noGoto_ret]
   go_ret
   exact⟨rfl,rfl⟩
  ·have c0:=HNM.out d nd q HD.out
   have hqne:q≠[]:=hq
   obtain⟨nd2,q2,hq⟩:=List.exists_cons_of_ne_nil hqne
   have hqp:0 < q.length:=List.length_pos_iff.2 hqne
   have HIN:Hid (nd.name∈names.map bl->R=q.length):=hide (by
    intro h
    rw[HRR.out]
    unfold innerR
    rw[if_neg hqne,if_pos h])
   have HOUT:Hid (nd.name ∉ names.map bl->R=innerR (names.map bl) q):=hide (by
    intro h
    rw[HRR.out]
    conv=>lhs;unfold innerR
    rw[if_neg hqne,if_neg h])
   have HQ:=hide hq
   obtain⟨X,hX⟩:∃ X:ByteArray,X=⟨nd.name.toArray⟩:=⟨_,rfl⟩
   rw[<-hX] at c0
   have HX:Hid (bl X=nd.name):=hide (by rw[hX])
   clear hq HRR hX hqne
   go_wp2_with fail
   go_loopg [20] N (fun k v wx=>∃ j:Nat,j+k=N/\v=.int .i64 (j:Int)/\wx=wr/\Hid (∀ x∈(names.take j),bl x≠nd.name))
   case atStart=>exact⟨0,by omega,rfl,rfl,hide (by simp)⟩
   case round =>
    obtain⟨j,hjg,rfl,rfl,HJ⟩:=hrel
    by_cases hjl:j < N
    ·have hj:j < names.length:=by rw[<-HN.out];exact hjl
     have hge:names[j]?=some names[j]:=List.getElem?_eq_getElem hj
     have y0:=HC.out j _ hge
     have hm:names[j]∈names:=List.getElem_mem hj
     generalize names[j]=x at hge y0 hm
     by_cases hx:bl x=nd.name
     ·have e0:(X.toList==x.toList)=true:=beq_same (by rw[HX.out,hx])
      have hRq:=HIN.out (List.mem_map.2 ⟨x,hm,hx⟩)
      subst hRq
      clear hge hm hx HJ hj
      go_wp2_with fail
      try rw[Exit.noGoto_ret]
      go_ret
      exact⟨rfl,rfl⟩
     ·have e0:(X.toList==x.toList)=false:=beq_ne (by rw[HX.out];exact Ne.symm hx)
      have HJ2:Hid (∀ x∈(names.take (j+1)),bl x≠nd.name):=hide (by
       intro z hz
       rw[List.take_add_one,hge] at hz
       rcases List.mem_append.1 hz with hz | hz
       ·exact HJ.out z hz
       ·have:z=x:=by simpa using hz
        rw[this]
        exact hx)
      clear hge hm hx HJ hj
      go_wp2_with fail
      go_roundg (gk - 1)
      case measure=>omega
      case rel=>exact⟨j+1,by omega,by first | rfl | (rw[wrap64_in _ ⟨by omega,by omega⟩];rfl) | simp,rfl,HJ2⟩
    ·have HR2:=hide (HOUT.out (by
      intro h
      obtain⟨x,hx,e⟩:=List.mem_map.1 h
      have:=HJ.out x (by rw[List.take_of_length_le (by rw[<-HN.out];omega)];exact hx)
      exact this e))
     clear HJ
     have hq2l:(q.length:Int) - 1=(q2.length:Int):=by
      have:=congrArg List.length HQ.out
      rw[List.length_cons] at this
      omega
     have HL2:Hid (q2.length < q.length):=hide (by
      have:=congrArg List.length HQ.out
      rw[List.length_cons] at this
      omega)
     go_wp2_with fail
     go_roundg q2.length
     case measure=>have:=HL2.out;omega
     case rel =>
      refine⟨d++[nd],nd2,q2,rfl,?_,rfl,hide ?_,?_⟩
      ·first | rfl | simp
      ·rw[HD.out,HQ.out]
       simp
      ·rw[<-HQ.out]
       exact HR2
end Go.Proofs.YtkiofbikkhhdfabGreatDoor.Dm
namespace Go.Proofs.YtkiofbikkhhdfabGreatDoor.Dm
open Go.RowKit
open Utf1
theorem bb_cnt {w:World}{B:Nat}{ov pa bv x y:Value}(h:BB w B ov pa bv x y) (v:Value):BB (w.setCell ⟨B,3,none⟩ v) B ov pa bv v y/\BB (w.setCell ⟨B,4,none⟩ v) B ov pa bv x v:=⟨tok_set h 3 v,tok_set h 4 v⟩
theorem wait_set {w:World}{base B:Nat}{ov pa bv x y:Value}{t:List UInt8}(hB:BB w B ov pa bv x y)(h:Wait w base B pa bv t) (j:Nat) (v:Value):Wait (w.setCell ⟨B,j,none⟩ v) base B pa bv t:=⟨h.1,own_set h.2 hB (by decide) j v⟩
def newT (t s:List UInt8):Nat:=if t=[]/\s≠[] then 1 else 0
theorem write_st (w:World) (base B:Nat) (os:List Nd) (t:List UInt8) (o n:Nat) (s:ByteArray)(h:St w base B os t o n)(hl:t.length+s.size<=100000000) :
  Calls Tryz.prog 59 #[.pointer (some ⟨B,1,none⟩),.string s] w fun e w'=>e=.returned (.tuple #[.int .i64 (s.size:Int),.nilIface])/\St w' base B os (t++bl s) o n/\Below base w w':=by
 obtain⟨pa,bv,h0,hw⟩:=h
 obtain⟨ov,hB⟩:=h0.bb
 refine (bwrite_any w B base ov pa bv _ _ t s hB hw hl h0.1).mono ?_
 rintro e w' ⟨rfl,pa',bv',h1,h2,h3,h4⟩
 refine⟨rfl,⟨pa',bv',h0.stays h3 ?_ ?_,h2⟩,h4⟩
 ·intro k hk cs fz e
  rcases List.mem_cons.1 hk with rfl | hk
  ·exact bb_no_node hB k (by simp) cs fz e
  ·exact bytes_no_node hw k hk cs fz e
 ·intro ov' hB'
  unfold BB at hB hB'
  rw[hB] at hB'
  simp at hB'
  subst hB'
  exact h1
theorem addText_st (w:World) (base B:Nat) (os:List Nd) (t:List UInt8) (o n:Nat) (s:ByteArray)(h:St w base B os t o n)(hl:t.length+s.size<=100000000)(hn:n<=100000) :
  Calls Tryz.prog 78 #[.pointer (some ⟨B,0,none⟩),.string s] w fun e w'=>e=.returned (.tuple #[])/\St w' base B os (t++bl s) o (n+newT t (bl s))/\Below base w w':=by
 have HH:=hide h
 obtain⟨pa,bv,h0,hw⟩:=h
 obtain⟨ov,hB⟩:=h0.bb
 obtain⟨bp,bm,bc,rfl⟩:=own_slice hw.2
 have hbm:bm=t.length:=by
  obtain⟨_,_,e⟩:=own_len hw.2
  injection e with _ e2 _
  rw[byte_len] at e2
  exact e2
 subst hbm
 have HL:=hide (blen_any w B ov pa bp t.length bc _ _ hB)
 have hBl:B < w.heap.size:=lt_of_block hB
 have q0:(s.toList != [])=!decide (bl s=[]):=by
  rw[ByteArray.toList_eq]
  by_cases h:bl s=[]
  ·rw[decide_eq_true h]
   show (bl s != [])=_
   rw[h]
   rfl
  ·rw[decide_eq_false h]
   exact bne_iff_ne.2 h
 by_cases hnew:t=[]/\bl s≠[]
 ·obtain⟨rfl,hs⟩:=hnew
  rw[decide_eq_false hs] at q0
  have q0:(s.toList != [])=true:=q0
  have q1:s.toList.isEmpty=false:=by
   cases hh:s.toList with
   | nil=>rw[hh] at q0;cases q0
   | cons=>rfl
  have c4:w.cell? ⟨B,4,none⟩=some (.int .i64 (n:Int)):=tag_cell hB 4 _ rfl
  have f4:=tag_free hB 4
  have h4:St (w.setCell ⟨B,4,none⟩ (.int .i64 ((n+1:Nat):Int))) base B os [] o (n+1):=⟨pa,_,h0.stays (stays_set hB 4 _) (bb_no_node hB) (fun ov' hb=>(bb_cnt hb _).2),wait_set hB hw 4 _⟩
  have HW:Hid (Calls Tryz.prog 59 #[.pointer (some ⟨B,1,none⟩),.string s] (w.setCell ⟨B,4,none⟩ (.int .i64 ((n:Int)+1))) fun e w'=>e=.returned (.tuple #[.int .i64 (s.size:Int),.nilIface])/\St w' base B os ([]++bl s) o (n+newT [] (bl s))/\Below base w w'):=hide (by
   refine (write_st _ base B os [] o (n+1) s h4 hl).mono ?_
   rintro e w' ⟨rfl,h5,h6⟩
   refine⟨rfl,?_,((Below.refl base w).setCell (p:=⟨B,4,none⟩) h0.1 _).trans h6⟩
   have:newT [] (bl s)=1:=by
    unfold newT
    rw[if_pos ⟨rfl,hs⟩]
   rw[this]
   exact h5)
  clear h0 hw hB h4 hs HH
  go_enter Tryz.func78,Tryz.ntmps78
  go_wp2_with fail
  refine HL.out.mono ?_
  rintro e w1 ⟨rfl,rfl⟩
  clear HL
  go_wp2_with fail
  refine HW.out.mono ?_
  rintro e w2 ⟨rfl,h2,h3⟩
  have HE:=hide (And.intro h2 h3)
  clear h2 h3 HW
  go_wp2_with fail
  go_end0
  exact⟨rfl,HE.out⟩
 ·have HW:Hid (Calls Tryz.prog 59 #[.pointer (some ⟨B,1,none⟩),.string s] w fun e w'=>e=.returned (.tuple #[.int .i64 (s.size:Int),.nilIface])/\St w' base B os (t++bl s) o (n+newT t (bl s))/\Below base w w'):=hide (by
   have:newT t (bl s)=0:=by
    unfold newT
    rw[if_neg hnew]
   rw[this]
   exact write_st w base B os t o n s HH.out hl)
  by_cases ht:t=[]
  ·have hs:bl s=[]:=Classical.byContradiction fun h=>hnew ⟨ht,h⟩
   rw[decide_eq_true hs] at q0
   have q0:(s.toList != [])=false:=q0
   have q1:s.toList.isEmpty=true:=by
    cases hh:s.toList with
    | nil=>rfl
    | cons=>rw[hh] at q0;cases q0
   have hd:((t.length:Int)==0)=true:=by rw[ht];rfl
   have HT:=hide ht
   clear h0 hw hB hs hnew HH ht
   go_enter Tryz.func78,Tryz.ntmps78
   go_wp2_with fail
   refine HL.out.mono ?_
   rintro e w1 ⟨rfl,rfl⟩
   clear HL
   go_wp2_with fail
   refine HW.out.mono ?_
   rintro e w2 ⟨rfl,h2,h3⟩
   have HE:=hide (And.intro h2 h3)
   clear h2 h3 HW
   go_wp2_with fail
   go_end0
   exact⟨rfl,HE.out⟩
  ·have hd:((t.length:Int)==0)=false:=beq_eq_false_iff_ne.2 (by have:=List.length_pos_iff.2 ht;omega)
   clear h0 hw hB hnew HH ht
   go_enter Tryz.func78,Tryz.ntmps78
   go_wp2_with fail
   refine HL.out.mono ?_
   rintro e w1 ⟨rfl,rfl⟩
   clear HL
   go_wp2_with fail
   refine HW.out.mono ?_
   rintro e w2 ⟨rfl,h2,h3⟩
   have HE:=hide (And.intro h2 h3)
   clear h2 h3 HW
   go_wp2_with fail
   go_end0
   exact⟨rfl,HE.out⟩
end Go.Proofs.YtkiofbikkhhdfabGreatDoor.Dm
namespace Go.Proofs.YtkiofbikkhhdfabGreatDoor.Dm
open Go.RowKit
open Utf1
theorem closeR_all:∀ (n:Nat) (r:List Nd) (t:List UInt8),n < r.length->(closeR n r t).1.length=r.length - n/\cntL (closeR n r t).1+tx (closeR n r t).2=cntL r+tx t/\(closeR n r t).2.length<=t.length
 | 0,r,t,_=>by
  have:closeR 0 r t=(r,t):=by cases r <;> rfl
  rw[this]
  exact⟨rfl,rfl,Nat.le_refl _⟩
 | n+1,[],t,h=>by simp at h
 | n+1,[_],t,h=>by simp at h
 | n+1,nd :: p :: r,t,h=>by
  have ih:=closeR_all n (addKid p (textIn nd t) :: r) [] (by simp only[List.length_cons] at h ⊢;omega)
  show (closeR n (addKid p (textIn nd t) :: r) []).1.length=_/\_
  refine⟨?_,?_,?_⟩
  ·rw[ih.1]
   simp only[List.length_cons]
   omega
  ·show cntL (closeR n (addKid p (textIn nd t) :: r) []).1+tx (closeR n (addKid p (textIn nd t) :: r) []).2=_
   rw[ih.2.1]
   simp only[cntL]
   rw[cnt_add,cnt_text]
   show _+0=_
   omega
  ·show (closeR n (addKid p (textIn nd t) :: r) []).2.length<=_
   have:=ih.2.2
   simp only[List.length_nil] at this
   omega
theorem innerR_lt (ns:List (List UInt8)):∀ r:List Nd,r≠[]->innerR ns r < r.length
 | [],h=>absurd rfl h
 | nd :: rest,_=>by
  unfold innerR
  split
  ·simp
  ·rename_i hr
   split
   ·simp
   ·have:=innerR_lt ns rest hr
    simp only[List.length_cons]
    omega
def closeIn (ns:List (List UInt8)) (r:List Nd) (t:List UInt8):List Nd × List UInt8:=if 0 < innerR ns r then closeR (r.length - innerR ns r) r t else (r,t)
theorem closeIn_all (ns:List (List UInt8)) (r:List Nd) (t:List UInt8)(hr:r≠[]):1<=(closeIn ns r t).1.length/\(closeIn ns r t).1.length<=r.length/\cntL (closeIn ns r t).1+tx (closeIn ns r t).2=cntL r+tx t/\(closeIn ns r t).2.length<=t.length:=by
 have hl:=innerR_lt ns r hr
 unfold closeIn
 split
 ·rename_i h
  have:=closeR_all (r.length - innerR ns r) r t (by omega)
  refine⟨by omega,by omega,this.2.1,this.2.2⟩
 ·exact⟨Nat.lt_of_le_of_lt (Nat.zero_le _) hl,Nat.le_refl _,rfl,Nat.le_refl _⟩
theorem St.under {w w':World}{base B:Nat}{os:List Nd}{t:List UInt8}{o n:Nat}(h:St w base B os t o n)(hb:Below w.heap.size w w'):St w' base B os t o n:=by
 obtain⟨pa,bv,h0,hw⟩:=h
 refine⟨pa,bv,h0.stays (below_stays hb) (fun k hk=>by cases hk) (fun ov hB=>(hb.block _ (lt_of_block hB)).trans hB),hw.1,own_below hw.2 hb⟩
def wayR (name:List UInt8) (r:List Nd) (t:List UInt8):List Nd × List UInt8 :=
 if name∈blocks then
  (if name=[108,105] then
   (if ((closeIn [[112]] r t).1.reverse[innerR [[108,105],[117,108],[111,108]] (closeIn [[112]] r t).1]?.map Nd.name)=some [108,105] then closeR ((closeIn [[112]] r t).1.length - innerR [[108,105],[117,108],[111,108]] (closeIn [[112]] r t).1) (closeIn [[112]] r t).1 (closeIn [[112]] r t).2 else closeIn [[112]] r t)
  else closeIn [[112]] r t)
 else (r,t)
theorem inner_lit (w:World) (base B:Nat) (r:List Nd) (t:List UInt8) (o n:Nat) (names:List ByteArray) (A:Array Value) (ty:TypeId)(hA:A=(names.map Value.string).toArray)(h:St w base B r.reverse t o n)(h1:1<=r.length)(hl:r.length<=100000)(hnl:names.length<=100000) :
  Calls Tryz.prog 112 #[.pointer (some ⟨B,0,none⟩),.slice (some ⟨w.heap.size,0,none⟩) names.length names.length] (w.alloc (.cells A ty)) fun e w'=>e=.returned (.int .i64 (innerR (names.map bl) r:Int))/\w'=w.alloc (.cells A ty):=by
 obtain⟨pa,bv,h0,hw⟩:=h.under ((Below.refl _ _).alloc (Nat.le_refl _) (.cells A ty))
 refine innermost_st _ base B r pa bv o n names w.heap.size names.length h0 h1 hl hnl ?_
 intro i x hx
 rw[new_cell,hA]
 simp[hx]
end Go.Proofs.YtkiofbikkhhdfabGreatDoor.Dm
namespace Go.Proofs.YtkiofbikkhhdfabGreatDoor.Dm
open Go.RowKit
open Utf1
theorem addKid_name (p x:Nd):(addKid p x).name=p.name:=by
 cases p
 rfl
theorem closeR_root:∀ (n:Nat) (r:List Nd) (t:List UInt8),n < r.length->(closeR n r t).1.getLast?.map Nd.name=r.getLast?.map Nd.name
 | 0,r,t,_=>by
  have:closeR 0 r t=(r,t):=by cases r <;> rfl
  rw[this]
 | n+1,[],t,h=>by simp at h
 | n+1,[_],t,h=>by simp at h
 | n+1,nd :: p :: r,t,h=>by
  have ih:=closeR_root n (addKid p (textIn nd t) :: r) [] (by simp only[List.length_cons] at h ⊢;omega)
  show (closeR n (addKid p (textIn nd t) :: r) []).1.getLast?.map Nd.name=_
  rw[ih]
  cases r with
  | nil=>simp[addKid_name]
  | cons a b=>simp
theorem closeIn_root (ns:List (List UInt8)) (r:List Nd) (t:List UInt8)(hr:r≠[]):(closeIn ns r t).1.getLast?.map Nd.name=r.getLast?.map Nd.name:=by
 have hl:=innerR_lt ns r hr
 unfold closeIn
 split
 ·exact closeR_root _ r t (by omega)
 ·rfl
theorem makeWay_st (w:World) (base B:Nat) (r:List Nd) (t:List UInt8) (o n:Nat) (name:ByteArray)(h:St w base B r.reverse t o n)(hr:r≠[])(hroot:r.getLast?.map Nd.name=some [])(hM:cntL r+tx t<=100000)(ht:t.length<=100000000) :
  Calls Tryz.prog 109 #[.pointer (some ⟨B,0,none⟩),.string name] w fun e w'=>e=.returned (.tuple #[])/\St w' base B (wayR (bl name) r t).1.reverse (wayR (bl name) r t).2 o n/\Below base w w':=by
 have hbl:=fun w=>block_any name w
 have h1:1<=r.length:=List.length_pos_iff.2 hr
 have hrl:=len_cnt r
 by_cases hblk:bl name∈blocks
 case neg =>
  rw[decide_eq_false hblk] at hbl
  have HE:Hid (St w base B (wayR (bl name) r t).1.reverse (wayR (bl name) r t).2 o n):=hide (by
   unfold wayR
   rw[if_neg hblk]
   exact h)
  have HBL:=hide hbl
  clear h hbl hblk
  go_enter Tryz.func109,Tryz.ntmps109
  go_wp2_with fail
  refine (HBL.out _).mono ?_
  rintro e w1 ⟨rfl,rfl⟩
  go_wp2_with fail
  refine bodyPost_ret (results_none rfl _ _ _) rfl ?_
  exact⟨rfl,HE.out,Below.refl _ _⟩
 rw[decide_eq_true hblk] at hbl
 have HBL:=hide hbl
 have HI1:=hide (fun ty=>inner_lit w base B r t o n [⟨#[112]⟩] #[.string ⟨#[112]⟩] ty rfl h h1 (by omega) (by decide))
 have hall:=closeIn_all [[112]] r t hr
 have hroot1:=closeIn_root [[112]] r t hr
 rw[hroot] at hroot1
 have HBW:Hid (base<=w.heap.size):=hide (by obtain⟨_,_,h0,_⟩:=h;exact h0.2.1)
 have HC1:Hid (∀ ty,0 < innerR [[112]] r->Calls Tryz.prog 46 #[.pointer (some ⟨B,0,none⟩),.int .i64 (innerR [[112]] r:Int)] (w.alloc (.cells #[.string ⟨#[112]⟩] ty)) fun e w'=>e=.returned (.tuple #[])/\St w' base B (closeIn [[112]] r t).1.reverse (closeIn [[112]] r t).2 o n/\Below base w w'):=hide (by
  intro ty hpos
  have hlt:=innerR_lt [[112]] r hr
  refine (closeFrom_st _ base B (innerR [[112]] r) r t o n (h.under ((Below.refl _ _).alloc (Nat.le_refl _) _)) hpos (by omega) hM ht).mono ?_
  rintro e w' ⟨rfl,q1,q2⟩
  refine⟨rfl,?_,((Below.refl base w).alloc HBW.out _).trans q2⟩
  unfold closeIn
  rw[if_pos hpos]
  exact q1)
 have HN1:Hid (∀ ty,¬ 0 < innerR [[112]] r->St (w.alloc (.cells #[.string ⟨#[112]⟩] ty)) base B (closeIn [[112]] r t).1.reverse (closeIn [[112]] r t).2 o n):=hide (by
  intro ty hpos
  unfold closeIn
  rw[if_neg hpos]
  exact h.under ((Below.refl _ _).alloc (Nat.le_refl _) _))
 have HWAY:Hid (wayR (bl name) r t=(if bl name=[108,105] then (if ((closeIn [[112]] r t).1.reverse[innerR [[108,105],[117,108],[111,108]] (closeIn [[112]] r t).1]?.map Nd.name)=some [108,105] then closeR ((closeIn [[112]] r t).1.length - innerR [[108,105],[117,108],[111,108]] (closeIn [[112]] r t).1) (closeIn [[112]] r t).1 (closeIn [[112]] r t).2 else closeIn [[112]] r t) else closeIn [[112]] r t)):=hide (by
  unfold wayR
  rw[if_pos hblk])
 obtain⟨r1,t1,hc1⟩:∃ r1 t1,closeIn [[112]] r t=(r1,t1):=⟨_,_,rfl⟩
 rw[hc1] at hall hroot1 HC1 HN1 HWAY
 obtain⟨a1,ha1⟩:∃ a,a=innerR [[112]] r:=⟨_,rfl⟩
 have HI1:Hid (∀ ty,Calls Tryz.prog 112 #[.pointer (some ⟨B,0,none⟩),.slice (some ⟨w.heap.size,0,none⟩) 1 1] (w.alloc (.cells #[.string ⟨#[112]⟩] ty)) fun e w'=>e=.returned (.int .i64 (a1:Int))/\w'=w.alloc (.cells #[.string ⟨#[112]⟩] ty)):=hide (by rw[ha1];exact HI1.out)
 rw[<-ha1] at HC1 HN1
 obtain⟨W,hW⟩:∃ W,W=wayR (bl name) r t:=⟨_,rfl⟩
 rw[<-hW] at HWAY ⊢
 have f0:=eqlit name [108,105]
 clear h hbl hblk ha1 hc1 hW hroot
 have hall:1<=r1.length/\r1.length<=r.length/\cntL r1+tx t1=cntL r+tx t/\t1.length<=t.length:=hall
 have hroot1:r1.getLast?.map Nd.name=some []:=hroot1
 obtain⟨hal1,hal2,hal3,hal4⟩:=id hall
 obtain⟨a2,ha2⟩:∃ a,a=innerR [[108,105],[117,108],[111,108]] r1:=⟨_,rfl⟩
 rw[<-ha2] at HWAY
 have hr1:r1≠[]:=List.length_pos_iff.1 hall.1
 have ha2l:a2 < r1.length:=by rw[ha2];exact innerR_lt _ _ hr1
 have hr1l:=len_cnt r1
 have HI2:Hid (∀ (wx:World) (ty:TypeId),St wx base B r1.reverse t1 o n->Calls Tryz.prog 112 #[.pointer (some ⟨B,0,none⟩),.slice (some ⟨wx.heap.size,0,none⟩) 3 3] (wx.alloc (.cells #[.string ⟨#[108,105]⟩,.string ⟨#[117,108]⟩,.string ⟨#[111,108]⟩] ty)) fun e w'=>e=.returned (.int .i64 (a2:Int))/\w'=wx.alloc (.cells #[.string ⟨#[108,105]⟩,.string ⟨#[117,108]⟩,.string ⟨#[111,108]⟩] ty)):=hide (by
  intro wx ty hx
  rw[ha2]
  exact inner_lit wx base B r1 t1 o n [⟨#[108,105]⟩,⟨#[117,108]⟩,⟨#[111,108]⟩] _ ty rfl hx hall.1 (by omega) (by decide))
 have hget:r1.reverse[a2]?=some (r1.reverse[a2]'(by rw[List.length_reverse];exact ha2l)):=List.getElem?_eq_getElem _
 generalize r1.reverse[a2]'(by rw[List.length_reverse];exact ha2l)=nd2 at hget
 rw[hget] at HWAY
 have hpos2:nd2.name=[108,105]->1<=a2:=by
  intro hn
  refine Nat.pos_of_ne_zero fun e=>?_
  subst e
  have h2:r1.getLast?=some nd2:=by
   rw[<-List.head?_reverse,List.head?_eq_getElem?]
   exact hget
  rw[h2] at hroot1
  have:nd2.name=[]:=by simpa using hroot1
  rw[this] at hn
  cases hn
 have HN2:Hid (∀ (wx:World) (ty:TypeId),St wx base B r1.reverse t1 o n->∃ go oc,(wx.alloc (.cells #[.string ⟨#[108,105]⟩,.string ⟨#[117,108]⟩,.string ⟨#[111,108]⟩] ty)).cell? ⟨B,0,none⟩=some (.slice (some ⟨go,0,none⟩) r1.length oc)/\(wx.alloc (.cells #[.string ⟨#[108,105]⟩,.string ⟨#[117,108]⟩,.string ⟨#[111,108]⟩] ty)).cell? ⟨go,a2*4,none⟩=some (.string ⟨nd2.name.toArray⟩)):=hide (by
  intro wx ty hx
  obtain⟨pa,bv,h0,_⟩:=hx.under ((Below.refl _ _).alloc (Nat.le_refl _) (.cells #[.string ⟨#[108,105]⟩,.string ⟨#[117,108]⟩,.string ⟨#[111,108]⟩] ty))
  obtain⟨go,oc,hB,hnm⟩:=h0.name_at (by rw[List.length_reverse];exact hall.1)
  rw[List.length_reverse] at hB
  exact⟨go,oc,tag_cell hB 0 _ rfl,hnm a2 nd2 hget⟩)
 have HC2:Hid (∀ (wx:World) (ty:TypeId),St wx base B r1.reverse t1 o n->Below base w wx->nd2.name=[108,105]->Calls Tryz.prog 46 #[.pointer (some ⟨B,0,none⟩),.int .i64 (a2:Int)] (wx.alloc (.cells #[.string ⟨#[108,105]⟩,.string ⟨#[117,108]⟩,.string ⟨#[111,108]⟩] ty)) fun e w'=>e=.returned (.tuple #[])/\St w' base B (closeR (r1.length - a2) r1 t1).1.reverse (closeR (r1.length - a2) r1 t1).2 o n/\Below base w w'):=hide (by
  intro wx ty hx hbx hn
  refine (closeFrom_st _ base B a2 r1 t1 o n (hx.under ((Below.refl _ _).alloc (Nat.le_refl _) _)) (hpos2 hn) (by omega) (by omega) (by omega)).mono ?_
  rintro e w' ⟨rfl,q1,q2⟩
  refine⟨rfl,q1,(hbx.alloc ?_ _).trans q2⟩
  obtain⟨_,_,h0,_⟩:=hx
  exact h0.2.1)
 have HBA:Hid (∀ (wx:World) (ty:TypeId),St wx base B r1.reverse t1 o n->Below base w wx->St (wx.alloc (.cells #[.string ⟨#[108,105]⟩,.string ⟨#[117,108]⟩,.string ⟨#[111,108]⟩] ty)) base B r1.reverse t1 o n/\Below base w (wx.alloc (.cells #[.string ⟨#[108,105]⟩,.string ⟨#[117,108]⟩,.string ⟨#[111,108]⟩] ty))):=hide (by
  intro wx ty hx hbx
  refine⟨hx.under ((Below.refl _ _).alloc (Nat.le_refl _) _),hbx.alloc ?_ _⟩
  obtain⟨_,_,h0,_⟩:=hx
  exact h0.2.1)
 have HF2:=hide (eqlit ⟨nd2.name.toArray⟩ [108,105])
 have HPOS2:=hide hpos2
 clear ha2 hget hpos2 hroot1 hall hal3
 by_cases hpos:0 < a1
 ·have hdp:decide ((0:Int) < (a1:Int))=true:=decide_eq_true (by omega)
  have HCC:=hide (fun ty=>HC1.out ty hpos)
  clear HC1 HN1
  go_enter Tryz.func109,Tryz.ntmps109
  go_wp2_with fail
  refine (HBL.out _).mono ?_
  rintro e w0 ⟨rfl,rfl⟩
  go_wp2_with fail
  refine (HI1.out _).mono ?_
  rintro e w1 ⟨rfl,rfl⟩
  go_wp2_with fail
  refine (HCC.out _).mono ?_
  rintro e wx ⟨rfl,s1,s2⟩
  have HSX:=hide (And.intro s1 s2)
  clear s1 s2 HCC HI1 HBL
  by_cases hli:bl name=[108,105]
  ·rw[decide_eq_true hli] at f0
   have f1:(name.toList != [108,105])=false:=by
    show (!(name.toList==[108,105]))=false
    rw[f0]
    rfl
   have hw:=HWAY.out
   rw[if_pos hli] at hw
   simp only[Option.map_some,Option.some.injEq] at hw
   have HW2:=hide hw
   obtain⟨go,oc,hg0,hg1⟩:=HN2.out wx 9 HSX.out.1
   have hg0:(wx.alloc (.cells #[.string ⟨#[108,105]⟩,.string ⟨#[117,108]⟩,.string ⟨#[111,108]⟩] 9)).cell? ⟨B,0,none⟩=some (.slice (some ⟨go,0,none⟩) r1.length oc):=hg0
   have f2:=HF2.out
   clear hw hli HWAY HN2
   by_cases hn2:nd2.name=[108,105]
   ·have f2:((⟨nd2.name.toArray⟩:ByteArray).toList==[108,105])=true:=by rw[f2];exact decide_eq_true hn2
    have HE:=hide (HC2.out wx 9 HSX.out.1 HSX.out.2 hn2)
    have hw:=HW2.out
    rw[if_pos hn2] at hw
    have HW3:=hide hw
    obtain⟨NB,hNB⟩:∃ X:ByteArray,X=⟨nd2.name.toArray⟩:=⟨_,rfl⟩
    rw[<-hNB] at hg1 f2
    clear hw hn2 hNB HW2 HC2
    go_wp2_with fail
    refine (HI2.out _ _ HSX.out.1).mono ?_
    rintro e wy ⟨rfl,rfl⟩
    go_wp2_with fail
    refine HE.out.mono ?_
    rintro e wz ⟨rfl,z1,z2⟩
    have HZ:=hide (And.intro z1 z2)
    clear z1 z2 HE
    go_wp2_with fail
    go_end0
    rw[HW3.out]
    exact⟨rfl,HZ.out⟩
   ·have f2:((⟨nd2.name.toArray⟩:ByteArray).toList==[108,105])=false:=by rw[f2];exact decide_eq_false hn2
    have hw:=HW2.out
    rw[if_neg hn2] at hw
    have HW3:=hide hw
    have HE:=hide (HBA.out wx 9 HSX.out.1 HSX.out.2)
    obtain⟨NB,hNB⟩:∃ X:ByteArray,X=⟨nd2.name.toArray⟩:=⟨_,rfl⟩
    rw[<-hNB] at hg1 f2
    clear hw hn2 hNB HW2 HC2
    go_wp2_with fail
    refine (HI2.out _ _ HSX.out.1).mono ?_
    rintro e wy ⟨rfl,rfl⟩
    go_wp2_with fail
    go_end0
    rw[HW3.out]
    exact⟨rfl,HE.out⟩
  ·rw[decide_eq_false hli] at f0
   have f1:(name.toList != [108,105])=true:=by
    show (!(name.toList==[108,105]))=true
    rw[f0]
    rfl
   have hw:=HWAY.out
   rw[if_neg hli] at hw
   have HW2:=hide hw
   clear hw hli HWAY HN2 HC2
   go_wp2_with fail
   refine bodyPost_ret (results_none rfl _ _ _) rfl ?_
   rw[HW2.out]
   exact⟨rfl,HSX.out⟩
 ·have hdp:decide ((0:Int) < (a1:Int))=false:=decide_eq_false (by omega)
  have HNN:=hide (fun ty=>HN1.out ty hpos)
  clear HC1 HN1
  go_enter Tryz.func109,Tryz.ntmps109
  go_wp2_with fail
  refine (HBL.out _).mono ?_
  rintro e w0 ⟨rfl,rfl⟩
  go_wp2_with fail
  refine (HI1.out _).mono ?_
  rintro e w1 ⟨rfl,rfl⟩
  have HSX0:=hide (And.intro (HNN.out 9) ((Below.refl base w0).alloc HBW.out (.cells #[.string ⟨#[112]⟩] 9)))
  obtain⟨wx,hwx⟩:∃ wx,wx=w0.alloc (.cells #[.string ⟨#[112]⟩] 9):=⟨_,rfl⟩
  rw[<-hwx] at HSX0
  have HSX:=HSX0
  clear HNN HI1 HBL HSX0
  rw[<-hwx]
  clear hwx
  by_cases hli:bl name=[108,105]
  ·rw[decide_eq_true hli] at f0
   have f1:(name.toList != [108,105])=false:=by
    show (!(name.toList==[108,105]))=false
    rw[f0]
    rfl
   have hw:=HWAY.out
   rw[if_pos hli] at hw
   simp only[Option.map_some,Option.some.injEq] at hw
   have HW2:=hide hw
   obtain⟨go,oc,hg0,hg1⟩:=HN2.out wx 9 HSX.out.1
   have hg0:(wx.alloc (.cells #[.string ⟨#[108,105]⟩,.string ⟨#[117,108]⟩,.string ⟨#[111,108]⟩] 9)).cell? ⟨B,0,none⟩=some (.slice (some ⟨go,0,none⟩) r1.length oc):=hg0
   have f2:=HF2.out
   clear hw hli HWAY HN2
   by_cases hn2:nd2.name=[108,105]
   ·have f2:((⟨nd2.name.toArray⟩:ByteArray).toList==[108,105])=true:=by rw[f2];exact decide_eq_true hn2
    have HE:=hide (HC2.out wx 9 HSX.out.1 HSX.out.2 hn2)
    have hw:=HW2.out
    rw[if_pos hn2] at hw
    have HW3:=hide hw
    obtain⟨NB,hNB⟩:∃ X:ByteArray,X=⟨nd2.name.toArray⟩:=⟨_,rfl⟩
    rw[<-hNB] at hg1 f2
    clear hw hn2 hNB HW2 HC2
    go_wp2_with fail
    refine (HI2.out _ _ HSX.out.1).mono ?_
    rintro e wy ⟨rfl,rfl⟩
    go_wp2_with fail
    refine HE.out.mono ?_
    rintro e wz ⟨rfl,z1,z2⟩
    have HZ:=hide (And.intro z1 z2)
    clear z1 z2 HE
    go_wp2_with fail
    go_end0
    rw[HW3.out]
    exact⟨rfl,HZ.out⟩
   ·have f2:((⟨nd2.name.toArray⟩:ByteArray).toList==[108,105])=false:=by rw[f2];exact decide_eq_false hn2
    have hw:=HW2.out
    rw[if_neg hn2] at hw
    have HW3:=hide hw
    have HE:=hide (HBA.out wx 9 HSX.out.1 HSX.out.2)
    obtain⟨NB,hNB⟩:∃ X:ByteArray,X=⟨nd2.name.toArray⟩:=⟨_,rfl⟩
    rw[<-hNB] at hg1 f2
    clear hw hn2 hNB HW2 HC2
    go_wp2_with fail
    refine (HI2.out _ _ HSX.out.1).mono ?_
    rintro e wy ⟨rfl,rfl⟩
    go_wp2_with fail
    go_end0
    rw[HW3.out]
    exact⟨rfl,HE.out⟩
  ·rw[decide_eq_false hli] at f0
   have f1:(name.toList != [108,105])=true:=by
    show (!(name.toList==[108,105]))=true
    rw[f0]
    rfl
   have hw:=HWAY.out
   rw[if_neg hli] at hw
   have HW2:=hide hw
   clear hw hli HWAY HN2 HC2
   go_wp2_with fail
   refine bodyPost_ret (results_none rfl _ _ _) rfl ?_
   rw[HW2.out]
   exact⟨rfl,HSX.out⟩
end Go.Proofs.YtkiofbikkhhdfabGreatDoor.Dm
namespace Go.Proofs.YtkiofbikkhhdfabGreatDoor.Dm
open Go.RowKit
open Utf1
theorem clone_nil (w:World):Calls Tryz.prog 110 #[.slice none 0 0] w fun e w'=>e=.returned (.slice none 0 0)/\w'=w:=by
 go_enter Tryz.func110,Tryz.ntmps110
 go_wp2_with fail
 go_loopg [3,8] 0 (fun k v3 v8 wr=>v3=.slice none 0 0/\v8=.int .i64 0/\wr=w)
 case atStart=>exact⟨rfl,rfl,rfl⟩
 case round =>
  obtain⟨rfl,rfl,rfl⟩:=hrel
  go_wp2_with fail
  go_ret
  exact⟨rfl,rfl⟩
end Go.Proofs.YtkiofbikkhhdfabGreatDoor.Dm
namespace Go.Proofs.YtkiofbikkhhdfabGreatDoor.Dm
open Go.RowKit
open Utf1
def PushEnd (w w':World) (B base:Nat) (ov pa bv x y:Value) (l:List (Nd × Value × Value)) (nm tx:ByteArray) (ap:Option Addr) (am ac:Nat) (cp:Option Addr) (cm cc:Nat) (ov':Value):Prop :=
 BB w' B ov' pa bv x y/\w'.ownsRow base 80 4 ov' (l.length+1) (ndCells l++[.string nm,.slice ap am ac,.string tx,.slice cp cm cc]) /\
 (ov'.ownBlock=ov.ownBlock\/ov'.ownBlock=some w.heap.size)/\Stays w w' (B :: blk ov)/\Below base w w'
theorem push_facts {w w5:World}{B base:Nat}{ov pa bv x y v':Value}{l:List (Nd × Value × Value)}(hbB:base<=B)(hbw:base<=w.heap.size)(h:BB w B ov pa bv x y)(hro:w.ownsRow base 80 4 ov l.length (ndCells l))
  (hown:w5.ownsRow base 80 4 v' (l.length+1) (ndCells l++[.string ⟨#[]⟩,.slice none 0 0,.string ⟨#[]⟩,.slice none 0 0]))(hgr:w.grownBy w5 ov.ownBlock)(hfr:v'.ownBlock=ov.ownBlock\/v'.ownBlock=some w.heap.size)
  (nm tx:ByteArray) (ap:Option Addr) (am ac:Nat) (cp:Option Addr) (cm cc:Nat) :
  ∃ g2 c2,v'=.slice (some ⟨g2,0,none⟩) (l.length+1) c2/\(g2≠B /\
   w5.cell? ⟨g2,l.length*4,none⟩=some (.string ⟨#[]⟩)/\w5.cell? ⟨g2,l.length*4+1,none⟩=some (.slice none 0 0)/\w5.cell? ⟨g2,l.length*4+2,none⟩=some (.string ⟨#[]⟩)/\w5.cell? ⟨g2,l.length*4+3,none⟩=some (.slice none 0 0) /\
   w5.frozen? ⟨g2,l.length*4,none⟩=false/\w5.frozen? ⟨g2,l.length*4+1,none⟩=false/\w5.frozen? ⟨g2,l.length*4+2,none⟩=false/\w5.frozen? ⟨g2,l.length*4+3,none⟩=false /\
   w5.cell? ⟨B,0,none⟩=some ov/\w5.frozen? ⟨B,0,none⟩=false /\
   PushEnd w (((((w5.setCell ⟨g2,l.length*4,none⟩ (.string nm)).setCell ⟨g2,l.length*4+1,none⟩ (.slice ap am ac)).setCell ⟨g2,l.length*4+2,none⟩ (.string tx)).setCell ⟨g2,l.length*4+3,none⟩ (.slice cp cm cc)).setCell ⟨B,0,none⟩ (.slice (some ⟨g2,0,none⟩) (l.length+1) c2)) B base ov pa bv x y l nm tx ap am ac cp cm cc (.slice (some ⟨g2,0,none⟩) (l.length+1) c2) /\
   PushEnd w (((((w5.setCell ⟨B,0,none⟩ (.slice (some ⟨g2,0,none⟩) (l.length+1) c2)).setCell ⟨g2,l.length*4,none⟩ (.string nm)).setCell ⟨g2,l.length*4+1,none⟩ (.slice ap am ac)).setCell ⟨g2,l.length*4+2,none⟩ (.string tx)).setCell ⟨g2,l.length*4+3,none⟩ (.slice cp cm cc)) B base ov pa bv x y l nm tx ap am ac cp cm cc (.slice (some ⟨g2,0,none⟩) (l.length+1) c2)):=by
 obtain⟨g2,c2,rfl,hcell⟩:=own_at hown (by omega)
 have hlen:=ndCells_len l
 have hat:∀ j,j < 4->w5.cell? ⟨g2,l.length*4+j,none⟩=[Value.string ⟨#[]⟩,.slice none 0 0,.string ⟨#[]⟩,.slice none 0 0][j]?:=by
  intro j hj
  rw[hcell _ (by omega),List.getElem?_append_right (by omega),hlen,Nat.add_sub_cancel_left]
 have hfrz:∀ j,w5.frozen? ⟨g2,j,none⟩=false:=by
  intro j
  obtain⟨_,⟨e,_⟩ | ⟨g',cap',cur,e,_,hg,_⟩⟩:=hown
  ·cases e
  ·cases e
   exact tag_free hg j
 have hoB:ov.ownBlock≠some B:=own_apart hro h (by decide)
 have hB5:BB w5 B ov pa bv x y:=(hgr.block _ (lt_of_block h) (fun e=>hoB e.symm)).trans h
 have n2:g2≠B:=fun e=>own_apart hown hB5 (by decide) (by rw[e];rfl)
 have hgB:(Value.slice (some ⟨g2,0,none⟩) (l.length+1) c2).ownBlock≠some B:=by
  intro e
  exact n2 (by simpa [Value.ownBlock] using e)
 have hg2b:base<=g2:=(hown.lt g2 rfl).1
 have hbel:Below base w w5:=(Below.refl base w).grown hgr hbw (fun j hj=>(hro.lt j hj).1)
 have hattr:∀ j∈B :: blk ov,∀ cs fz,w.heap[j]?≠some (.cells cs 108 fz):=by
  intro j hj cs fz e
  rcases List.mem_cons.1 hj with rfl | hj
  ·have h2:=h
   unfold BB at h2
   rw[h2] at e
   cases e
  ·exact own_apart hro e (by decide) (by unfold blk at hj;simpa using hj)
 have hout:∀ j,j < w.heap.size->j ∉ B :: blk ov->j≠B/\j≠g2/\w5.heap[j]?=w.heap[j]?:=by
  intro j hj hS
  have j1:j≠B:=fun e=>hS (by rw[e];exact List.mem_cons_self ..)
  have j2:ov.ownBlock≠some j:=fun e=>hS (List.mem_cons_of_mem _ (by unfold blk;rw[e];simp))
  refine⟨j1,?_,hgr.block j hj (fun e=>j2 e.symm)⟩
  rintro rfl
  rcases hfr with e | e
  ·exact j2 e.symm
  ·have:j=w.heap.size:=by simpa [Value.ownBlock] using e
   omega
 have hkeep:∀ (wx:World) (j:Nat) (v:Value),BB wx B ov pa bv x y->BB (wx.setCell ⟨g2,j,none⟩ v) B ov pa bv x y:=by
  intro wx j v hx
  unfold BB
  rw[Below.heap_setCell _ _ _ _ (by simpa using Ne.symm n2)]
  exact hx
 have hset:∀ (wx:World) (v:Value),BB wx B ov pa bv x y->BB (wx.setCell ⟨B,0,none⟩ v) B v pa bv x y:=fun wx v hx=>tok_set hx 0 v
 refine⟨g2,c2,rfl,n2,hat 0 (by decide),hat 1 (by decide),hat 2 (by decide),hat 3 (by decide),hfrz _,hfrz _,hfrz _,hfrz _,tag_cell hB5 0 _ rfl,tag_free hB5 0,?_,?_⟩
 ·refine⟨hset _ _ (hkeep _ _ _ (hkeep _ _ _ (hkeep _ _ _ (hkeep _ _ _ hB5)))),?_,hfr,⟨?_,?_,hattr⟩,?_⟩
  ·rw[<-set_four (ndCells l) (.string ⟨#[]⟩) (.slice none 0 0) (.string ⟨#[]⟩) (.slice none 0 0),hlen]
   exact ownsRow_setCell_other (own_put (own_put (own_put (own_put hown _ _) _ _) _ _) _ _) (a:=⟨B,0,none⟩) hgB _
  ·simpa using hgr.size
  ·intro j hj hS
   obtain⟨j1,j2,j3⟩:=hout j hj hS
   rw[Below.heap_setCell _ _ _ _ (by simpa using j1),Below.heap_setCell _ _ _ _ (by simpa using j2),Below.heap_setCell _ _ _ _ (by simpa using j2),Below.heap_setCell _ _ _ _ (by simpa using j2),Below.heap_setCell _ _ _ _ (by simpa using j2)]
   exact j3
  ·exact ((((hbel.setCell (p:=⟨g2,l.length*4,none⟩) hg2b _).setCell (p:=⟨g2,l.length*4+1,none⟩) hg2b _).setCell (p:=⟨g2,l.length*4+2,none⟩) hg2b _).setCell (p:=⟨g2,l.length*4+3,none⟩) hg2b _).setCell (p:=⟨B,0,none⟩) hbB _
 ·have hk2:∀ (wx:World) (j:Nat) (v o2:Value),BB wx B o2 pa bv x y->BB (wx.setCell ⟨g2,j,none⟩ v) B o2 pa bv x y:=by
   intro wx j v o2 hx
   unfold BB
   rw[Below.heap_setCell _ _ _ _ (by simpa using Ne.symm n2)]
   exact hx
  refine⟨hk2 _ _ _ _ (hk2 _ _ _ _ (hk2 _ _ _ _ (hk2 _ _ _ _ (hset _ _ hB5)))),?_,hfr,⟨?_,?_,hattr⟩,?_⟩
  ·rw[<-set_four (ndCells l) (.string ⟨#[]⟩) (.slice none 0 0) (.string ⟨#[]⟩) (.slice none 0 0),hlen]
   exact own_put (own_put (own_put (own_put (ownsRow_setCell_other hown (a:=⟨B,0,none⟩) hgB _) _ _) _ _) _ _) _ _
  ·simpa using hgr.size
  ·intro j hj hS
   obtain⟨j1,j2,j3⟩:=hout j hj hS
   rw[Below.heap_setCell _ _ _ _ (by simpa using j2),Below.heap_setCell _ _ _ _ (by simpa using j2),Below.heap_setCell _ _ _ _ (by simpa using j2),Below.heap_setCell _ _ _ _ (by simpa using j2),Below.heap_setCell _ _ _ _ (by simpa using j1)]
   exact j3
  ·exact ((((hbel.setCell (p:=⟨B,0,none⟩) hbB _).setCell (p:=⟨g2,l.length*4,none⟩) hg2b _).setCell (p:=⟨g2,l.length*4+1,none⟩) hg2b _).setCell (p:=⟨g2,l.length*4+2,none⟩) hg2b _).setCell (p:=⟨g2,l.length*4+3,none⟩) hg2b _
end Go.Proofs.YtkiofbikkhhdfabGreatDoor.Dm
namespace Go.Proofs.YtkiofbikkhhdfabGreatDoor.Dm
open Go.RowKit
open Utf1
theorem push_st {w w':World}{base B:Nat}{ov pa bv:Value}{o n:Nat}{l:List (Nd × Value × Value)}{fp:List Nat}{ov':Value}(nm:List UInt8) (at':List (List UInt8 × List UInt8)) (ap:Option Addr) (am ac:Nat)(hbB:base<=B)(hbw:base<=w.heap.size)
  (h:BB w B ov pa bv (.int .i64 (o:Int)) (.int .i64 (n:Int)))(hro:w.ownsRow base 80 4 ov l.length (ndCells l))(hK:KAll w base l fp)(hnd:(blk ov++fp).Nodup)(ha:w.ownsRow base 108 2 (.slice ap am ac) at'.length (attrCells at'))
  (hp:PushEnd w w' B base ov pa bv (.int .i64 (o:Int)) (.int .i64 (n:Int)) l ⟨nm.toArray⟩ ⟨#[]⟩ ap am ac none 0 0 ov') :
  St0 w' base B (l.map Prod.fst++[.mk nm at' [] []]) pa bv o n/\Below base w w'/\∀ (b:Nat) (v:Value) (m:Nat) (xs:List Value),w.ownsRow b 5 1 v m xs->w'.ownsRow b 5 1 v m xs:=by
 obtain⟨p1,p2,p3,p4,p5⟩:=hp
 have hnd':=List.nodup_append.1 hnd
 have hfp:∀ j∈fp,j ∉ B :: blk ov:=by
  intro j hj hm
  rcases List.mem_cons.1 hm with rfl | hm
  ·obtain⟨cs,fz,e⟩:=nodes_typed hK j hj
   unfold BB at h
   rw[h] at e
   cases e
  ·exact hnd'.2.2 j hm j hj rfl
 refine⟨⟨hbB,Nat.le_trans hbw p5.size,ov',l++[(.mk nm at' [] [],.slice ap am ac,.slice none 0 0)],fp++[],?_,p1,?_,?_,?_⟩,p5,?_⟩
 ·rw[List.map_append]
  rfl
 ·rw[nd_one,List.length_append]
  exact p2
 ·refine (hK.stays p4 hfp).app ?_
  exact KAll.cons (.mk nm at' [] []) _ _ [] [] [] (attr_stays ha p4) (KAt.empty _ _) .nil
 ·rw[List.append_nil]
  rcases p3 with e | e
  ·unfold blk
   rw[e]
   exact hnd
  ·have:blk ov'=[w.heap.size]:=by unfold blk;rw[e];rfl
   rw[this]
   refine List.nodup_append.2 ⟨by simp,hnd'.2.1,?_⟩
   intro a ha b hb e
   have h1:=(hK.lt b hb).2
   simp only[List.mem_singleton] at ha
   omega
 ·intro b v m xs ho
  refine own_stays ho p4.block ?_
  intro j hj hm
  rcases List.mem_cons.1 hm with rfl | hm
  ·exact own_apart ho h (by decide) hj
  ·exact own_two_ne ho hro (by decide) hj (by unfold blk at hm;simpa using hm)
end Go.Proofs.YtkiofbikkhhdfabGreatDoor.Dm
namespace Go.Proofs.YtkiofbikkhhdfabGreatDoor.Dm
open Go.RowKit
open Utf1
theorem clone_any (s:ByteArray) (w:World)(hlim:s.size<=281474976710656) :
  Calls Tryz.prog 49 #[.string s] w fun e w'=>e=.returned (.string s)/\Below w.heap.size w w':=by
 go_enter Tryz.func49,Tryz.ntmps49
 go_wp2_with (go_at_call 85;refine (Tryz.stringslite_Clone _ _ hlim).mono ?_;rintro e w' ⟨rfl,hb⟩)
 go_ret
 exact⟨rfl,hb⟩
theorem wayR_all (name:List UInt8) (r:List Nd) (t:List UInt8)(hr:r≠[])(hroot:r.getLast?.map Nd.name=some []):1<=(wayR name r t).1.length/\(wayR name r t).1.length<=r.length/\cntL (wayR name r t).1+tx (wayR name r t).2=cntL r+tx t/\(wayR name r t).2.length<=t.length/\(wayR name r t).1.getLast?.map Nd.name=r.getLast?.map Nd.name:=by
 have c:=closeIn_all [[112]] r t hr
 have cr:=closeIn_root [[112]] r t hr
 have hself:1<=r.length:=List.length_pos_iff.2 hr
 unfold wayR
 split
 ·split
  ·split
   ·rename_i hh
    have hne:(closeIn [[112]] r t).1≠[]:=List.length_pos_iff.1 c.1
    have hlt:=innerR_lt [[108,105],[117,108],[111,108]] (closeIn [[112]] r t).1 hne
    by_cases h0:innerR [[108,105],[117,108],[111,108]] (closeIn [[112]] r t).1=0
    ·exfalso
     rw[h0,<-List.head?_eq_getElem?,List.head?_reverse,cr,hroot] at hh
     exact absurd hh (by decide)
    ·have q:=closeR_all ((closeIn [[112]] r t).1.length - innerR [[108,105],[117,108],[111,108]] (closeIn [[112]] r t).1) (closeIn [[112]] r t).1 (closeIn [[112]] r t).2 (by omega)
     have qr:=closeR_root ((closeIn [[112]] r t).1.length - innerR [[108,105],[117,108],[111,108]] (closeIn [[112]] r t).1) (closeIn [[112]] r t).1 (closeIn [[112]] r t).2 (by omega)
     exact⟨by omega,by omega,by omega,by omega,qr.trans cr⟩
   ·exact⟨c.1,c.2.1,c.2.2.1,c.2.2.2,cr⟩
  ·exact⟨c.1,c.2.1,c.2.2.1,c.2.2.2,cr⟩
 ·exact⟨hself,Nat.le_refl _,rfl,Nat.le_refl _,rfl⟩
def startR (name:List UInt8) (at':List (List UInt8 × List UInt8)) (r:List Nd) (t:List UInt8) (o n:Nat):List Nd × List UInt8 × Nat × Nat :=
 if name=[] then (r,t,o,n)
 else match (wayR name r t).1 with
  | []=>(r,t,o,n)
  | nd :: q=>if name∈voids then (addKid (textIn nd (wayR name r t).2) (.mk name at' [] []) :: q,[],o,n+1) else (.mk name at' [] [] :: textIn nd (wayR name r t).2 :: q,[],max o (q.length+1),n+1)
end Go.Proofs.YtkiofbikkhhdfabGreatDoor.Dm
namespace Go.Proofs.YtkiofbikkhhdfabGreatDoor.Dm
open Go.RowKit
open Utf1
def Clones (w:World) (base:Nat) (av:Value) (at':List (List UInt8 × List UInt8)):Prop :=
 ∀ wx,base<=wx.heap.size->Below base w wx->Calls Tryz.prog 110 #[av] wx fun e w'=>∃ ap am ac,e=.returned (.slice ap am ac)/\w'.ownsRow base 108 2 (.slice ap am ac) at'.length (attrCells at')/\Below wx.heap.size wx w'
theorem clones_nil (w:World) (base:Nat):Clones w base (.slice none 0 0) []:=by
 intro wx hb _
 refine (clone_nil wx).mono ?_
 rintro e w' ⟨rfl,rfl⟩
 exact⟨none,0,0,rfl,World.ownsRow_nil _ _ _ _,Below.refl _ _⟩
theorem start_void (w:World) (base B:Nat) (r:List Nd) (t:List UInt8) (o n:Nat) (name:ByteArray)(h:St w base B r.reverse t o n)(hr:r≠[])(hroot:r.getLast?.map Nd.name=some [])(hM:cntL r+tx t<=100000)(ht:t.length<=100000000)(hn:n<=100000)(hs:name.size<=281474976710656)(hne:bl name≠[])(hv:bl name∈voids) (av:Value) (at':List (List UInt8 × List UInt8))(hcl:Clones w base av at') :
  Calls Tryz.prog 79 #[.pointer (some ⟨B,0,none⟩),.string name,av] w fun e w'=>e=.returned (.tuple #[])/\St w' base B (startR (bl name) at' r t o n).1.reverse (startR (bl name) at' r t o n).2.1 (startR (bl name) at' r t o n).2.2.1 (startR (bl name) at' r t o n).2.2.2/\Below base w w':=by
 have f0:=eqlit name []
 rw[decide_eq_false hne] at f0
 have f1:name.toList.isEmpty=false:=by
  cases hh:name.toList with
  | nil=>rw[hh] at f0;cases f0
  | cons=>rfl
 have hall:=wayR_all (bl name) r t hr hroot
 have HMW:=hide (makeWay_st w base B r t o n name h hr hroot hM ht)
 obtain⟨nd,q,hW⟩:∃ nd q,(wayR (bl name) r t).1=nd :: q:=by
  cases hh:(wayR (bl name) r t).1 with
  | nil=>rw[hh] at hall;simp at hall
  | cons a b=>exact⟨a,b,rfl⟩
 have hST:startR (bl name) at' r t o n=(addKid (textIn nd (wayR (bl name) r t).2) (.mk (bl name) at' [] []) :: q,[],o,n+1):=by
  unfold startR
  rw[if_neg hne,hW]
  simp only[]
  rw[if_pos hv]
 rw[hST]
 obtain⟨t1,ht1⟩:∃ t1,t1=(wayR (bl name) r t).2:=⟨_,rfl⟩
 rw[hW,<-ht1] at hall
 rw[hW,<-ht1,List.reverse_cons] at HMW
 rw[<-ht1,List.reverse_cons]
 have hc:=cnt_text nd t1
 have hk1:=cntN_kids nd
 have hk2:=cntN_kids (textIn nd t1)
 have hl1:=len_cnt nd.kids
 have hl2:=len_cnt (textIn nd t1).kids
 have hlq:=len_cnt q
 have hcq:cntL (nd :: q)=cntN nd+cntL q:=rfl
 have hqr:q.reverse.length=q.length:=List.length_reverse
 have HV:=hide (fun w=>by have:=void_any name w;rw[decide_eq_true hv] at this;exact this)
 have HE:=hide (fun w1 (hw1:St w1 base B (q.reverse++[nd]) t1 o n)=>endText_st w1 base B q.reverse nd t1 o n hw1 (by omega) (by omega) (by omega))
 have HP:=hide (fun wx pa bv ap am ac (hx:St0 wx base B (q.reverse++[textIn nd t1]) pa bv o (n+1))(hat:wx.ownsRow base 108 2 (.slice ap am ac) at'.length (attrCells at'))=>put_st wx base B q.reverse (textIn nd t1) pa bv o (n+1) (.mk (bl name) at' [] []) ap am ac none 0 0 (by
  obtain⟨h1,h2,ov,l,fp,h3,h4,h5,h6,h7⟩:=hx
  exact⟨h1,h2,ov,l,fp,[],h3,h4,h5,h6,h7,hat,KAt.empty _ _,List.nodup_nil,fun _ hk=>by cases hk⟩) (by omega) (by omega))
 clear hST hc hk1 hk2 hl1 hl2 hlq hcq hqr hall hW ht1 h hroot hr hM f0
 go_enter Tryz.func79,Tryz.ntmps79
 go_wp2_with fail
 refine HMW.out.mono ?_
 rintro e w1 ⟨rfl,m1,m2⟩
 have HE1:=hide (HE.out w1 m1)
 have HB1:=hide m2
 clear m1 m2 HMW HE
 go_wp2_with fail
 refine HE1.out.mono ?_
 rintro e w2 ⟨rfl,m1,m2⟩
 have HS2:=hide m1
 have HB2:=hide (HB1.out.trans m2)
 have HB0:Hid (base<=w2.heap.size):=hide (by obtain⟨_,_,h0,_⟩:=HS2.out;exact h0.2.1)
 clear m1 m2 HE1 HB1
 go_wp2_with fail
 refine (clone_any _ _ hs).mono ?_
 rintro e w3 ⟨rfl,m1⟩
 have HS3:=hide (HS2.out.under m1)
 have HB3:=hide (HB2.out.trans (m1.mono HB0.out))
 have HB03:Hid (base<=w3.heap.size):=hide (Nat.le_trans HB0.out m1.size)
 have HCL:=hide (hcl w3 HB03.out HB3.out)
 clear m1 HB2 HS2 HB0 hcl
 go_wp2_with fail
 refine HCL.out.mono ?_
 rintro e w4 ⟨ap,am,ac,rfl,hat,hb4⟩
 have HS4:=hide (HS3.out.under hb4)
 have HB4:=hide (HB3.out.trans (hb4.mono HB03.out))
 have HAT:=hide hat
 clear hat hb4 HS3 HB3 HB03 HCL
 have HA:Hid (Below w4.heap.size w4 (w4.alloc (.cells #[.string name,.slice ap am ac,.string ⟨#[]⟩,.slice none 0 0] 80))):=hide ((Below.refl _ _).alloc (Nat.le_refl _) _)
 obtain⟨pa,bv,h0,hw⟩:=HS4.out.under HA.out
 obtain⟨ov,hB⟩:=h0.bb
 have c4:=tag_cell hB 4 _ rfl
 have f4:=tag_free hB 4
 have hBl:B < w4.heap.size:=by
  obtain⟨pa,bv,h0,hw⟩:=HS4.out
  obtain⟨ov,hB⟩:=h0.bb
  exact lt_of_block hB
 have hB1:B≠w4.heap.size:=Nat.ne_of_lt hBl
 have hB2:w4.heap.size≠B:=Ne.symm hB1
 have H4:Hid (∃ pa bv,St0 ((w4.setCell ⟨B,4,none⟩ (.int .i64 ((n:Int)+1))).alloc (.cells #[.string name,.slice ap am ac,.string ⟨#[]⟩,.slice none 0 0] 80)) base B (q.reverse++[textIn nd t1]) pa bv o (n+1)/\Wait ((w4.setCell ⟨B,4,none⟩ (.int .i64 ((n:Int)+1))).alloc (.cells #[.string name,.slice ap am ac,.string ⟨#[]⟩,.slice none 0 0] 80)) base B pa bv []/\Below base w ((w4.setCell ⟨B,4,none⟩ (.int .i64 ((n:Int)+1))).alloc (.cells #[.string name,.slice ap am ac,.string ⟨#[]⟩,.slice none 0 0] 80))/\World.ownsRow ((w4.setCell ⟨B,4,none⟩ (.int .i64 ((n:Int)+1))).alloc (.cells #[.string name,.slice ap am ac,.string ⟨#[]⟩,.slice none 0 0] 80)) base 108 2 (.slice ap am ac) at'.length (attrCells at')):=hide (by
  obtain⟨pa,bv,h0,hw⟩:=HS4.out
  obtain⟨ov,hB⟩:=h0.bb
  have h4:St (w4.setCell ⟨B,4,none⟩ (.int .i64 ((n+1:Nat):Int))) base B (q.reverse++[textIn nd t1]) [] o (n+1):=⟨pa,_,h0.stays (stays_set hB 4 _) (bb_no_node hB) (fun ov' hb=>(bb_cnt hb _).2),wait_set hB hw 4 _⟩
  have hal:Below (w4.setCell ⟨B,4,none⟩ (.int .i64 ((n+1:Nat):Int))).heap.size (w4.setCell ⟨B,4,none⟩ (.int .i64 ((n+1:Nat):Int))) ((w4.setCell ⟨B,4,none⟩ (.int .i64 ((n+1:Nat):Int))).alloc (.cells #[.string name,.slice ap am ac,.string ⟨#[]⟩,.slice none 0 0] 80)):=(Below.refl _ _).alloc (Nat.le_refl _) _
  obtain⟨pa2,bv2,h5,hw5⟩:=h4.under hal
  have hb4:Below base w (w4.setCell ⟨B,4,none⟩ (.int .i64 ((n+1:Nat):Int))):=HB4.out.setCell (p:=⟨B,4,none⟩) h0.1 _
  refine⟨pa2,bv2,h5,hw5,hb4.trans (hal.mono ?_),own_below (attr_stays HAT.out (stays_set hB 4 _)) hal⟩
  obtain⟨_,_,h6,_⟩:=h4
  exact h6.2.1)
 clear h0 hw hB HS4 HB4 HA HAT
 go_wp2_with fail
 refine (HV.out _).mono ?_
 rintro e w5 ⟨rfl,rfl⟩
 go_wp2_with fail
 obtain⟨pa5,bv5,h5,hw5,hb5,hat5⟩:=H4.out
 have HP5:=hide (HP.out _ _ _ _ _ _ h5 hat5)
 have HW5:=hide (And.intro hw5 hb5)
 clear h5 hw5 hb5 hat5 H4 HP
 refine HP5.out.mono ?_
 rintro e w6 ⟨rfl,p1,p2,p3⟩
 have HE:Hid (St w6 base B (q.reverse++[addKid (textIn nd t1) (.mk (bl name) at' [] [])]) [] o (n+1)/\Below base w w6):=hide ⟨⟨_,_,p1,HW5.out.1.1,p3 _ _ _ _ HW5.out.1.2⟩,HW5.out.2.trans p2⟩
 clear p1 p2 p3 HW5 HP5
 go_wp2_with fail
 refine bodyPost_ret (results_none rfl _ _ _) rfl ?_
 exact⟨rfl,HE.out⟩
end Go.Proofs.YtkiofbikkhhdfabGreatDoor.Dm
namespace Go.Proofs.YtkiofbikkhhdfabGreatDoor
open Go.RowKit
open Utf1 Pol8
abbrev inV (B:Nat):Value:=.func (.func 76) #[] #[.pointer (some ⟨B,0,none⟩)]
theorem ponein_any (B:Nat) (v:Value) (ss:List ByteArray)(hl:ss.length<=100000) (x:ByteArray) (w:World)(hb:w.heap[B]?=some (.cells #[v] 22 (0,0)))(hv:StrArg w v ss) :
  Calls Tryz.prog 76 #[.string x,.pointer (some ⟨B,0,none⟩)] w fun e w'=>e=.returned (.bool (decide (bl x∈ss.map bl)))/\w'=w:=by
 have C1:=hide (contains_any x v ss hl w hv)
 generalize decide (bl x∈ss.map bl)=R at C1 ⊢
 have y0:=tag_cell hb 0 _ rfl
 obtain⟨q,cap,rfl,-,-⟩:=hv
 clear hb
 go_enter Tryz.func76,Tryz.ntmps76
 go_wp2_with fail
 refine C1.out.mono ?_
 rintro e w1 ⟨rfl,rfl⟩
 clear C1
 go_wp2_with fail
 go_ret
 exact⟨rfl,rfl⟩
def inL (l:List L) (x:L):Bool:=decide (x∈l)
def InQ (B:Nat) (l:List L) (w:World):Prop:=∀ (W:World) (x:ByteArray),Below w.heap.size w W->Calls Tryz.prog 76 #[.string x,.pointer (some ⟨B,0,none⟩)] W fun e w'=>e=.returned (.bool (inL l (bl x)))/\w'=W
theorem InQ.later {B:Nat}{l:List L}{w W:World}(h:InQ B l w)(hb:Below w.heap.size w W):InQ B l W:=fun W' x hb'=>h W' x (bel2 hb hb')
theorem InQ.tells {B:Nat}{l:List L}{w:World}(h:InQ B l w):Tells 76 #[.pointer (some ⟨B,0,none⟩)] (inL l) w:=by
 intro W x _ hbb
 rw[show (#[.string x]++#[.pointer (some ⟨B,0,none⟩)]:Array Value)=#[.string x,.pointer (some ⟨B,0,none⟩)] by simp]
 exact (h W x hbb).mono fun _ _ ⟨h1,h2⟩=>⟨h1,h2 ▸ Below.refl _ _⟩
theorem inQ_of (B:Nat) (v:Value) (ss:List ByteArray)(hl:ss.length<=100000) (w:World)(hb:w.heap[B]?=some (.cells #[v] 22 (0,0)))(hv:StrArg w v ss):InQ B (ss.map bl) w :=
 fun W x hbb=>ponein_any B v ss hl x W ((hbb.block _ (Array.getElem?_eq_some_iff.1 hb).1).trans hb) (hv.below hbb)
theorem ent_in:∀ args w,(callFunc 76 args).run Tryz.prog w=.ok (.enter 76 args) w:=enters_of Tryz.func76 (by kernel_rfl) rfl
theorem poneOf_any (v:Value) (ss:List ByteArray)(hl:ss.length<=100000) (w:World)(hv:StrArg w v ss) :
  Calls Tryz.prog 38 #[v] w fun e w'=>(∃ B,e=.returned (inV B)/\InQ B (ss.map bl) w')/\Below w.heap.size w w':=by
 have hmf:∀ (fn:Fn) (first cap:Array Value) (w:World),(Instr.makeFunc fn first cap).run Tryz.prog w=.ok (.func fn first cap) w:=fun _ _ _ _=>rfl
 obtain⟨w1,hw1⟩:∃ w1,w1=w.alloc (.cells #[v] 22):=⟨_,rfl⟩
 have hb1:Below w.heap.size w w1:=by rw[hw1];exact bel_alloc (Below.refl _ _) _
 have hk:w1.heap[w.heap.size]?=some (.cells #[v] 22 (0,0)):=by rw[hw1];exact new_block _ _ _
 have HT:Hid ((∃ B,Ending.returned (inV w.heap.size)=.returned (inV B)/\InQ B (ss.map bl) w1)/\Below w.heap.size w w1):=hide ⟨⟨w.heap.size,rfl,inQ_of _ v ss hl w1 hk (hv.below hb1)⟩,hb1⟩
 obtain⟨q,cap,rfl,-,-⟩:=hv
 clear hk hb1
 go_enter Tryz.func38,Tryz.ntmps38
 go_wp2_with fail
 rw[<-hw1]
 clear hw1 hmf
 go_wp2_with fail
 go_ret
 exact HT.out
theorem star_app (a b:L)(h:(46:UInt8) ∉ a):star (a++46 :: b)=42 :: 46 :: b:=by
 unfold star
 rw[dw_app a b h]
theorem dw_none:∀ (a:L),(46:UInt8) ∉ a->a.dropWhile (fun c=>decide (c≠46))=[]
 | [],_=>rfl
 | c :: a,h=>by
  rw[List.dropWhile_cons,if_pos (by
   apply decide_eq_true
   intro hc
   exact h (by simp[hc]))]
  exact dw_none a (fun hm=>h (by simp[hm]))
theorem star_none (a:L)(h:(46:UInt8) ∉ a):star a=[42]:=by
 unfold star
 rw[dw_none a h]
theorem pofAll_any (s:ByteArray)(hs:s.size<=100000) (w:World) :
  Calls Tryz.prog 40 #[.string s] w fun e w'=>e=.returned (.string ⟨(star (bl s)).toArray⟩)/\Below w.heap.size w w':=by
 by_cases hd:(46:UInt8)∈bl s
 ·obtain⟨n,a,hna,hn,hsz,-,-,-⟩:=split_ba s 46 hd
  have c1:=fun w=>cut_some s 46 n a hna hn hs w
  have HE:Hid ((⟨#[42,46]⟩++a:ByteArray)=⟨(star (bl s)).toArray⟩):=hide (by
   apply ba_ext
   rw[app_bl,hna,star_app _ _ hn]
   rfl)
  have hsa:a.size<=100000:=by omega
  clear hna hn hsz hd
  go_enter Tryz.func40,Tryz.ntmps40
  go_wp2_with fail
  refine (c1 _).mono ?_
  rintro e w1 ⟨rfl,hb1⟩
  clear c1
  go_wp2_with fail
  go_ret
  exact⟨ret_str HE.out,hb1⟩
 ·have c1:=fun w=>cut_none s 46 hd w
  rw[star_none _ hd]
  clear hd
  go_enter Tryz.func40,Tryz.ntmps40
  go_wp2_with fail
  refine (c1 _).mono ?_
  rintro e w1 ⟨rfl,hb1⟩
  clear c1
  go_wp2_with fail
  go_ret
  exact⟨rfl,hb1⟩
theorem pattrB_any:AttrC:=by
 intro v1 v2 v3 v4 v5 p l1 l2 l3 l4 l5 x y w hv hf hx hy
 obtain⟨f1,z1⟩:=fits_of hf (by simp) hv.e1
 obtain⟨f2,z2⟩:=fits_of hf (by simp) hv.e2
 obtain⟨R,hR⟩:∃ R,R=attrB p (bl x) (bl y):=⟨_,rfl⟩
 rw[<-hR]
 have HAL:Hid (R=(decide (bl x∈l1.map bl) && (inL (l2.map bl) (bl (⟨#[42,46]⟩++y)) || inL (l2.map bl) (bl (x++⟨#[46]⟩++y))))):=hide (by
  rw[hR,hv.e1,hv.e2]
  unfold attrB inL
  rw[Bool.decide_or,app_bl,app_bl,app_bl]
  have e1:(42 :: 46 :: bl y:L)=bl ⟨#[42,46]⟩++bl y:=rfl
  have e2:(bl x++46 :: bl y:L)=bl x++bl ⟨#[46]⟩++bl y:=by rw[List.append_assoc];rfl
  rw[e1,e2])
 show Calls Tryz.prog 120 #[pvalL p.ep v1 v2 v3 v4 v5 p.dp p.nd p.bt,.string x,.string y] w _
 generalize p.ep=a0
 generalize p.dp=a6
 generalize p.nd=a7
 generalize p.bt=a8
 obtain⟨w1,hw1⟩:∃ w1,w1=w.alloc (.cells #[.int .i64 a0,v1,v2,v3,v4,v5,.int .i64 a6,.int .i64 a7,.int .i64 a8] 24):=⟨_,rfl⟩
 have HN:Hid (BoxP w #[.int .i64 a0,v1,v2,v3,v4,v5,.int .i64 a6,.int .i64 a7,.int .i64 a8] w1):=hide (by rw[hw1];exact⟨new_block _ _ _,bel_alloc (Below.refl _ _) _⟩)
 have SK:Hid (∀ wx,BoxP w #[.int .i64 a0,v1,v2,v3,v4,v5,.int .i64 a6,.int .i64 a7,.int .i64 a8] wx->wx.cell? ⟨w.heap.size,0,none⟩=some (.int .i64 a0)/\wx.cell? ⟨w.heap.size,1,none⟩=some v1/\wx.cell? ⟨w.heap.size,2,none⟩=some v2/\wx.cell? ⟨w.heap.size,3,none⟩=some v3/\wx.cell? ⟨w.heap.size,4,none⟩=some v4/\wx.cell? ⟨w.heap.size,5,none⟩=some v5/\wx.cell? ⟨w.heap.size,6,none⟩=some (.int .i64 a6)/\wx.cell? ⟨w.heap.size,7,none⟩=some (.int .i64 a7)/\wx.cell? ⟨w.heap.size,8,none⟩=some (.int .i64 a8)):=hide (fun wx h=>⟨h.cell 0 _ rfl,h.cell 1 _ rfl,h.cell 2 _ rfl,h.cell 3 _ rfl,h.cell 4 _ rfl,h.cell 5 _ rfl,h.cell 6 _ rfl,h.cell 7 _ rfl,h.cell 8 _ rfl⟩)
 have CO:=hide (fun wx (h:BoxP w #[.int .i64 a0,v1,v2,v3,v4,v5,.int .i64 a6,.int .i64 a7,.int .i64 a8] wx)=>poneOf_any v2 l2 f2 wx (hv.s2.below h.2))
 have CE:=hide (fun wx (h:BoxP w #[.int .i64 a0,v1,v2,v3,v4,v5,.int .i64 a6,.int .i64 a7,.int .i64 a8] wx)=>pelem_any a0 v1 v2 v3 v4 v5 a6 a7 a8 x l1 f1 wx (hv.s1.below h.2))
 obtain⟨X1,hX1⟩:∃ X1:ByteArray,X1=⟨#[42,46]⟩++y:=⟨_,rfl⟩
 obtain⟨X2,hX2⟩:∃ X2:ByteArray,X2=x++⟨#[46]⟩++y:=⟨_,rfl⟩
 rw[<-hX1,<-hX2] at HAL
 have HX1:=hide hX1
 have HX2:=hide hX2
 generalize decide (bl x∈l1.map bl)=t1 at CE HAL
 obtain⟨t2,ht2⟩:∃ t,t=inL (l2.map bl) (bl X1):=⟨_,rfl⟩
 obtain⟨t3,ht3⟩:∃ t,t=inL (l2.map bl) (bl X2):=⟨_,rfl⟩
 rw[<-ht2,<-ht3] at HAL
 have HI1:Hid (∀ B wx,InQ B (l2.map bl) wx->∀ wy,Below wx.heap.size wx wy->Calls Tryz.prog 76 #[.string (⟨#[42,46]⟩++y),.pointer (some ⟨B,0,none⟩)] wy fun e w'=>e=.returned (.bool t2)/\w'=wy):=hide (fun B wx h wy hb=>by rw[ht2,hX1];exact h wy _ hb)
 have HI2:Hid (∀ B wx,InQ B (l2.map bl) wx->∀ wy,Below wx.heap.size wx wy->Calls Tryz.prog 76 #[.string (x++⟨#[46]⟩++y),.pointer (some ⟨B,0,none⟩)] wy fun e w'=>e=.returned (.bool t3)/\w'=wy):=hide (fun B wx h wy hb=>by rw[ht3,hX2];exact h wy _ hb)
 clear hv hf hR z1 z2 f1 f2 hX1 hX2 ht2 ht3 HX1 HX2
 go_enter Tryz.func120,Tryz.ntmps120
 go_upto_region 1 with fail
 rw[<-hw1]
 clear hw1
 obtain⟨y0,y1,y2,y3,y4,y5,y6,y7,y8⟩:=SK.out _ HN.out
 go_wp2_with fail
 refine (CO.out _ HN.out).mono ?_
 rintro e w2 ⟨⟨B,rfl,hq⟩,hb2⟩
 have H2:=hide (HN.out.keep hb2)
 have HQ:=hide hq
 clear hb2 hq HN CO y0 y1 y2 y3 y4 y5 y6 y7 y8
 obtain⟨y0,y1,y2,y3,y4,y5,y6,y7,y8⟩:=SK.out _ H2.out
 go_wp2_with fail
 refine (CE.out _ H2.out).mono ?_
 rintro e w3 ⟨rfl,hb3⟩
 have H3:=hide (H2.out.keep hb3)
 have C1:=hide (HI1.out B w2 HQ.out w3 hb3)
 have C2:=hide (HI2.out B w2 HQ.out w3 hb3)
 clear hb3 H2 CE HQ HI1 HI2 SK y0 y1 y2 y3 y4 y5 y6 y7 y8
 cases t1 with
 | false =>
  have HR:Hid (R=false):=hide (by rw[HAL.out];rfl)
  clear HAL C1 C2
  go_wp2_with fail
  go_ret
  rw[HR.out]
  exact⟨rfl,H3.out.2⟩
 | true =>
  cases t2 with
  | true =>
   have HR:Hid (R=true):=hide (by rw[HAL.out];rfl)
   clear HAL C2
   go_wp2_with fail
   refine C1.out.mono ?_
   rintro e w4 ⟨rfl,rfl⟩
   clear C1
   go_wp2_with fail
   go_ret
   rw[HR.out]
   exact⟨rfl,H3.out.2⟩
  | false =>
   have HR:Hid (R=t3):=hide (by rw[HAL.out];simp)
   clear HAL
   go_wp2_with fail
   refine C1.out.mono ?_
   rintro e w4 ⟨rfl,rfl⟩
   clear C1
   go_wp2_with fail
   refine C2.out.mono ?_
   rintro e w4 ⟨rfl,rfl⟩
   clear C2
   cases t3
   all_goals
    go_wp2_with fail
    go_ret
    rw[HR.out]
    exact⟨rfl,H3.out.2⟩
end Go.Proofs.YtkiofbikkhhdfabGreatDoor
