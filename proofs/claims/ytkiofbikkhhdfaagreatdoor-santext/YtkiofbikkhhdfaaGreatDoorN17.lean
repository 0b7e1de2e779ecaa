import Derived.Test.YtkiofbikkhhdfaaGreatDoorN2
import Derived.Test.YtkiofbikkhhdfaaGreatDoorK21
namespace Utf1
mutual
theorem xtN_len:∀ n:Nd,(San.txN n).length<=wsN n
 | .mk n a t k=>by
  rw[San.txN,wsN,List.length_append]
  have:=xtL_len k
  omega
theorem xtL_len:∀ l:List Nd,(San.txL l).length<=wsL l
 | []=>Nat.le_refl _
 | n :: r=>by
  rw[San.txL,wsL,List.length_append]
  have:=xtN_len n
  have:=xtL_len r
  omega
end
end Utf1
namespace Go.Proofs.YtkiofbikkhhdfaaGreatDoor.Dm
open Go.RowKit
open Utf1
set_option maxRecDepth 100000 in
set_option maxHeartbeats 8000000 in
theorem writeText_nst (w0:World):∀ (D:Nat) (w:World) (v:Value) (ns:List Nd) (acc:List UInt8),NAtD w0 D v ns->Below w0.heap.size w0 w->PB w0 w acc->acc.length+(San.txL ns).length<=1000000000 ->
  Calls Tryz.prog 76 #[.pointer (some ⟨w0.heap.size,0,none⟩),v] w (WPost w0 w acc (San.txL ns)):=by
 intro D
 induction D with
 | zero=>intro w v ns acc h;exact h.elim
 | succ D0 ih =>
 intro w v ns acc hk hb hu hlen
 obtain⟨p,c,rfl,hNm,hnode⟩:=hk
 have HNODE:=hide hnode
 have HBW:=hide hb
 have HBU:=hide hu
 have HIH:=hide ih
 have HLEN:=hide hlen
 obtain⟨N,hN⟩:∃ N,N=ns.length:=⟨_,rfl⟩
 rw[<-hN] at hNm ⊢
 have HN:=hide hN
 clear hnode hb ih hN hu hlen
 go_enter Tryz.func76,Tryz.ntmps76
 go_wp2_with fail
 go_loopg [8] N (fun k v8 wr=>∃ (j:Nat) (d rest:List Nd),rest.length=k/\d.length=j/\j+k=N/\v8=.int .i64 (j:Int)/\Hid (ns=d++rest)/\Hid (PB w0 wr (acc++San.txL d)/\Below w0.heap.size w wr/\Lib.OthersKept 5 (some w0.heap.size) w wr))
 case atStart=>exact⟨0,[],ns,HN.out.symm,rfl,by omega,rfl,hide rfl,hide ⟨by rw[show San.txL []=[] from rfl,List.append_nil];exact HBU.out,Below.refl _ _,Lib.OthersKept.refl _ _ _⟩⟩
 case round =>
  obtain⟨j,d,rest,rfl,hdj,hjk,rfl,HD,HS⟩:=hrel
  clear HBU
  match rest,hjk,HD with
  | [],hjk,HD =>
   have e1:d=ns:=by
    have:=HD.out
    rw[List.append_nil] at this
    exact this.symm
   simp only[List.length_nil,Nat.add_zero] at hjk
   subst hjk
   subst e1
   clear HD hdj
   go_wp2_with fail
   go_end0
   exact⟨rfl,HS.out⟩
  | nd :: rest,hjk,HD =>
   have hjN:j < N:=by simp only[List.length_cons] at hjk;omega
   have hge:ns[j]?=some nd:=by
    rw[HD.out,List.getElem?_append_right (by omega),hdj,Nat.sub_self]
    rfl
   obtain⟨g,off,ap,am,ac,kp,km,kc,hp,x0,x1,x2,x3,hsz,har,hkk⟩:=HNODE.out j nd hge
   subst hp
   have hbr:=HBW.out.trans HS.out.2.1
   have x0:=cell_keep x0 hbr
   have x1:=cell_keep x1 hbr
   have x2:=cell_keep x2 hbr
   have x3:=cell_keep x3 hbr
   have hct:(San.txL ns).length=(San.txL d).length+((nd.text.length+(San.txL nd.kids).length)+(San.txL rest).length):=by
    rw[HD.out,San.txL_app,List.length_append,San.txL,List.length_append,San.txN_kids,List.length_append]
   have hlen:=HLEN.out
   obtain⟨XN,hXN⟩:∃ X:ByteArray,X=⟨nd.name.toArray⟩:=⟨_,rfl⟩
   obtain⟨XT,hXT⟩:∃ X:ByteArray,X=⟨nd.text.toArray⟩:=⟨_,rfl⟩
   rw[<-hXN] at x0
   rw[<-hXT] at x2
   have hT1:bl XT=nd.text:=by rw[hXT]
   have hTs:XT.size=nd.text.length:=by rw[hXT];rfl
   obtain⟨w2,hw2⟩:∃ w2,w2=wr.alloc (.cells #[.string XN,.slice ap am ac,.string XT,.slice kp km kc] 54):=⟨_,rfl⟩
   have hb2:Below wr.heap.size wr w2:=by rw[hw2];exact (Below.refl _ _).alloc (Nat.le_refl _) _
   have hnew:w2.heap[wr.heap.size]?=some (.cells #[.string XN,.slice ap am ac,.string XT,.slice kp km kc] 54 (0,0)):=by rw[hw2];exact new_block _ _ _
   have y2:=tag_cell hnew 2 _ rfl
   have HD2:Hid (ns=(d++[nd])++rest):=hide (by rw[HD.out];simp)
   have HT2:Hid (acc++San.txL (d++[nd])=acc++San.txL d++bl XT++San.txL nd.kids):=hide (by rw[San.txL_app];show acc++(_++(San.txN nd++[]))=_;rw[List.append_nil,San.txN_kids,hT1];simp)
   have hjk2:j+(rest.length+1)=N:=hjk
   have hdj2:(d++[nd]).length=j+1:=by simp[hdj]
   have hlt:w0.heap.size < wr.heap.size:=HS.out.1.lt
   have HWS:=hide (ws_st w0 w2 (acc++San.txL d) XT (hbr.trans (hb2.mono hbr.size)) (HS.out.1.keep hb2) (by rw[List.length_append];omega))
   have HLK:Hid ((acc++San.txL d++bl XT).length+(San.txL nd.kids).length<=1000000000):=hide (by rw[List.length_append,List.length_append,bl_len];omega)
   have HKD:Hid (∀ wx,Below w0.heap.size w0 wx->PB w0 wx (acc++San.txL d++bl XT)->Calls Tryz.prog 76 #[.pointer (some ⟨w0.heap.size,0,none⟩),.slice kp km kc] wx (WPost w0 wx (acc++San.txL d++bl XT) (San.txL nd.kids))):=hide (fun wx h1 h2=>HIH.out wx _ _ _ hkk h1 h2 HLK.out)
   have HS2:Hid (Below w0.heap.size w w2/\Lib.OthersKept 5 (some w0.heap.size) w w2):=hide ⟨HS.out.2.1.trans (hb2.mono hbr.size),HS.out.2.2.trans (kept_bel hb2)⟩
   have HNEW:=hide hnew
   clear hge hkk har hbr HD hXT hXN hjk hct hlen hT1 hTs HS hdj HIH HNODE hsz hnew hb2 HLK
   go_upto_region 3 with fail
   rw[<-hw2]
   clear hw2 x0 x1 x2 x3
   go_wp2_with fail
   refine HWS.out.mono ?_
   rintro e w3 ⟨rfl,h1,h2,h3⟩
   have hnew3:=kept_cell h3 HNEW.out (by omega) (by decide)
   have y3:=tag_cell hnew3 3 _ rfl
   have HS3:Hid (Below w0.heap.size w w3/\Lib.OthersKept 5 (some w0.heap.size) w w3):=hide ⟨HS2.out.1.trans h2,HS2.out.2.trans h3⟩
   have HC3:=hide (HKD.out w3 (HBW.out.trans HS3.out.1) h1)
   clear h1 h2 h3 hnew3 HNEW HWS HKD HS2 y2
   go_wp2_with fail
   refine HC3.out.mono ?_
   rintro e w4 ⟨rfl,h1,h2,h3⟩
   have HS4:Hid (PB w0 w4 (acc++San.txL (d++[nd]))/\Below w0.heap.size w w4/\Lib.OthersKept 5 (some w0.heap.size) w w4):=hide ⟨by rw[HT2.out];exact h1,HS3.out.1.trans h2,HS3.out.2.trans h3⟩
   clear h1 h2 h3 HC3 HS3 HT2
   go_wp2_with fail
   go_roundg rest.length
   case measure=>simp only[List.length_cons];omega
   case rel=>exact⟨j+1,d++[nd],rest,rfl,hdj2,by omega,by first | rfl | simp,HD2,HS4⟩
set_option maxRecDepth 100000 in
set_option maxHeartbeats 8000000 in
theorem text_nst (w:World) (v:Value) (ns:List Nd)(hk:NAt w v ns)(hl:(San.txL ns).length<=1000000000) :
  Calls Tryz.prog 25 #[v] w fun e w'=>(∃ O,e=.returned (.string O)/\bl O=San.txL ns)/\Below w.heap.size w w':=by
 obtain⟨D,hk⟩:=hk
 have hb1:Below w.heap.size w (w.alloc (.cells #[.pointer none,.slice none 0 0] 59)):=(Below.refl _ _).alloc (Nat.le_refl _) _
 have hu1:PB w (w.alloc (.cells #[.pointer none,.slice none 0 0] 59)) []:=Lib.IsBuilderF.of (Lib.fresh_isBuilder 59 5 w)
 have HW:=hide (writeText_nst w D _ v ns [] hk hb1 hu1 (by simpa using hl))
 have HB1:=hide hb1
 clear hk hb1 hu1
 go_enter Tryz.func25,Tryz.ntmps25
 go_wp2_with fail
 refine HW.out.mono ?_
 rintro e w2 ⟨rfl,m1,m2,-⟩
 have HS:=hide (Tryz.Builder_String_any_k w.heap.size w.heap.size _ w2 m1 (HB1.out.trans m2).size)
 have HB2:=hide (HB1.out.trans m2)
 clear m1 m2 HW HB1
 go_wp2_with fail
 refine HS.out.mono ?_
 rintro e w3 ⟨rfl,_,m2,_⟩
 have HB3:=hide (HB2.out.trans m2)
 clear m2 HS HB2
 go_wp2_with fail
 go_ret
 exact⟨⟨_,rfl,rfl⟩,HB3.out⟩
end Go.Proofs.YtkiofbikkhhdfaaGreatDoor.Dm
