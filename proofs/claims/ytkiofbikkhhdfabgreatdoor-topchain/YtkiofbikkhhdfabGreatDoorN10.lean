import Derived.Test.YtkiofbikkhhdfabGreatDoorN9
import Derived.Test.YtkiofbikkhhdfabGreatDoorK06
set_option maxRecDepth 100000
set_option maxHeartbeats 16000000
namespace Utf1
def stable (ns:List Nd):Bool:=decide (ncL ns<=2000) && decide (dpL ns<=64) && stL false false false ns
end Utf1
namespace Go.Proofs.YtkiofbikkhhdfabGreatDoor.Dm
open Go.RowKit
open Utf1
theorem methS_text (w:World) (a b c d:Value):(method 334 161 (.agg #[a,b,c,d]) "verso/ser.stable").run Tryz.prog w=.ok (206,.agg #[a,b,c,d]) w:=by kernel_rfl
theorem methS_elem (w:World) (a b c d:Value):(method 334 162 (.agg #[a,b,c,d]) "verso/ser.stable").run Tryz.prog w=.ok (208,.agg #[a,b,c,d]) w:=by kernel_rfl
theorem stText {nd:Nd}{am km:Nat}{XT:ByteArray}(p i b:Bool)(hn:nd.name=[])(hXT:bl XT=nd.text)(ha:am=nd.attrs.length)(hk:km=nd.kids.length):(!decide (bl XT=[]) && !b && decide (am=0) && decide (km=0))=stN p i b nd:=by
 rw[stN_kids,if_pos hn,hXT,ha,hk]
 have e1:decide (nd.text=[])=nd.text.isEmpty:=by cases nd.text <;> simp
 have e2:decide (nd.attrs.length=0)=nd.attrs.isEmpty:=by cases nd.attrs <;> simp
 have e3:decide (nd.kids.length=0)=nd.kids.isEmpty:=by cases nd.kids <;> simp
 rw[e1,e2,e3]
theorem allStable_nst:∀ (D:Nat) (w:World) (v:Value) (ns:List Nd) (p i b:Bool),NAtD w D v ns ->
  Calls Tryz.prog 65 #[v,.agg #[.bool p,.bool i,.bool b]] w fun e w'=>e=.returned (.bool (stL p i b ns))/\Below w.heap.size w w':=by
 intro D
 induction D with
 | zero=>intro w v ns p i b h;exact h.elim
 | succ D0 ih =>
 intro w v ns p i b hk
 obtain⟨q,c,rfl,hNm,hnode⟩:=hk
 have HNODE:=hide hnode
 have HIH:=hide ih
 obtain⟨N,hN⟩:∃ N,N=ns.length:=⟨_,rfl⟩
 rw[<-hN] at hNm ⊢
 have HN:=hide hN
 clear hnode ih hN
 go_enter Tryz.func65,Tryz.ntmps65
 go_wp2_with fail
 go_loopg [9] N (fun k v9 wr=>∃ (j:Nat) (d rest:List Nd) (bb:Bool),rest.length=k/\d.length=j/\j+k=N/\v9=.int .i64 (j:Int)/\Hid (ns=d++rest)/\Hid (stL p i b ns=stL p i bb rest)/\Hid (Below w.heap.size w wr/\wr.heap[w.heap.size]?=some (.cells #[.bool p,.bool i,.bool bb] 104 (0,0))))
 case atStart=>exact⟨0,[],ns,b,HN.out.symm,rfl,by omega,rfl,hide rfl,hide rfl,hide ⟨(Below.refl _ _).alloc (Nat.le_refl _) _,new_block _ _ _⟩⟩
 case round =>
  obtain⟨j,d,rest,bb,rfl,hdj,hjk,rfl,HD,HE,HS⟩:=hrel
  match rest,hjk,HD,HE with
  | [],hjk,HD,HE =>
   simp only[List.length_nil,Nat.add_zero] at hjk
   subst hjk
   clear HD hdj
   go_wp2_with fail
   go_ret
   exact⟨ret_bool (by rw[HE.out];rfl),HS.out.1⟩
  | nd :: rest,hjk,HD,HE =>
   have hjN:j < N:=by simp only[List.length_cons] at hjk;omega
   have hge:ns[j]?=some nd:=by
    rw[HD.out,List.getElem?_append_right (by omega),hdj,Nat.sub_self]
    rfl
   obtain⟨g,off,ap,am,ac,kp,km,kc,hp,x0,x1,x2,x3,hsz,har,hkk⟩:=HNODE.out j nd hge
   subst hp
   have x0:=cell_keep x0 HS.out.1
   have x1:=cell_keep x1 HS.out.1
   have x2:=cell_keep x2 HS.out.1
   have x3:=cell_keep x3 HS.out.1
   have hkl:km=nd.kids.length/\km<=9223372036854775807:=by
    cases D0 with
    | zero=>exact hkk.elim
    | succ n =>
     obtain⟨_,_,h1,h2,_⟩:=id hkk
     injection h1 with _ h1
     rw[h1]
     exact⟨rfl,h2⟩
   obtain⟨XN,hXN⟩:∃ X:ByteArray,X=⟨nd.name.toArray⟩:=⟨_,rfl⟩
   obtain⟨XT,hXT⟩:∃ X:ByteArray,X=⟨nd.text.toArray⟩:=⟨_,rfl⟩
   rw[<-hXN] at x0
   rw[<-hXT] at x2
   have q0:XN.toList.isEmpty=decide (nd.name=[]):=by rw[hXN];exact nm_empty _
   obtain⟨w2,hw2⟩:∃ w2,w2=wr.alloc (.cells #[.string XN,.slice ap am ac,.string XT,.slice kp km kc] 80):=⟨_,rfl⟩
   have hb2:Below wr.heap.size wr w2:=by rw[hw2];exact (Below.refl _ _).alloc (Nat.le_refl _) _
   have hnew:w2.heap[wr.heap.size]?=some (.cells #[.string XN,.slice ap am ac,.string XT,.slice kp km kc] 80 (0,0)):=by rw[hw2];exact new_block _ _ _
   have hblt:w.heap.size < wr.heap.size:=(Array.getElem?_eq_some_iff.1 HS.out.2).1
   have hbox:w2.heap[w.heap.size]?=some (.cells #[.bool p,.bool i,.bool bb] 104 (0,0)):=(hb2.block _ hblt).trans HS.out.2
   have y0:=tag_cell hnew 0 _ rfl
   have y1:=tag_cell hnew 1 _ rfl
   have y2:=tag_cell hnew 2 _ rfl
   have y3:=tag_cell hnew 3 _ rfl
   have z0:=tag_cell hbox 0 _ rfl
   have z1:=tag_cell hbox 1 _ rfl
   have z2:=tag_cell hbox 2 _ rfl
   have HD2:Hid (ns=(d++[nd])++rest):=hide (by rw[HD.out];simp)
   have hjk2:j+(rest.length+1)=N:=hjk
   have hdj2:(d++[nd]).length=j+1:=by simp[hdj]
   have hE2:stL p i b ns=(stN p i bb nd && stL p i (decide (nd.name=[])) rest):=by rw[HE.out];rfl
   obtain⟨R1,hR1⟩:∃ R,R=stN p i bb nd:=⟨_,rfl⟩
   have HWC:Hid (∀ wx,Below w2.heap.size w2 wx->Calls Tryz.prog (if nd.name=[] then 206 else 208) #[.agg #[.string XN,.slice ap am ac,.string XT,.slice kp km kc],.agg #[.bool p,.bool i,.bool bb]] wx fun e w'=>e=.returned (.bool R1)/\Below wx.heap.size wx w'):=hide (by
    intro wx hx
    have hwx:Below w.heap.size w wx:=bel2 (bel2 HS.out.1 hb2) hx
    rw[hR1]
    by_cases hn:nd.name=[]
    ·rw[if_pos hn,<-stText (XT:=XT) p i bb hn (by rw[hXT]) har.1.1 hkl.1]
     exact text_stable wx ap am ac XN XT kp km kc p i bb har.1.2 hkl.2
    ·rw[if_neg hn]
     refine elem_stable wx nd ap am ac XN XT kp km kc p i bb hXN hXT hn hsz.1 hkl.1 hkl.2 (har.below hwx) ?_
     intro wy p' i' hy
     exact HIH.out wy _ _ p' i' false (hkk.below (bel2 hwx hy)))
   rw[<-hR1] at hE2
   have HE2:=hide hE2
   have HBX:=hide hbox
   have HNEW:=hide hnew
   have HBB:=hide (bel2 HS.out.1 hb2)
   clear hge hkk har HD hXT hXN hjk hdj HIH HNODE hsz hE2 hR1 hkl hbox hnew hb2 HE HS
   go_upto_region 4 with fail
   rw[<-hw2]
   clear hw2 x0 x1 x2 x3
   by_cases hnm:nd.name=[]
   ·rw[decide_eq_true hnm] at q0 HE2
    rw[if_pos hnm] at HWC
    have hm:=fun w=>methS_text w (.string XN) (.slice ap am ac) (.string XT) (.slice kp km kc)
    have HPO:=hide (partOf_text (World.drew w2) ap am ac XN XT kp km kc q0)
    clear hnm
    go_region_with (first | (go_at_call 102;refine HPO.out.mono ?_;rintro e wE ⟨rfl,hbE⟩;have z0:(World.drew w2).cell? ⟨w.heap.size,0,none⟩=some (.bool p):=z0;have z0:=cell_keep z0 hbE;have z1:(World.drew w2).cell? ⟨w.heap.size,1,none⟩=some (.bool i):=z1;have z1:=cell_keep z1 hbE;have z2:(World.drew w2).cell? ⟨w.heap.size,2,none⟩=some (.bool bb):=z2;have z2:=cell_keep z2 hbE;have HBE:=hide (bel2 (bel_one w2) hbE);clear hbE) | (go_at_call 206;refine (HWC.out _ HBE.out).mono ?_;rintro e wF ⟨rfl,hbF⟩;have HF:=hide (bel2 HBE.out hbF);clear hbF))
    all_goals
     have hboxF:=(HF.out.block _ (Array.getElem?_eq_some_iff.1 HBX.out).1).trans HBX.out
     have hnewF:=(HF.out.block _ (Array.getElem?_eq_some_iff.1 HNEW.out).1).trans HNEW.out
     have y0F:=tag_cell hnewF 0 _ rfl
     have f2F:=tag_free hboxF 2
     have z2F:=tag_cell hboxF 2 _ rfl
     have HS3:Hid (Below w.heap.size w (wF.setCell ⟨w.heap.size,2,none⟩ (.bool true))/\(wF.setCell ⟨w.heap.size,2,none⟩ (.bool true)).heap[w.heap.size]?=some (.cells #[.bool p,.bool i,.bool true] 104 (0,0))):=hide ⟨(bel2 HBB.out HF.out).setCell (Nat.le_refl _) _,tok_set hboxF 2 _⟩
     have HF2:=hide (bel2 HBB.out HF.out)
     clear hboxF hnewF HBX HNEW HBB HWC HPO hm
     cases R1 with
     | false =>
      go_wp2_with fail
      try rw[Exit.noGoto_ret]
      go_ret
      exact⟨ret_bool (by rw[HE2.out];rfl),HF2.out⟩
     | true =>
      go_wp2_with fail
      go_roundg rest.length
      (case measure=>simp only[List.length_cons];omega)
      (case rel=>exact⟨j+1,d++[nd],rest,true,rfl,hdj2,by omega,by first | rfl | simp,HD2,hide (by rw[HE2.out];rfl),HS3⟩)
   ·rw[decide_eq_false hnm] at q0 HE2
    rw[if_neg hnm] at HWC
    have hm:=fun w=>methS_elem w (.string XN) (.slice ap am ac) (.string XT) (.slice kp km kc)
    have HPO:=hide (partOf_elem (World.drew w2) ap am ac XN XT kp km kc q0)
    clear hnm
    go_region_with (first | (go_at_call 102;refine HPO.out.mono ?_;rintro e wE ⟨rfl,hbE⟩;have z0:(World.drew w2).cell? ⟨w.heap.size,0,none⟩=some (.bool p):=z0;have z0:=cell_keep z0 hbE;have z1:(World.drew w2).cell? ⟨w.heap.size,1,none⟩=some (.bool i):=z1;have z1:=cell_keep z1 hbE;have z2:(World.drew w2).cell? ⟨w.heap.size,2,none⟩=some (.bool bb):=z2;have z2:=cell_keep z2 hbE;have HBE:=hide (bel2 (bel_one w2) hbE);clear hbE) | (go_at_call 208;refine (HWC.out _ HBE.out).mono ?_;rintro e wF ⟨rfl,hbF⟩;have HF:=hide (bel2 HBE.out hbF);clear hbF))
    all_goals
     have hboxF:=(HF.out.block _ (Array.getElem?_eq_some_iff.1 HBX.out).1).trans HBX.out
     have hnewF:=(HF.out.block _ (Array.getElem?_eq_some_iff.1 HNEW.out).1).trans HNEW.out
     have y0F:=tag_cell hnewF 0 _ rfl
     have f2F:=tag_free hboxF 2
     have z2F:=tag_cell hboxF 2 _ rfl
     have HS3:Hid (Below w.heap.size w (wF.setCell ⟨w.heap.size,2,none⟩ (.bool false))/\(wF.setCell ⟨w.heap.size,2,none⟩ (.bool false)).heap[w.heap.size]?=some (.cells #[.bool p,.bool i,.bool false] 104 (0,0))):=hide ⟨(bel2 HBB.out HF.out).setCell (Nat.le_refl _) _,tok_set hboxF 2 _⟩
     have HF2:=hide (bel2 HBB.out HF.out)
     clear hboxF hnewF HBX HNEW HBB HWC HPO hm
     cases R1 with
     | false =>
      go_wp2_with fail
      try rw[Exit.noGoto_ret]
      go_ret
      exact⟨ret_bool (by rw[HE2.out];rfl),HF2.out⟩
     | true =>
      go_wp2_with fail
      go_roundg rest.length
      (case measure=>simp only[List.length_cons];omega)
      (case rel=>exact⟨j+1,d++[nd],rest,false,rfl,hdj2,by omega,by first | rfl | simp,HD2,hide (by rw[HE2.out];rfl),HS3⟩)
theorem stable_nst (w:World) (v:Value) (ns:List Nd)(hk:NAt w v ns)(hc:ncL ns<=1000000000) :
  Calls Tryz.prog 21 #[v] w fun e w'=>e=.returned (.bool (stable ns))/\Below w.heap.size w w':=by
 obtain⟨D,hk⟩:=hk
 have HSZ:=hide (size_nst D w v ns hk hc)
 have HAS:=hide (fun wx (hx:Below w.heap.size w wx)=>allStable_nst D wx v ns false false false (hk.below hx))
 have hd:=dpL_nc ns
 have HST:Hid (stable ns=(decide (ncL ns<=2000) && decide (dpL ns<=64) && stL false false false ns)):=hide rfl
 obtain⟨R,hR⟩:∃ R,R=stable ns:=⟨_,rfl⟩
 rw[<-hR] at HST ⊢
 obtain⟨A,hA⟩:∃ A,A=stL false false false ns:=⟨_,rfl⟩
 obtain⟨n,hn⟩:∃ n,n=ncL ns:=⟨_,rfl⟩
 obtain⟨d,hdd⟩:∃ d,d=dpL ns:=⟨_,rfl⟩
 rw[<-hA] at HAS HST
 rw[<-hn,<-hdd] at HSZ HST hd
 rw[<-hn] at hc
 clear hk hR hA hn hdd
 by_cases h1:n<=2000
 ·by_cases h2:d<=64
  ·have HR:Hid (R=A):=hide (by rw[HST.out,decide_eq_true h1,decide_eq_true h2];rfl)
   clear HST
   go_enter Tryz.func21,Tryz.ntmps21
   go_wp2_with fail
   refine HSZ.out.mono ?_
   rintro e w1 ⟨rfl,hb1⟩
   have HA1:=hide (HAS.out w1 hb1)
   have HB1:=hide hb1
   clear hb1 HAS HSZ
   go_wp2_with fail
   refine HA1.out.mono ?_
   rintro e w2 ⟨rfl,hb2⟩
   have HB2:=hide (bel2 HB1.out hb2)
   clear hb2 HA1 HB1
   go_wp2_with fail
   go_ret
   exact⟨ret_bool HR.out.symm,HB2.out⟩
  ·have HR:Hid (R=false):=hide (by rw[HST.out,decide_eq_false h2,Bool.and_false];rfl)
   clear HST HAS
   go_enter Tryz.func21,Tryz.ntmps21
   go_wp2_with fail
   refine HSZ.out.mono ?_
   rintro e w1 ⟨rfl,hb1⟩
   have HB1:=hide hb1
   clear hb1 HSZ
   go_wp2_with fail
   go_ret
   exact⟨ret_bool HR.out.symm,HB1.out⟩
 ·have HR:Hid (R=false):=hide (by rw[HST.out,decide_eq_false h1];rfl)
  clear HST HAS
  go_enter Tryz.func21,Tryz.ntmps21
  go_wp2_with fail
  refine HSZ.out.mono ?_
  rintro e w1 ⟨rfl,hb1⟩
  have HB1:=hide hb1
  clear hb1 HSZ
  go_wp2_with fail
  go_ret
  exact⟨ret_bool HR.out.symm,HB1.out⟩
end Go.Proofs.YtkiofbikkhhdfabGreatDoor.Dm
