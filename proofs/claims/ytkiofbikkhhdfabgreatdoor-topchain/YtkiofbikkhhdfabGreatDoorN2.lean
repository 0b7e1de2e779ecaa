import Derived.Test.YtkiofbikkhhdfabGreatDoorK06
import Derived.Test.YtkiofbikkhhdfabGreatDoorK08
set_option maxRecDepth 100000
set_option maxHeartbeats 8000000
namespace Go.Proofs.YtkiofbikkhhdfabGreatDoor.Dm
open Go.RowKit
open Utf1
theorem bat_keep {T e:TypeId}{B b:Nat}{p:Value}{bs:List Value}{w w':World}(h:Lib.BuilderAtF T e B b p bs w)(hb:Below w.heap.size w w'):Lib.BuilderAtF T e B b p bs w':=by
 have hl:=h.lt
 obtain⟨h1,v,h2,h3,h4⟩:=h
 exact⟨h1,v,(hb.block b hl).trans h2,h3.kept (row:=none) (below_grown hb) (Classical.em _),h4⟩
def PB (w0 w:World) (acc:List UInt8):Prop:=Lib.IsBuilderF 71 5 w0.heap.size w0.heap.size (Lib.byteCells acc) w
theorem PB.keep {w0 w w':World}{acc:List UInt8}(h:PB w0 w acc)(hb:Below w.heap.size w w'):PB w0 w' acc :=
 h.elim (fun x=>.inl (bat_keep x hb)) (fun x=>.inr (bat_keep x hb))
theorem PB.lt {w0 w:World}{acc:List UInt8}(h:PB w0 w acc):w0.heap.size < w.heap.size:=h.elim (fun x=>x.lt) (fun x=>x.lt)
def WPost (w0 w:World) (acc x:List UInt8) (e:Ending) (w':World):Prop:=e=.returned (.tuple #[])/\PB w0 w' (acc++x)/\Below w0.heap.size w w'/\Lib.OthersKept 5 (some w0.heap.size) w w'
theorem kept_bel {w w':World}{b:Option Nat}(h:Below w.heap.size w w'):Lib.OthersKept 5 b w w':=by
 intro k o hk _ _
 rw[h.block k (Array.getElem?_eq_some_iff.1 hk).1]
 exact hk
theorem ws_st (w0 w:World) (acc:List UInt8) (s:ByteArray)(hb:Below w0.heap.size w0 w)(hu:PB w0 w acc)(hl:acc.length+s.size<=1000000000) :
  Calls Tryz.prog 59 #[.pointer (some ⟨w0.heap.size,0,none⟩),.string s] w fun e w'=>e=.returned (.tuple #[.int .i64 s.size,.nilIface])/\PB w0 w' (acc++bl s)/\Below w0.heap.size w w'/\Lib.OthersKept 5 (some w0.heap.size) w w':=by
 refine (Tryz.Builder_WriteString_k w0.heap.size w0.heap.size _ s w hu (by rw[Lib.byteCells_length];omega) hb.size).mono ?_
 rintro e w' ⟨rfl,h1,b1,k1⟩
 refine⟨rfl,.inr ?_,b1,k1⟩
 have e:Lib.byteCells (acc++bl s)=Lib.byteCells acc++Lib.strCells s:=by rw[Lib.byteCells_append];rfl
 rw[e]
 exact h1
theorem kept_cell {w w':World}{B b:Nat}{cs:Array Value}{t:TypeId}(hk:Lib.OthersKept 5 (some B) w w')(h:w.heap[b]?=some (.cells cs t (0,0)))(hb:b≠B)(ht:t≠5):w'.heap[b]?=some (.cells cs t (0,0)) :=
 hk _ _ h (by intro e;injection e with e;exact hb e) (by intro c fz e;injection e with _ e;exact ht e)
theorem text_write (w0 w:World) (ap:Option Addr) (am ac:Nat) (XN XT:ByteArray) (kp:Option Addr) (km kc:Nat) (acc:List UInt8)(hb:Below w0.heap.size w0 w)(hu:PB w0 w acc)(hl:acc.length+(esc false (bl XT)).length<=1000000000) :
  Calls Tryz.prog 207 #[.agg #[.string XN,.slice ap am ac,.string XT,.slice kp km kc],.pointer (some ⟨w0.heap.size,0,none⟩)] w (WPost w0 w acc (esc false (bl XT))):=by
 have hxl:=(esc_lens false (bl XT)).1
 rw[bl_len] at hxl
 obtain⟨w1,hw1⟩:∃ w1,w1=w.alloc (.cells #[.string XN,.slice ap am ac,.string XT,.slice kp km kc] 161):=⟨_,rfl⟩
 have hb1:Below w.heap.size w w1:=by rw[hw1];exact (Below.refl _ _).alloc (Nat.le_refl _) _
 have y2:w1.cell? ⟨w.heap.size,2,none⟩=some (.string XT):=by rw[hw1,new_cell];rfl
 have HE:=hide (To.escape_any XT false w1 (by omega))
 have HB1:=hide hb1
 have HU1:=hide (hu.keep hb1)
 have HB:=hide hb
 have HL:=hide hl
 clear hb1 hu hb hl hxl
 go_enter Tryz.func207,Tryz.ntmps207
 go_upto_region 1 with fail
 rw[<-hw1]
 clear hw1
 go_wp2_with fail
 refine HE.out.mono ?_
 rintro e w2 ⟨rfl,hb2⟩
 have HB2:=hide (bel2 HB1.out hb2)
 have HW:=hide (ws_st w0 w2 acc ⟨(esc false (bl XT)).toArray⟩ (HB.out.trans (HB2.out.mono HB.out.size)) (HU1.out.keep hb2) HL.out)
 clear hb2 HE HB1 HU1
 go_wp2_with fail
 refine HW.out.mono ?_
 rintro e w3 ⟨rfl,h1,h2,h3⟩
 have HR:=hide (And.intro h1 (And.intro h2 h3))
 clear h1 h2 h3 HW
 go_wp2_with fail
 go_end0
 exact⟨rfl,HR.out.1,(HB2.out.mono HB.out.size).trans HR.out.2.1,(kept_bel HB2.out).trans HR.out.2.2⟩
theorem elem_write (w0 w:World) (nd:Nd) (ap:Option Addr) (am ac:Nat) (XN XT:ByteArray) (kp:Option Addr) (km kc:Nat) (acc:List UInt8)(hXN:XN=⟨nd.name.toArray⟩)(hne:nd.name≠[])
  (hb:Below w0.heap.size w0 w)(hu:PB w0 w acc)(ha:ARow w0 ap am nd.attrs)
  (hkid:∀ wx ac2,Below w0.heap.size w0 wx->PB w0 wx ac2->ac2.length+(htL nd.kids).length<=1000000000->Calls Tryz.prog 66 #[.pointer (some ⟨w0.heap.size,0,none⟩),.slice kp km kc] wx (WPost w0 wx ac2 (htL nd.kids)))
  (hl:acc.length+(htN nd).length<=1000000000) :
  Calls Tryz.prog 209 #[.agg #[.string XN,.slice ap am ac,.string XT,.slice kp km kc],.pointer (some ⟨w0.heap.size,0,none⟩)] w (WPost w0 w acc (htN nd)):=by
 have hN:bl XN=nd.name:=by rw[hXN]
 have hht:=htN_kids nd
 rw[if_neg hne,<-hN] at hht
 have hXl:XN.size=nd.name.length:=by rw[hXN];rfl
 obtain⟨ats,hats⟩:∃ ats,ats=nd.attrs:=⟨_,rfl⟩
 rw[<-hats] at ha hht
 obtain⟨kh,hkh⟩:∃ kh,kh=htL nd.kids:=⟨_,rfl⟩
 rw[<-hkh] at hkid hht
 obtain⟨w1,hw1⟩:∃ w1,w1=w.alloc (.cells #[.string XN,.slice ap am ac,.string XT,.slice kp km kc] 162):=⟨_,rfl⟩
 have hb1:Below w.heap.size w w1:=by rw[hw1];exact (Below.refl _ _).alloc (Nat.le_refl _) _
 have hbox:w1.heap[w.heap.size]?=some (.cells #[.string XN,.slice ap am ac,.string XT,.slice kp km kc] 162 (0,0)):=by rw[hw1];exact new_block _ _ _
 have hlt:=hu.lt
 have hall:(htN nd).length=2+XN.size+(atsH ats).length+(if bl XN∈voids then [] else kh++([60,47]++bl XN++[62])).length:=by
  rw[hht]
  simp only[List.length_append,List.length_cons,List.length_nil,bl_len]
  omega
 have y0:=tag_cell hbox 0 _ rfl
 have HBOX:=hide hbox
 have HW1:=hide (ws_st w0 w1 acc (⟨#[60]⟩++XN) (hb.trans (hb1.mono hb.size)) (hu.keep hb1) (by rw[ByteArray.size_append];show _+(1+_)<=_;omega))
 have HB1:=hide hb1
 have HB:=hide hb
 have HKID:=hide hkid
 have HA:=hide ha
 have HALL:=hide hall
 have HHT:=hide hht
 have HL:=hide hl
 have hxs:XN.size<=1000000000:=by omega
 have ham:am<=9223372036854775807:=ha.1.2
 have HAM:=hide ha.1.1
 clear hbox hb1 hb hu hkid ha hkh hats hXl hXN hN hne hall hht hl
 go_enter Tryz.func209,Tryz.ntmps209
 go_upto_region 1 with fail
 rw[<-hw1]
 clear hw1
 go_wp2_with fail
 refine HW1.out.mono ?_
 rintro e w2 ⟨rfl,h1,h2,h3⟩
 have hbox2:=kept_cell h3 HBOX.out (by omega) (by decide)
 have y0:=tag_cell hbox2 0 _ rfl
 have y1:=tag_cell hbox2 1 _ rfl
 have HS2:Hid (PB w0 w2 (acc++([60]++bl XN))/\Below w0.heap.size w w2/\Lib.OthersKept 5 (some w0.heap.size) w w2):=hide ⟨by
  have e:bl (⟨#[60]⟩++XN)=[60]++bl XN:=bl_cat _ _
  rw[<-e]
  exact h1,(HB1.out.mono HB.out.size).trans h2,(kept_bel HB1.out).trans h3⟩
 have HBOX2:=hide hbox2
 clear h1 h2 h3 hbox2 HBOX HW1 HB1
 go_wp2_with fail
 go_loopg [14] am (fun k v14 wr=>∃ (j:Nat) (d rest:List (List UInt8 × List UInt8)),rest.length=k/\d.length=j/\j+k=am/\v14=.int .i64 (j:Int)/\Hid (ats=d++rest)/\Hid (PB w0 wr (acc++([60]++bl XN++atsH d))/\Below w0.heap.size w wr/\Lib.OthersKept 5 (some w0.heap.size) w wr/\wr.heap[w.heap.size]?=some (.cells #[.string XN,.slice ap am ac,.string XT,.slice kp km kc] 162 (0,0))))
 case atStart=>exact⟨0,[],ats,HAM.out.symm,rfl,by omega,rfl,hide rfl,hide ⟨by rw[show atsH []=[] from rfl,List.append_nil];exact HS2.out.1,HS2.out.2.1,HS2.out.2.2,HBOX2.out⟩⟩
 case round =>
  obtain⟨j,d,rest,rfl,hdj,hjk,rfl,HD,HS⟩:=hrel
  clear HS2 HBOX2 y0 y1
  match rest,hjk,HD with
  | [],hjk,HD =>
   have e1:d=ats:=by
    have:=HD.out
    rw[List.append_nil] at this
    exact this.symm
   simp only[List.length_nil,Nat.add_zero] at hjk
   subst hjk
   subst e1
   clear HD hdj HA HAM
   have y0:=tag_cell HS.out.2.2.2 0 _ rfl
   have hlen:=HALL.out
   have hlen2:=HL.out
   have HW3:=hide (ws_st w0 wr _ ⟨#[62]⟩ (HB.out.trans HS.out.2.1) HS.out.1 (by simp only[List.length_append,List.length_cons,List.length_nil,bl_len];show _+1<=_;omega))
   clear hlen hlen2
   go_wp2_with fail
   refine HW3.out.mono ?_
   rintro e w3 ⟨rfl,h1,h2,h3⟩
   have hbox3:=kept_cell h3 HS.out.2.2.2 (by omega) (by decide)
   have y0:=tag_cell hbox3 0 _ rfl
   have y3:=tag_cell hbox3 3 _ rfl
   have HS3:Hid (PB w0 w3 (acc++([60]++bl XN++atsH d)++[62])/\Below w0.heap.size w w3/\Lib.OthersKept 5 (some w0.heap.size) w w3):=hide ⟨h1,HS.out.2.1.trans h2,HS.out.2.2.1.trans h3⟩
   have HBOX3:=hide hbox3
   clear h1 h2 h3 hbox3 HW3 HS
   have HV:=hide (void_any XN w3)
   by_cases hv:bl XN∈voids
   ·rw[decide_eq_true hv] at HV
    have hht:=HHT.out
    rw[if_pos hv,List.append_nil] at hht
    have HHT2:=hide hht
    clear hht HHT hv HKID HALL HL
    go_wp2_with fail
    refine HV.out.mono ?_
    rintro e w4 ⟨rfl,rfl⟩
    clear HV
    go_wp2_with fail
    try rw[Exit.noGoto_ret]
    go_end0
    refine⟨rfl,?_,HS3.out.2.1,HS3.out.2.2⟩
    rw[HHT2.out]
    have:=HS3.out.1
    simp only[List.append_assoc] at this ⊢
    exact this
   ·rw[decide_eq_false hv] at HV
    have hht:=HHT.out
    rw[if_neg hv] at hht
    have hlen:=HALL.out
    rw[if_neg hv] at hlen
    have HHT2:=hide hht
    have hlen2:=HL.out
    simp only[List.length_append,List.length_cons,List.length_nil,bl_len] at hlen
    have HK3:=hide (HKID.out w3 _ (HB.out.trans HS3.out.2.1) HS3.out.1 (by simp only[List.length_append,List.length_cons,List.length_nil,bl_len];omega))
    have HLL:Hid ((acc++([60]++bl XN++atsH d)++[62]++kh).length+(XN.size+3)<=1000000000):=hide (by simp only[List.length_append,List.length_cons,List.length_nil,bl_len];omega)
    clear hht HHT hv HKID HALL HL hlen hlen2
    go_wp2_with fail
    refine HV.out.mono ?_
    rintro e w4 ⟨rfl,rfl⟩
    clear HV
    go_wp2_with fail
    refine HK3.out.mono ?_
    rintro e w5 ⟨rfl,h1,h2,h3⟩
    have hbox5:=kept_cell h3 HBOX3.out (by omega) (by decide)
    have y0:=tag_cell hbox5 0 _ rfl
    have HW5:=hide (ws_st w0 w5 _ (⟨#[60,47]⟩++XN++⟨#[62]⟩) (HB.out.trans (HS3.out.2.1.trans h2)) h1 (by rw[ByteArray.size_append,ByteArray.size_append];have:=HLL.out;show _+(2+_+1)<=_;omega))
    have HS5:=hide (And.intro (HS3.out.2.1.trans h2) (HS3.out.2.2.trans h3))
    clear h1 h2 h3 hbox5 HK3 HS3 HBOX3 y3
    go_wp2_with fail
    refine HW5.out.mono ?_
    rintro e w6 ⟨rfl,h1,h2,h3⟩
    have HR:Hid (PB w0 w6 (acc++htN nd)/\Below w0.heap.size w w6/\Lib.OthersKept 5 (some w0.heap.size) w w6):=hide ⟨by
     rw[HHT2.out]
     have e:bl (⟨#[60,47]⟩++XN++⟨#[62]⟩)=[60,47]++bl XN++[62]:=by rw[bl_cat,bl_cat]
     rw[e] at h1
     simp only[List.append_assoc] at h1 ⊢
     exact h1,HS5.out.1.trans h2,HS5.out.2.trans h3⟩
    clear h1 h2 h3 HW5 HS5 HLL HHT2
    go_wp2_with fail
    try rw[Exit.noGoto_ret]
    go_end0
    exact⟨rfl,HR.out⟩
  | kv :: rest,hjk,HD =>
   have hjN:j < am:=by simp only[List.length_cons] at hjk;omega
   have hge:ats[j]?=some kv:=by
    rw[HD.out,List.getElem?_append_right (by omega),hdj,Nat.sub_self]
    rfl
   obtain⟨b,off,rfl,x0,x1,hk1,hk2⟩:=HA.out.2 j kv hge
   have x0:=cell_keep x0 (HB.out.trans HS.out.2.1)
   have x1:=cell_keep x1 (HB.out.trans HS.out.2.1)
   have hatl:(atsH ats).length=(atsH d).length+((atH kv).length+(atsH rest).length):=by
    rw[HD.out,atsH_app,List.length_append,atsH,List.length_append]
   obtain⟨XA,hXA⟩:∃ X:ByteArray,X=⟨kv.1.toArray⟩:=⟨_,rfl⟩
   obtain⟨XV,hXV⟩:∃ X:ByteArray,X=⟨kv.2.toArray⟩:=⟨_,rfl⟩
   rw[<-hXA] at x0
   rw[<-hXV] at x1
   have hA1:bl XA=kv.1:=by rw[hXA]
   have hV1:bl XV=kv.2:=by rw[hXV]
   have hAl:XA.size=kv.1.length:=by rw[hXA];rfl
   have hVl:XV.size=kv.2.length:=by rw[hXV];rfl
   have hatH:atH kv=[32]++bl XA++[61,34]++esc true (bl XV)++[34]:=by rw[hA1,hV1];rfl
   have hatHl:(atH kv).length=4+XA.size+(esc true (bl XV)).length:=by
    rw[hatH]
    simp only[List.length_append,List.length_cons,List.length_nil,bl_len]
    omega
   have hesl:=(esc_lens true (bl XV)).1
   rw[bl_len] at hesl
   have hlen:=HALL.out
   have hlen2:=HL.out
   obtain⟨w2x,hw2x⟩:∃ w2x,w2x=wr.alloc (.cells #[.string XA,.string XV] 108):=⟨_,rfl⟩
   have hb2x:Below wr.heap.size wr w2x:=by rw[hw2x];exact (Below.refl _ _).alloc (Nat.le_refl _) _
   have z0:w2x.cell? ⟨wr.heap.size,0,none⟩=some (.string XA):=by rw[hw2x,new_cell];rfl
   have z1:w2x.cell? ⟨wr.heap.size,1,none⟩=some (.string XV):=by rw[hw2x,new_cell];rfl
   have hbR:=HB.out.trans HS.out.2.1
   have hbX:Below w0.heap.size wr w2x:=hb2x.mono hbR.size
   have HESC:=hide (fun wx=>To.escape_any XV true wx (by omega))
   obtain⟨ES,hES⟩:∃ X:ByteArray,X=⟨(esc true (bl XV)).toArray⟩:=⟨_,rfl⟩
   have hESl:ES.size=(esc true (bl XV)).length:=by rw[hES];rfl
   have hESb:bl ES=esc true (bl XV):=by rw[hES]
   rw[<-hES] at HESC
   have HWS:Hid (∀ wx,Below w2x.heap.size w2x wx->Calls Tryz.prog 59 #[.pointer (some ⟨w0.heap.size,0,none⟩),.string (⟨#[32]⟩++XA++⟨#[61,34]⟩++ES++⟨#[34]⟩)] wx fun e w'=>(∃ nn,e=.returned (.tuple #[.int .i64 nn,.nilIface]))/\Hid (PB w0 w' (acc++([60]++bl XN++atsH (d++[kv])))/\Below w0.heap.size w w'/\Lib.OthersKept 5 (some w0.heap.size) w w'/\w'.heap[w.heap.size]?=some (.cells #[.string XN,.slice (some ⟨b,off,none⟩) am ac,.string XT,.slice kp km kc] 162 (0,0)))):=hide (by
    intro wx hx
    have hbx:=bel2 hb2x hx
    refine (ws_st w0 wx _ _ (hbR.trans (hbx.mono hbR.size)) (HS.out.1.keep hbx) ?_).mono ?_
    ·simp only[List.length_append,List.length_cons,List.length_nil,bl_len,ByteArray.size_append]
     show _+(1+_+2+_+1)<=_
     omega
    ·rintro e w' ⟨rfl,h1,h2,h3⟩
     refine⟨⟨_,rfl⟩,?_,HS.out.2.1.trans ((hbx.mono hbR.size).trans h2),HS.out.2.2.1.trans ((kept_bel hbx).trans h3),?_⟩
     ·have e:bl (⟨#[32]⟩++XA++⟨#[61,34]⟩++ES++⟨#[34]⟩)=atH kv:=by
       rw[hatH,bl_cat,bl_cat,bl_cat,bl_cat,hESb]
      rw[e] at h1
      rw[atsH_app,show atsH [kv]=atH kv++[] from rfl,List.append_nil]
      simp only[List.append_assoc] at h1 ⊢
      exact h1
     ·have hq:=HS.out.2.2.2
      exact kept_cell ((kept_bel hbx).trans h3) hq (by omega) (by decide))
   have HD2:Hid (ats=(d++[kv])++rest):=hide (by rw[HD.out];simp)
   have hjk2:j+(rest.length+1)=am:=hjk
   have hdj2:(d++[kv]).length=j+1:=by simp[hdj]
   have hs1:XA.size<=1000000000:=by omega
   have hs2:ES.size<=1000000000:=by omega
   clear hge hbX hbR hlen hlen2 hesl hatHl hatH hAl hVl hA1 hV1 hXA hXV hatl hk1 hk2 HD hES hESl hESb HS HA hjk hdj HHT HALL HL HKID
   have HB2X:=hide hb2x
   clear hb2x
   go_upto_region 5 with fail
   rw[<-hw2x]
   clear hw2x x0 x1
   go_region_with (first | (go_at_call 17;refine (HESC.out _).mono ?_;rintro e wE ⟨rfl,hbE⟩;have z0:(World.drew w2x).cell? ⟨wr.heap.size,0,none⟩=some (.string XA):=z0;have z0:=cell_keep z0 hbE;have HBE:=hide (bel2 (bel_one w2x) hbE);clear hbE) | (go_at_call 59;refine (HWS.out _ HBE.out).mono ?_;rintro e wF ⟨⟨nn,rfl⟩,HF⟩))
   all_goals
    go_wp2_with fail
    go_roundg rest.length
    (case measure=>simp only[List.length_cons];omega)
    (case rel=>exact⟨j+1,d++[kv],rest,rfl,hdj2,by omega,by first | rfl | simp,HD2,HF⟩)
end Go.Proofs.YtkiofbikkhhdfabGreatDoor.Dm
