import Derived.Test.YtkiofbikkhhdfabGreatDoorK28
namespace Go.Proofs.YtkiofbikkhhdfabGreatDoor.Dm
open Go.RowKit
open Utf1 Pol8
def emP:Pol:=⟨1,[],[],[],[],[],64,2000,16384⟩
theorem emP_right:right emP=true:=by decide +kernel
theorem emP_fits:fits emP:=by
 intro l hl
 simp only[emP,List.mem_cons,List.not_mem_nil,or_false] at hl
 rcases hl with rfl | rfl | rfl | rfl | rfl <;> simp
theorem emP_v (w:World):PolV w (.slice none 0 0) (.slice none 0 0) (.slice none 0 0) (.slice none 0 0) (.slice none 0 0) emP [] [] [] [] []:=⟨strArg_nil _,strArg_nil _,strArg_nil _,strArg_nil _,strArg_nil _,rfl,rfl,rfl,rfl,rfl,trivial⟩
set_option maxRecDepth 100000 in
set_option maxHeartbeats 32000000 in
theorem lawSanNothing_walk {v:Value}{raw:List UInt8}(w:World)(hr:Uf.IsBytes w v raw)(hg:To.Glob w)(hgm:To.GlobM w) :
  Calls Tryz.prog 5 #[v] w fun e w'=>e=.returned (.bool true)/\Below w.heap.size w w':=by
 have HRW:=hide hr
 have HG:=hide (And.intro hg hgm)
 obtain⟨vp,vc,rfl⟩:∃ a c,v=.slice a raw.length c:=by
  rcases hr with⟨rfl,rfl⟩ | ⟨x,cap,rfl,-⟩
  ·exact⟨_,_,rfl⟩
  ·exact⟨_,_,rfl⟩
 obtain⟨N,hN⟩:∃ N,N=raw.length:=⟨_,rfl⟩
 rw[<-hN]
 have CA:=hide (san_awake w hg hgm)
 have HNR:=hide hN
 clear hr hg hgm hN
 go_enter Tryz.func5,Tryz.ntmps5
 go_wp2_with fail
 refine CA.out.mono ?_
 rintro e w1 ⟨rfl,h1⟩
 have HB1:=hide h1
 clear CA h1
 by_cases hn:N<=3000
 case neg =>
  have g1:3000 < N:=by omega
  clear hn
  go_wp2_with fail
  go_ret
  exact⟨rfl,HB1.out⟩
 have g1:¬ (3000 < N):=by omega
 obtain⟨w2,hw2⟩:∃ w2,w2=w1.alloc (.cells #[.int .i64 1,.slice none 0 0,.slice none 0 0,.slice none 0 0,.slice none 0 0,.slice none 0 0,.int .i64 64,.int .i64 2000,.int .i64 16384] 24):=⟨_,rfl⟩
 have H2:Hid (BoxA w1 #[.int .i64 1,.slice none 0 0,.slice none 0 0,.slice none 0 0,.slice none 0 0,.slice none 0 0,.int .i64 64,.int .i64 2000,.int .i64 16384] w2):=hide (by rw[hw2];exact BoxA.new _ _)
 have HB2:=hide (bel2 HB1.out H2.out.2)
 have hl4:=fix_len4 raw
 have hnr:=HNR.out
 have CC:=hide (pclean_any emP_fits _ _ _ _ _ _ _ _ _ _ _ raw w2 (emP_v w2) (bytes_below HRW.out HB2.out) (by omega) (fun _=>by omega) (HG.out.1.below HB2.out) (HG.out.2.below HB2.out))
 have hbt:(raw.length:Int)<=emP.bt:=by show (raw.length:Int)<=16384;omega
 have hE:cleanE emP raw=0:=by unfold cleanE;rw[if_pos emP_right,if_pos hbt]
 obtain⟨x,hx⟩:=San.clean_none (B:=buildT) (p:=emP) rfl (fix raw)
 have hX:cleanX emP raw=esc false x:=by unfold cleanX;rw[if_pos ⟨emP_right,hbt⟩,hx]
 have hpl:=(clean_sm ((right_iff emP).1 emP_right) (s:=fix raw) (by omega)).choose_spec.2.2.2.2.2.2
 rw[hE,hX,<-hnr] at CC
 obtain⟨S,hS⟩:∃ S:ByteArray,S=⟨(esc false x).toArray⟩:=⟨_,rfl⟩
 have hSb:bl S=esc false x:=by rw[hS]
 rw[<-hS] at CC
 have hSz:S.size<=2000000:=by rw[<-bl_len,hSb,<-hx];exact hpl
 have HBY:Hid (∀ c∈bl S,c≠60/\c≠62):=hide (fun c hc=>by rw[hSb] at hc;have:=esc_bytes false x c hc;exact⟨this.1,this.2.1⟩)
 have HTK:Hid ((toks (bl S)).length<=1/\∀ k∈toks (bl S),k.kind=1):=hide (by
  rw[hSb]
  by_cases h0:x=[]
  ·rw[h0,esc_nil]
   rw[show toks []=[] from rfl]
   simp
  ·rw[toks_esc x h0]
   simp)
 have CT:Hid (∀ wx,Below w.heap.size w wx->_):=hide (fun wx h=>To.tokens_any S wx (by omega) (HG.out.1.below h) (HG.out.2.below h))
 have y0:=tag_cell H2.out.1 0 _ rfl
 have y1:=tag_cell H2.out.1 1 _ rfl
 have y2:=tag_cell H2.out.1 2 _ rfl
 have y3:=tag_cell H2.out.1 3 _ rfl
 have y4:=tag_cell H2.out.1 4 _ rfl
 have y5:=tag_cell H2.out.1 5 _ rfl
 have y6:=tag_cell H2.out.1 6 _ rfl
 have y7:=tag_cell H2.out.1 7 _ rfl
 have y8:=tag_cell H2.out.1 8 _ rfl
 clear hn hl4 hnr hbt hE hx hX hpl hS hSb HNR HRW H2
 go_upto_region 5 with fail
 rw[<-hw2]
 clear hw2
 go_wp2_with fail
 refine CC.out.mono ?_
 rintro e w3 ⟨rfl,h3⟩
 have HB3:=hide (bel2 HB2.out h3)
 have CT2:=hide (CT.out w3 HB3.out)
 clear CC h3 HB2 CT y0 y1 y2 y3 y4 y5 y6 y7 y8
 go_wp2_with fail
 refine CT2.out.mono ?_
 rintro e w4 ⟨u,l,rfl,hl,htk,h4⟩
 have HB4:=hide (bel2 HB3.out h4)
 obtain⟨up,uc,rfl⟩:=own_len htk.1
 obtain⟨M,hM⟩:∃ M,M=l.length:=⟨_,rfl⟩
 rw[<-hM]
 have hM1:M<=1:=by
  have h:=HTK.out.1
  rw[<-hl,List.length_map] at h
  omega
 have HKD:Hid (∀ i,i < M->∃ g,up=some ⟨g,0,none⟩/\w4.cell? ⟨g,i*5,none⟩=some (.int .i64 1)):=hide (fun i hi=>by
  obtain⟨q,hq⟩:∃ q,l[i]?=some q:=⟨_,List.getElem?_eq_getElem (by omega)⟩
  obtain⟨g,c,e,hc⟩:=own_at htk.1 (by omega)
  injection e with e1 e2 e3
  refine⟨g,e1,?_⟩
  have h5:=hc (i*5) (by omega)
  rw[h5]
  have h6:=toksCells_at l i q hq 0 (by decide)
  rw[Nat.add_zero] at h6
  rw[h6]
  have hk:q.1.kind=1:=HTK.out.2 q.1 (by rw[<-hl];exact List.mem_map.2 ⟨q,List.mem_of_getElem? hq,rfl⟩)
  show some (Value.int .i64 (q.1.kind:Int))=_
  rw[hk]
  rfl)
 clear CT2 hl htk h4 HB3 hM HTK
 go_wp2_with fail
 go_loopg [8] M (fun g v wx=>∃ i:Nat,i+g=M/\v=.int .i64 (i:Int)/\wx=w4)
 case atStart=>exact⟨0,by omega,rfl,rfl⟩
 case round =>
  obtain⟨i,hi,rfl,rfl⟩:=hrel
  by_cases hlt:i < M
  ·obtain⟨g,hup,hk⟩:=HKD.out i hlt
   subst hup
   have hlti:(i:Int) < (M:Int):=by omega
   go_wp2_with fail
   go_roundg (gk - 1)
   case measure=>omega
   case rel=>exact⟨i+1,by omega,by first | rfl | simp,rfl⟩
  ·have hnl:¬ ((i:Int) < (M:Int)):=by omega
   clear hi
   go_wp2_with fail
   obtain⟨wo,hwo⟩:∃ wo,wo=wr:=⟨_,rfl⟩
   rw[<-hwo] at HB4 ⊢
   clear hwo HKD
   go_loopg [9] S.size (fun g v wx=>∃ i:Nat,i+g=S.size/\v=.int .i64 (i:Int)/\wx=wo)
   case atStart=>exact⟨0,by omega,rfl,rfl⟩
   case round =>
    obtain⟨j,hj,rfl,rfl⟩:=hrel
    by_cases hlt2:j < S.size
    ·obtain⟨c,hc⟩:=getK S j hlt2
     have ip:=fun w=>idxK hc w
     have hb:=HBY.out c (List.mem_of_getElem? hc)
     have g60:((c.toNat:Int)==60)=false:=by
      rw[beq_eq_false_iff_ne]
      intro e
      exact hb.1 (UInt8.toNat_inj.1 (by show c.toNat=60;omega))
     have g62:((c.toNat:Int)==62)=false:=by
      rw[beq_eq_false_iff_ne]
      intro e
      exact hb.2 (UInt8.toNat_inj.1 (by show c.toNat=62;omega))
     have hlti:(j:Int) < (S.size:Int):=by omega
     generalize (c.toNat:Int)=z at ip g60 g62
     clear hc hb
     go_wp2_with fail
     go_roundg (gk - 1)
     case measure=>omega
     case rel=>exact⟨j+1,by omega,by first | rfl | simp,rfl⟩
    ·have hnl2:¬ ((j:Int) < (S.size:Int)):=by omega
     have hM2:(M:Int)<=1:=by omega
     clear hj
     go_wp2_with fail
     go_ret
     exact⟨rfl,HB4.out⟩
end Go.Proofs.YtkiofbikkhhdfabGreatDoor.Dm
