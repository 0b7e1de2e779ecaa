import Derived.Test.YtkiofbikkhhdfabGreatDoorK27
import Derived.Test.YtkiofbikkhhdfabGreatDoorCZ
import Derived.Test.YtkiofbikkhhdfabGreatDoorK26
set_option maxRecDepth 100000
set_option maxHeartbeats 16000000
namespace Go.Proofs.YtkiofbikkhhdfabGreatDoor.Dm
open Go.RowKit
open Utf1 Pol8

def plP:Pol:=⟨1,[],[],[],[],[],9,99,999⟩
def plR:List UInt8:=[60,98,62,120,60,47,98,62]
theorem plP_fits:fits plP:=by
 intro l hl
 simp only[plP,List.mem_cons,List.not_mem_nil,or_false] at hl
 rcases hl with rfl | rfl | rfl | rfl | rfl <;> simp
theorem plP_x:cleanX plP plR=[120]:=by decide +kernel
theorem plP_e:cleanE plP plR=0:=by decide +kernel
theorem plR_fix:(fix plR).length<=40000:=by decide +kernel
theorem plP_v (w:World):PolV w (.slice none 0 0) (.slice none 0 0) (.slice none 0 0) (.slice none 0 0) (.slice none 0 0) plP [] [] [] [] []:=⟨strArg_nil _,strArg_nil _,strArg_nil _,strArg_nil _,strArg_nil _,rfl,rfl,rfl,rfl,rfl,trivial⟩
theorem plR_new (w:World):Uf.IsBytes (w.alloc (.cells #[.int .u8 60,.int .u8 98,.int .u8 62,.int .u8 120,.int .u8 60,.int .u8 47,.int .u8 98,.int .u8 62] 5 (8,9))) (.slice (some ⟨w.heap.size,0,none⟩) 8 8) plR:=by
 have e:(plR.map fun b=>Value.int .u8 (b.toNat:Int)).toArray=#[.int .u8 60,.int .u8 98,.int .u8 62,.int .u8 120,.int .u8 60,.int .u8 47,.int .u8 98,.int .u8 62]:=by kernel_rfl
 rw[<-e]
 exact Uf.isBytes_new w _ (8,9) plR 8 8 rfl (Uf.cells_of plR)
theorem plain_any (w:World):Calls Tryz.prog 64 #[] w fun e w'=>e=.returned (.agg #[.int .i64 1,.slice none 0 0,.slice none 0 0,.slice none 0 0,.slice none 0 0,.slice none 0 0,.int .i64 9,.int .i64 99,.int .i64 999])/\Below w.heap.size w w':=by
 go_enter Tryz.func64,Tryz.ntmps64
 go_wp2_with fail
 refine bodyPost_ret (results_cell_row rfl _ _ w.heap.size 24 #[.int .i64 1,.slice none 0 0,.slice none 0 0,.slice none 0 0,.slice none 0 0,.slice none 0 0,.int .i64 9,.int .i64 99,.int .i64 999] (0,0) _ rfl ?_ Tryz.underlying24 rfl (by kernel_rfl)) rfl ?_
 ·exact new_block _ _ _
 ·exact⟨rfl,bel_alloc (Below.refl _ _) _⟩
theorem top_awake (w:World)(hg:To.Glob w)(hgm:To.GlobM w) :
  Calls Tryz.prog 20 #[] w fun e w'=>e=.returned (.bool true)/\Below w.heap.size w w':=by
 have CP:=hide (plain_any w)
 have HG:=hide (And.intro hg hgm)
 clear hg hgm
 go_enter Tryz.func20,Tryz.ntmps20
 go_wp2_with fail
 refine CP.out.mono ?_
 rintro e w1 ⟨rfl,h1⟩
 clear CP
 obtain⟨w2,hw2⟩:∃ w2,w2=w1.alloc (.cells #[.int .u8 60,.int .u8 98,.int .u8 62,.int .u8 120,.int .u8 60,.int .u8 47,.int .u8 98,.int .u8 62] 5 (8,9)):=⟨_,rfl⟩
 have hcv:(convert 25 25 (.slice (some ⟨w1.heap.size,0,none⟩) 8 8)).run Tryz.prog (w1.alloc (.cells #[.int .u8 60,.int .u8 98,.int .u8 62,.int .u8 120,.int .u8 60,.int .u8 47,.int .u8 98,.int .u8 62] 5))=.ok (.slice (some ⟨w1.heap.size,0,none⟩) 8 8) w2:=by
  rw[hw2]
  exact Lib.run_convert_bytes_const w1 25 5 _ 8 8 Tryz.underlying25 Tryz.underlying5
 have hb2:Below w.heap.size w w2:=bel2 h1 (by rw[hw2];exact bel_alloc (Below.refl _ _) _)
 have HR:=plR_new w1
 rw[<-hw2] at HR
 have HB2:=hide hb2
 have CC:=hide (pclean_any plP_fits _ _ _ _ _ _ _ _ _ _ _ plR w2 (plP_v w2) HR (by decide) (fun _=>plR_fix) (HG.out.1.below hb2) (HG.out.2.below hb2))
 rw[plP_x,plP_e] at CC
 clear HR hb2 h1
 go_wp2_with fail
 rw[<-hw2]
 clear hw2 hcv
 refine CC.out.mono ?_
 rintro e w3 ⟨rfl,h3⟩
 have HB:=hide (bel2 HB2.out h3)
 clear CC h3 HB2
 go_wp2_with fail
 go_ret
 exact⟨ret_bool (by decide +kernel),HB.out⟩
end Go.Proofs.YtkiofbikkhhdfabGreatDoor.Dm

set_option maxRecDepth 100000
set_option maxHeartbeats 32000000
namespace Go.Proofs.YtkiofbikkhhdfabGreatDoor.Dm
open Go.RowKit
open Utf1 Pol8

def Pg (S:ByteArray):Prop:=S.size<=2000000/\((S.size:Int)<=16384->(fix (bl S)).length<=16500)
theorem chain_at {ts:List It}(h:∀ i,wr (ts.map It.p) i=0) {i:Nat}{t:It}(hi:ts[i]?=some t):right t.p=true:=by
 have h1:=h i
 rw[wr_at hi] at h1
 by_cases hr:right t.p=true
 ·exact hr
 ·rw[if_neg hr] at h1
  exact absurd h1 (by decide)
theorem chain_p {ts:List It}{i:Nat}{t:It}(hi:ts[i]?=some t):(ts.map It.p)[i]?=some t.p:=by
 rw[List.getElem?_map,hi]
 rfl
theorem chain_safe {ts:List It}(h:∀ i,wr (ts.map It.p) i=0) {i k:Nat}{t u:It}(hk:k<=i)(hi:ts[i]?=some t)(hu:ts[k]?=some u) {ns:List Nd}(hs:Saf.safeB t.p ns=true):Saf.safeB u.p ns=true :=
 Saf.safe_more ((right_iff _).1 (chain_at h hi)) (chain_str h (i - k) k t.p u.p (by rw[show k+(i - k)=i by omega];exact chain_p hi) (chain_p hu)) hs
def ChJ (w:World) (u:Value) (t:List Nd) (wx:World):Prop:=Below w.heap.size w wx/\NAt wx u t
theorem ChJ.keep {w wx wy:World}{u:Value}{t:List Nd}(h:ChJ w u t wx)(hb:Below wx.heap.size wx wy):ChJ w u t wy:=⟨bel2 h.1 hb,h.2.below hb⟩

theorem lawTopChain_walk {v v':Value}{ts:List It}{raw:List UInt8}(w:World)(hv:PolRow w v ts)(hr:Uf.IsBytes w v' raw)(hg:To.Glob w)(hgm:To.GlobM w) :
  Calls Tryz.prog 8 #[v,v'] w fun e w'=>e=.returned (.bool true)/\Below w.heap.size w w':=by
 have HV:=hide hv
 have HG:=hide (And.intro hg hgm)
 have CA:=hide (top_awake w hg hgm)
 have CL:Hid (∀ wx,Below w.heap.size w wx->_):=hide (fun wx h=>rlightl_any v ts wx (hv.below h))
 have CK:Hid ((∀ t∈ts,light t.p)->ts.length<=12->∀ wx,Below w.heap.size w wx->_):=hide (fun h1 h2 wx h=>check_any pright_any pstrict_any v ts wx (fun t ht=>light_fits (h1 t ht)) (by omega) (hv.below h))
 obtain⟨S0,hS0⟩:∃ S0:ByteArray,S0=⟨raw.toArray⟩:=⟨_,rfl⟩
 have HCV:Hid (∀ wx,Below w.heap.size w wx->(convert 25 9 v').run Tryz.prog wx=.ok (.string S0) wx):=hide (fun wx h=>by rw[hS0];exact (bytes_below hr h).conv)
 have HP0:Hid (raw.length<=3000->Pg S0):=hide (fun h=>by
  have h4:=fix_len4 raw
  have hb:bl S0=raw:=by rw[hS0]
  refine⟨by rw[<-bl_len,hb];omega,fun _=>by rw[hb];omega⟩)
 obtain⟨vp,vc,rfl⟩:∃ a c,v'=.slice a raw.length c:=by
  rcases hr with⟨rfl,rfl⟩ | ⟨x,cap,rfl,-⟩
  ·exact⟨_,_,rfl⟩
  ·exact⟨_,_,rfl⟩
 obtain⟨pp,cap,rfl,hcap,-,hat⟩:=hv
 obtain⟨N,hN⟩:∃ N,N=ts.length:=⟨_,rfl⟩
 have HT:Hid (∀ i,i < N->∃ (t:It) (b off:Nat),ts[i]?=some t/\pp=some ⟨b,off,none⟩/\w.rangeAt b (off+i*9) t.cells/\t.ok w):=hide (fun i hi=>by
  have ht:=List.getElem?_eq_getElem (show i < ts.length by omega)
  obtain⟨⟨b,off,e,h1⟩,h2⟩:=hat i _ ht
  exact⟨_,b,off,ht,e,h1,h2⟩)
 obtain⟨M,hM⟩:∃ M,M=raw.length:=⟨_,rfl⟩
 rw[<-hN] at CL CK ⊢
 rw[<-hM] at HP0 HCV ⊢
 clear hg hgm hr hat hcap hN hM hS0 HV
 go_enter Tryz.func8,Tryz.ntmps8
 go_wp2_with fail
 refine CA.out.mono ?_
 rintro e w2 ⟨rfl,h2⟩
 have H2:=hide h2
 have CL2:=hide (CL.out w2 h2)
 clear CA h2 CL
 go_wp2_with fail
 refine CL2.out.mono ?_
 rintro e w3 ⟨⟨b1,rfl,hb1⟩,h3⟩
 have H3:=hide (bel2 H2.out h3)
 have HB1:=hide hb1
 clear CL2 h3 hb1 H2
 cases b1 with
 | false =>
  clear CK HCV HP0 HT
  go_wp2_with fail
  go_ret
  exact⟨rfl,H3.out⟩
 | true =>
 have HLT:=hide (HB1.out rfl).2
 have hN12:N<=12:=(HB1.out rfl).1
 have CK1:=hide (CK.out (HB1.out rfl).2 (HB1.out rfl).1 w3 H3.out)
 clear HB1 CK
 by_cases hn:M<=3000
 case neg =>
  have g1:3000 < M:=by omega
  clear CK1 HCV HP0 HT hn
  go_wp2_with fail
  go_ret
  exact⟨rfl,H3.out⟩
 have g1:¬ (3000 < M):=by omega
 have HP:=hide (HP0.out hn)
 clear HP0 hn
 go_wp2_with fail
 refine CK1.out.mono ?_
 rintro e w4 ⟨⟨E,n,rfl,hchk⟩,h4⟩
 have H4:=hide (bel2 H3.out h4)
 have HCH:=hide hchk
 clear CK1 h4 H3 hchk
 by_cases hE:E=0
 case neg =>
  have g2:(E != 0)=true:=by simpa using hE
  clear HCV hE HT HP
  go_wp2_with fail
  go_ret
  exact⟨rfl,H4.out⟩
 subst hE
 have HW0:=hide (chk_zero HCH.out).2
 have hcv:=HCV.out w4 H4.out
 clear HCH HCV
 go_wp2_with fail
 clear hcv
 go_loopg [9,10] N (fun g v9 v10 wx=>∃ (i:Nat) (S:ByteArray),i+g=N/\v9=.string S/\v10=.int .i64 (i:Int)/\Hid (Below w.heap.size w wx/\Pg S))
 case atStart=>exact⟨0,S0,by omega,rfl,rfl,hide ⟨H4.out,HP.out⟩⟩
 case round =>
  obtain⟨i,S,hi,rfl,rfl,HU⟩:=hrel
  clear H4 HP
  by_cases hlt:i < N
  ·have hlti:(i:Int) < (N:Int):=by omega
   obtain⟨⟨P,v1,v2,v3,v4,v5,l1,l2,l3,l4,l5⟩,b,off,ht,rfl,hrg,hok⟩:=HT.out i hlt
   have HTB:Hid (∀ k,k < N->∃ t:It,ts[k]?=some t/\w.rangeAt b (off+k*9) t.cells/\t.ok w):=hide (fun k hk=>by
    obtain⟨t',b',off',ht',e,hr',hok'⟩:=HT.out k hk
    injection e with e
    injection e with e1 e2
    subst e1 e2
    exact⟨t',ht',hr',hok'⟩)
   have hok:PolV w v1 v2 v3 v4 v5 P l1 l2 l3 l4 l5:=hok
   have hrt:right P=true:=chain_at HW0.out ht
   have hlg:light P:=HLT.out _ (List.mem_of_getElem? ht)
   have hbt2:=((right_iff P).1 hrt).c.2.2.2.2
   obtain⟨cap5,w5,hcv5,hby,hb5⟩:=bytes_of wr S
   have H5:=hide (bel2 HU.out.1 hb5)
   have CC:=hide (pclean_any (light_fits hlg) _ _ _ _ _ _ _ _ _ _ _ (bl S) w5 (hok.below H5.out) hby (by rw[bl_len];have:=HU.out.2.1;omega) (fun hb=>by rw[bl_len] at hb;have:=HU.out.2.2 (by omega);omega) (HG.out.1.below H5.out) (HG.out.2.below H5.out))
   obtain⟨y0,y1,y2,y3,y4,y5,y6,y7,y8⟩:=nine (range_keep hrg HU.out.1)
   simp only[] at y0 y1 y2 y3 y4 y5 y6 y7 y8
   by_cases hb:(S.size:Int)<=P.bt
   case neg =>
    have hE4:cleanE P (bl S)=4:=by unfold cleanE;rw[if_pos hrt,if_neg (by rw[bl_len];exact hb)]
    rw[hE4] at CC
    clear hb hE4 hbt2 hlg hrt hok hrg ht HTB HT hby hb5
    go_wp2_with fail
    refine CC.out.mono ?_
    rintro e w6 ⟨rfl,h6⟩
    have HB:=hide (bel2 H5.out h6)
    clear CC h6 H5 hcv5 y0 y1 y2 y3 y4 y5 y6 y7 y8
    go_wp2_with fail
    go_ret
    exact⟨rfl,HB.out⟩
   obtain⟨t2,hsf,htt,hbt,hsm,hnc,hws,hpl⟩:=clean_sm ((right_iff P).1 hrt) (s:=fix (bl S)) (HU.out.2.2 (by omega))
   have hag:=San.clean_again buildT_ok ((right_iff P).1 hrt) (bl S)
   rw[htt] at hag hpl
   have hX:cleanX P (bl S)=htL t2:=by unfold cleanX;rw[if_pos ⟨hrt,by rw[bl_len];exact hb⟩,htt]
   have hE0:cleanE P (bl S)=0:=by unfold cleanE;rw[if_pos hrt,if_pos (by rw[bl_len];exact hb)]
   rw[hX,hE0] at CC
   obtain⟨S2,hS2⟩:∃ S2:ByteArray,S2=⟨(htL t2).toArray⟩:=⟨_,rfl⟩
   have hSb:bl S2=htL t2:=by rw[hS2]
   rw[<-hS2] at CC
   have HPG:Hid (Pg S2):=hide ⟨by rw[<-bl_len,hSb];exact hpl,fun h=>by rw[hSb,hag.1,<-hSb,bl_len];omega⟩
   have hst:=(San.safe_stable hsf).1
   have CT:Hid (∀ wx,Below w.heap.size w wx->_):=hide (fun wx h=>read_page S2 t2 wx hSb hst (by omega) (HG.out.1.below h) (HG.out.2.below h))
   have CB:Hid (∀ wx (u:Value) (l:List (Tk × Value)) (B:Nat),To.ToksAt wx B u l->l.map Prod.fst=tkL t2->_):=hide (fun wx u l B h1 h2=>build_page wx B u l t2 h1 h2 hst (by omega))
   have CSF:Hid (∀ k,k<=i->∀ (wx:World) (u:Value),ChJ w u t2 wx->∀ x:It,ts[k]?=some x->x.ok w->Calls Tryz.prog 16 #[x.val,u] wx fun e w'=>e=.returned (.bool true)/\ChJ w u t2 w'):=hide (fun k hk wx u h x hx hxo=>by
    have h1:=psafe_any x.v1 x.v2 x.v3 x.v4 x.v5 x.p x.l1 x.l2 x.l3 x.l4 x.l5 u t2 wx (PolV.below hxo h.1) (light_fits (HLT.out x (List.mem_of_getElem? hx))) h.2 hsm hnc
    rw[chain_safe HW0.out hk ht hx hsf] at h1
    exact h1.mono fun e w' ⟨a,c⟩=>⟨a,h.keep c⟩)
   have CST:Hid (∀ j (wx:World) (u:Value),ChJ w u t2 wx->∀ x y:It,ts[j+1]?=some x->ts[j]?=some y->x.ok w->y.ok w->Calls Tryz.prog 12 #[x.val,y.val] wx fun e w'=>e=.returned (.bool true)/\ChJ w u t2 w'):=hide (fun j wx u h x y hx hy hxo hyo=>by
    have h1:=pstrict_any x.v1 x.v2 x.v3 x.v4 x.v5 y.v1 y.v2 y.v3 y.v4 y.v5 x.p y.p x.l1 x.l2 x.l3 x.l4 x.l5 y.l1 y.l2 y.l3 y.l4 y.l5 wx (PolV.below hxo h.1) (PolV.below hyo h.1) (light_fits (HLT.out x (List.mem_of_getElem? hx))) (light_fits (HLT.out y (List.mem_of_getElem? hy)))
    rw[chain_stricter HW0.out (show j < j+1 by omega) (chain_p hx) (chain_p hy)] at h1
    exact h1.mono fun e w' ⟨a,c⟩=>⟨a,h.keep c⟩)
   clear hb hX hE0 hS2 hsf htt hbt hsm hnc hws hpl hag hst hSb hbt2 hlg hrt hok hrg ht HT hby hb5
   go_wp2_with fail
   refine CC.out.mono ?_
   rintro e w6 ⟨rfl,h6⟩
   have H6:=hide (bel2 H5.out h6)
   have CT2:=hide (CT.out w6 H6.out)
   clear CC h6 H5 hcv5 y0 y1 y2 y3 y4 y5 y6 y7 y8 CT HU
   go_wp2_with fail
   refine CT2.out.mono ?_
   rintro e w7 ⟨u,l,rfl,hl,htk,h7⟩
   have H7:=hide (bel2 H6.out h7)
   have CB2:=hide (CB.out w7 u l _ htk hl)
   obtain⟨up,uc,rfl⟩:=own_len htk.1
   clear CT2 h7 H6 hl htk CB
   go_wp2_with fail
   refine CB2.out.mono ?_
   rintro e w8 ⟨⟨r,rfl,hna⟩,h8⟩
   have H8:Hid (ChJ w r t2 w8):=hide ⟨bel2 H7.out h8,hna⟩
   obtain⟨rp,rm,rc,rfl⟩:=nat_slice hna
   clear CB2 h8 H7 hna
   go_wp2_with fail
   obtain⟨go,hgo⟩:∃ go,go=gk:=⟨_,rfl⟩
   go_loopg [15] (i+1) (fun g v wx=>∃ k:Nat,k+g=i+1/\v=.int .i64 (k:Int)/\Hid (ChJ w (.slice rp rm rc) t2 wx))
   case atStart=>exact⟨0,by omega,rfl,H8⟩
   case round =>
    obtain⟨k,hk,rfl,HK⟩:=hrel
    clear H8
    by_cases hki:k<=i
    ·have hkl:(k:Int)<=(i:Int):=by omega
     obtain⟨⟨X,x1,x2,x3,x4,x5,a1,a2,a3,a4,a5⟩,hx,hxr,hxo⟩:=HTB.out k (by omega)
     have CSX:Hid (∀ wx,ChJ w (.slice rp rm rc) t2 wx->Calls Tryz.prog 16 #[pval X x1 x2 x3 x4 x5,.slice rp rm rc] wx fun e w'=>e=.returned (.bool true)/\ChJ w (.slice rp rm rc) t2 w'):=hide (fun wx h=>by
      have h1:=CSF.out k hki wx _ h ⟨X,x1,x2,x3,x4,x5,a1,a2,a3,a4,a5⟩ hx hxo
      exact h1)
     rcases Nat.eq_zero_or_pos k with h0 | h0
     ·subst h0
      rw[Nat.zero_mul,Nat.add_zero] at hxr
      have SK:Hid (∀ wx,(ChJ w (.slice rp rm rc) t2) wx->wx.cell? ⟨b,off,none⟩=some (.int .i64 X.ep)/\wx.cell? ⟨b,off+1,none⟩=some (x1)/\wx.cell? ⟨b,off+2,none⟩=some (x2)/\wx.cell? ⟨b,off+3,none⟩=some (x3)/\wx.cell? ⟨b,off+4,none⟩=some (x4)/\wx.cell? ⟨b,off+5,none⟩=some (x5)/\wx.cell? ⟨b,off+6,none⟩=some (.int .i64 X.dp)/\wx.cell? ⟨b,off+7,none⟩=some (.int .i64 X.nd)/\wx.cell? ⟨b,off+8,none⟩=some (.int .i64 X.bt)/\Hid ((ChJ w (.slice rp rm rc) t2) wx)):=hide (fun wx h=>by
       obtain⟨c0,c1,c2,c3,c4,c5,c6,c7,c8⟩:=nine (range_keep hxr h.1)
       exact⟨c0,c1,c2,c3,c4,c5,c6,c7,c8,hide h⟩)
      have SB:Hid (∀ wx,(wx.cell? ⟨b,off,none⟩=some (.int .i64 X.ep)/\wx.cell? ⟨b,off+1,none⟩=some (x1)/\wx.cell? ⟨b,off+2,none⟩=some (x2)/\wx.cell? ⟨b,off+3,none⟩=some (x3)/\wx.cell? ⟨b,off+4,none⟩=some (x4)/\wx.cell? ⟨b,off+5,none⟩=some (x5)/\wx.cell? ⟨b,off+6,none⟩=some (.int .i64 X.dp)/\wx.cell? ⟨b,off+7,none⟩=some (.int .i64 X.nd)/\wx.cell? ⟨b,off+8,none⟩=some (.int .i64 X.bt)/\Hid ((ChJ w (.slice rp rm rc) t2) wx))->(ChJ w (.slice rp rm rc) t2) wx):=hide (fun wx h=>h.2.2.2.2.2.2.2.2.2.out)
      have hkN:0 < N:=by omega
      clear hxr hxo hx CSF CST HTB
      go_wp2_with fail
      refine wp_region_held_drew (S:=(fun wx=>wx.cell? ⟨b,off,none⟩=some (.int .i64 X.ep)/\wx.cell? ⟨b,off+1,none⟩=some (x1)/\wx.cell? ⟨b,off+2,none⟩=some (x2)/\wx.cell? ⟨b,off+3,none⟩=some (x3)/\wx.cell? ⟨b,off+4,none⟩=some (x4)/\wx.cell? ⟨b,off+5,none⟩=some (x5)/\wx.cell? ⟨b,off+6,none⟩=some (.int .i64 X.dp)/\wx.cell? ⟨b,off+7,none⟩=some (.int .i64 X.nd)/\wx.cell? ⟨b,off+8,none⟩=some (.int .i64 X.bt)/\Hid (ChJ w (.slice rp rm rc) t2 wx))) (by kernel_rfl) (SK.out _ (HK.out.keep ((Below.refl _ _).drew))) (fun hHeld=>?_)
      refine wpAnyH_atp 0 rfl ?_
      refine wpAnyH_atp 1 rfl ?_
      refine wpAnyH_atp 2 rfl ?_
      refine wpAnyH_atp 3 rfl ?_
      refine wpAnyH_atp 4 rfl ?_
      refine wpAnyH_ready (rs:=[5]) (by kernel_rfl) (by simp) ?_
      refine AllReadyH.cons rfl (fun K hK=>?_) AllReadyH.nil
      go_simp
      refine (CSX.out _ (SB.out _ (by assumption))).mono ?_
      rintro e w6 ⟨rfl,h6⟩
      try go_wp2_with fail
      refine hK.out _ _ (SK.out _ (by assumption)) (fun hHeld2=>?_)
      clear hK K hHeld
      have hHeld:=hHeld2
      clear hHeld2
      refine wpAnyH_atp 6 rfl ?_
      refine wpAnyH_atp 7 rfl ?_
      refine wpAnyH_atp 8 rfl ?_
      refine wpAnyH_atp 9 rfl ?_
      refine wpAnyH_atp 10 rfl ?_
      refine wpAnyH_atn 11 rfl ?_
      refine wpAnyH_atn 12 rfl ?_
      refine wpAnyH_atn 13 rfl ?_
      refine wpAnyH_atn 14 rfl ?_
      refine wpAnyH_atn 15 rfl ?_
      refine wpAnyH_atn 16 rfl ?_
      refine wpAnyH_atn 17 rfl ?_
      refine wpAnyH_atn 18 rfl ?_
      refine wpAnyH_atn 19 rfl ?_
      refine wpAnyH_atn 20 rfl ?_
      refine wpAnyH_atn 21 rfl ?_
      refine wpAnyH_atp 22 rfl ?_
      refine wpAnyH_atp 23 rfl ?_
      refine wpAnyH_done (by kernel_rfl) ?_ _
      have H9:=hide (SB.out _ (by assumption))
      clear CSX SK SB
      go_wp2_with fail
      go_roundg (gk - 1)
      case measure=>omega
      case rel=>exact⟨1,by omega,by first | rfl | simp,H9⟩
     ·obtain⟨j,rfl⟩:∃ j,k=j+1:=⟨k - 1,by omega⟩
      obtain⟨⟨Y,z1,z2,z3,z4,z5,b1,b2,b3,b4,b5⟩,hy,hyr,hyo⟩:=HTB.out j (by omega)
      have CSY:Hid (∀ wx,ChJ w (.slice rp rm rc) t2 wx->Calls Tryz.prog 12 #[pval X x1 x2 x3 x4 x5,pval Y z1 z2 z3 z4 z5] wx fun e w'=>e=.returned (.bool true)/\ChJ w (.slice rp rm rc) t2 w'):=hide (fun wx h=>by
       have h1:=CST.out j wx _ h ⟨X,x1,x2,x3,x4,x5,a1,a2,a3,a4,a5⟩ ⟨Y,z1,z2,z3,z4,z5,b1,b2,b3,b4,b5⟩ hx hy hxo hyo
       exact h1)
      have SK:Hid (∀ wx,(ChJ w (.slice rp rm rc) t2) wx->wx.cell? ⟨b,off+(j+1)*9,none⟩=some (.int .i64 X.ep)/\wx.cell? ⟨b,off+(j+1)*9+1,none⟩=some (x1)/\wx.cell? ⟨b,off+(j+1)*9+2,none⟩=some (x2)/\wx.cell? ⟨b,off+(j+1)*9+3,none⟩=some (x3)/\wx.cell? ⟨b,off+(j+1)*9+4,none⟩=some (x4)/\wx.cell? ⟨b,off+(j+1)*9+5,none⟩=some (x5)/\wx.cell? ⟨b,off+(j+1)*9+6,none⟩=some (.int .i64 X.dp)/\wx.cell? ⟨b,off+(j+1)*9+7,none⟩=some (.int .i64 X.nd)/\wx.cell? ⟨b,off+(j+1)*9+8,none⟩=some (.int .i64 X.bt)/\wx.cell? ⟨b,off+j*9,none⟩=some (.int .i64 Y.ep)/\wx.cell? ⟨b,off+j*9+1,none⟩=some (z1)/\wx.cell? ⟨b,off+j*9+2,none⟩=some (z2)/\wx.cell? ⟨b,off+j*9+3,none⟩=some (z3)/\wx.cell? ⟨b,off+j*9+4,none⟩=some (z4)/\wx.cell? ⟨b,off+j*9+5,none⟩=some (z5)/\wx.cell? ⟨b,off+j*9+6,none⟩=some (.int .i64 Y.dp)/\wx.cell? ⟨b,off+j*9+7,none⟩=some (.int .i64 Y.nd)/\wx.cell? ⟨b,off+j*9+8,none⟩=some (.int .i64 Y.bt)/\Hid ((ChJ w (.slice rp rm rc) t2) wx)):=hide (fun wx h=>by
       obtain⟨c0,c1,c2,c3,c4,c5,c6,c7,c8⟩:=nine (range_keep hxr h.1)
       obtain⟨d0,d1,d2,d3,d4,d5,d6,d7,d8⟩:=nine (range_keep hyr h.1)
       exact⟨c0,c1,c2,c3,c4,c5,c6,c7,c8,d0,d1,d2,d3,d4,d5,d6,d7,d8,hide h⟩)
      have SB:Hid (∀ wx,(wx.cell? ⟨b,off+(j+1)*9,none⟩=some (.int .i64 X.ep)/\wx.cell? ⟨b,off+(j+1)*9+1,none⟩=some (x1)/\wx.cell? ⟨b,off+(j+1)*9+2,none⟩=some (x2)/\wx.cell? ⟨b,off+(j+1)*9+3,none⟩=some (x3)/\wx.cell? ⟨b,off+(j+1)*9+4,none⟩=some (x4)/\wx.cell? ⟨b,off+(j+1)*9+5,none⟩=some (x5)/\wx.cell? ⟨b,off+(j+1)*9+6,none⟩=some (.int .i64 X.dp)/\wx.cell? ⟨b,off+(j+1)*9+7,none⟩=some (.int .i64 X.nd)/\wx.cell? ⟨b,off+(j+1)*9+8,none⟩=some (.int .i64 X.bt)/\wx.cell? ⟨b,off+j*9,none⟩=some (.int .i64 Y.ep)/\wx.cell? ⟨b,off+j*9+1,none⟩=some (z1)/\wx.cell? ⟨b,off+j*9+2,none⟩=some (z2)/\wx.cell? ⟨b,off+j*9+3,none⟩=some (z3)/\wx.cell? ⟨b,off+j*9+4,none⟩=some (z4)/\wx.cell? ⟨b,off+j*9+5,none⟩=some (z5)/\wx.cell? ⟨b,off+j*9+6,none⟩=some (.int .i64 Y.dp)/\wx.cell? ⟨b,off+j*9+7,none⟩=some (.int .i64 Y.nd)/\wx.cell? ⟨b,off+j*9+8,none⟩=some (.int .i64 Y.bt)/\Hid ((ChJ w (.slice rp rm rc) t2) wx))->(ChJ w (.slice rp rm rc) t2) wx):=hide (fun wx h=>h.2.2.2.2.2.2.2.2.2.2.2.2.2.2.2.2.2.2.out)
      have hkN:j+1 < N:=by omega
      have hj1:(j:Int)+1 < (N:Int):=by omega
      have hj0:(0:Int)<=(j:Int)+1:=by omega
      have hjp:(0:Int) < (j:Int)+1:=by omega
      have hjN:j < N:=by omega
      have hwk:IntKind.i64.wrap (j:Int)=(j:Int):=IntWalk.i64_in _ (by omega)
      clear hxr hxo hx hyr hyo hy CSF CST HTB
      go_wp2_with fail
      refine wp_region_held_drew (S:=(fun wx=>wx.cell? ⟨b,off+(j+1)*9,none⟩=some (.int .i64 X.ep)/\wx.cell? ⟨b,off+(j+1)*9+1,none⟩=some (x1)/\wx.cell? ⟨b,off+(j+1)*9+2,none⟩=some (x2)/\wx.cell? ⟨b,off+(j+1)*9+3,none⟩=some (x3)/\wx.cell? ⟨b,off+(j+1)*9+4,none⟩=some (x4)/\wx.cell? ⟨b,off+(j+1)*9+5,none⟩=some (x5)/\wx.cell? ⟨b,off+(j+1)*9+6,none⟩=some (.int .i64 X.dp)/\wx.cell? ⟨b,off+(j+1)*9+7,none⟩=some (.int .i64 X.nd)/\wx.cell? ⟨b,off+(j+1)*9+8,none⟩=some (.int .i64 X.bt)/\wx.cell? ⟨b,off+j*9,none⟩=some (.int .i64 Y.ep)/\wx.cell? ⟨b,off+j*9+1,none⟩=some (z1)/\wx.cell? ⟨b,off+j*9+2,none⟩=some (z2)/\wx.cell? ⟨b,off+j*9+3,none⟩=some (z3)/\wx.cell? ⟨b,off+j*9+4,none⟩=some (z4)/\wx.cell? ⟨b,off+j*9+5,none⟩=some (z5)/\wx.cell? ⟨b,off+j*9+6,none⟩=some (.int .i64 Y.dp)/\wx.cell? ⟨b,off+j*9+7,none⟩=some (.int .i64 Y.nd)/\wx.cell? ⟨b,off+j*9+8,none⟩=some (.int .i64 Y.bt)/\Hid (ChJ w (.slice rp rm rc) t2 wx))) (by kernel_rfl) (SK.out _ (HK.out.keep ((Below.refl _ _).drew))) (fun hHeld=>?_)
      refine wpAnyH_atp 0 rfl ?_
      refine wpAnyH_atp 1 rfl ?_
      refine wpAnyH_atp 2 rfl ?_
      refine wpAnyH_atp 3 rfl ?_
      refine wpAnyH_atp 4 rfl ?_
      refine wpAnyH_ready (rs:=[5]) (by kernel_rfl) (by simp) ?_
      refine AllReadyH.cons rfl (fun K hK=>?_) AllReadyH.nil
      go_simp
      refine (CSX.out _ (SB.out _ (by assumption))).mono ?_
      rintro e w6 ⟨rfl,h6⟩
      try go_wp2_with fail
      refine hK.out _ _ (SK.out _ (by assumption)) (fun hHeld2=>?_)
      clear hK K hHeld
      have hHeld:=hHeld2
      clear hHeld2
      refine wpAnyH_atp 6 rfl ?_
      refine wpAnyH_atp 7 rfl ?_
      refine wpAnyH_atp 8 rfl ?_
      refine wpAnyH_atp 9 rfl ?_
      refine wpAnyH_atp 10 rfl ?_
      refine wpAnyH_atp 11 rfl ?_
      refine wpAnyH_atp 12 rfl ?_
      refine wpAnyH_atp 13 rfl ?_
      refine wpAnyH_atp 14 rfl ?_
      refine wpAnyH_atp 15 rfl ?_
      refine wpAnyH_atp 16 rfl ?_
      refine wpAnyH_atp 17 rfl ?_
      refine wpAnyH_atp 18 rfl ?_
      refine wpAnyH_atp 19 rfl ?_
      refine wpAnyH_ready (rs:=[20]) (by kernel_rfl) (by simp) ?_
      refine AllReadyH.cons rfl (fun K hK=>?_) AllReadyH.nil
      go_simp
      refine (CSY.out _ (SB.out _ (by assumption))).mono ?_
      rintro e w6 ⟨rfl,h6⟩
      try go_wp2_with fail
      refine hK.out _ _ (SK.out _ (by assumption)) (fun hHeld2=>?_)
      clear hK K hHeld
      have hHeld:=hHeld2
      clear hHeld2
      refine wpAnyH_atp 21 rfl ?_
      refine wpAnyH_atp 22 rfl ?_
      refine wpAnyH_atp 23 rfl ?_
      refine wpAnyH_done (by kernel_rfl) ?_ _
      have H9:=hide (SB.out _ (by assumption))
      clear CSX CSY SK SB
      go_wp2_with fail
      go_roundg (gk - 1)
      case measure=>omega
      case rel=>exact⟨j+1+1,by omega,by first | rfl | simp,H9⟩
    ·have hnk:¬ ((k:Int)<=(i:Int)):=by omega
     clear hk CSF CST HTB
     go_wp2_with fail
     go_roundg (go - 1)
     case measure=>omega
     case rel=>exact⟨i+1,S2,by omega,rfl,by first | rfl | simp,hide ⟨HK.out.1,HPG.out⟩⟩
  ·have hnl:¬ ((i:Int) < (N:Int)):=by omega
   clear hi HT
   go_wp2_with fail
   go_ret
   exact⟨rfl,HU.out.1⟩
end Go.Proofs.YtkiofbikkhhdfabGreatDoor.Dm
