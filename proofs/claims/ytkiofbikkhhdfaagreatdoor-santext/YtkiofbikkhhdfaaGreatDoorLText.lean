import Derived.Test.YtkiofbikkhhdfaaGreatDoorK30
import Derived.Test.YtkiofbikkhhdfaaGreatDoorN17
namespace Go.Proofs.YtkiofbikkhhdfaaGreatDoor.Dm
open Go.RowKit
open Utf1 Pol8
theorem add_strT (a b:ByteArray)(h:a.size+b.size<=9223372036854775807) (w:World):(Op.stringOp .add a b).run Tryz.prog w=.ok (.string (a++b)) w:=by
 unfold Op.stringOp
 have:¬ (((a.size+b.size:Nat):Int) > IntKind.i64.max):=by
  show ¬ (((a.size+b.size:Nat):Int) > 9223372036854775807)
  omega
 simp only[this,if_false]
 rfl
theorem allT_kids (x:Nd):San.allT x=if San.dropB x.name=true then [] else x.text++San.allTL x.kids:=by
 cases x
 rw[San.allT]
 rfl
theorem allTL_app:∀ a b:List Nd,San.allTL (a++b)=San.allTL a++San.allTL b
 | [],b=>by rw[List.nil_append,San.allTL,List.nil_append]
 | x :: a,b=>by rw[List.cons_append,San.allTL,San.allTL,allTL_app a b,List.append_assoc]
mutual
theorem allT_len:∀ x:Nd,(San.allT x).length<=wsN x
 | .mk n a t k=>by
  have h:=allTL_len k
  rw[San.allT,wsN]
  split
  ·simp
  ·rw[List.length_append]
   omega
theorem allTL_len:∀ l:List Nd,(San.allTL l).length<=wsL l
 | []=>by rw[San.allTL];exact Nat.le_refl _
 | x :: r=>by
  have h1:=allT_len x
  have h2:=allTL_len r
  rw[San.allTL,wsL,List.length_append]
  omega
end
set_option maxRecDepth 100000 in
set_option maxHeartbeats 32000000 in
theorem all_nst:∀ (D:Nat) (w:World) (v:Value) (ns:List Nd),NAtD w D v ns->wsL ns<=1000000 ->
  Calls Tryz.prog 26 #[v] w fun e w'=>e=.returned (.string ⟨(San.allTL ns).toArray⟩)/\Below w.heap.size w w':=by
 intro D
 induction D with
 | zero=>intro w v ns h;exact h.elim
 | succ D0 ih =>
 intro w v ns hk hws
 obtain⟨q,cp,rfl,hkl,hn⟩:=hk
 obtain⟨N,hN⟩:∃ N,N=ns.length:=⟨_,rfl⟩
 have hNm:N<=9223372036854775807:=by rw[hN];exact hkl
 rw[<-hN]
 have HN:=hide hN
 have HNO:=hide hn
 have HIH:=hide ih
 have HWS:=hide hws
 clear hn ih hws hkl hN
 go_enter Tryz.func26,Tryz.ntmps26
 go_wp2_with fail
 go_loopg [3,4] N (fun g v3 v4 wx=>∃ (i:Nat) (A:ByteArray),i+g=N/\v3=.string A/\v4=.int .i64 (i:Int)/\A.size<=1000000/\Hid (Below w.heap.size w wx/\bl A=San.allTL (ns.take i)))
 case atStart=>exact⟨0,⟨#[]⟩,by omega,rfl,rfl,by decide,hide ⟨Below.refl _ _,by rw[List.take_zero,San.allTL]⟩⟩
 case round =>
  obtain⟨i,A,hi,rfl,rfl,hA,HU⟩:=hrel
  obtain⟨wz,hwz⟩:∃ wz,wz=wr:=⟨_,rfl⟩
  subst hwz
  by_cases hlt:i < N
  ·obtain⟨nd,hnd⟩:∃ nd,ns[i]?=some nd:=⟨_,List.getElem?_eq_getElem (by have:=HN.out;omega)⟩
   obtain⟨g,off,ap,am,ac,kp,km,kc,hq,x0,x1,x2,x3,-,ha,hkd⟩:=HNO.out i nd hnd
   have x0:=cell_keep x0 HU.out.1
   have x2:=cell_keep x2 HU.out.1
   have x3:=cell_keep x3 HU.out.1
   obtain⟨nm,hnm⟩:∃ X:ByteArray,X=⟨nd.name.toArray⟩:=⟨_,rfl⟩
   obtain⟨tx,htx⟩:∃ X:ByteArray,X=⟨nd.text.toArray⟩:=⟨_,rfl⟩
   rw[<-hnm] at x0
   rw[<-htx] at x2
   have htb:bl tx=nd.text:=by rw[htx]
   have hws:=San.ws_take hnd
   rw[wsN_kids] at hws
   have hw0:=HWS.out
   have CD:=hide (pdropped_any nm wz)
   rw[show bl nm=nd.name by rw[hnm]] at CD
   have CI:Hid (∀ wx,Below w.heap.size w wx->Calls Tryz.prog 26 #[.slice kp km kc] wx fun e w'=>e=.returned (.string ⟨(San.allTL nd.kids).toArray⟩)/\Below wx.heap.size wx w'):=hide (fun wx h=>HIH.out wx _ nd.kids (hkd.below h) (by omega))
   have HST:Hid (San.allTL (ns.take (i+1))=bl A++(if San.dropB nd.name=true then [] else nd.text++San.allTL nd.kids)):=hide (by
    rw[San.take_nd hnd,allTL_app,HU.out.2,San.allTL,San.allTL,List.append_nil,allT_kids])
   have hl1:(San.allTL (ns.take (i+1))).length<=1000000:=by
    have h1:=allTL_len (ns.take (i+1))
    rw[San.take_nd hnd,wsL_app,wsL,wsL,wsN_kids] at h1
    rw[San.take_nd hnd]
    omega
   have hl2:=allTL_len nd.kids
   have HB:=hide HU.out.1
   subst hq
   cases hdr:San.dropB nd.name with
   | true =>
    rw[hdr] at CD
    have HA2:Hid (bl A=San.allTL (ns.take (i+1))):=hide (by rw[HST.out,if_pos hdr,List.append_nil])
    clear hnm htx htb hws hw0 HST hl1 hl2 hdr hnd ha hkd HU CI x2 x3
    go_wp2_with fail
    refine CD.out.mono ?_
    rintro e w2 ⟨rfl,rfl⟩
    clear CD
    go_wp2_with fail
    go_roundg (gk - 1)
    case measure=>omega
    case rel=>exact⟨i+1,A,by omega,rfl,by first | rfl | simp,hA,hide ⟨HB.out,HA2.out⟩⟩
   | false =>
    rw[hdr] at CD
    obtain⟨K9,hK9⟩:∃ K:ByteArray,K=⟨(San.allTL nd.kids).toArray⟩:=⟨_,rfl⟩
    rw[<-hK9] at CI
    have hkb:bl K9=San.allTL nd.kids:=by rw[hK9]
    have hA2:San.allTL (ns.take (i+1))=bl (A++tx++K9):=by
     rw[HST.out,if_neg (by rw[hdr];decide),bl_cat,bl_cat,htb,hkb,List.append_assoc]
    have hts:tx.size<=1000000:=by rw[<-bl_len,htb];omega
    have hks:K9.size<=1000000:=by rw[<-bl_len,hkb];omega
    have hsz:(A++tx++K9).size<=1000000:=by rw[<-bl_len,<-hA2];exact hl1
    have HA2:=hide hA2
    have HSZ:=hide hsz
    obtain⟨wd,hwd⟩:∃ wd,wd=wz.drew:=⟨_,rfl⟩
    have HBD:Hid (Below wz.heap.size wz wd):=hide (by rw[hwd];exact bel_one _)
    have z2:wd.cell? ⟨g,off+i*4+2,none⟩=some (.string tx):=by rw[hwd];exact x2
    have z3:wd.cell? ⟨g,off+i*4+3,none⟩=some (.slice kp km kc):=by rw[hwd];exact x3
    have CI2:=hide (CI.out wd (bel2 HB.out HBD.out))
    have ad1:∀ w,(Op.stringOp .add A tx).run Tryz.prog w=.ok (.string (A++tx)) w:=fun w=>add_strT A tx (by omega) w
    have ad2:∀ w,(Op.stringOp .add (A++tx) K9).run Tryz.prog w=.ok (.string (A++tx++K9)) w:=fun w=>add_strT (A++tx) K9 (by rw[ByteArray.size_append];omega) w
    have hlti:(i:Int) < (N:Int):=by omega
    have hi0:(0:Int)<=(i:Int):=by omega
    clear hnm htx htb hws hw0 HST hl1 hl2 hdr hnd ha hkd HU hA2 hsz hK9 hkb CI
    go_wp2_with fail
    refine CD.out.mono ?_
    rintro e w2 ⟨rfl,rfl⟩
    clear CD
    go_wp2_with fail
    refine wp_region_held_drew (S:=fun w'=>w'.cell? ⟨g,off+i*4+2,none⟩=some (.string tx)/\w'.cell? ⟨g,off+i*4+3,none⟩=some (.slice kp km kc)) (by kernel_rfl) (by rw[<-hwd];exact⟨z2,z3⟩) (fun hHeld=>?_)
    rw[<-hwd] at hHeld ⊢
    clear hwd x0 x2 x3
    refine wpAnyH_at (i:=0) (v:=?vu1) (a1:=?xu1) rfl (by kernel_rfl) (by kernel_rfl) (by kernel_rfl) (fun _ _ _ h=>h) (Or.inl ⟨by rfl,?yu1⟩) (by assumption) ?hu1 ?zu1
    case yu1=>(intro w hSw;(try dsimp only at hSw);go_simp;try (with_reducible rfl))
    case hu1=>(go_simp;exact rfl)
    case zu1 =>
    refine wpAnyH_at (i:=1) (v:=?vu2) (a1:=?xu2) rfl (by kernel_rfl) (by kernel_rfl) (by kernel_rfl) (fun _ _ _ h=>h) (Or.inl ⟨by rfl,?yu2⟩) (by assumption) ?hu2 ?zu2
    case yu2=>(intro w hSw;(try dsimp only at hSw);go_simp;try (with_reducible rfl))
    case hu2=>(go_simp;exact rfl)
    case zu2 =>
    refine wpAnyH_at (i:=2) (v:=?vu3) (a1:=?xu3) rfl (by kernel_rfl) (by kernel_rfl) (by kernel_rfl) (fun _ _ _ h=>h) (Or.inl ⟨by rfl,?yu3⟩) (by assumption) ?hu3 ?zu3
    case yu3=>(intro w hSw;(try dsimp only at hSw);go_simp;try (with_reducible rfl))
    case hu3=>(go_simp;exact rfl)
    case zu3 =>
    refine wpAnyH_at (i:=3) (v:=?vu4) (a1:=?xu4) rfl (by kernel_rfl) (by kernel_rfl) (by kernel_rfl) (fun _ _ _ h=>h) (Or.inl ⟨by rfl,?yu4⟩) (by assumption) ?hu4 ?zu4
    case yu4=>(intro w hSw;(try dsimp only at hSw);go_simp;try (with_reducible rfl))
    case hu4=>(go_simp;exact rfl)
    case zu4 =>
    refine wpAnyH_at (i:=4) (v:=?vu5) (a1:=?xu5) rfl (by kernel_rfl) (by kernel_rfl) (by kernel_rfl) (fun _ _ _ h=>h) (Or.inl ⟨by rfl,?yu5⟩) (by assumption) ?hu5 ?zu5
    case yu5=>(intro w hSw;(try dsimp only at hSw);go_simp;try (with_reducible rfl))
    case hu5=>(go_simp;exact rfl)
    case zu5 =>
    refine wpAnyH_at (i:=5) (v:=?vu6) (a1:=?xu6) rfl (by kernel_rfl) (by kernel_rfl) (by kernel_rfl) (fun _ _ _ h=>h) (Or.inl ⟨by rfl,?yu6⟩) (by assumption) ?hu6 ?zu6
    case yu6=>(intro w hSw;(try dsimp only at hSw);go_simp;try (with_reducible rfl))
    case hu6=>(go_simp;exact rfl)
    case zu6 =>
    refine wpAnyH_at (i:=6) (v:=?vu7) (a1:=?xu7) rfl (by kernel_rfl) (by kernel_rfl) (by kernel_rfl) (fun _ _ _ h=>h) (Or.inl ⟨by rfl,?yu7⟩) (by assumption) ?hu7 ?zu7
    case yu7=>(intro w hSw;(try dsimp only at hSw);go_simp;try (with_reducible rfl))
    case hu7=>(go_simp;exact rfl)
    case zu7 =>
    refine wpAnyH_at (i:=7) (v:=?vu8) (a1:=?xu8) rfl (by kernel_rfl) (by kernel_rfl) (by kernel_rfl) (fun _ _ _ h=>h) (Or.inl ⟨by rfl,?yu8⟩) (by assumption) ?hu8 ?zu8
    case yu8=>(intro w hSw;(try dsimp only at hSw);go_simp;try (with_reducible rfl))
    case hu8=>(go_simp;exact rfl)
    case zu8 =>
    refine wpAnyH_at (i:=8) (v:=?vu9) (a1:=?xu9) rfl (by kernel_rfl) (by kernel_rfl) (by kernel_rfl) (fun _ _ _ h=>h) (Or.inl ⟨by rfl,?yu9⟩) (by assumption) ?hu9 ?zu9
    case yu9=>(intro w hSw;(try dsimp only at hSw);go_simp;try (with_reducible rfl))
    case hu9=>(go_simp;exact rfl)
    case zu9 =>
    refine wpAnyH_at (i:=9) (v:=?vu10) (a1:=?xu10) rfl (by kernel_rfl) (by kernel_rfl) (by kernel_rfl) (fun _ _ _ h=>h) (Or.inl ⟨by rfl,?yu10⟩) (by assumption) ?hu10 ?zu10
    case yu10=>(intro w hSw;(try dsimp only at hSw);go_simp;try (with_reducible rfl))
    case hu10=>(go_simp;exact rfl)
    case zu10 =>
    refine wpAnyH_at (i:=10) (v:=?vu11) (a1:=?xu11) rfl (by kernel_rfl) (by kernel_rfl) (by kernel_rfl) (fun _ _ _ h=>h) (Or.inl ⟨by rfl,?yu11⟩) (by assumption) ?hu11 ?zu11
    case yu11=>(intro w hSw;(try dsimp only at hSw);go_simp;try (with_reducible rfl))
    case hu11=>(go_simp;exact rfl)
    case zu11 =>
    refine wpAnyH_at (i:=11) (v:=?vu12) (a1:=?xu12) rfl (by kernel_rfl) (by kernel_rfl) (by kernel_rfl) (fun _ _ _ h=>h) (Or.inl ⟨by rfl,?yu12⟩) (by assumption) ?hu12 ?zu12
    case yu12=>(intro w hSw;(try dsimp only at hSw);go_simp;try (with_reducible rfl))
    case hu12=>(go_simp;exact rfl)
    case zu12 =>
    refine wpAnyH_ready (rs:=[12]) (by kernel_rfl) (by simp) ?_
    refine AllReadyH.cons rfl (fun K hK=>?_) AllReadyH.nil
    go_simp
    go_wp2_with fail
    refine CI2.out.mono ?_
    rintro e w3 ⟨rfl,h3⟩
    have hS3:w3.cell? ⟨g,off+i*4+2,none⟩=some (.string tx)/\w3.cell? ⟨g,off+i*4+3,none⟩=some (.slice kp km kc):=⟨cell_keep z2 h3,cell_keep z3 h3⟩
    have HB3:=hide (bel2 (bel2 HB.out HBD.out) h3)
    clear CI2 h3 z2 z3
    go_wp2_with fail
    refine hK.out _ _ hS3 (fun hHeld2=>?_)
    clear hK K hHeld hS3
    have hHeld:=hHeld2
    clear hHeld2
    refine wpAnyH_at (i:=13) (v:=?vu13) (a1:=?xu13) rfl (by kernel_rfl) (by kernel_rfl) (by kernel_rfl) (fun _ _ _ h=>h) (Or.inl ⟨by rfl,?yu13⟩) (by assumption) ?hu13 ?zu13
    case yu13=>(intro w hSw;(try dsimp only at hSw);go_simp;try (with_reducible rfl))
    case hu13=>(go_simp;exact rfl)
    case zu13 =>
    refine wpAnyH_at (i:=14) (v:=?vu14) (a1:=?xu14) rfl (by kernel_rfl) (by kernel_rfl) (by kernel_rfl) (fun _ _ _ h=>h) (Or.inl ⟨by rfl,?yu14⟩) (by assumption) ?hu14 ?zu14
    case yu14=>(intro w hSw;(try dsimp only at hSw);go_simp;try (with_reducible rfl))
    case hu14=>(go_simp;exact rfl)
    case zu14 =>
    clear hHeld
    refine wpAnyH_done (by kernel_rfl) ?_ _
    go_wp2_with fail
    go_roundg (gk - 1)
    case measure=>omega
    case rel=>exact⟨i+1,A++tx++K9,by omega,rfl,by first | rfl | simp,HSZ.out,hide ⟨HB3.out,HA2.out.symm⟩⟩
  ·have HFIN:Hid (A=⟨(San.allTL ns).toArray⟩):=hide (by
    have h:=HU.out.2
    rw[List.take_of_length_le (by have:=HN.out;omega)] at h
    apply bl_inj
    rw[h])
   have HB:=hide HU.out.1
   have hnl:¬ ((i:Int) < (N:Int)):=by omega
   clear HU hi
   go_wp2_with fail
   go_ret
   rw[HFIN.out]
   exact⟨rfl,HB.out⟩
set_option maxRecDepth 100000 in
set_option maxHeartbeats 32000000 in
theorem lawSanText_walk {v1 v2 v3 v4 v5:Value}{p:Pol}{l1 l2 l3 l4 l5:List ByteArray}{v:Value}{raw:List UInt8}(w:World)(hv:PolV w v1 v2 v3 v4 v5 p l1 l2 l3 l4 l5)(hr:Uf.IsBytes w v raw)(hg:To.Glob w)(hgm:To.GlobM w) :
  Calls Tryz.prog 8 #[pval p v1 v2 v3 v4 v5,v] w fun e w'=>e=.returned (.bool true)/\Below w.heap.size w w':=by
 have HV:=hide hv
 have HRW:=hide hr
 have HG:=hide (And.intro hg hgm)
 obtain⟨vp,vc,rfl⟩:∃ a c,v=.slice a raw.length c:=by
  rcases hr with⟨rfl,rfl⟩ | ⟨x,cap,rfl,-⟩
  ·exact⟨_,_,rfl⟩
  ·exact⟨_,_,rfl⟩
 obtain⟨N,hN⟩:∃ N,N=raw.length:=⟨_,rfl⟩
 rw[<-hN]
 obtain⟨o1,k1,rfl,-,-⟩:=hv.s1
 obtain⟨o2,k2,rfl,-,-⟩:=hv.s2
 obtain⟨o3,k3,rfl,-,-⟩:=hv.s3
 obtain⟨o4,k4,rfl,-,-⟩:=hv.s4
 obtain⟨o5,k5,rfl,-,-⟩:=hv.s5
 obtain⟨w1,hw1⟩:∃ w1,w1=w.alloc (.cells #[.int .i64 p.ep,.slice o1 (List.length l1) k1,.slice o2 (List.length l2) k2,.slice o3 (List.length l3) k3,.slice o4 (List.length l4) k4,.slice o5 (List.length l5) k5,.int .i64 p.dp,.int .i64 p.nd,.int .i64 p.bt] 24):=⟨_,rfl⟩
 have H1:Hid (BoxA w #[.int .i64 p.ep,.slice o1 (List.length l1) k1,.slice o2 (List.length l2) k2,.slice o3 (List.length l3) k3,.slice o4 (List.length l4) k4,.slice o5 (List.length l5) k5,.int .i64 p.dp,.int .i64 p.nd,.int .i64 p.bt] w1):=hide (by rw[hw1];exact BoxA.new _ _)
 have CA:=hide (san_awake w1 (HG.out.1.below H1.out.2) (HG.out.2.below H1.out.2))
 have CL:Hid (∀ wx,Below w.heap.size w wx->_):=hide (fun wx h=>rlight_any _ _ _ _ _ p _ _ _ _ _ wx (HV.out.below h))
 have CC:Hid (light p->N<=3000->∀ wx,Below w.heap.size w wx->Calls Tryz.prog 11 #[.agg #[.int .i64 p.ep,.slice o1 (List.length l1) k1,.slice o2 (List.length l2) k2,.slice o3 (List.length l3) k3,.slice o4 (List.length l4) k4,.slice o5 (List.length l5) k5,.int .i64 p.dp,.int .i64 p.nd,.int .i64 p.bt],.slice vp N vc] wx fun e w'=>e=.returned (.tuple #[.string ⟨(cleanX p raw).toArray⟩,.int .i64 (cleanE p raw)])/\Below wx.heap.size wx w'):=hide (fun hlt hn wx h=>by
  have h4:=fix_len4 raw
  have:=pclean_any (light_fits hlt) _ _ _ _ _ _ _ _ _ _ _ raw wx (HV.out.below h) (bytes_below HRW.out h) (by omega) (fun _=>by omega) (HG.out.1.below h) (HG.out.2.below h)
  rw[<-hN] at this
  exact this)
 have HNR:=hide hN
 clear hv hr hg hgm hN
 go_enter Tryz.func8,Tryz.ntmps8
 go_upto_region 1 with fail
 rw[<-hw1]
 clear hw1
 go_wp2_with fail
 refine CA.out.mono ?_
 rintro e w2 ⟨rfl,h2⟩
 have H2:=hide (H1.out.keep h2)
 have CL2:=hide (CL.out w2 H2.out.2)
 clear CA h2 H1 CL
 have y0:=tag_cell H2.out.1 0 _ rfl
 have y1:=tag_cell H2.out.1 1 _ rfl
 have y2:=tag_cell H2.out.1 2 _ rfl
 have y3:=tag_cell H2.out.1 3 _ rfl
 have y4:=tag_cell H2.out.1 4 _ rfl
 have y5:=tag_cell H2.out.1 5 _ rfl
 have y6:=tag_cell H2.out.1 6 _ rfl
 have y7:=tag_cell H2.out.1 7 _ rfl
 have y8:=tag_cell H2.out.1 8 _ rfl
 go_wp2_with fail
 refine CL2.out.mono ?_
 rintro e w3 ⟨⟨b1,rfl,hb1⟩,h3⟩
 have H3:=hide (H2.out.keep h3)
 have HB1:=hide hb1
 clear CL2 h3 hb1 H2 y0 y1 y2 y3 y4 y5 y6 y7 y8
 cases b1 with
 | false =>
  clear CC
  go_wp2_with fail
  go_ret
  exact⟨rfl,H3.out.2⟩
 | true =>
 have HLT:=hide (HB1.out rfl)
 clear HB1
 by_cases hn:N<=3000
 case neg =>
  have g1:3000 < N:=by omega
  clear CC hn
  go_wp2_with fail
  go_ret
  exact⟨rfl,H3.out.2⟩
 have g1:¬ (3000 < N):=by omega
 have HN3:=hide hn
 clear CC hn
 have CR:=hide (pright_any _ _ _ _ _ p _ _ _ _ _ w3 (HV.out.below H3.out.2) (light_fits HLT.out))
 have y0:=tag_cell H3.out.1 0 _ rfl
 have y1:=tag_cell H3.out.1 1 _ rfl
 have y2:=tag_cell H3.out.1 2 _ rfl
 have y3:=tag_cell H3.out.1 3 _ rfl
 have y4:=tag_cell H3.out.1 4 _ rfl
 have y5:=tag_cell H3.out.1 5 _ rfl
 have y6:=tag_cell H3.out.1 6 _ rfl
 have y7:=tag_cell H3.out.1 7 _ rfl
 have y8:=tag_cell H3.out.1 8 _ rfl
 go_wp2_with fail
 refine CR.out.mono ?_
 rintro e w4 ⟨rfl,h4⟩
 have H4:=hide (H3.out.keep h4)
 clear CR h4 H3 y0 y1 y2 y3 y4 y5 y6 y7 y8
 cases hrt:right p with
 | false =>
  clear hrt
  go_wp2_with fail
  go_ret
  exact⟨rfl,H4.out.2⟩
 | true =>
 have HRP:=hide ((right_iff p).1 hrt)
 have CF:=hide (Uf.fix_any _ raw w4 (bytes_below HRW.out H4.out.2) (by have:=HNR.out;have:=HN3.out;omega))
 rw[<-HNR.out] at CF
 obtain⟨S,hS⟩:∃ S:ByteArray,S=⟨(fix raw).toArray⟩:=⟨_,rfl⟩
 have hSb:bl S=fix raw:=by rw[hS]
 rw[<-hS] at CF
 have hSl:(bl S).length<=12000:=by rw[hSb];have:=fix_len4 raw;have:=HNR.out;have:=HN3.out;omega
 have CT:Hid (∀ wx,Below w.heap.size w wx->_):=hide (fun wx h=>To.tokens_any S wx (by rw[<-bl_len];omega) (HG.out.1.below h) (HG.out.2.below h))
 have CB:Hid (∀ wx (u:Value) (l:List (Tk × Value)) (B:Nat),To.ToksAt wx B u l->l.map Prod.fst=toks (bl S)->_):=hide (fun wx u l B h1 h2=>build_text wx B u l (bl S) h1 h2 (by omega))
 have HWS:Hid (∀ ns,buildT (toks (bl S))=some ns->wsL ns<=24001/\ncL ns<=2000/\San.plainL ns):=hide (fun ns h=>by
  have h1:=build_ws h
  exact⟨by omega,h1.1,(buildT_ok.nak _ _ h).2⟩)
 clear hrt hS hSb hSl HNR HN3 HRW
 go_wp2_with fail
 refine CF.out.mono ?_
 rintro e w5 ⟨rfl,h5⟩
 have H5:=hide (H4.out.keep h5)
 have CT2:=hide (CT.out w5 H5.out.2)
 clear CF h5 H4 CT
 go_wp2_with fail
 refine CT2.out.mono ?_
 rintro e w6 ⟨u,l,rfl,hl,htk,h6⟩
 have H6:=hide (H5.out.keep h6)
 have CB2:=hide (CB.out w6 u l _ htk hl)
 obtain⟨up,uc,rfl⟩:=own_len htk.1
 clear CT2 h6 H5 CB hl htk
 go_wp2_with fail
 refine CB2.out.mono ?_
 rintro e w7 ⟨⟨r,err,rfl,hno,hso⟩,h7⟩
 have H7:=hide (H6.out.keep h7)
 clear CB2 h7 H6
 cases hb:buildT (toks (bl S)) with
 | none =>
  obtain⟨rfl,rfl⟩:=hno hb
  clear hno hso hb HWS
  go_wp2_with fail
  go_ret
  exact⟨rfl,H7.out.2⟩
 | some ns =>
 obtain⟨rfl,hna⟩:=hso ns hb
 obtain⟨hw,hnc,hpl⟩:=HWS.out ns hb
 obtain⟨d,hnd⟩:=hna
 have CX:=hide (ptree_any HRP.out (light_fits HLT.out) _ _ _ _ _ _ _ _ _ _ d w7 r ns (HV.out.below H7.out.2) hnd (by omega))
 have hwt:=San.ws_tree p ns
 have HT:Hid (San.txL (San.treeL p ns)=San.allTL ns):=hide (San.tree_text p HRP.out ns hpl)
 have CA:Hid (∀ wx,Below w7.heap.size w7 wx->_):=hide (fun wx h=>all_nst d wx r ns (hnd.below h) (by omega))
 have CTX:Hid (∀ wx (x:Value) (fp:List Nat) (B:Nat),KAt wx B x (San.treeL p ns) fp->_):=hide (fun wx x fp B h=>text_nst wx x (San.treeL p ns) ⟨_,kat_nat _ x _ fp (Nat.le_refl _) (by omega) h⟩ (by have:=xtL_len (San.treeL p ns);omega))
 obtain⟨rp,rm,rc,rfl⟩:=nat_slice ⟨d,hnd⟩
 clear hno hso hb HWS hw hnc hpl hnd hwt
 have y0:=tag_cell H7.out.1 0 _ rfl
 have y1:=tag_cell H7.out.1 1 _ rfl
 have y2:=tag_cell H7.out.1 2 _ rfl
 have y3:=tag_cell H7.out.1 3 _ rfl
 have y4:=tag_cell H7.out.1 4 _ rfl
 have y5:=tag_cell H7.out.1 5 _ rfl
 have y6:=tag_cell H7.out.1 6 _ rfl
 have y7:=tag_cell H7.out.1 7 _ rfl
 have y8:=tag_cell H7.out.1 8 _ rfl
 go_wp2_with fail
 refine CX.out.mono ?_
 rintro e w8 ⟨⟨x,fp,rfl,hk⟩,h8⟩
 have H8:=hide (H7.out.keep h8)
 have HB8:=hide h8
 have CT3:=hide (CTX.out w8 x fp _ hk)
 obtain⟨xp,xc,rfl⟩:=kat_slice hk
 clear CX CTX hk h8 H7 y0 y1 y2 y3 y4 y5 y6 y7 y8
 go_wp2_with fail
 refine CT3.out.mono ?_
 rintro e w9 ⟨⟨O,rfl,hO⟩,h9⟩
 have H9:=hide (H8.out.keep h9)
 have CA2:=hide (CA.out w9 (bel2 HB8.out h9))
 clear CT3 h9 H8 CA
 go_wp2_with fail
 refine CA2.out.mono ?_
 rintro e w10 ⟨rfl,h10⟩
 have HB:=hide (bel2 H9.out.2 h10)
 have hOS:O=⟨(San.allTL ns).toArray⟩:=by
  apply bl_inj
  rw[hO,HT.out]
 subst hOS
 clear CA2 h10 H9 hO HT
 go_wp2_with fail
 go_ret
 exact⟨ret_bool (by simp),HB.out⟩
end Go.Proofs.YtkiofbikkhhdfaaGreatDoor.Dm
