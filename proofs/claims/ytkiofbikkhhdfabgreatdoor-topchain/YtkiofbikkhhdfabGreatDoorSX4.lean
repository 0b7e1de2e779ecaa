import Derived.Test.YtkiofbikkhhdfabGreatDoorSX3
import Derived.Test.YtkiofbikkhhdfabGreatDoorK06
set_option maxRecDepth 100000
set_option maxHeartbeats 16000000
namespace Go.Proofs.YtkiofbikkhhdfabGreatDoor
open Go.RowKit
open Utf1 Pol8
theorem infoAt2:(Tryz.prog.info? 108).map (fun i=>(i.zero,i.size,i.bytes))=some (some (.agg #[.string ⟨#[]⟩,.string ⟨#[]⟩]),2,32):=by kernel_rfl
theorem two_newB (w:World) (a b:Value) (t:TypeId):∀ j u,[a,b][j]?=some u->(w.alloc (.cells #[a,b] t)).cell? ((⟨w.heap.size,0,none⟩:Addr).add j)=some u:=by
 intro j u h
 rw[add_plain,Nat.zero_add]
 match j,h with
 | 0,h=>simp at h;subst h;simp
 | 1,h=>simp at h;subst h;simp
 | j+2,h=>simp at h
theorem own_lower {w:World}{base base':Nat}{e:TypeId}{size:Nat}{v:Value}{n:Nat}{xs:List Value}(h:w.ownsRow base e size v n xs)(hb:base'<=base):w.ownsRow base' e size v n xs:=by
 obtain⟨h1,h2 | ⟨g,cap,cur,e,h3,h4⟩⟩:=h
 ·exact⟨h1,.inl h2⟩
 ·exact⟨h1,.inr ⟨g,cap,cur,e,Nat.le_trans hb h3,h4⟩⟩
structure AtN (w:World) (A C:Array Value) (u:Value) (k:Saf.At) (wx:World):Prop where
 p:wx.heap[w.heap.size]?=some (.cells A 24 (0,0))
 n:wx.heap[w.heap.size+1]?=some (.cells C 80 (0,0))
 b:Below w.heap.size w wx
 o:wx.ownsRow (w.heap.size+2) 108 2 u k.length (Dm.attrCells k)
theorem AtN.keep {w wx wy:World}{A C:Array Value}{u:Value}{k:Saf.At}(h:AtN w A C u k wx)(hb:Below wx.heap.size wx wy):AtN w A C u k wy :=
 ⟨(hb.block _ (lt_of_block h.p)).trans h.p,(hb.block _ (lt_of_block h.n)).trans h.n,bel2 h.b hb,h.o.kept (row:=none) (below_grown hb) (Classical.em _)⟩
structure AtX (w:World) (A C:Array Value) (u:Value) (k:Saf.At) (B:Nat) (X Y:ByteArray) (wx:World):Prop where
 s:AtN w A C u k wx
 x:wx.heap[B]?=some (.cells #[.string X,.string Y] 108 (0,0))
 ne:u.ownBlock≠some B
theorem AtX.keep {w wx wy:World}{A C:Array Value}{u:Value}{k:Saf.At}{B:Nat}{X Y:ByteArray}(h:AtX w A C u k B X Y wx)(hb:Below wx.heap.size wx wy):AtX w A C u k B X Y wy :=
 ⟨h.s.keep hb,(hb.block _ (lt_of_block h.x)).trans h.x,h.ne⟩
theorem AtX.new {w wz:World}{A C:Array Value}{u:Value}{k:Saf.At}(h:AtN w A C u k wz) (X Y:ByteArray):AtX w A C u k wz.heap.size X Y (wz.alloc (.cells #[.string X,.string Y] 108)) :=
 ⟨h.keep (bel_alloc (Below.refl _ _) _),new_block _ _ _,fun e=>by have:=(own_block h.o e).2;omega⟩
theorem AtN.more {w wx wy:World}{A C:Array Value}{u u':Value}{k k':Saf.At}{o:Obj}(h:AtN w A C u k wx)(hg:(wx.alloc o).grownBy wy u.ownBlock)(ho:wy.ownsRow (w.heap.size+2) 108 2 u' k'.length (Dm.attrCells k')):AtN w A C u' k' wy:=by
 have hb:∀ kk,u.ownBlock=some kk->w.heap.size+2<=kk:=fun kk hk=>(own_block h.o hk).1
 have h1:=lt_of_block h.p
 have h2:=lt_of_block h.n
 refine⟨?_,?_,(h.b.alloc h.b.size _).grown hg (by simp;omega) (fun kk hk=>by have:=hb kk hk;omega),ho⟩
 ·rw[hg.block w.heap.size (by simp;omega) (fun e=>by have:=hb _ e.symm;omega),Below.heap_alloc _ _ _ h1]
  exact h.p
 ·rw[hg.block (w.heap.size+1) (by simp;omega) (fun e=>by have:=hb _ e.symm;omega),Below.heap_alloc _ _ _ h2]
  exact h.n
theorem pattrsOf_any (v1 v2 v3 v4 v5:Value) (p:Pol) (l1 l2 l3 l4 l5:List ByteArray)(hf:fits p) (e tx:ByteArray) (ap kp:Option Addr) (am ac km kc:Nat) (at':Saf.At) (w:World)(hv:PolV w v1 v2 v3 v4 v5 p l1 l2 l3 l4 l5)(har:Dm.ARow w ap am at')(he:e.size<=100000)(ham:am<=100000)(hz:∀ kv∈at',kv.1.length<=90000/\kv.2.length<=90000) :
  Calls Tryz.prog 133 #[pval p v1 v2 v3 v4 v5,.agg #[.string e,.slice ap am ac,.string tx,.slice kp km kc]] w fun r w'=>(∃ u,r=.returned u/\w'.ownsRow w.heap.size 108 2 u (San.attrsP p (bl e) at').length (Dm.attrCells (San.attrsP p (bl e) at')))/\Below w.heap.size w w':=by
 obtain⟨i0,hi,hz0,hz1,hz2⟩:=info_parts infoAt2
 have HAR:=hide har
 have HV:=hide hv
 have HF:=hide hf
 have HZ:=hide hz
 have HML:=hide har.1.1
 obtain⟨o1,k1,rfl,-,-⟩:=hv.s1
 obtain⟨o2,k2,rfl,-,-⟩:=hv.s2
 obtain⟨o3,k3,rfl,-,-⟩:=hv.s3
 obtain⟨o4,k4,rfl,-,-⟩:=hv.s4
 obtain⟨o5,k5,rfl,-,-⟩:=hv.s5
 obtain⟨w1,hw1⟩:∃ w1,w1=(w.alloc (.cells #[.int .i64 p.ep,.slice o1 (List.length l1) k1,.slice o2 (List.length l2) k2,.slice o3 (List.length l3) k3,.slice o4 (List.length l4) k4,.slice o5 (List.length l5) k5,.int .i64 p.dp,.int .i64 p.nd,.int .i64 p.bt] 24)).alloc (.cells #[.string e,.slice ap am ac,.string tx,.slice kp km kc] 80):=⟨_,rfl⟩
 have H1:Hid (AtN w #[.int .i64 p.ep,.slice o1 (List.length l1) k1,.slice o2 (List.length l2) k2,.slice o3 (List.length l3) k3,.slice o4 (List.length l4) k4,.slice o5 (List.length l5) k5,.int .i64 p.dp,.int .i64 p.nd,.int .i64 p.bt] #[.string e,.slice ap am ac,.string tx,.slice kp km kc] (.slice none 0 0) [] w1):=hide (by
  rw[hw1]
  have e1:(w.alloc (.cells #[.int .i64 p.ep,.slice o1 (List.length l1) k1,.slice o2 (List.length l2) k2,.slice o3 (List.length l3) k3,.slice o4 (List.length l4) k4,.slice o5 (List.length l5) k5,.int .i64 p.dp,.int .i64 p.nd,.int .i64 p.bt] 24)).heap.size=w.heap.size+1:=by simp
  refine⟨?_,?_,bel_alloc (bel_alloc (Below.refl _ _) _) _,rfl,.inl ⟨rfl,rfl⟩⟩
  ·rw[Below.heap_alloc _ _ _ (by rw[e1];omega)]
   exact new_block _ _ _
  ·have h:=new_block (w.alloc (.cells #[.int .i64 p.ep,.slice o1 (List.length l1) k1,.slice o2 (List.length l2) k2,.slice o3 (List.length l3) k3,.slice o4 (List.length l4) k4,.slice o5 (List.length l5) k5,.int .i64 p.dp,.int .i64 p.nd,.int .i64 p.bt] 24)) #[.string e,.slice ap am ac,.string tx,.slice kp km kc] 80
   rw[e1] at h
   exact h)
 have CV:Hid (∀ (X Y:ByteArray) wx,X.size<=100000->Y.size<=90000->Below w.heap.size w wx->Calls Tryz.prog 146 #[.agg #[.int .i64 p.ep,.slice o1 (List.length l1) k1,.slice o2 (List.length l2) k2,.slice o3 (List.length l3) k3,.slice o4 (List.length l4) k4,.slice o5 (List.length l5) k5,.int .i64 p.dp,.int .i64 p.nd,.int .i64 p.bt],.string e,.agg #[.string X,.string Y]] wx fun r w'=>(∃ (Z:ByteArray) (b:Bool),r=.returned (.tuple #[.string Z,.bool b])/\San.atP p (bl e) (bl X,bl Y)=if b=true then some (bl X,bl Z) else none)/\Below wx.heap.size wx w'):=hide (fun X Y wx hX hY h=>pvalueOf_any _ _ _ _ _ p _ _ _ _ _ e X Y wx (HV.out.below h) HF.out he hX hY)
 have g9:=eq_lit e [97]
 have y1:=tag_cell H1.out.n 1 _ rfl
 clear hv har hf hz
 go_enter Tryz.func133,Tryz.ntmps133
 go_upto_region 1 with fail
 rw[<-hw1]
 clear hw1
 go_wp2_with fail
 clear y1
 go_loopg [5,6,14] am (fun g v5 v6 v14 wx=>∃ (i m c:Nat) (q:Option Addr) (k:Saf.At)(hb:Bool),i+g=am/\v5=.slice q m c/\v6=.bool hb/\v14=.int .i64 (i:Int)/\m<=i/\Hid (m=k.length/\AtN w #[.int .i64 p.ep,.slice o1 (List.length l1) k1,.slice o2 (List.length l2) k2,.slice o3 (List.length l3) k3,.slice o4 (List.length l4) k4,.slice o5 (List.length l5) k5,.int .i64 p.dp,.int .i64 p.nd,.int .i64 p.bt] #[.string e,.slice ap am ac,.string tx,.slice kp km kc] (.slice q m c) k wx/\k=San.atsP p (bl e) (at'.take i)/\hb=Saf.hasB k Saf.href))
 case atStart=>exact⟨0,0,0,none,[],false,by omega,rfl,rfl,rfl,by omega,hide ⟨rfl,H1.out,by rw[List.take_zero];rfl,rfl⟩⟩
 case round =>
  obtain⟨i,m,c,q,k,hb,hig,rfl,rfl,rfl,hmi,HU⟩:=hrel
  clear H1
  obtain⟨wz,hwz⟩:∃ wz,wz=wr:=⟨_,rfl⟩
  subst hwz
  by_cases hlt:i < am
  ·obtain⟨kv,hkv⟩:∃ kv,at'[i]?=some kv:=⟨_,List.getElem?_eq_getElem (by have:=HML.out;omega)⟩
   obtain⟨b,off,hap,c0,c1,-,-⟩:=HAR.out.2 i kv hkv
   have c0:=cell_keep c0 HU.out.2.1.b
   have c1:=cell_keep c1 HU.out.2.1.b
   obtain⟨X1,hX1⟩:∃ X:ByteArray,X=⟨kv.1.toArray⟩:=⟨_,rfl⟩
   obtain⟨X2,hX2⟩:∃ X:ByteArray,X=⟨kv.2.toArray⟩:=⟨_,rfl⟩
   rw[<-hX1] at c0
   rw[<-hX2] at c1
   have HX1:Hid (bl X1=kv.1):=hide (by rw[hX1])
   have HX2:Hid (bl X2=kv.2):=hide (by rw[hX2])
   have hzz:=HZ.out kv (List.mem_of_getElem? hkv)
   have hs1:X1.size<=90000:=by rw[<-bl_len,HX1.out];exact hzz.1
   have hs2:X2.size<=90000:=by rw[<-bl_len,HX2.out];exact hzz.2
   have HM:=hide HU.out.1
   have HK:Hid (San.atsP p (bl e) (at'.take (i+1))=k++(San.atP p (bl e) (bl X1,bl X2)).toList):=hide (by rw[San.atsP_next hkv,<-HU.out.2.2.1,HX1.out,HX2.out])
   have HH:=hide HU.out.2.2.2
   obtain⟨w2,hw2⟩:∃ w2,w2=wz.alloc (.cells #[.string X1,.string X2] 108):=⟨_,rfl⟩
   have H2:Hid (AtX w #[.int .i64 p.ep,.slice o1 (List.length l1) k1,.slice o2 (List.length l2) k2,.slice o3 (List.length l3) k3,.slice o4 (List.length l4) k4,.slice o5 (List.length l5) k5,.int .i64 p.dp,.int .i64 p.nd,.int .i64 p.bt] #[.string e,.slice ap am ac,.string tx,.slice kp km kc] (.slice q m c) k wz.heap.size X1 X2 w2):=hide (by rw[hw2];exact AtX.new HU.out.2.1 X1 X2)
   clear hX1 hX2 hkv hzz HU HX1 HX2
   subst hap
   go_upto_region 6 with fail
   rw[<-hw2]
   clear hw2 c0 c1
   have y0:=tag_cell H2.out.s.p 0 _ rfl
   have q1:=tag_cell H2.out.s.p 1 _ rfl
   have q2:=tag_cell H2.out.s.p 2 _ rfl
   have q3:=tag_cell H2.out.s.p 3 _ rfl
   have q4:=tag_cell H2.out.s.p 4 _ rfl
   have q5:=tag_cell H2.out.s.p 5 _ rfl
   have y6:=tag_cell H2.out.s.p 6 _ rfl
   have y7:=tag_cell H2.out.s.p 7 _ rfl
   have y8:=tag_cell H2.out.s.p 8 _ rfl
   have n0:=tag_cell H2.out.s.n 0 _ rfl
   have u0:=tag_cell H2.out.x 0 _ rfl
   have u1:=tag_cell H2.out.x 1 _ rfl
   have C1:=hide (CV.out X1 X2 w2 (by omega) (by omega) H2.out.s.b)
   go_wp2_with fail
   refine C1.out.mono ?_
   rintro r w3 ⟨⟨F,b,rfl,hat⟩,h3⟩
   have H3:=hide (H2.out.keep h3)
   have HAT:=hide hat
   clear h3 C1 H2 y0 q1 q2 q3 q4 q5 y6 y7 y8 n0 u0 u1 hat
   cases b with
   | false =>
    have HK2:Hid (k=San.atsP p (bl e) (at'.take (i+1))):=hide (by rw[HK.out,HAT.out];simp)
    clear HK HAT
    go_wp2_with fail
    go_roundg (am - i - 1)
    case measure=>omega
    case rel=>exact⟨i+1,m,c,q,k,hb,by omega,rfl,rfl,by first | rfl | simp,by omega,hide ⟨HM.out,H3.out.s,HK2.out,HH.out⟩⟩
   | true =>
    have HK2:Hid (k++[(bl X1,bl F)]=San.atsP p (bl e) (at'.take (i+1))):=hide (by rw[HK.out,HAT.out];rfl)
    have HH2:Hid (Saf.hasB (k++[(bl X1,bl F)]) Saf.href=(hb || decide (bl X1=[104,114,101,102]))):=hide (by rw[San.has_snoc,<-HH.out];rfl)
    have hh4:=eq_lit X1 [104,114,101,102]
    generalize decide (bl X1=[104,114,101,102])=t4 at hh4 HH2
    have u0:=tag_cell H3.out.x 0 _ rfl
    have CL:=hide (Dm.clone_any X1 w3 (by omega))
    clear HK HAT HH
    go_wp2_with fail
    refine CL.out.mono ?_
    rintro r w4 ⟨rfl,h4⟩
    have H4:=hide (H3.out.keep h4)
    clear CL h4 H3 u0
    have HOW:Hid ((w4.alloc (.cells #[.string X1,.string F] 108)).ownsRow (w.heap.size+2) 108 2 (.slice q m c) m (Dm.attrCells k)):=hide (by have h:=H4.out.s.o.alloc (.cells #[.string X1,.string F] 108);rw[<-HM.out] at h;exact h)
    have HSZ:Hid (w.heap.size+2<=(w4.alloc (.cells #[.string X1,.string F] 108)).heap.size):=hide (by have h1:=lt_of_block H4.out.s.n;simp;omega)
    go_wp2_with (at_builtin;refine wpList_append_own _ rfl _ _ 43 rfl (w.heap.size+2) 108 i0 _ 2 32 Tryz.underlying43 hi hz0 hz1 hz2 rfl (by decide) (.slice q m c) m (Dm.attrCells k) rfl HOW.out ⟨w4.heap.size,0,none⟩ 1 1 [.string X1,.string F] rfl rfl (two_newB _ _ _ _) (by simp[Value.oneCell']) (by unfold maxLen;omega) (by omega) HSZ.out ?_)
    intro u' w6 hown6 hg6 _
    obtain⟨p',c',rfl,-⟩:=own_shape hown6
    have HS6:Hid (AtN w #[.int .i64 p.ep,.slice o1 (List.length l1) k1,.slice o2 (List.length l2) k2,.slice o3 (List.length l3) k3,.slice o4 (List.length l4) k4,.slice o5 (List.length l5) k5,.int .i64 p.dp,.int .i64 p.nd,.int .i64 p.bt] #[.string e,.slice (some ⟨b,off,none⟩) am ac,.string tx,.slice kp km kc] (.slice p' (m+1) c') (k++[(bl X1,bl F)]) w6):=hide (H4.out.s.more hg6 (by
     rw[List.length_append,<-HM.out,Dm.attrCells_app]
     exact hown6))
    have u0:w6.cell? ⟨wz.heap.size,0,none⟩=some (.string X1):=by
     have hx:=lt_of_block H4.out.x
     refine tag_cell (cs:=#[.string X1,.string X2]) (t:=108) ?_ 0 _ rfl
     rw[hg6.block wz.heap.size (by simp;omega) (fun e=>H4.out.ne e.symm),Below.heap_alloc _ _ _ hx]
     exact H4.out.x
    clear hown6 hg6 HOW HSZ H4
    cases hb with
    | false =>
     go_wp2_with fail
     go_roundg (am - i - 1)
     case measure=>omega
     case rel=>exact⟨i+1,m+1,c',p',k++[(bl X1,bl F)],_,by omega,rfl,rfl,by first | rfl | simp,by omega,hide ⟨by rw[List.length_append,<-HM.out];rfl,HS6.out,HK2.out,by rw[HH2.out];first | rfl | simp⟩⟩
    | true =>
     go_wp2_with fail
     go_roundg (am - i - 1)
     case measure=>omega
     case rel=>exact⟨i+1,m+1,c',p',k++[(bl X1,bl F)],_,by omega,rfl,rfl,by first | rfl | simp,by omega,hide ⟨by rw[List.length_append,<-HM.out];rfl,HS6.out,HK2.out,by rw[HH2.out];first | rfl | simp⟩⟩
  ·have HM:=hide HU.out.1
   have HS:=hide HU.out.2.1
   have HK:Hid (k=San.atsP p (bl e) at'):=hide (by rw[HU.out.2.2.1,List.take_of_length_le (by have:=HML.out;omega)])
   have HH:=hide HU.out.2.2.2
   have n0:=tag_cell HS.out.n 0 _ rfl
   have hnl:¬ ((i:Int) < (am:Int)):=by omega
   have hm3:m<=100000:=by omega
   clear HU hig
   by_cases hcond:bl e=[97]/\hb=true
   ·obtain⟨ha,rfl⟩:=hcond
    rw[decide_eq_true ha] at g9
    have HR:Hid (San.attrsP p (bl e) at'=k++[(Saf.relN,Saf.forced)]):=hide (by unfold San.attrsP;rw[<-HK.out,if_pos ⟨ha,HH.out.symm⟩])
    have HOW:Hid ((wz.alloc (.cells #[.string ⟨#[114,101,108]⟩,.string ⟨#[110,111,102,111,108,108,111,119,32,110,111,111,112,101,110,101,114]⟩] 108)).ownsRow (w.heap.size+2) 108 2 (.slice q m c) m (Dm.attrCells k)):=hide (by have h:=HS.out.o.alloc (.cells #[.string ⟨#[114,101,108]⟩,.string ⟨#[110,111,102,111,108,108,111,119,32,110,111,111,112,101,110,101,114]⟩] 108);rw[<-HM.out] at h;exact h)
    have HSZ:Hid (w.heap.size+2<=(wz.alloc (.cells #[.string ⟨#[114,101,108]⟩,.string ⟨#[110,111,102,111,108,108,111,119,32,110,111,111,112,101,110,101,114]⟩] 108)).heap.size):=hide (by have h1:=lt_of_block HS.out.n;simp;omega)
    clear ha HK HH
    go_wp2_with (at_builtin;refine wpList_append_own _ rfl _ _ 43 rfl (w.heap.size+2) 108 i0 _ 2 32 Tryz.underlying43 hi hz0 hz1 hz2 rfl (by decide) (.slice q m c) m (Dm.attrCells k) rfl HOW.out ⟨wz.heap.size,0,none⟩ 1 1 [.string ⟨#[114,101,108]⟩,.string ⟨#[110,111,102,111,108,108,111,119,32,110,111,111,112,101,110,101,114]⟩] rfl rfl (two_newB _ _ _ _) (by simp[Value.oneCell']) (by unfold maxLen;omega) (by omega) HSZ.out ?_)
    intro u' w6 hown6 hg6 _
    obtain⟨p',c',rfl,-⟩:=own_shape hown6
    have HS6:Hid (AtN w #[.int .i64 p.ep,.slice o1 (List.length l1) k1,.slice o2 (List.length l2) k2,.slice o3 (List.length l3) k3,.slice o4 (List.length l4) k4,.slice o5 (List.length l5) k5,.int .i64 p.dp,.int .i64 p.nd,.int .i64 p.bt] #[.string e,.slice ap am ac,.string tx,.slice kp km kc] (.slice p' (m+1) c') (k++[(Saf.relN,Saf.forced)]) w6):=hide (HS.out.more hg6 (by
     rw[List.length_append,<-HM.out,Dm.attrCells_app]
     exact hown6))
    have HLN:Hid ((k++[(Saf.relN,Saf.forced)]).length=m+1):=hide (by rw[List.length_append,<-HM.out];rfl)
    clear hown6 hg6 HOW HSZ
    go_wp2_with fail
    go_ret
    rw[HR.out]
    exact⟨⟨_,rfl,own_lower HS6.out.o (by omega)⟩,HS6.out.b⟩
   ·have HR:Hid (San.attrsP p (bl e) at'=k):=hide (by unfold San.attrsP;rw[<-HK.out,if_neg (fun h=>hcond ⟨h.1,HH.out.trans h.2⟩)])
    clear HK HH
    by_cases ha:bl e=[97]
    ·rw[decide_eq_true ha] at g9
     cases hb with
     | true=>exact absurd ⟨ha,rfl⟩ hcond
     | false =>
      clear ha hcond
      go_wp2_with fail
      go_ret
      rw[HR.out]
      exact⟨⟨_,rfl,own_lower HS.out.o (by omega)⟩,HS.out.b⟩
    ·rw[decide_eq_false ha] at g9
     clear ha hcond
     go_wp2_with fail
     go_ret
     rw[HR.out]
     exact⟨⟨_,rfl,own_lower HS.out.o (by omega)⟩,HS.out.b⟩
end Go.Proofs.YtkiofbikkhhdfabGreatDoor
