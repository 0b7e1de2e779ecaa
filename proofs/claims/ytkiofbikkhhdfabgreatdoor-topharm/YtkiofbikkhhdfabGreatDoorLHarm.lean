import Derived.Test.YtkiofbikkhhdfabGreatDoorLTopA
namespace Go.Proofs.YtkiofbikkhhdfabGreatDoor.Dm
open Go.RowKit
open Utf1 Pol8
def badA (n:L):Bool:=(decide (1 < n.length) && decide (n.take 2=[111,110])) || decide (n=srcdoc) || decide (n=formaction)
theorem attr_harm {p:Pol}(hp:Right p) {e n:L}(he:e∈p.el)(h:attrB p e n=true):badA n=false:=by
 unfold attrB at h
 rw[Bool.and_eq_true,decide_eq_true_eq,decide_eq_true_eq] at h
 have key:∀ x:L,(46:UInt8) ∉ x->x++46 :: n∈p.at_->badA n=false:=by
  intro x hx hm
  have:=hp.ao _ hm
  unfold attrOk at this
  rw[dot_some x n hx] at this
  simp only[Bool.and_eq_true] at this
  have hm:=this.2
  unfold may at hm
  rw[Bool.and_eq_true,Bool.and_eq_true,decide_eq_true_eq] at hm
  have hon:=hm.2.1
  unfold badA
  rw[decide_eq_false hm.2.2.1,decide_eq_false hm.2.2.2.1,Bool.or_false,Bool.or_false,Bool.and_eq_false_iff]
  right
  refine decide_eq_false (fun e=>?_)
  unfold isOn at hon
  rw[decide_eq_true e] at hon
  cases hon
 rcases h.2 with h | h
 ·exact key [42] (by decide) h
 ·exact key e (Saf.word_46 (words_all hp.el e he)) h
theorem value_harm {p:Pol}(hp:Right p) {e n v:L}(h:Saf.valueB p e n v=true):badA n=false:=by
 unfold Saf.valueB at h
 rw[Bool.and_eq_true,decide_eq_true_eq] at h
 obtain⟨he,h⟩:=h
 by_cases h1:n=Saf.relN
 ·rw[h1]
  decide
 ·rw[if_neg h1] at h
  by_cases h2:n=Saf.styN
  ·rw[h2]
   decide
  ·rw[if_neg h2,Bool.and_eq_true] at h
   exact attr_harm hp he h.1
def okT (k:Tk):Prop:=(k.kind=2->San.dropB k.name=false)/\∀ kv∈k.attrs,badA kv.1=false
mutual
theorem tok_harmN {p:Pol}(hp:Right p):∀ x:Nd,Saf.innerN p x=true->∀ k∈tkN x,okT k
 | .mk n a t k,h=>by
  rw[tkN]
  by_cases hn:n=[]
  ·rw[if_pos hn]
   intro y hy
   rw[List.mem_singleton.1 hy]
   exact⟨(fun h=>by cases h),(fun kv hkv=>by cases hkv)⟩
  ·rw[if_neg hn]
   rw[Saf.innerN,if_neg hn] at h
   rw[Bool.and_eq_true,Bool.and_eq_true,Bool.and_eq_true,decide_eq_true_eq,List.all_eq_true] at h
   have ha:∀ kv∈a,Saf.valueB p n kv.1 kv.2=true:=h.1
   have he:n∈p.el:=h.2.1
   have hk:Saf.innerL p k=true:=h.2.2.2
   intro y hy
   rcases List.mem_cons.1 hy with rfl | hy
   ·exact⟨fun _=>(San.may_elem hp he).2.1,fun kv hkv=>value_harm hp (ha kv hkv)⟩
   ·split at hy
    ·cases hy
    ·rcases List.mem_append.1 hy with hy | hy
     ·exact tok_harmL hp k hk y hy
     ·rw[List.mem_singleton.1 hy]
      exact⟨(fun h=>by cases h),(fun kv hkv=>by cases hkv)⟩
theorem tok_harmL {p:Pol}(hp:Right p):∀ l:List Nd,Saf.innerL p l=true->∀ k∈tkL l,okT k
 | [],_=>fun k hk=>by rw[tkL] at hk;cases hk
 | x :: r,h=>by
  rw[Saf.innerL,Bool.and_eq_true] at h
  rw[tkL]
  intro k hk
  rcases List.mem_append.1 hk with hk | hk
  ·exact tok_harmN hp x h.1 k hk
  ·exact tok_harmL hp r h.2 k hk
end
theorem toks_at {w:World}{B:Nat}{v:Value}{l:List (Tk × Value)}(h:To.ToksAt w B v l) {i:Nat}{q:Tk × Value}(hi:l[i]?=some q)(hz:waL q.1.attrs<=100000000):∃ g c ap am ac,v=.slice (some ⟨g,0,none⟩) l.length c/\w.cell? ⟨g,i*5,none⟩=some (.int .i64 (q.1.kind:Int))/\w.cell? ⟨g,i*5+1,none⟩=some (.string ⟨q.1.name.toArray⟩)/\w.cell? ⟨g,i*5+2,none⟩=some (.slice ap am ac)/\ARow w ap am q.1.attrs:=by
 have hlt:=(List.getElem?_eq_some_iff.1 hi).1
 obtain⟨g,c,e,hc⟩:=own_at h.1 (by omega)
 have ha:=h.2 q (List.mem_of_getElem? hi)
 rw[<-attr_same] at ha
 obtain⟨ap,ac,ev⟩:=own_len ha
 rw[ev] at ha
 have hj:∀ j,j < 5->w.cell? ⟨g,i*5+j,none⟩=(To.tokCells q.1 q.2)[j]?:=fun j hj=>(hc (i*5+j) (by omega)).trans (toksCells_at l i q hi j hj)
 obtain⟨ap',ac',ev',har⟩:=arow_own (a:=q.1.attrs) ha rfl hz
 injection ev' with e1 e2 e3
 refine⟨g,c,ap,_,ac,e,?_,?_,?_,e1 ▸ har⟩
 ·have:=hj 0 (by decide)
  rw[Nat.add_zero] at this
  rw[this]
  rfl
 ·rw[hj 1 (by decide)]
  rfl
 ·rw[hj 2 (by decide)]
  show some q.2=_
  rw[ev]
set_option maxRecDepth 100000 in
set_option maxHeartbeats 32000000 in
theorem bad_any (S:ByteArray) (t:List Nd) (w:World)(hS:bl S=htL t)(hst:stable t=true)(hw:wsL t<=400000)(hok:∀ k∈tkL t,okT k)(hg:To.Glob w)(hgm:To.GlobM w) :
  Calls Tryz.prog 24 #[.string S] w fun e w'=>e=.returned (.bool false)/\Below w.heap.size w w':=by
 have CT:=hide (read_page S t w hS hst hw hg hgm)
 have HOK:=hide hok
 have HWT:Hid (∀ k∈tkL t,waL k.attrs<=400000/\k.name.length<=400000):=hide (fun k hk=>by have:=tk_L t k hk;omega)
 clear hok hS hst hw hg hgm
 go_enter Tryz.func24,Tryz.ntmps24
 go_wp2_with fail
 refine CT.out.mono ?_
 rintro e w2 ⟨u,l,rfl,hl,htk,h2⟩
 have HB:=hide h2
 have HTA:Hid (∀ i q,l[i]?=some q->_):=hide (fun i q hi=>toks_at htk hi (by have:=HWT.out q.1 (by rw[<-hl];exact List.mem_map.2 ⟨q,List.mem_of_getElem? hi,rfl⟩);omega))
 have HQ:Hid (∀ (i:Nat) (q:Tk × Value),l[i]?=some q->okT q.1/\waL q.1.attrs<=400000):=hide (fun i q hi=>by
  have hm:q.1∈tkL t:=by rw[<-hl];exact List.mem_map.2 ⟨q,List.mem_of_getElem? hi,rfl⟩
  exact⟨HOK.out q.1 hm,(HWT.out q.1 hm).1⟩)
 have hlen:l.length<=9223372036854775807:=own_most htk.1
 obtain⟨up,uc,rfl⟩:=own_len htk.1
 obtain⟨M,hM⟩:∃ M,M=l.length:=⟨_,rfl⟩
 rw[<-hM] at hlen ⊢
 have HM:=hide hM
 clear CT h2 htk hl HOK HWT hM
 go_wp2_with fail
 go_loopg [4] M (fun g v wx=>∃ i:Nat,i+g=M/\v=.int .i64 (i:Int)/\wx=w2)
 case atStart=>exact⟨0,by omega,rfl,rfl⟩
 case round =>
  obtain⟨i,hi,rfl,rfl⟩:=hrel
  by_cases hlt:i < M
  ·obtain⟨q,hq⟩:∃ q,l[i]?=some q:=⟨_,List.getElem?_eq_getElem (by have:=HM.out;omega)⟩
   obtain⟨g,c,ap,am,ac,e,x0,x1,x2,har⟩:=HTA.out i q hq
   injection e with e1 e2 e3
   obtain⟨⟨hdr,hba⟩,hwa⟩:=HQ.out i q hq
   have HBA:=hide hba
   have HAR:=hide har
   have ham:am<=1000000:=by have:=har.1.1;have:=wa_len q.1.attrs;omega
   have hlti:(i:Int) < (M:Int):=by omega
   obtain⟨nm,hnm⟩:∃ X:ByteArray,X=⟨q.1.name.toArray⟩:=⟨_,rfl⟩
   rw[<-hnm] at x1
   have CD:=hide (pdropped_any nm wr)
   rw[show bl nm=q.1.name by rw[hnm]] at CD
   obtain⟨kd,hkd⟩:∃ kd:Int,kd=(q.1.kind:Int):=⟨_,rfl⟩
   rw[<-hkd] at x0
   have HIN:Hid (∀ (k:Nat) kv,q.1.attrs[k]?=some kv->∃ b off,ap=some ⟨b,off,none⟩/\wr.cell? ⟨b,off+k*2,none⟩=some (.string ⟨kv.1.toArray⟩)/\badA kv.1=false):=hide (fun k kv hk=>by
    obtain⟨b,off,hp,c0,-⟩:=HAR.out.2 k kv hk
    exact⟨b,off,hp,c0,HBA.out kv (List.mem_of_getElem? hk)⟩)
   have HAL:Hid (am=q.1.attrs.length):=hide har.1.1
   subst e1
   have INNERL:Hid True:=hide trivial
   by_cases hk2:q.1.kind=2
   ·have g2:(kd==2)=true:=by rw[hkd,hk2];rfl
    rw[hdr hk2] at CD
    clear hk2 hkd hdr hba hwa har hnm hq e2 e3 HBA HAR
    go_wp2_with fail
    refine CD.out.mono ?_
    rintro e w3 ⟨rfl,rfl⟩
    clear CD x0 x1
    go_wp2_with fail
    obtain⟨wo,hwo⟩:∃ wo,wo=w3:=⟨_,rfl⟩
    obtain⟨go,hgo⟩:∃ go,go=gk:=⟨_,rfl⟩
    rw[<-hwo] at HB HIN x2 HTA ⊢
    have HWO:=hide hwo
    clear hwo
    go_loopg [5] am (fun g v wx=>∃ k:Nat,k+g=am/\v=.int .i64 (k:Int)/\wx=wo)
    case atStart=>exact⟨0,by omega,rfl,rfl⟩
    case round =>
     obtain⟨k,hk,rfl,rfl⟩:=hrel
     by_cases hlk:k < am
     ·obtain⟨kv,hkv⟩:∃ kv,q.1.attrs[k]?=some kv:=⟨_,List.getElem?_eq_getElem (by have:=HAL.out;omega)⟩
      obtain⟨b,off,hap,c0,hbd⟩:=HIN.out k kv hkv
      obtain⟨A,hA⟩:∃ X:ByteArray,X=⟨kv.1.toArray⟩:=⟨_,rfl⟩
      rw[<-hA] at c0
      have hAb:bl A=kv.1:=by rw[hA]
      unfold badA at hbd
      rw[<-hAb,Bool.or_eq_false_iff,Bool.or_eq_false_iff,bl_len] at hbd
      obtain⟨⟨h1,h2⟩,h3⟩:=hbd
      have g3:=eq_lit A srcdoc
      have g4:=eq_lit A formaction
      rw[h2] at g3
      rw[h3] at g4
      unfold srcdoc at g3
      unfold formaction at g4
      have hlk2:(k:Int) < (am:Int):=by omega
      subst hap
      by_cases hl1:1 < A.size
      ·have g5:(1:Int) < (A.size:Int):=by omega
       have g7:¬ ((A.size:Int) < 2):=by omega
       have g6:((A.extract 0 2).toList==[111,110])=false:=by
        rw[eq_lit]
        rw[decide_eq_true hl1,Bool.true_and] at h1
        have e:bl (A.extract 0 2)=(bl A).take 2:=by simp[bl]
        rw[e]
        exact h1
       clear h1 h2 h3 hA hAb hkv
       go_wp2_with fail
       go_roundg (gk - 1)
       case measure=>omega
       case rel=>exact⟨k+1,by omega,by first | rfl | simp,rfl⟩
      ·have g5:¬ ((1:Int) < (A.size:Int)):=by omega
       clear h1 h2 h3 hA hAb hkv
       go_wp2_with fail
       go_roundg (gk - 1)
       case measure=>omega
       case rel=>exact⟨k+1,by omega,by first | rfl | simp,rfl⟩
     ·have hnk:¬ ((k:Int) < (am:Int)):=by omega
      clear hk
      go_wp2_with fail
      go_roundg (go - 1)
      case measure=>omega
      case rel=>exact⟨i+1,by omega,by first | rfl | simp,HWO.out⟩
   ·have g2:(kd==2)=false:=by
     rw[beq_eq_false_iff_ne,hkd]
     intro e
     exact hk2 (by omega)
    clear hk2 hkd hdr hba hwa har hnm hq e2 e3 HBA HAR CD x1
    go_wp2_with fail
    clear x0
    obtain⟨wo,hwo⟩:∃ wo,wo=wr:=⟨_,rfl⟩
    obtain⟨go,hgo⟩:∃ go,go=gk:=⟨_,rfl⟩
    rw[<-hwo] at HB HIN x2 HTA ⊢
    have HWO:=hide hwo
    clear hwo
    go_loopg [5] am (fun g v wx=>∃ k:Nat,k+g=am/\v=.int .i64 (k:Int)/\wx=wo)
    case atStart=>exact⟨0,by omega,rfl,rfl⟩
    case round =>
     obtain⟨k,hk,rfl,rfl⟩:=hrel
     by_cases hlk:k < am
     ·obtain⟨kv,hkv⟩:∃ kv,q.1.attrs[k]?=some kv:=⟨_,List.getElem?_eq_getElem (by have:=HAL.out;omega)⟩
      obtain⟨b,off,hap,c0,hbd⟩:=HIN.out k kv hkv
      obtain⟨A,hA⟩:∃ X:ByteArray,X=⟨kv.1.toArray⟩:=⟨_,rfl⟩
      rw[<-hA] at c0
      have hAb:bl A=kv.1:=by rw[hA]
      unfold badA at hbd
      rw[<-hAb,Bool.or_eq_false_iff,Bool.or_eq_false_iff,bl_len] at hbd
      obtain⟨⟨h1,h2⟩,h3⟩:=hbd
      have g3:=eq_lit A srcdoc
      have g4:=eq_lit A formaction
      rw[h2] at g3
      rw[h3] at g4
      unfold srcdoc at g3
      unfold formaction at g4
      have hlk2:(k:Int) < (am:Int):=by omega
      subst hap
      by_cases hl1:1 < A.size
      ·have g5:(1:Int) < (A.size:Int):=by omega
       have g7:¬ ((A.size:Int) < 2):=by omega
       have g6:((A.extract 0 2).toList==[111,110])=false:=by
        rw[eq_lit]
        rw[decide_eq_true hl1,Bool.true_and] at h1
        have e:bl (A.extract 0 2)=(bl A).take 2:=by simp[bl]
        rw[e]
        exact h1
       clear h1 h2 h3 hA hAb hkv
       go_wp2_with fail
       go_roundg (gk - 1)
       case measure=>omega
       case rel=>exact⟨k+1,by omega,by first | rfl | simp,rfl⟩
      ·have g5:¬ ((1:Int) < (A.size:Int)):=by omega
       clear h1 h2 h3 hA hAb hkv
       go_wp2_with fail
       go_roundg (gk - 1)
       case measure=>omega
       case rel=>exact⟨k+1,by omega,by first | rfl | simp,rfl⟩
     ·have hnk:¬ ((k:Int) < (am:Int)):=by omega
      clear hk
      go_wp2_with fail
      go_roundg (go - 1)
      case measure=>omega
      case rel=>exact⟨i+1,by omega,by first | rfl | simp,HWO.out⟩
  ·have hnl:¬ ((i:Int) < (M:Int)):=by omega
   clear hi
   go_wp2_with fail
   go_ret
   exact⟨rfl,HB.out⟩
set_option maxRecDepth 100000 in
set_option maxHeartbeats 32000000 in
theorem lawTopHarm_walk {v1 v2 v3 v4 v5:Value}{p:Pol}{l1 l2 l3 l4 l5:List ByteArray}{v:Value}{raw:List UInt8}(w:World)(hv:PolV w v1 v2 v3 v4 v5 p l1 l2 l3 l4 l5)(hr:Uf.IsBytes w v raw)(hg:To.Glob w)(hgm:To.GlobM w) :
  Calls Tryz.prog 7 #[pval p v1 v2 v3 v4 v5,v] w fun e w'=>e=.returned (.bool true)/\Below w.heap.size w w':=by
 have HV:=hide hv
 have HRW:=hide hr
 have HG:=hide (And.intro hg hgm)
 obtain⟨vp,vc,rfl⟩:∃ a c,v=.slice a raw.length c:=by
  rcases hr with⟨rfl,rfl⟩ | ⟨x,cap,rfl,-⟩
  ·exact⟨_,_,rfl⟩
  ·exact⟨_,_,rfl⟩
 obtain⟨N,hN⟩:∃ N,N=raw.length:=⟨_,rfl⟩
 rw[<-hN]
 obtain⟨o1,k1,rfl,-,-⟩:=hv.s1
 obtain⟨o2,k2,rfl,-,-⟩:=hv.s2
 obtain⟨o3,k3,rfl,-,-⟩:=hv.s3
 obtain⟨o4,k4,rfl,-,-⟩:=hv.s4
 obtain⟨o5,k5,rfl,-,-⟩:=hv.s5
 obtain⟨w1,hw1⟩:∃ w1,w1=w.alloc (.cells #[.int .i64 p.ep,.slice o1 (List.length l1) k1,.slice o2 (List.length l2) k2,.slice o3 (List.length l3) k3,.slice o4 (List.length l4) k4,.slice o5 (List.length l5) k5,.int .i64 p.dp,.int .i64 p.nd,.int .i64 p.bt] 24):=⟨_,rfl⟩
 have H1:Hid (BoxA w #[.int .i64 p.ep,.slice o1 (List.length l1) k1,.slice o2 (List.length l2) k2,.slice o3 (List.length l3) k3,.slice o4 (List.length l4) k4,.slice o5 (List.length l5) k5,.int .i64 p.dp,.int .i64 p.nd,.int .i64 p.bt] w1):=hide (by rw[hw1];exact BoxA.new _ _)
 have CA:=hide (top_awake w1 (HG.out.1.below H1.out.2) (HG.out.2.below H1.out.2))
 have CL:Hid (∀ wx,Below w.heap.size w wx->_):=hide (fun wx h=>rlight_any _ _ _ _ _ p _ _ _ _ _ wx (HV.out.below h))
 have CC:Hid (light p->N<=3000->∀ wx,Below w.heap.size w wx->Calls Tryz.prog 13 #[.agg #[.int .i64 p.ep,.slice o1 (List.length l1) k1,.slice o2 (List.length l2) k2,.slice o3 (List.length l3) k3,.slice o4 (List.length l4) k4,.slice o5 (List.length l5) k5,.int .i64 p.dp,.int .i64 p.nd,.int .i64 p.bt],.slice vp N vc] wx fun e w'=>e=.returned (.tuple #[.string ⟨(cleanX p raw).toArray⟩,.int .i64 (cleanE p raw)])/\Below wx.heap.size wx w'):=hide (fun hlt hn wx h=>by
  have h4:=fix_len4 raw
  have:=pclean_any (light_fits hlt) _ _ _ _ _ _ _ _ _ _ _ raw wx (HV.out.below h) (bytes_below HRW.out h) (by omega) (fun _=>by omega) (HG.out.1.below h) (HG.out.2.below h)
  rw[<-hN] at this
  exact this)
 have HNR:=hide hN
 clear hv hr hg hgm hN
 go_enter Tryz.func7,Tryz.ntmps7
 go_upto_region 1 with fail
 rw[<-hw1]
 clear hw1
 go_wp2_with fail
 refine CA.out.mono ?_
 rintro e w2 ⟨rfl,h2⟩
 have H2:=hide (H1.out.keep h2)
 have CL2:=hide (CL.out w2 H2.out.2)
 clear CA h2 H1 CL
 have y0:=tag_cell H2.out.1 0 _ rfl
 have y1:=tag_cell H2.out.1 1 _ rfl
 have y2:=tag_cell H2.out.1 2 _ rfl
 have y3:=tag_cell H2.out.1 3 _ rfl
 have y4:=tag_cell H2.out.1 4 _ rfl
 have y5:=tag_cell H2.out.1 5 _ rfl
 have y6:=tag_cell H2.out.1 6 _ rfl
 have y7:=tag_cell H2.out.1 7 _ rfl
 have y8:=tag_cell H2.out.1 8 _ rfl
 go_wp2_with fail
 refine CL2.out.mono ?_
 rintro e w3 ⟨⟨b1,rfl,hb1⟩,h3⟩
 have H3:=hide (H2.out.keep h3)
 have HB1:=hide hb1
 clear CL2 h3 hb1 H2 y0 y1 y2 y3 y4 y5 y6 y7 y8
 cases b1 with
 | false =>
  clear CC
  go_wp2_with fail
  go_ret
  exact⟨rfl,H3.out.2⟩
 | true =>
 have HLT:=hide (HB1.out rfl)
 clear HB1
 by_cases hn:N<=3000
 case neg =>
  have g1:3000 < N:=by omega
  clear CC hn
  go_wp2_with fail
  go_ret
  exact⟨rfl,H3.out.2⟩
 have g1:¬ (3000 < N):=by omega
 have HN3:=hide hn
 have CC2:=hide (CC.out HLT.out hn w3 H3.out.2)
 clear CC hn
 have y0:=tag_cell H3.out.1 0 _ rfl
 have y1:=tag_cell H3.out.1 1 _ rfl
 have y2:=tag_cell H3.out.1 2 _ rfl
 have y3:=tag_cell H3.out.1 3 _ rfl
 have y4:=tag_cell H3.out.1 4 _ rfl
 have y5:=tag_cell H3.out.1 5 _ rfl
 have y6:=tag_cell H3.out.1 6 _ rfl
 have y7:=tag_cell H3.out.1 7 _ rfl
 have y8:=tag_cell H3.out.1 8 _ rfl
 by_cases hok:right p=true/\(raw.length:Int)<=p.bt
 case neg =>
  have hX:cleanX p raw=[]:=by unfold cleanX;rw[if_neg hok]
  obtain⟨E,hE,hE0⟩:∃ E:Int,E=cleanE p raw/\(E==0)=false:=⟨_,rfl,by
   unfold cleanE
   split
   ·rename_i hr
    rw[if_neg (fun h=>hok ⟨hr,h⟩)]
    rfl
   ·rfl⟩
  rw[<-hE,hX] at CC2
  have CB:Hid (∀ wx,Below w.heap.size w wx->_):=hide (fun wx h=>bad_any ⟨#[]⟩ [] wx (by rw[htL]) (by decide +kernel) (by rw[wsL];omega) (fun k hk=>by rw[tkL] at hk;cases hk) (HG.out.1.below h) (HG.out.2.below h))
  clear hok hE hX
  go_wp2_with fail
  refine CC2.out.mono ?_
  rintro e w4 ⟨rfl,h4⟩
  have H4:=hide (H3.out.keep h4)
  have CB2:=hide (CB.out w4 H4.out.2)
  clear CC2 h4 H3 y0 y1 y2 y3 y4 y5 y6 y7 y8 CB
  go_wp2_with fail
  refine CB2.out.mono ?_
  rintro e w5 ⟨rfl,h5⟩
  have HB:=hide (bel2 H4.out.2 h5)
  clear CB2 h5 H4
  go_wp2_with fail
  go_ret
  exact⟨rfl,HB.out⟩
 have hRP:=(right_iff p).1 hok.1
 obtain⟨t,hsf,ht,hbt,hsm,hnc,hws,hpl⟩:=clean_sm hRP (s:=fix raw) (by have:=fix_len4 raw;have:=HN3.out;have:=HNR.out;omega)
 have hE:cleanE p raw=0:=by unfold cleanE;rw[if_pos hok.1,if_pos hok.2]
 have hX:cleanX p raw=htL t:=by unfold cleanX;rw[if_pos hok,ht]
 rw[hE,hX] at CC2
 obtain⟨S,hS⟩:∃ S:ByteArray,S=⟨(htL t).toArray⟩:=⟨_,rfl⟩
 have hSb:bl S=htL t:=by rw[hS]
 rw[<-hS] at CC2
 have hst:=(San.safe_stable hsf).1
 have hin:Saf.innerL p t=true:=((Saf.safe_iff _ _).1 hsf).i
 have CB:Hid (∀ wx,Below w.heap.size w wx->_):=hide (fun wx h=>bad_any S t wx hSb hst (by omega) (tok_harmL hRP t hin) (HG.out.1.below h) (HG.out.2.below h))
 clear hok hE hX hS hsf ht hbt hsm hnc hws hst HNR hSb hpl hRP hin
 go_wp2_with fail
 refine CC2.out.mono ?_
 rintro e w4 ⟨rfl,h4⟩
 have H4:=hide (H3.out.keep h4)
 have CB2:=hide (CB.out w4 H4.out.2)
 clear CC2 h4 H3 y0 y1 y2 y3 y4 y5 y6 y7 y8 CB
 go_wp2_with fail
 refine CB2.out.mono ?_
 rintro e w5 ⟨rfl,h5⟩
 have HB:=hide (bel2 H4.out.2 h5)
 clear CB2 h5 H4
 go_wp2_with fail
 go_ret
 exact⟨rfl,HB.out⟩
end Go.Proofs.YtkiofbikkhhdfabGreatDoor.Dm
