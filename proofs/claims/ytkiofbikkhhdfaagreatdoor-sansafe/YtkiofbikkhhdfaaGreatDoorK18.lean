import Derived.Test.YtkiofbikkhhdfaaGreatDoorK05
import Derived.KernelRfl
import Derived.Test.YtkiofbikkhhdfaaGreatDoorK16
import Derived.Test.YtkiofbikkhhdfaaGreatDoorK17
namespace Pol8
def Pol.lists (p:Pol):List (List L):=[p.el,p.at_,p.sc,p.cl,p.pr]
def sizeL (l:List L):Nat:=(l.map fun x=>x.length).sum
def sizeM (l:List L):Nat:=(l.map fun x=>min x.length 10000).sum
def light (p:Pol):Prop:=(∀ l∈p.lists,l.length<=100)/\(p.lists.map sizeL).sum < 6000
theorem mem_sum:∀ (l:List Nat) (x:Nat),x∈l->x<=l.sum
 | y :: l,x,h=>by
  rw[List.sum_cons]
  rcases List.mem_cons.1 h with rfl | h
  ·omega
  ·have:=mem_sum l x h
   omega
theorem sizeM_eq:∀ (l:List L),sizeM l < 6000->sizeM l=sizeL l
 | [],_=>rfl
 | x :: l,h=>by
  have e:sizeM (x :: l)=min x.length 10000+sizeM l:=by simp[sizeM]
  have e2:sizeL (x :: l)=x.length+sizeL l:=by simp[sizeL]
  rw[e] at h
  have:=sizeM_eq l (by omega)
  rw[e,e2,this]
  omega
theorem sizeMs_eq:∀ (ls:List (List L)),(ls.map sizeM).sum < 6000->(ls.map sizeM).sum=(ls.map sizeL).sum
 | [],_=>rfl
 | l :: ls,h=>by
  rw[List.map_cons,List.sum_cons] at h
  rw[List.map_cons,List.sum_cons,List.map_cons,List.sum_cons,sizeM_eq l (by omega),sizeMs_eq ls (by omega)]
theorem sizeM_step (l:List L) (k:Nat) (x:L)(h:l[k]?=some x):sizeM (l.take (k+1))=sizeM (l.take k)+min x.length 10000:=by
 rw[List.take_add_one,h]
 simp[sizeM]
theorem sizeMs_step (ls:List (List L)) (k:Nat) (l:List L)(h:ls[k]?=some l):((ls.take (k+1)).map sizeM).sum=((ls.take k).map sizeM).sum+sizeM l:=by
 rw[List.take_add_one,h]
 simp
end Pol8
namespace Go.Proofs.YtkiofbikkhhdfaaGreatDoor
open Go.RowKit
open Utf1 Pol8
theorem light_fits {p:Pol}(h:light p):fits p:=by
 intro l hl
 have h1:=h.1 l hl
 refine⟨by omega,fun x hx=>?_⟩
 have h2:=mem_sum _ _ (List.mem_map_of_mem (f:=sizeL) (l:=p.lists) hl)
 have h3:=mem_sum _ _ (List.mem_map_of_mem (f:=fun x:L=>x.length) hx)
 have h4:=h.2
 have e:sizeL l=(l.map fun x=>x.length).sum:=rfl
 omega
theorem five {α:Type}{P:Nat->α->Prop}{a b c d e:α}(h0:P 0 a)(h1:P 1 b)(h2:P 2 c)(h3:P 3 d)(h4:P 4 e):∀ i x,[a,b,c,d,e][i]?=some x->P i x:=by
 intro i x h
 match i,h with
 | 0,h=>simp at h;subst h;exact h0
 | 1,h=>simp at h;subst h;exact h1
 | 2,h=>simp at h;subst h;exact h2
 | 3,h=>simp at h;subst h;exact h3
 | 4,h=>simp at h;subst h;exact h4
 | i+5,h=>simp at h
set_option maxRecDepth 100000 in
set_option maxHeartbeats 16000000 in
theorem rlight_any (v1 v2 v3 v4 v5:Value) (p:Pol) (l1 l2 l3 l4 l5:List ByteArray) (w:World)(hv:PolV w v1 v2 v3 v4 v5 p l1 l2 l3 l4 l5) :
  Calls Tryz.prog 10 #[.agg #[.int .i64 p.ep,v1,v2,v3,v4,v5,.int .i64 p.dp,.int .i64 p.nd,.int .i64 p.bt]] w fun e w'=>(∃ b:Bool,e=.returned (.bool b)/\(b=true->light p))/\Below w.heap.size w w':=by
 obtain⟨A,hA⟩:∃ A:Array Value,A=#[.int .i64 p.ep,v1,v2,v3,v4,v5,.int .i64 p.dp,.int .i64 p.nd,.int .i64 p.bt]:=⟨_,rfl⟩
 obtain⟨w1,hw1⟩:∃ w1,w1=w.alloc (.cells A 24):=⟨_,rfl⟩
 have HN:Hid (BoxP w A w1):=hide (by rw[hw1];exact⟨new_block _ _ _,bel_alloc (Below.refl _ _) _⟩)
 have hsz:w1.heap.size=w.heap.size+1:=by rw[hw1];simp
 have y1:=HN.out.cell 1 v1 (by rw[hA];rfl)
 have y2:=HN.out.cell 2 v2 (by rw[hA];rfl)
 have y3:=HN.out.cell 3 v3 (by rw[hA];rfl)
 have y4:=HN.out.cell 4 v4 (by rw[hA];rfl)
 have y5:=HN.out.cell 5 v5 (by rw[hA];rfl)
 obtain⟨W2,hW2⟩:∃ W2,W2=w1.alloc (.cells #[v1,v2,v3,v4,v5] 22):=⟨_,rfl⟩
 have hb2:Below w.heap.size w W2:=by rw[hW2];exact bel_alloc HN.out.2 _
 have hblk:W2.heap[w.heap.size+1]?=some (.cells #[v1,v2,v3,v4,v5] 22 (0,0)):=by
  rw[hW2,<-hsz]
  exact new_block _ _ _
 have HL:Hid (∀ i l,p.lists[i]?=some l->∃ (ss:List ByteArray) (pv:Option Addr) (cv:Nat),W2.cell? ⟨w.heap.size+1,i,none⟩=some (.slice pv ss.length cv)/\StrArg W2 (.slice pv ss.length cv) ss/\ss.map bl=l):=hide (by
  have key:∀ (i:Nat) (v:Value) (ss:List ByteArray) (l:List L),#[v1,v2,v3,v4,v5][i]?=some v->StrArg w v ss->ss.map bl=l->∃ (ss:List ByteArray) (pv:Option Addr) (cv:Nat),W2.cell? ⟨w.heap.size+1,i,none⟩=some (.slice pv ss.length cv)/\StrArg W2 (.slice pv ss.length cv) ss/\ss.map bl=l:=by
   intro i v ss l hi hs he
   have hs2:=hs.below hb2
   obtain⟨pv,cv,rfl,-,-⟩:=hs
   exact⟨ss,pv,cv,tag_cell hblk i _ hi,hs2,he⟩
  exact five (key 0 v1 l1 _ rfl hv.s1 hv.e1) (key 1 v2 l2 _ rfl hv.s2 hv.e2) (key 2 v3 l3 _ rfl hv.s3 hv.e3) (key 3 v4 l4 _ rfl hv.s4 hv.e4) (key 4 v5 l5 _ rfl hv.s5 hv.e5))
 have HB2:=hide hb2
 have HLEN:Hid (p.lists.length=5):=hide rfl
 rw[hA] at hw1
 obtain⟨p1,c1,rfl,-,-⟩:=hv.s1
 obtain⟨p2,c2,rfl,-,-⟩:=hv.s2
 obtain⟨p3,c3,rfl,-,-⟩:=hv.s3
 obtain⟨p4,c4,rfl,-,-⟩:=hv.s4
 obtain⟨p5,c5,rfl,-,-⟩:=hv.s5
 clear hv hA hb2 hblk
 go_enter Tryz.func10,Tryz.ntmps10
 go_upto_region 1 with fail
 rw[<-hw1]
 clear hw1
 go_upto_block 0 with fail
 rw[<-hW2]
 clear hW2 hsz y1 y2 y3 y4 y5 HN
 go_wp2_with fail
 go_loopg [3,19] 5 (fun g v3 v19 wx=>wx=W2/\∃ i n:Nat,i+g=5/\v19=.int .i64 (i:Int)/\v3=.int .i64 (n:Int)/\n<=i*1000000/\Hid ((∀ j l,j < i->p.lists[j]?=some l->l.length<=100)/\n=((p.lists.take i).map sizeM).sum))
 case atStart=>exact⟨rfl,0,0,by omega,rfl,rfl,by omega,hide ⟨fun j l hj=>by omega,rfl⟩⟩
 case round =>
  obtain⟨rfl,i,n,hi,rfl,rfl,hn,HU⟩:=hrel
  by_cases hlt:i < 5
  ·obtain⟨l,hl⟩:∃ l,p.lists[i]?=some l:=⟨_,List.getElem?_eq_getElem (by rw[HLEN.out];exact hlt)⟩
   obtain⟨ss,pv,cv,c0,hs,he⟩:=HL.out i l hl
   have HS:=hide hs
   have HE:=hide he
   have HLI:=hide hl
   clear hs he hl
   by_cases h100:100 < ss.length
   ·clear HS HE HLI HU
    go_wp2_with fail
    go_ret
    exact⟨⟨false,rfl,fun h=>by cases h⟩,HB2.out⟩
   ·obtain⟨N,hN⟩:∃ N,N=ss.length:=⟨_,rfl⟩
    rw[<-hN] at c0 h100 HS
    have HNN:=hide hN
    clear hN
    go_wp2_with fail
    have HLT5:=hide hlt
    clear hlt
    generalize decide ((i:Int) < 5)=bi
    generalize decide ((100:Int) < (N:Int))=bn
    go_loopg [3,6] N (fun g2 v3 v6 wx=>wx=wr/\∃ k m:Nat,k+g2=N/\v6=.int .i64 (k:Int)/\v3=.int .i64 (m:Int)/\n<=m/\m<=n+k*10000/\Hid (m=n+sizeM ((ss.map bl).take k)))
    case atStart=>exact⟨rfl,0,n,by omega,rfl,rfl,by omega,by omega,hide rfl⟩
    case round =>
     obtain⟨rfl,k,m,hk,rfl,rfl,hnm,hm,HK⟩:=hrel
     by_cases hkN:k < N
     ·obtain⟨y,hy⟩:∃ y,ss[k]?=some y:=⟨_,List.getElem?_eq_getElem (by rw[<-HNN.out];exact hkN)⟩
      obtain⟨b,off,rfl,c1⟩:∃ b off,pv=some ⟨b,off,none⟩/\wr.cell? ⟨b,off+k,none⟩=some (.string y):=by
       obtain⟨p',cap',e,-,hc⟩:=HS.out
       injection e with e1 e2 e3
       obtain⟨b,off,e4,h⟩:=hc k y hy
       exact⟨b,off,e1.trans e4,h⟩
      have HK2:Hid (∀ mm,mm=min y.size 10000->m+mm=n+sizeM ((ss.map bl).take (k+1))):=hide (fun mm hmm=>by
       rw[sizeM_step (ss.map bl) k (bl y) (by rw[List.getElem?_map,hy];rfl),bl_len,hmm,HK.out]
       omega)
      clear hy HK
      by_cases hyz:y.size < 10000
      ·have HK3:=hide (HK2.out y.size (by omega))
       clear HK2
       go_wp2_with fail
       go_roundg (N - k - 1)
       case measure=>omega
       case rel=>exact⟨rfl,k+1,m+y.size,by omega,by first | rfl | simp,by first | rfl | (simp;done) | (simp;omega),by omega,by omega,HK3⟩
      ·by_cases hyw:10000 < y.size
       ·have HK3:=hide (HK2.out 10000 (by omega))
        clear HK2
        go_wp2_with fail
        go_roundg (N - k - 1)
        case measure=>omega
        case rel=>exact⟨rfl,k+1,m+10000,by omega,by first | rfl | simp,by first | rfl | (simp;done) | (simp;omega),by omega,by omega,HK3⟩
       ·have HK3:=hide (HK2.out y.size (by omega))
        clear HK2
        go_wp2_with fail
        go_roundg (N - k - 1)
        case measure=>omega
        case rel=>exact⟨rfl,k+1,m+y.size,by omega,by first | rfl | simp,by first | rfl | (simp;done) | (simp;omega),by omega,by omega,HK3⟩
     ·have HU2:Hid ((∀ j l,j < i+1->p.lists[j]?=some l->l.length<=100)/\m=((p.lists.take (i+1)).map sizeM).sum):=hide (by
       have hkk:(ss.map bl).take k=l:=by rw[<-HE.out];exact List.take_of_length_le (by rw[List.length_map,<-HNN.out];omega)
       refine⟨fun j l' hj hl'=>?_,?_⟩
       ·by_cases e:j=i
        ·subst e
         rw[HLI.out] at hl'
         cases hl'
         rw[<-HE.out,List.length_map,<-HNN.out]
         omega
        ·exact HU.out.1 j l' (by omega) hl'
       ·rw[sizeMs_step p.lists i l HLI.out,<-HU.out.2,HK.out,hkk])
      clear HK HU
      go_wp2_with fail
      go_roundg (5 - i - 1)
      case measure=>have:=HLT5.out;omega
      case rel=>exact⟨rfl,i+1,m,by have:=HLT5.out;omega,by first | rfl | simp,rfl,by omega,HU2⟩
  ·have HLT:Hid (n < 6000->light p):=hide (fun h=>by
    have ht:p.lists.take i=p.lists:=List.take_of_length_le (by rw[HLEN.out];omega)
    have h2:=HU.out.2
    rw[ht] at h2
    refine⟨fun l hl=>?_,?_⟩
    ·obtain⟨j,hj⟩:=List.mem_iff_getElem?.1 hl
     have hjl:=(List.getElem?_eq_some_iff.1 hj).1
     rw[HLEN.out] at hjl
     exact HU.out.1 j l (by omega) hj
    ·rw[<-sizeMs_eq p.lists (by omega)]
     omega)
   clear HU
   go_wp2_with fail
   go_ret
   exact⟨⟨_,rfl,fun h=>HLT.out (by have:=of_decide_eq_true h;omega)⟩,HB2.out⟩
end Go.Proofs.YtkiofbikkhhdfaaGreatDoor
namespace Go.Proofs.YtkiofbikkhhdfaaGreatDoor
open Go.RowKit
open Utf1 Pol8
abbrev pval (p:Pol) (v1 v2 v3 v4 v5:Value):Value:=.agg #[.int .i64 p.ep,v1,v2,v3,v4,v5,.int .i64 p.dp,.int .i64 p.nd,.int .i64 p.bt]
def RightC:Prop:=∀ (v1 v2 v3 v4 v5:Value) (p:Pol) (l1 l2 l3 l4 l5:List ByteArray) (w:World),PolV w v1 v2 v3 v4 v5 p l1 l2 l3 l4 l5->fits p ->
 Calls Tryz.prog 19 #[pval p v1 v2 v3 v4 v5] w fun e w'=>e=.returned (.bool (right p))/\Below w.heap.size w w'
def ElemC:Prop:=∀ (v1 v2 v3 v4 v5:Value) (p:Pol) (l1 l2 l3 l4 l5:List ByteArray) (x:ByteArray) (w:World),PolV w v1 v2 v3 v4 v5 p l1 l2 l3 l4 l5->fits p->x.size<=100000 ->
 Calls Tryz.prog 47 #[pval p v1 v2 v3 v4 v5,.string x] w fun e w'=>e=.returned (.bool (decide (bl x∈p.el)))/\Below w.heap.size w w'
def AttrC:Prop:=∀ (v1 v2 v3 v4 v5:Value) (p:Pol) (l1 l2 l3 l4 l5:List ByteArray) (x y:ByteArray) (w:World),PolV w v1 v2 v3 v4 v5 p l1 l2 l3 l4 l5->fits p->x.size<=100000->y.size<=100000 ->
 Calls Tryz.prog 169 #[pval p v1 v2 v3 v4 v5,.string x,.string y] w fun e w'=>e=.returned (.bool (attrB p (bl x) (bl y)))/\Below w.heap.size w w'
end Go.Proofs.YtkiofbikkhhdfaaGreatDoor
namespace Go.Proofs.YtkiofbikkhhdfaaGreatDoor.Ul
open Go.RowKit
open Utf1
theorem lt32 (c:UInt8):decide ((c.toNat:Int) < 32)=decide (c.toNat < 32):=by
 by_cases h:c.toNat < 32
 ·rw[decide_eq_true h,decide_eq_true (by omega)]
 ·rw[decide_eq_false h,decide_eq_false (by omega)]
theorem mem_upto {ss:List ByteArray}{x:List UInt8}{i:Nat}{y:ByteArray}(h:ss[i]?=some y)(hn:∀ j z,j < i->ss[j]?=some z->bl z≠x)(hy:bl y≠x):∀ j z,j < i+1->ss[j]?=some z->bl z≠x:=by
 intro j z hj hz
 by_cases e:j=i
 ·subst e
  rw[h] at hz
  cases hz
  exact hy
 ·exact hn j z (by omega) hz
theorem not_mem_of {ss:List ByteArray}{x:List UInt8}{N:Nat}(hN:ss.length<=N)(h:∀ j z,j < N->ss[j]?=some z->bl z≠x):x ∉ ss.map bl:=by
 intro hx
 obtain⟨y,hy,e⟩:=List.mem_map.1 hx
 obtain⟨j,hj,e2⟩:=List.mem_iff_getElem.1 hy
 exact h j y (by omega) (by rw[List.getElem?_eq_getElem hj,e2]) e
end Go.Proofs.YtkiofbikkhhdfaaGreatDoor.Ul
namespace Go.Proofs.YtkiofbikkhhdfaaGreatDoor.Ul
open Go.RowKit
open Utf1
def BareC:Prop:=∀ (s:ByteArray) (w:World),s.size<=100000->Calls Tryz.prog 199 #[.string s] w fun e w'=>e=.returned (.string ⟨(bare (bl s)).toArray⟩)/\Below w.heap.size w w'
def SchemeC:Prop:=∀ (s:ByteArray) (w:World),s.size<=100000->Calls Tryz.prog 196 #[.string s] w fun e w'=>e=.returned (.tuple #[.string (schS (scheme (bl s))),.bool (scheme (bl s)).isSome])/\Below w.heap.size w w'
def AllowedC:Prop:=∀ (s:ByteArray) (v:Value) (ss:List ByteArray) (w:World),s.size<=100000->ss.length<=100000->StrArg w v ss->Calls Tryz.prog 172 #[.string s,v] w fun e w'=>e=.returned (.bool (allowed (bl s) (ss.map bl)))/\Below w.heap.size w w'
end Go.Proofs.YtkiofbikkhhdfaaGreatDoor.Ul
namespace Go.Proofs.YtkiofbikkhhdfaaGreatDoor.Ul
open Go.RowKit
open Utf1
set_option maxHeartbeats 4000000 in
theorem bare_any:BareC:=by
 intro s w hs
 go_enter Tryz.func199,Tryz.ntmps199
 go_upto_block 0 with fail
 go_cut [3] from 10 to 20 (fun v wx=>wx=w/\∃ p:Nat,p<=s.size/\v=.int .i64 (p:Int)/\Hid (dropB (bl s)=(bl s).drop p))
 case first =>
  go_wp2_with fail
  go_loopg [3] s.size (fun g v wx=>wx=w/\∃ p:Nat,p+g=s.size/\v=.int .i64 (p:Int)/\Hid (dropB (bl s)=dropB ((bl s).drop p)))
  case atStart=>exact⟨rfl,0,by omega,rfl,hide rfl⟩
  case round =>
   obtain⟨rfl,p,hp,rfl,HD⟩:=hrel
   by_cases hlt:p < s.size
   ·obtain⟨c,hc⟩:=getK s p hlt
    have i0:=fun w=>idxK hc w
    have hle:=le32 c
    have hb:=c.toNat_lt
    have HC:=hide hc
    generalize (c.toNat:Int)=z at i0 hle
    clear hc hb
    cases hbk:blk c with
    | true =>
     rw[hbk] at hle
     have HN:Hid (dropB (bl s)=dropB ((bl s).drop (p+1))):=hide (HD.out.trans (dropB_step HC.out hbk))
     clear hbk HD HC
     go_wp2_with fail
     go_roundg (gk - 1)
     case measure=>omega
     case rel=>exact⟨rfl,p+1,by omega,by first | rfl | simp,HN⟩
    | false =>
     rw[hbk] at hle
     have HN:Hid (dropB (bl s)=(bl s).drop p):=hide (HD.out.trans (dropB_stop HC.out hbk))
     clear hbk HD HC
     go_wp2_with fail
     go_meet
     exact⟨rfl,p,by omega,rfl,HN⟩
   ·have HN:Hid (dropB (bl s)=(bl s).drop p):=hide (by rw[HD.out,drop_all s p hlt];rfl)
    clear HD
    go_wp2_with fail
    go_meet
    exact⟨rfl,p,by omega,rfl,HN⟩
 case rest =>
 obtain⟨rfl,p,hp,rfl,HP⟩:=hcut
 go_upto_block 2 with fail
 go_cut [4] from 21 to 32 (fun v wx=>wx=wc/\∃ q:Nat,p<=q/\q<=s.size/\v=.int .i64 (q:Int)/\Hid (trim (bl s)=((bl s).take q).drop p))
 case first =>
  go_wp2_with fail
  go_loopg [4] (s.size - p) (fun g v wx=>wx=wc/\∃ q:Nat,q<=p+g/\p+g<=q/\q<=s.size/\v=.int .i64 (q:Int)/\Hid (dropE ((bl s).drop p)=dropE (((bl s).take q).drop p)))
  case atStart=>exact⟨rfl,s.size,by omega,by omega,by omega,rfl,hide (by rw[List.take_of_length_le (by rw[bl_len];exact Nat.le_refl _)])⟩
  case round =>
   obtain⟨rfl,q,hq,hq2,hqs,rfl,HD⟩:=hrel
   by_cases hlt:p < q
   ·obtain⟨k,rfl⟩:∃ k,q=k+1:=⟨q - 1,by omega⟩
    obtain⟨c,hc⟩:=getK s k (by omega)
    have i0:=fun w=>idxK hc w
    have hle:=le32 c
    have HC:=hide hc
    generalize (c.toNat:Int)=z at i0 hle
    clear hc
    cases hbk:blk c with
    | true =>
     rw[hbk] at hle
     have HN:Hid (dropE ((bl s).drop p)=dropE (((bl s).take k).drop p)):=hide (HD.out.trans (dropE_step (by omega) HC.out hbk))
     clear hbk HD HC
     go_wp2_with fail
     go_roundg (gk - 1)
     case measure=>omega
     case rel=>exact⟨rfl,k,by omega,by omega,by omega,by first | rfl | simp,HN⟩
    | false =>
     rw[hbk] at hle
     have HN:Hid (trim (bl s)=((bl s).take (k+1)).drop p):=hide (trim_seg HP.out (HD.out.trans (dropE_stop (by omega) HC.out hbk)))
     clear hbk HD HC
     go_wp2_with fail
     go_meet
     exact⟨rfl,k+1,by omega,by omega,rfl,HN⟩
   ·have HN:Hid (trim (bl s)=((bl s).take q).drop p):=hide (trim_seg HP.out (by
     have e:((bl s).take q).drop p=[]:=by
      rw[List.drop_eq_nil_iff,List.length_take]
      omega
     rw[HD.out,e]
     rfl))
    clear HD
    go_wp2_with fail
    go_meet
    exact⟨rfl,q,by omega,by omega,rfl,HN⟩
 case rest =>
 obtain⟨rfl,q,hpq,hqs,rfl,HT⟩:=hcut
 obtain⟨w,rfl⟩:∃ w,w=wc:=⟨wc,rfl⟩
 go_wp2_with fail
 go_loopg [6] (q - p) (fun g vi wx=>∃ (j:Nat) (acc:List UInt8),j+g=q/\vi=.int .i64 (j:Int)/\acc.length<=j/\Lib.IsBuilderF 59 5 w.heap.size w.heap.size (Lib.byteCells acc) wx/\Below w.heap.size w wx/\Hid (acc++(((bl s).take q).drop j).filter kept=bare (bl s)))
 case atStart=>exact⟨p,[],by omega,rfl,Nat.zero_le _,Lib.IsBuilderF.of (Lib.fresh_isBuilder 59 5 w),(Below.refl _ w).alloc (Nat.le_refl _) _,hide (by unfold bare;rw[HT.out];rfl)⟩
 case round =>
  obtain⟨j,acc,hj,rfl,hal,hI,hbw,HA⟩:=hrel
  by_cases hlt:j < q
  ·obtain⟨c,hc⟩:=getK s j (by omega)
   have i0:=fun w=>idxK hc w
   have n9:((c.toNat:Int) != 9)=decide (c≠9):=neK c 9 (by decide)
   have n10:((c.toNat:Int) != 10)=decide (c≠10):=neK c 10 (by decide)
   have n13:((c.toNat:Int) != 13)=decide (c≠13):=neK c 13 (by decide)
   have hseg:=seg_cons hlt hc
   have HK:Hid (acc++(if kept c=true then c :: (((bl s).take q).drop (j+1)).filter kept else (((bl s).take q).drop (j+1)).filter kept)=bare (bl s)):=hide (by
    rw[<-HA.out,hseg,filter_kept_cons])
   clear hseg hc HA
   by_cases h9:c=9
   ·have HN:Hid (acc++(((bl s).take q).drop (j+1)).filter kept=bare (bl s)):=hide (by rw[<-HK.out,h9];rfl)
    rw[decide_eq_false (fun e=>e h9)] at n9
    generalize (c.toNat:Int)=z at i0 n9
    clear h9 n10 n13 HK
    go_wp2_with fail
    go_roundg (gk - 1)
    case measure=>omega
    case rel=>exact⟨j+1,acc,by omega,by first | rfl | simp,by omega,hI,hbw,HN⟩
   ·rw[decide_eq_true h9] at n9
    by_cases h10:c=10
    ·have HN:Hid (acc++(((bl s).take q).drop (j+1)).filter kept=bare (bl s)):=hide (by rw[<-HK.out,h10];rfl)
     rw[decide_eq_false (fun e=>e h10)] at n10
     generalize (c.toNat:Int)=z at i0 n9 n10
     clear h9 h10 n13 HK
     go_wp2_with fail
     go_roundg (gk - 1)
     case measure=>omega
     case rel=>exact⟨j+1,acc,by omega,by first | rfl | simp,by omega,hI,hbw,HN⟩
    ·rw[decide_eq_true h10] at n10
     by_cases h13:c=13
     ·have HN:Hid (acc++(((bl s).take q).drop (j+1)).filter kept=bare (bl s)):=hide (by rw[<-HK.out,h13];rfl)
      rw[decide_eq_false (fun e=>e h13)] at n13
      generalize (c.toNat:Int)=z at i0 n9 n10 n13
      clear h9 h10 h13 HK
      go_wp2_with fail
      go_roundg (gk - 1)
      case measure=>omega
      case rel=>exact⟨j+1,acc,by omega,by first | rfl | simp,by omega,hI,hbw,HN⟩
     ·rw[decide_eq_true h13] at n13
      have hk:kept c=true:=by unfold kept;exact decide_eq_true ⟨h9,h10,h13⟩
      have HN:Hid ((acc++[c])++(((bl s).take q).drop (j+1)).filter kept=bare (bl s)):=hide (by
       have:=HK.out
       rw[if_pos hk] at this
       rw[<-this]
       simp)
      have HW:=hide (Tryz.Builder_WriteByte_k w.heap.size w.heap.size _ (c.toNat:Int) wr hI (by rw[Lib.byteCells_length];omega) hbw.size)
      have HCC:Hid (Lib.byteCells acc++[.int .u8 (c.toNat:Int)]=Lib.byteCells (acc++[c])):=hide (by rw[Lib.byteCells_append];rfl)
      generalize (c.toNat:Int)=z at i0 n9 n10 n13 HW HCC
      clear h9 h10 h13 hk HK
      go_wp2_with fail
      refine HW.out.mono ?_
      rintro e W1 ⟨rfl,h1,b1,-⟩
      go_wp2_with fail
      go_roundg (gk - 1)
      case measure=>omega
      case rel=>exact⟨j+1,acc++[c],by omega,by first | rfl | simp,by simp;omega,Or.inr (by rw[<-HCC.out];exact h1),hbw.trans b1,HN⟩
  ·have HR:Hid (acc=bare (bl s)):=hide (by
    have e:((bl s).take q).drop j=[]:=by
     rw[List.drop_eq_nil_iff,List.length_take]
     omega
    have:=HA.out
    rw[e] at this
    simpa using this)
   clear HA
   go_wp2_with fail
   refine (Tryz.Builder_String_any_k w.heap.size w.heap.size acc _ hI hbw.size).mono ?_
   rintro e W1 ⟨rfl,_,b1,_⟩
   go_wp2_with fail
   go_ret
   rw[<-HR.out]
   exact⟨rfl,hbw.trans b1⟩
end Go.Proofs.YtkiofbikkhhdfaaGreatDoor.Ul
namespace Go.Proofs.YtkiofbikkhhdfaaGreatDoor.Ul
open Go.RowKit
open Utf1
def letA (n:Nat):Bool:=decide ((97<=n/\n<=122)\/(65<=n/\n<=90))
def goB (n:Nat):Bool:=decide ((48<=n/\n<=57)\/n=43\/n=45\/n=46)
set_option maxHeartbeats 4000000 in
theorem letter_any (n:Nat)(hn:n < 256) (w:World) :
  Calls Tryz.prog 208 #[.int .u8 (n:Int)] w fun e w'=>e=.returned (.bool (letA n))/\w'=w:=by
 have HL:Hid (∀ b,decide ((97<=n/\n<=122)\/(65<=n/\n<=90))=b->letA n=b):=hide (fun b h=>h)
 rcases (show n < 65\/(65<=n/\n<=90)\/(90 < n/\n < 97)\/(97<=n/\n<=122)\/122 < n from by omega) with h | h | h | h | h
 ·have HN:=hide (HL.out false (decide_eq_false (by omega)))
  have d97:decide ((97:Int)<=(n:Int))=false:=decide_eq_false (by omega)
  have d65:decide ((65:Int)<=(n:Int))=false:=decide_eq_false (by omega)
  clear HL h
  go_enter Tryz.func208,Tryz.ntmps208
  go_wp2_with fail
  go_ret
  rw[HN.out]
  exact⟨rfl,rfl⟩
 ·have HN:=hide (HL.out true (decide_eq_true (by omega)))
  have d97:decide ((97:Int)<=(n:Int))=false:=decide_eq_false (by omega)
  have d65:decide ((65:Int)<=(n:Int))=true:=decide_eq_true (by omega)
  have d90:decide ((n:Int)<=90)=true:=decide_eq_true (by omega)
  clear HL h
  go_enter Tryz.func208,Tryz.ntmps208
  go_wp2_with fail
  go_ret
  rw[HN.out]
  exact⟨rfl,rfl⟩
 ·have HN:=hide (HL.out false (decide_eq_false (by omega)))
  have d97:decide ((97:Int)<=(n:Int))=false:=decide_eq_false (by omega)
  have d65:decide ((65:Int)<=(n:Int))=true:=decide_eq_true (by omega)
  have d90:decide ((n:Int)<=90)=false:=decide_eq_false (by omega)
  clear HL h
  go_enter Tryz.func208,Tryz.ntmps208
  go_wp2_with fail
  go_ret
  rw[HN.out]
  exact⟨rfl,rfl⟩
 ·have HN:=hide (HL.out true (decide_eq_true (by omega)))
  have d97:decide ((97:Int)<=(n:Int))=true:=decide_eq_true (by omega)
  have d122:decide ((n:Int)<=122)=true:=decide_eq_true (by omega)
  clear HL h
  go_enter Tryz.func208,Tryz.ntmps208
  go_wp2_with fail
  go_ret
  rw[HN.out]
  exact⟨rfl,rfl⟩
 ·have HN:=hide (HL.out false (decide_eq_false (by omega)))
  have d97:decide ((97:Int)<=(n:Int))=true:=decide_eq_true (by omega)
  have d122:decide ((n:Int)<=122)=false:=decide_eq_false (by omega)
  have d65:decide ((65:Int)<=(n:Int))=true:=decide_eq_true (by omega)
  have d90:decide ((n:Int)<=90)=false:=decide_eq_false (by omega)
  clear HL h
  go_enter Tryz.func208,Tryz.ntmps208
  go_wp2_with fail
  go_ret
  rw[HN.out]
  exact⟨rfl,rfl⟩
set_option maxHeartbeats 4000000 in
theorem goesOn_any (n:Nat)(hn:n < 256) (w:World) :
  Calls Tryz.prog 209 #[.int .u8 (n:Int)] w fun e w'=>e=.returned (.bool (goB n))/\w'=w:=by
 have HL:Hid (∀ b,decide ((48<=n/\n<=57)\/n=43\/n=45\/n=46)=b->goB n=b):=hide (fun b h=>h)
 rcases (show (48<=n/\n<=57)\/n=43\/n=45\/n=46\/(n < 48/\n≠43/\n≠45/\n≠46)\/57 < n from by omega) with h | h | h | h | h | h
 ·have HN:=hide (HL.out true (decide_eq_true (by omega)))
  have d48:decide ((48:Int)<=(n:Int))=true:=decide_eq_true (by omega)
  have d57:decide ((n:Int)<=57)=true:=decide_eq_true (by omega)
  clear HL h
  go_enter Tryz.func209,Tryz.ntmps209
  go_wp2_with fail
  go_ret
  rw[HN.out]
  exact⟨rfl,rfl⟩
 ·have HN:=hide (HL.out true (decide_eq_true (by omega)))
  have d48:decide ((48:Int)<=(n:Int))=false:=decide_eq_false (by omega)
  have q43:((n:Int)==43)=true:=beq_iff_eq.2 (by omega)
  clear HL h
  go_enter Tryz.func209,Tryz.ntmps209
  go_wp2_with fail
  go_ret
  rw[HN.out]
  exact⟨rfl,rfl⟩
 ·have HN:=hide (HL.out true (decide_eq_true (by omega)))
  have d48:decide ((48:Int)<=(n:Int))=false:=decide_eq_false (by omega)
  have q43:((n:Int)==43)=false:=beq_eq_false_iff_ne.2 (by omega)
  have q45:((n:Int)==45)=true:=beq_iff_eq.2 (by omega)
  clear HL h
  go_enter Tryz.func209,Tryz.ntmps209
  go_wp2_with fail
  go_ret
  rw[HN.out]
  exact⟨rfl,rfl⟩
 ·have HN:=hide (HL.out true (decide_eq_true (by omega)))
  have d48:decide ((48:Int)<=(n:Int))=false:=decide_eq_false (by omega)
  have q43:((n:Int)==43)=false:=beq_eq_false_iff_ne.2 (by omega)
  have q45:((n:Int)==45)=false:=beq_eq_false_iff_ne.2 (by omega)
  have q46:((n:Int)==46)=true:=beq_iff_eq.2 (by omega)
  clear HL h
  go_enter Tryz.func209,Tryz.ntmps209
  go_wp2_with fail
  go_ret
  rw[HN.out]
  exact⟨rfl,rfl⟩
 ·have HN:=hide (HL.out false (decide_eq_false (by omega)))
  have d48:decide ((48:Int)<=(n:Int))=false:=decide_eq_false (by omega)
  have q43:((n:Int)==43)=false:=beq_eq_false_iff_ne.2 (by omega)
  have q45:((n:Int)==45)=false:=beq_eq_false_iff_ne.2 (by omega)
  have q46:((n:Int)==46)=false:=beq_eq_false_iff_ne.2 (by omega)
  clear HL h
  go_enter Tryz.func209,Tryz.ntmps209
  go_wp2_with fail
  go_ret
  rw[HN.out]
  exact⟨rfl,rfl⟩
 ·have HN:=hide (HL.out false (decide_eq_false (by omega)))
  have d48:decide ((48:Int)<=(n:Int))=true:=decide_eq_true (by omega)
  have d57:decide ((n:Int)<=57)=false:=decide_eq_false (by omega)
  have q43:((n:Int)==43)=false:=beq_eq_false_iff_ne.2 (by omega)
  have q45:((n:Int)==45)=false:=beq_eq_false_iff_ne.2 (by omega)
  have q46:((n:Int)==46)=false:=beq_eq_false_iff_ne.2 (by omega)
  clear HL h
  go_enter Tryz.func209,Tryz.ntmps209
  go_wp2_with fail
  go_ret
  rw[HN.out]
  exact⟨rfl,rfl⟩
theorem lower_get {b:List UInt8}{p:Nat}{c:UInt8}(h:b[p]?=some c):(lower b)[p]?=some (low8 c):=by
 unfold lower
 rw[List.getElem?_map,h]
 rfl
theorem lower_take (b:List UInt8) (p:Nat):lower (b.take p)=(lower b).take p:=by
 unfold lower
 rw[List.map_take]
theorem lower_length (b:List UInt8):(lower b).length=b.length:=by
 unfold lower
 rw[List.length_map]
theorem low8_small {c:UInt8}(h:¬ (65<=c.toNat/\c.toNat<=90)):low8 c=c:=by
 unfold low8
 rw[if_neg h]
theorem low8_let {c:UInt8}(h:letA c.toNat=true):97<=(low8 c).toNat/\(low8 c).toNat<=122:=by
 have h:=of_decide_eq_true h
 rw[low8_toNat]
 unfold lowN
 split <;> omega
theorem sch_letter {b:List UInt8}{p:Nat}{c:UInt8}(h:b[p]?=some c)(hl:letA c.toNat=true):schP (lower b) p=schP (lower b) (p+1):=by
 have hr:=low8_let hl
 refine schP_go (lower_get h) (ne_of_toNat ?_) (.inl (letB_yes hr.1 hr.2))
 intro e
 have e:(low8 c).toNat=58:=e
 omega
theorem sch_goes {b:List UInt8}{p:Nat}{c:UInt8}(h:b[p]?=some c)(h0:p≠0)(hg:goB c.toNat=true):schP (lower b) p=schP (lower b) (p+1):=by
 have hg:=of_decide_eq_true hg
 have hs:low8 c=c:=low8_small (by omega)
 have hb:=lower_get h
 rw[hs] at hb
 refine schP_go hb (ne_of_toNat ?_) (.inr ⟨h0,schB_yes (by omega)⟩)
 intro e
 have e:c.toNat=58:=e
 omega
theorem sch_hit {b:List UInt8}{p:Nat}{c:UInt8}(h:b[p]?=some c)(h0:p≠0)(hc:c.toNat=58):schP (lower b) p=some (lower (b.take p)):=by
 have e:c=58:=UInt8.toNat_inj.1 hc
 rw[e] at h
 rw[lower_take,schP_hit (lower_get h) h0]
theorem sch_miss {b:List UInt8}{p:Nat}{c:UInt8}(h:b[p]?=some c)(hl:letA c.toNat=false)(ho:p=0\/(c.toNat≠58/\goB c.toNat=false)):schP (lower b) p=none:=by
 have hl:=of_decide_eq_false hl
 have hs:low8 c=c:=low8_small (by omega)
 have hb:=lower_get h
 rw[hs] at hb
 refine schP_miss hb (letB_no (by omega)) ?_
 rcases ho with ho | ⟨h1,h2⟩
 ·exact .inl ho
 ·have h2:=of_decide_eq_false h2
  exact .inr ⟨ne_of_toNat h1,schB_no (by omega) (by omega) (by omega)⟩
set_option maxHeartbeats 4000000 in
theorem scheme_any:SchemeC:=by
 intro s w hs
 have c1:=fun w=>bare_any s w hs
 have hbl:=bare_len (bl s)
 rw[bl_len] at hbl
 have hbs:(⟨(bare (bl s)).toArray⟩:ByteArray).size<=100000:=by rw[size_mk];omega
 have HS:Hid (scheme (bl s)=schA (lower (bl (⟨(bare (bl s)).toArray⟩:ByteArray)))):=hide rfl
 generalize (⟨(bare (bl s)).toArray⟩:ByteArray)=B at c1 hbs HS
 clear hbl
 go_enter Tryz.func196,Tryz.ntmps196
 go_wp2_with fail
 go_step3
 go_wp2_with fail
 refine (c1 _).mono ?_
 rintro e w2 ⟨rfl,HB⟩
 clear c1
 go_wp2_with fail
 go_step3
 go_wp2_with fail
 go_loopg [5] B.size (fun g v wx=>wx=w2/\∃ p:Nat,p+g=B.size/\v=.int .i64 (p:Int)/\Hid (scheme (bl s)=schP (lower (bl B)) p))
 case atStart=>exact⟨rfl,0,by omega,rfl,hide (by rw[HS.out,schP_zero])⟩
 case round =>
  obtain⟨rfl,p,hp,rfl,HD⟩:=hrel
  by_cases hlt:p < B.size
  ·obtain⟨c,hc⟩:=getK B p hlt
   have i00:=fun w=>idxK hc w
   have hcb:=c.toNat_lt
   have HX:Hid (c.toNat=58->p≠0->schS (scheme (bl s))=⟨(lower (bl (B.extract 0 p))).toArray⟩/\(scheme (bl s)).isSome=true):=hide (fun h h0=>by
    rw[HD.out,sch_hit hc h0 h,extract_bl]
    exact⟨by simp[schS],rfl⟩)
   have HLE:Hid (letA c.toNat=true->scheme (bl s)=schP (lower (bl B)) (p+1)):=hide (fun h=>HD.out.trans (sch_letter hc h))
   have HGO:Hid (p≠0->goB c.toNat=true->scheme (bl s)=schP (lower (bl B)) (p+1)):=hide (fun h0 h=>HD.out.trans (sch_goes hc h0 h))
   have HMI:Hid (letA c.toNat=false->(p=0\/(c.toNat≠58/\goB c.toNat=false))->scheme (bl s)=none):=hide (fun hl h=>HD.out.trans (sch_miss hc hl h))
   obtain⟨n,hn⟩:∃ n,n=c.toNat:=⟨_,rfl⟩
   rw[<-hn] at i00 hcb HX HLE HGO HMI
   have i0:∀ w,(Instr.index 9 (.string B) (.int .i64 (p:Int))).run Tryz.prog w=.ok (.int .u8 (n:Int)) w:=i00
   have cl:=fun w=>letter_any n hcb w
   have cg:=fun w=>goesOn_any n hcb w
   clear i00 hn hc HD
   cases hle:letA n with
   | true =>
    have HN:=hide (HLE.out hle)
    rw[hle] at cl
    clear HX HLE HGO HMI cg hle
    go_wp2_with fail
    refine (cl _).mono ?_
    rintro e w3 ⟨rfl,rfl⟩
    go_wp2_with fail
    go_roundg (gk - 1)
    case measure=>omega
    case rel=>exact⟨rfl,p+1,by omega,by first | rfl | simp,HN⟩
   | false =>
    rw[hle] at cl
    by_cases hz:p=0
    ·have HN:=hide (HMI.out hle (.inl hz))
     have dp:¬ 0 < p:=by omega
     clear HX HLE HGO HMI cg hle hz
     go_wp2_with fail
     refine (cl _).mono ?_
     rintro e w3 ⟨rfl,rfl⟩
     go_wp2_with fail
     rw[Exit.noGoto_ret]
     go_ret2
     rw[HN.out]
     exact⟨rfl,HB⟩
    ·have dp:0 < p:=by omega
     cases hgo:goB n with
     | true =>
      rw[hgo] at cg
      have HN:=hide (HGO.out hz hgo)
      clear HX HLE HGO HMI hle hgo hz
      go_wp2_with fail
      refine (cl _).mono ?_
      rintro e w3 ⟨rfl,rfl⟩
      go_wp2_with fail
      refine (cg _).mono ?_
      rintro e w4 ⟨rfl,rfl⟩
      go_wp2_with fail
      go_roundg (gk - 1)
      case measure=>omega
      case rel=>exact⟨rfl,p+1,by omega,by first | rfl | simp,HN⟩
     | false =>
      rw[hgo] at cg
      by_cases h58:n=58
      ·have HN:=hide (HX.out h58 hz)
       have q58:((n:Int)==58)=true:=beq_iff_eq.2 (by omega)
       have cw:=fun w=>lower_any (B.extract 0 p) w
       clear HX HLE HGO HMI hle hgo hz h58
       go_wp2_with fail
       refine (cl _).mono ?_
       rintro e w3 ⟨rfl,rfl⟩
       go_wp2_with fail
       refine (cg _).mono ?_
       rintro e w4 ⟨rfl,rfl⟩
       go_wp2_with fail
       refine (cw _).mono ?_
       rintro e w5 ⟨rfl,hb5⟩
       go_wp2_with fail
       rw[Exit.noGoto_ret]
       go_ret2
       rw[HN.out.1,HN.out.2]
       exact⟨rfl,bel2 HB hb5⟩
      ·have HN:=hide (HMI.out hle (.inr ⟨h58,hgo⟩))
       have q58:((n:Int)==58)=false:=beq_eq_false_iff_ne.2 (by omega)
       clear HX HLE HGO HMI hle hgo hz h58
       go_wp2_with fail
       refine (cl _).mono ?_
       rintro e w3 ⟨rfl,rfl⟩
       go_wp2_with fail
       refine (cg _).mono ?_
       rintro e w4 ⟨rfl,rfl⟩
       go_wp2_with fail
       rw[Exit.noGoto_ret]
       go_ret2
       rw[HN.out]
       exact⟨rfl,HB⟩
  ·have HN:Hid (scheme (bl s)=none):=hide (by rw[HD.out,schP_end (by rw[lower_length,bl_len];omega)])
   clear HD
   go_wp2_with fail
   rw[Exit.noGoto_ret]
   go_ret2
   rw[HN.out]
   exact⟨rfl,HB⟩
end Go.Proofs.YtkiofbikkhhdfaaGreatDoor.Ul
namespace Go.Proofs.YtkiofbikkhhdfaaGreatDoor.Ul
open Go.RowKit
open Utf1
set_option maxHeartbeats 4000000 in
theorem oneOf_any (X:ByteArray) (v:Value) (ss:List ByteArray)(hl:ss.length<=100000) (w:World)(hv:StrArg w v ss) :
  Calls Tryz.prog 197 #[.string X,v] w fun e w'=>e=.returned (.bool (decide (bl X∈ss.map bl)))/\w'=w:=by
 obtain⟨R,hR⟩:∃ R,R=decide (bl X∈ss.map bl):=⟨_,rfl⟩
 rw[<-hR]
 have HAL:=hide hR
 clear hR
 obtain⟨p,cap,rfl,-,hc⟩:=hv
 have HC:=hide hc
 obtain⟨N,hN⟩:∃ N,N=ss.length:=⟨_,rfl⟩
 rw[<-hN] at hl ⊢
 have HN:=hide hN
 clear hc hN
 go_enter Tryz.func197,Tryz.ntmps197
 go_wp2_with fail
 go_loopg [9] N (fun g v wx=>wx=w/\∃ i:Nat,i+g=N/\v=.int .i64 (i:Int)/\Hid (∀ j z,j < i->ss[j]?=some z->bl z≠bl X))
 case atStart=>exact⟨rfl,0,by omega,rfl,hide (fun j z hj=>by omega)⟩
 case round =>
  obtain⟨rfl,i,hi,rfl,HU⟩:=hrel
  by_cases hlt:i < N
  ·have hlt':i < ss.length:=by rw[<-HN.out];exact hlt
   have hge:ss[i]?=some ss[i]:=List.getElem?_eq_getElem hlt'
   generalize ss[i]=y at hge
   obtain⟨b,off,rfl,c0⟩:=HC.out i y hge
   have q0:=eq_two y X
   have HG:=hide hge
   clear hge hlt'
   by_cases hy:bl y=bl X
   ·rw[decide_eq_true hy] at q0
    have HR:Hid (R=true):=hide (by
     rw[HAL.out]
     apply decide_eq_true
     rw[<-hy]
     exact List.mem_map_of_mem (List.mem_of_getElem? HG.out))
    clear hy HU HG
    go_wp2_with fail
    go_ret
    rw[HR.out]
    exact⟨rfl,rfl⟩
   ·rw[decide_eq_false hy] at q0
    have HU2:=hide (mem_upto HG.out HU.out hy)
    clear hy HU HG
    go_wp2_with fail
    go_roundg (gk - 1)
    case measure=>omega
    case rel=>exact⟨rfl,i+1,by omega,by first | rfl | simp,HU2⟩
  ·have HR:Hid (R=false):=hide (by
    rw[HAL.out]
    apply decide_eq_false
    exact not_mem_of (N:=i) (by rw[<-HN.out];omega) HU.out)
   clear HU
   go_wp2_with fail
   go_ret
   rw[HR.out]
   exact⟨rfl,rfl⟩
theorem pre_two (B:ByteArray):([47,47]:List UInt8).isPrefixOf (bl B)=decide ((bl B).take 2=[47,47]):=by
 by_cases h:(bl B).take 2=[47,47]
 ·rw[decide_eq_true h,List.isPrefixOf_iff_prefix]
  exact⟨(bl B).drop 2,by rw[<-h,List.take_append_drop]⟩
 ·rw[decide_eq_false h]
  apply Bool.eq_false_iff.2
  intro e
  obtain⟨t,ht⟩:=List.isPrefixOf_iff_prefix.1 e
  exact h (by rw[<-ht];rfl)
theorem pre_c (s:ByteArray) (b:Bool)(h:decide ((bl s).take 2=[47,47])=b) (w:World):Calls Tryz.prog 103 #[.string s,.string ⟨#[47,47]⟩] w fun e w'=>e=.returned (.bool b)/\w'=w:=by
 rw[<-h,<-pre_two]
 exact Tryz.strings_HasPrefix s ⟨#[47,47]⟩ w
set_option maxHeartbeats 4000000 in
theorem near_any (B:ByteArray)(hs:B.size<=100000) (w:World) :
  Calls Tryz.prog 198 #[.string B] w fun e w'=>e=.returned (.bool (plainOk (bl B)))/\w'=w:=by
 obtain⟨R,hR⟩:∃ R,R=plainOk (bl B):=⟨_,rfl⟩
 rw[<-hR]
 have HAL:=hide hR
 clear hR
 by_cases h2:(bl B).take 2=[47,47]
 ·have cp:=fun w=>pre_c B true (decide_eq_true h2) w
  have HR:Hid (R=false):=hide (by
   rw[HAL.out]
   unfold plainOk
   rw[decide_eq_true h2]
   rfl)
  clear h2 HAL
  go_enter Tryz.func198,Tryz.ntmps198
  go_wp2_with fail
  refine (cp _).mono ?_
  rintro e w1 ⟨rfl,rfl⟩
  go_wp2_with fail
  go_ret
  rw[HR.out]
  exact⟨rfl,rfl⟩
 ·have cp:=fun w=>pre_c B false (decide_eq_false h2) w
  have HAL:Hid (R=(bl B).all (fun c=>!badB c)):=hide (by
   rw[HAL.out]
   unfold plainOk
   rw[decide_eq_false h2]
   rfl)
  have HBAD:Hid (∀ (j:Nat) (c:UInt8),(bl B)[j]?=some c->badB c=true->R=false):=hide (fun j c h hc=>by
   rw[HAL.out,List.all_eq_false]
   exact⟨c,List.mem_of_getElem? h,by rw[hc];decide⟩)
  clear h2
  go_enter Tryz.func198,Tryz.ntmps198
  go_wp2_with fail
  refine (cp _).mono ?_
  rintro e w1 ⟨rfl,rfl⟩
  clear cp
  go_wp2_with fail
  go_loopg [9] B.size (fun g v wx=>wx=w1/\∃ i:Nat,i+g=B.size/\v=.int .i64 (i:Int)/\Hid (∀ j c,j < i->(bl B)[j]?=some c->badB c=false))
  case atStart=>exact⟨rfl,0,by omega,rfl,hide (fun j z hj=>by omega)⟩
  case round =>
   obtain⟨rfl,i,hi,rfl,HU⟩:=hrel
   by_cases hlt:i < B.size
   ·obtain⟨c,hc⟩:=getK B i hlt
    have i0:=fun w=>idxK hc w
    have k32:=lt32 c
    have k92:((c.toNat:Int)==92)=decide (c=92):=beqK c 92 (by decide)
    have k127:((c.toNat:Int)==127)=decide (c=127):=beqK c 127 (by decide)
    have HRB:Hid (badB c=true->R=false):=hide (HBAD.out i c hc)
    have HU2:Hid (badB c=false->∀ j d,j < i+1->(bl B)[j]?=some d->badB d=false):=hide (fun hb j d hj hd=>by
     by_cases e:j=i
     ·subst e
      rw[hc] at hd
      cases hd
      exact hb
     ·exact HU.out j d (by omega) hd)
    clear hc HU
    by_cases h32:c.toNat < 32
    ·rw[decide_eq_true h32] at k32
     have HR:Hid (R=false):=hide (HRB.out (decide_eq_true (.inl h32)))
     generalize (c.toNat:Int)=z at i0 k32
     clear k92 k127 HRB HU2 h32
     go_wp2_with fail
     go_ret
     rw[HR.out]
     exact⟨rfl,rfl⟩
    ·rw[decide_eq_false h32] at k32
     by_cases h92:c=92
     ·rw[decide_eq_true h92] at k92
      have HR:Hid (R=false):=hide (HRB.out (decide_eq_true (.inr (.inl h92))))
      generalize (c.toNat:Int)=z at i0 k32 k92
      clear k127 HRB HU2 h32 h92
      go_wp2_with fail
      go_ret
      rw[HR.out]
      exact⟨rfl,rfl⟩
     ·rw[decide_eq_false h92] at k92
      by_cases h127:c=127
      ·rw[decide_eq_true h127] at k127
       have HR:Hid (R=false):=hide (HRB.out (decide_eq_true (.inr (.inr h127))))
       generalize (c.toNat:Int)=z at i0 k32 k92 k127
       clear HRB HU2 h32 h92 h127
       go_wp2_with fail
       go_ret
       rw[HR.out]
       exact⟨rfl,rfl⟩
      ·rw[decide_eq_false h127] at k127
       have HU3:=hide (HU2.out (decide_eq_false (by rintro (h | h | h);exact h32 h;exact h92 h;exact h127 h)))
       generalize (c.toNat:Int)=z at i0 k32 k92 k127
       clear HRB HU2 h32 h92 h127
       go_wp2_with fail
       go_roundg (gk - 1)
       case measure=>omega
       case rel=>exact⟨rfl,i+1,by omega,by first | rfl | simp,HU3⟩
   ·have HR:Hid (R=true):=hide (by
     rw[HAL.out,List.all_eq_true]
     intro c hc
     obtain⟨j,hj,e⟩:=List.mem_iff_getElem.1 hc
     have:=HU.out j c (by rw[bl_len] at hj;omega) (by rw[List.getElem?_eq_getElem hj,e])
     rw[this]
     rfl)
    clear HU
    go_wp2_with fail
    go_ret
    rw[HR.out]
    exact⟨rfl,rfl⟩
set_option maxHeartbeats 4000000 in
theorem allowed_any:AllowedC:=by
 intro s v ss w hs hl hv
 have c1:=fun w=>scheme_any s w hs
 have c2:=fun w=>bare_any s w hs
 have HAL:Hid (allowed (bl s) (ss.map bl)=match scheme (bl s) with
  | some x=>decide (x∈ss.map bl)
  | none=>plainOk (bare (bl s))):=hide rfl
 obtain⟨R,hR⟩:∃ R,R=allowed (bl s) (ss.map bl):=⟨_,rfl⟩
 rw[<-hR] at HAL ⊢
 clear hR
 have hbl:=bare_len (bl s)
 rw[bl_len] at hbl
 cases hsc:scheme (bl s) with
 | some x =>
  rw[hsc] at c1 HAL
  have c1:∀ w,Calls Tryz.prog 196 #[.string s] w fun e w'=>e=.returned (.tuple #[.string ⟨x.toArray⟩,.bool true])/\Below w.heap.size w w':=c1
  have HAL:Hid (R=decide (bl ⟨x.toArray⟩∈ss.map bl)):=HAL
  have H3:Hid (∀ w,StrArg w v ss->Calls Tryz.prog 197 #[.string ⟨x.toArray⟩,v] w fun e w'=>e=.returned (.bool R)/\w'=w):=hide (fun w h=>by
   rw[HAL.out]
   exact oneOf_any ⟨x.toArray⟩ v ss hl w h)
  generalize (⟨x.toArray⟩:ByteArray)=X at c1 H3
  have HV:=hide hv
  obtain⟨p,cap,rfl,-,-⟩:=hv
  clear hsc c2 hbl HAL
  generalize ss.length=N at *
  go_enter Tryz.func172,Tryz.ntmps172
  go_wp2_with fail
  refine (c1 _).mono ?_
  rintro e w1 ⟨rfl,hb1⟩
  go_wp2_with fail
  refine (H3.out _ (HV.out.below hb1)).mono ?_
  rintro e w2 ⟨rfl,rfl⟩
  go_wp2_with fail
  go_ret
  exact⟨rfl,hb1⟩
 | none =>
  rw[hsc] at c1 HAL
  have c1:∀ w,Calls Tryz.prog 196 #[.string s] w fun e w'=>e=.returned (.tuple #[.string ⟨#[]⟩,.bool false])/\Below w.heap.size w w':=c1
  have c3:∀ w,Calls Tryz.prog 198 #[.string ⟨(bare (bl s)).toArray⟩] w fun e w'=>e=.returned (.bool R)/\w'=w:=fun w=>by
   rw[HAL.out]
   exact near_any (⟨(bare (bl s)).toArray⟩:ByteArray) (by rw[size_mk];omega) w
  generalize (⟨(bare (bl s)).toArray⟩:ByteArray)=B at c2 c3
  obtain⟨pv,cap,rfl,-,-⟩:=hv
  clear hsc hbl HAL
  generalize ss.length=N at *
  go_enter Tryz.func172,Tryz.ntmps172
  go_wp2_with fail
  refine (c1 _).mono ?_
  rintro e w1 ⟨rfl,hb1⟩
  go_wp2_with fail
  refine (c2 _).mono ?_
  rintro e w2 ⟨rfl,hb2⟩
  go_wp2_with fail
  refine (c3 _).mono ?_
  rintro e w3 ⟨rfl,rfl⟩
  go_wp2_with fail
  go_ret
  exact⟨rfl,bel2 hb1 hb2⟩
end Go.Proofs.YtkiofbikkhhdfaaGreatDoor.Ul
namespace Go.Proofs.YtkiofbikkhhdfaaGreatDoor
open Go.RowKit
open Utf1 Pol8
abbrev inV (B:Nat):Value:=.func (.func 207) #[] #[.pointer (some ⟨B,0,none⟩)]
theorem ponein_any (B:Nat) (v:Value) (ss:List ByteArray)(hl:ss.length<=100000) (x:ByteArray) (w:World)(hb:w.heap[B]?=some (.cells #[v] 22 (0,0)))(hv:StrArg w v ss) :
  Calls Tryz.prog 207 #[.string x,.pointer (some ⟨B,0,none⟩)] w fun e w'=>e=.returned (.bool (decide (bl x∈ss.map bl)))/\w'=w:=by
 have C1:=hide (contains_any x v ss hl w hv)
 generalize decide (bl x∈ss.map bl)=R at C1 ⊢
 have y0:=tag_cell hb 0 _ rfl
 obtain⟨q,cap,rfl,-,-⟩:=hv
 clear hb
 go_enter Tryz.func207,Tryz.ntmps207
 go_wp2_with fail
 refine C1.out.mono ?_
 rintro e w1 ⟨rfl,rfl⟩
 clear C1
 go_wp2_with fail
 go_ret
 exact⟨rfl,rfl⟩
def inL (l:List L) (x:L):Bool:=decide (x∈l)
def InQ (B:Nat) (l:List L) (w:World):Prop:=∀ (W:World) (x:ByteArray),Below w.heap.size w W->Calls Tryz.prog 207 #[.string x,.pointer (some ⟨B,0,none⟩)] W fun e w'=>e=.returned (.bool (inL l (bl x)))/\w'=W
theorem inQ_of (B:Nat) (v:Value) (ss:List ByteArray)(hl:ss.length<=100000) (w:World)(hb:w.heap[B]?=some (.cells #[v] 22 (0,0)))(hv:StrArg w v ss):InQ B (ss.map bl) w :=
 fun W x hbb=>ponein_any B v ss hl x W ((hbb.block _ (Array.getElem?_eq_some_iff.1 hb).1).trans hb) (hv.below hbb)
theorem poneOf_any (v:Value) (ss:List ByteArray)(hl:ss.length<=100000) (w:World)(hv:StrArg w v ss) :
  Calls Tryz.prog 195 #[v] w fun e w'=>(∃ B,e=.returned (inV B)/\InQ B (ss.map bl) w')/\Below w.heap.size w w':=by
 have hmf:∀ (fn:Fn) (first cap:Array Value) (w:World),(Instr.makeFunc fn first cap).run Tryz.prog w=.ok (.func fn first cap) w:=fun _ _ _ _=>rfl
 obtain⟨w1,hw1⟩:∃ w1,w1=w.alloc (.cells #[v] 22):=⟨_,rfl⟩
 have hb1:Below w.heap.size w w1:=by rw[hw1];exact bel_alloc (Below.refl _ _) _
 have hk:w1.heap[w.heap.size]?=some (.cells #[v] 22 (0,0)):=by rw[hw1];exact new_block _ _ _
 have HT:Hid ((∃ B,Ending.returned (inV w.heap.size)=.returned (inV B)/\InQ B (ss.map bl) w1)/\Below w.heap.size w w1):=hide ⟨⟨w.heap.size,rfl,inQ_of _ v ss hl w1 hk (hv.below hb1)⟩,hb1⟩
 obtain⟨q,cap,rfl,-,-⟩:=hv
 clear hk hb1
 go_enter Tryz.func195,Tryz.ntmps195
 go_wp2_with fail
 rw[<-hw1]
 clear hw1 hmf
 go_wp2_with fail
 go_ret
 exact HT.out
set_option maxRecDepth 100000 in
set_option maxHeartbeats 16000000 in
theorem pattrB_any:AttrC:=by
 intro v1 v2 v3 v4 v5 p l1 l2 l3 l4 l5 x y w hv hf hx hy
 obtain⟨f1,z1⟩:=fits_of hf (by simp) hv.e1
 obtain⟨f2,z2⟩:=fits_of hf (by simp) hv.e2
 obtain⟨R,hR⟩:∃ R,R=attrB p (bl x) (bl y):=⟨_,rfl⟩
 rw[<-hR]
 have HAL:Hid (R=(decide (bl x∈l1.map bl) && (inL (l2.map bl) (bl (⟨#[42,46]⟩++y)) || inL (l2.map bl) (bl (x++⟨#[46]⟩++y))))):=hide (by
  rw[hR,hv.e1,hv.e2]
  unfold attrB inL
  rw[Bool.decide_or,app_bl,app_bl,app_bl]
  have e1:(42 :: 46 :: bl y:L)=bl ⟨#[42,46]⟩++bl y:=rfl
  have e2:(bl x++46 :: bl y:L)=bl x++bl ⟨#[46]⟩++bl y:=by rw[List.append_assoc];rfl
  rw[e1,e2])
 show Calls Tryz.prog 169 #[pvalL p.ep v1 v2 v3 v4 v5 p.dp p.nd p.bt,.string x,.string y] w _
 generalize p.ep=a0
 generalize p.dp=a6
 generalize p.nd=a7
 generalize p.bt=a8
 obtain⟨w1,hw1⟩:∃ w1,w1=w.alloc (.cells #[.int .i64 a0,v1,v2,v3,v4,v5,.int .i64 a6,.int .i64 a7,.int .i64 a8] 24):=⟨_,rfl⟩
 have HN:Hid (BoxP w #[.int .i64 a0,v1,v2,v3,v4,v5,.int .i64 a6,.int .i64 a7,.int .i64 a8] w1):=hide (by rw[hw1];exact⟨new_block _ _ _,bel_alloc (Below.refl _ _) _⟩)
 have SK:Hid (∀ wx,BoxP w #[.int .i64 a0,v1,v2,v3,v4,v5,.int .i64 a6,.int .i64 a7,.int .i64 a8] wx->wx.cell? ⟨w.heap.size,0,none⟩=some (.int .i64 a0)/\wx.cell? ⟨w.heap.size,1,none⟩=some v1/\wx.cell? ⟨w.heap.size,2,none⟩=some v2/\wx.cell? ⟨w.heap.size,3,none⟩=some v3/\wx.cell? ⟨w.heap.size,4,none⟩=some v4/\wx.cell? ⟨w.heap.size,5,none⟩=some v5/\wx.cell? ⟨w.heap.size,6,none⟩=some (.int .i64 a6)/\wx.cell? ⟨w.heap.size,7,none⟩=some (.int .i64 a7)/\wx.cell? ⟨w.heap.size,8,none⟩=some (.int .i64 a8)):=hide (fun wx h=>⟨h.cell 0 _ rfl,h.cell 1 _ rfl,h.cell 2 _ rfl,h.cell 3 _ rfl,h.cell 4 _ rfl,h.cell 5 _ rfl,h.cell 6 _ rfl,h.cell 7 _ rfl,h.cell 8 _ rfl⟩)
 have CO:=hide (fun wx (h:BoxP w #[.int .i64 a0,v1,v2,v3,v4,v5,.int .i64 a6,.int .i64 a7,.int .i64 a8] wx)=>poneOf_any v2 l2 f2 wx (hv.s2.below h.2))
 have CE:=hide (fun wx (h:BoxP w #[.int .i64 a0,v1,v2,v3,v4,v5,.int .i64 a6,.int .i64 a7,.int .i64 a8] wx)=>pelem_any a0 v1 v2 v3 v4 v5 a6 a7 a8 x l1 f1 wx (hv.s1.below h.2))
 obtain⟨X1,hX1⟩:∃ X1:ByteArray,X1=⟨#[42,46]⟩++y:=⟨_,rfl⟩
 obtain⟨X2,hX2⟩:∃ X2:ByteArray,X2=x++⟨#[46]⟩++y:=⟨_,rfl⟩
 rw[<-hX1,<-hX2] at HAL
 have HX1:=hide hX1
 have HX2:=hide hX2
 generalize decide (bl x∈l1.map bl)=t1 at CE HAL
 obtain⟨t2,ht2⟩:∃ t,t=inL (l2.map bl) (bl X1):=⟨_,rfl⟩
 obtain⟨t3,ht3⟩:∃ t,t=inL (l2.map bl) (bl X2):=⟨_,rfl⟩
 rw[<-ht2,<-ht3] at HAL
 have HI1:Hid (∀ B wx,InQ B (l2.map bl) wx->∀ wy,Below wx.heap.size wx wy->Calls Tryz.prog 207 #[.string (⟨#[42,46]⟩++y),.pointer (some ⟨B,0,none⟩)] wy fun e w'=>e=.returned (.bool t2)/\w'=wy):=hide (fun B wx h wy hb=>by rw[ht2,hX1];exact h wy _ hb)
 have HI2:Hid (∀ B wx,InQ B (l2.map bl) wx->∀ wy,Below wx.heap.size wx wy->Calls Tryz.prog 207 #[.string (x++⟨#[46]⟩++y),.pointer (some ⟨B,0,none⟩)] wy fun e w'=>e=.returned (.bool t3)/\w'=wy):=hide (fun B wx h wy hb=>by rw[ht3,hX2];exact h wy _ hb)
 clear hv hf hR z1 z2 f1 f2 hX1 hX2 ht2 ht3 HX1 HX2
 go_enter Tryz.func169,Tryz.ntmps169
 go_upto_region 1 with fail
 rw[<-hw1]
 clear hw1
 obtain⟨y0,y1,y2,y3,y4,y5,y6,y7,y8⟩:=SK.out _ HN.out
 go_wp2_with fail
 refine (CO.out _ HN.out).mono ?_
 rintro e w2 ⟨⟨B,rfl,hq⟩,hb2⟩
 have H2:=hide (HN.out.keep hb2)
 have HQ:=hide hq
 clear hb2 hq HN CO y0 y1 y2 y3 y4 y5 y6 y7 y8
 obtain⟨y0,y1,y2,y3,y4,y5,y6,y7,y8⟩:=SK.out _ H2.out
 go_wp2_with fail
 refine (CE.out _ H2.out).mono ?_
 rintro e w3 ⟨rfl,hb3⟩
 have H3:=hide (H2.out.keep hb3)
 have C1:=hide (HI1.out B w2 HQ.out w3 hb3)
 have C2:=hide (HI2.out B w2 HQ.out w3 hb3)
 clear hb3 H2 CE HQ HI1 HI2 SK y0 y1 y2 y3 y4 y5 y6 y7 y8
 cases t1 with
 | false =>
  have HR:Hid (R=false):=hide (by rw[HAL.out];rfl)
  clear HAL C1 C2
  go_wp2_with fail
  go_ret
  rw[HR.out]
  exact⟨rfl,H3.out.2⟩
 | true =>
  cases t2 with
  | true =>
   have HR:Hid (R=true):=hide (by rw[HAL.out];rfl)
   clear HAL C2
   go_wp2_with fail
   refine C1.out.mono ?_
   rintro e w4 ⟨rfl,rfl⟩
   clear C1
   go_wp2_with fail
   go_ret
   rw[HR.out]
   exact⟨rfl,H3.out.2⟩
  | false =>
   have HR:Hid (R=t3):=hide (by rw[HAL.out];simp)
   clear HAL
   go_wp2_with fail
   refine C1.out.mono ?_
   rintro e w4 ⟨rfl,rfl⟩
   clear C1
   go_wp2_with fail
   refine C2.out.mono ?_
   rintro e w4 ⟨rfl,rfl⟩
   clear C2
   cases t3
   all_goals
    go_wp2_with fail
    go_ret
    rw[HR.out]
    exact⟨rfl,H3.out.2⟩
end Go.Proofs.YtkiofbikkhhdfaaGreatDoor
