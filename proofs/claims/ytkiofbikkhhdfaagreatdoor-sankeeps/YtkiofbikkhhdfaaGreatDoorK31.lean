import Derived.Test.YtkiofbikkhhdfaaGreatDoorK06
import Derived.SliceStrings
import Derived.OpenShut
import Derived.SizedLaws
namespace Go.Proofs.YtkiofbikkhhdfaaGreatDoor.Dm
open Go.RowKit
open Utf1
set_option maxRecDepth 100000 in
set_option maxHeartbeats 16000000 in
theorem weight_nst:∀ (D:Nat) (w:World) (v:Value) (ns:List Nd) (dp:Nat),NAtD w D v ns->dp<=81 ->
  Calls Tryz.prog 36 #[v,.int .i64 (dp:Int)] w fun e w'=>∃ n:Nat,e=.returned (.int .i64 (n:Int))/\n<=110000*(82 - dp)/\(n < 20000->wsL ns<=n)/\Below w.heap.size w w':=by
 intro D
 induction D with
 | zero=>intro w v ns dp h;exact h.elim
 | succ D0 ih =>
 intro w v ns dp hk hdp
 obtain⟨p,c,rfl,hNm,hnode⟩:=hk
 have HNODE:=hide hnode
 have HIH:=hide ih
 obtain⟨N,hN⟩:∃ N,N=ns.length:=⟨_,rfl⟩
 rw[<-hN] at hNm ⊢
 have HN:=hide hN
 clear hnode ih hN
 go_enter Tryz.func36,Tryz.ntmps36
 go_wp2_with fail
 go_loopg [5,6] N (fun k v5 v6 wr=>∃ (j n:Nat) (d rest:List Nd),rest.length=k/\d.length=j/\j+k=N/\v5=.int .i64 (n:Int)/\v6=.int .i64 (j:Int)/\n<=110000*(82 - dp)/\Hid (n < 20000->wsL d<=n)/\Hid (ns=d++rest)/\Hid (Below w.heap.size w wr))
 case atStart=>exact⟨0,0,[],ns,HN.out.symm,rfl,by omega,rfl,rfl,by omega,hide (fun _=>Nat.le_refl _),hide rfl,hide (Below.refl _ _)⟩
 case round =>
  obtain⟨j,n,d,rest,rfl,hdj,hjk,rfl,rfl,hnb,HW,HD,HB⟩:=hrel
  by_cases hn2:n < 20000
  case neg =>
   have hend:n < 20000->wsL ns<=n:=fun h=>absurd h hn2
   have HEND:=hide hend
   clear hend
   by_cases hjl:j < N
   ·have hd1:decide ((j:Int) < (N:Int))=true:=decide_eq_true (by omega)
    have hd2:decide ((n:Int) < 20000)=false:=decide_eq_false (by omega)
    go_wp2_with fail
    go_ret
    exact⟨n,rfl,hnb,HEND.out,HB.out⟩
   ·have hd1:decide ((j:Int) < (N:Int))=false:=decide_eq_false (by omega)
    go_wp2_with fail
    go_ret
    exact⟨n,rfl,hnb,HEND.out,HB.out⟩
  case pos =>
  match rest,hjk,HD with
  | [],hjk,HD =>
   have e1:d=ns:=by
    have:=HD.out
    rw[List.append_nil] at this
    exact this.symm
   simp only[List.length_nil,Nat.add_zero] at hjk
   subst hjk
   subst e1
   clear HD hdj
   go_wp2_with fail
   go_ret
   exact⟨n,rfl,hnb,HW.out,HB.out⟩
  | nd :: rest,hjk,HD =>
   have hjN:j < N:=by simp only[List.length_cons] at hjk;omega
   by_cases hd81:80 < dp
   ·have HR:Hid ((20000:Nat) < 20000->wsL ns<=20000):=hide (fun h=>absurd h (by decide))
    clear HD HW
    go_wp2_with fail
    try rw[Exit.noGoto_ret]
    go_ret
    exact⟨20000,rfl,by omega,HR.out,HB.out⟩
   have hge:ns[j]?=some nd:=by
    rw[HD.out,List.getElem?_append_right (by omega),hdj,Nat.sub_self]
    rfl
   obtain⟨g,off,ap,am,ac,kp,km,kc,hp,x0,x1,x2,x3,hsz,har,hkk⟩:=HNODE.out j nd hge
   subst hp
   have x0:=cell_keep x0 HB.out
   have x1:=cell_keep x1 HB.out
   have x2:=cell_keep x2 HB.out
   have x3:=cell_keep x3 HB.out
   obtain⟨XN,hXN⟩:∃ X:ByteArray,X=⟨nd.name.toArray⟩:=⟨_,rfl⟩
   obtain⟨XT,hXT⟩:∃ X:ByteArray,X=⟨nd.text.toArray⟩:=⟨_,rfl⟩
   rw[<-hXN] at x0
   rw[<-hXT] at x2
   have hNs:XN.size=nd.name.length:=by rw[hXN];rfl
   have hTs:XT.size=nd.text.length:=by rw[hXT];rfl
   have hws:wsL (d++[nd])=wsL d+(1+nd.name.length+nd.text.length+waL nd.attrs+wsL nd.kids):=by
    rw[wsL_app]
    show _+(wsN nd+0)=_
    rw[wsN_kids,Nat.add_zero]
   have HD2:Hid (ns=(d++[nd])++rest):=hide (by rw[HD.out];simp)
   have hjk2:j+(rest.length+1)=N:=hjk
   have hdj2:(d++[nd]).length=j+1:=by simp[hdj]
   have hns:XN.size<=281474976710656:=by rw[hNs];exact hsz.1
   have hts:XT.size<=281474976710656:=by rw[hTs];exact hsz.2
   have HKK:=hide (fun wx (hx:Below w.heap.size w wx)=>HIH.out wx (.slice kp km kc) nd.kids (dp+1) (hkk.below hx) (by omega))
   have HAR:=hide har
   have ham:=har.1.1
   have hamb:=har.1.2
   obtain⟨m,hm⟩:∃ m:Nat,m=n+1+min XN.size 20000+min XT.size 20000:=⟨_,rfl⟩
   have HM1:Hid (m < 20000->wsL d+(1+nd.name.length+nd.text.length)<=m):=hide (by
    intro h
    have:=HW.out hn2
    omega)
   have hmb:m<=60001:=by omega
   obtain⟨ats,hats⟩:∃ ats,ats=nd.attrs:=⟨_,rfl⟩
   rw[<-hats] at HAR ham hws
   have HWS:=hide hws
   have HAM:=hide ham
   clear hge hkk har HD hXT hXN hjk hdj hsz hws hats HIH HNODE HW ham hNs hTs
   have HMM:Hid ((n:Int)+1+min (XN.size:Int) 20000+min (XT.size:Int) 20000=(m:Int)):=hide (by omega)
   clear hm
   go_upto_region 7 with fail
   go_region
   rw[HMM.out]
   clear HMM x0 x2
   have HB2:=hide (HB.out.trans ((bel_one _).mono HB.out.size))
   have x1:(World.drew wr).cell? _=some (.slice ap am ac):=x1
   have x3:(World.drew wr).cell? _=some (.slice kp km kc):=x3
   clear HB
   generalize World.drew wr=wr at *
   go_wp2_with fail
   go_loopg [5,7] am (fun k2 v5 v7 wq=>∃ (q n2:Nat) (a r2:List (List UInt8 × List UInt8)),r2.length=k2/\a.length=q/\q+k2=am/\v5=.int .i64 (n2:Int)/\v7=.int .i64 (q:Int)/\n2<=60001/\Hid (n2 < 20000->wsL d+(1+nd.name.length+nd.text.length+waL a)<=n2)/\Hid (ats=a++r2)/\Hid (Below wr.heap.size wr wq))
   case atStart=>exact⟨0,m,[],ats,HAM.out.symm,rfl,by omega,rfl,rfl,hmb,hide (fun h=>by have:=HM1.out h;show _+(_+0)<=_;omega),hide rfl,hide (Below.refl _ _)⟩
   case round =>
    obtain⟨q,n2,a,r2,rfl,haq,hqk,rfl,rfl,hn2b,HW2,HDA,HBQ⟩:=hrel
    have x1:=cell_keep x1 HBQ.out
    have x3:=cell_keep x3 HBQ.out
    have HBW:=hide (bel2 HB2.out HBQ.out)
    have HKW:=hide (HKK.out wr HBW.out)
    by_cases hgo:n2 < 20000/\r2≠[]
    case neg =>
     have HW3:Hid (n2 < 20000->wsL d+(1+nd.name.length+nd.text.length+waL ats)<=n2):=hide (by
      intro h
      have h2:r2=[]:=Classical.byContradiction (fun h3=>hgo ⟨h,h3⟩)
      have:=HW2.out h
      rw[HDA.out,h2,List.append_nil]
      exact this)
     have hcond:¬ (q < am/\n2 < 20000):=by
      rintro ⟨h1,h2⟩
      apply hgo
      refine⟨h2,?_⟩
      intro h3
      rw[h3] at hqk
      simp at hqk
      omega
     have hfin:∀ nk:Nat,nk<=110000*(82 - (dp+1))->(nk < 20000->wsL nd.kids<=nk)->n2+nk<=110000*(82 - dp)/\(n2+nk < 20000->wsL (d++[nd])<=n2+nk):=by
      intro nk h1 h2
      refine⟨by omega,fun h=>?_⟩
      have e1:=HW3.out (by omega)
      have e2:=h2 (by omega)
      rw[HWS.out]
      omega
     have HFIN:=hide hfin
     clear hfin HW3 HW2 HDA hgo haq HAR HM1 HWS HKK
     by_cases hq1:q < am
     ·have hq2:¬ n2 < 20000:=fun h=>hcond ⟨hq1,h⟩
      have hd1:decide ((q:Int) < (am:Int))=true:=decide_eq_true (by omega)
      have hd2:decide ((n2:Int) < 20000)=false:=decide_eq_false (by omega)
      clear hcond
      go_wp2_with fail
      refine HKW.out.mono ?_
      rintro e w5 ⟨nk,rfl,hk1,hk2,hb5⟩
      have hkb:nk<=9020000:=by omega
      obtain⟨t1,t2⟩:=HFIN.out nk hk1 hk2
      have HB5:=hide (bel2 HBW.out hb5)
      have HT2:=hide t2
      clear hb5 HKW HFIN hk2 t2
      go_wp2_with fail
      go_roundg rest.length
      case measure=>simp only[List.length_cons];omega
      case rel=>exact⟨j+1,n2+nk,d++[nd],rest,rfl,hdj2,by omega,by first | rfl | simp,by first | rfl | simp,t1,HT2,HD2,HB5⟩
     ·have hd1:decide ((q:Int) < (am:Int))=false:=decide_eq_false (by omega)
      clear hcond
      go_wp2_with fail
      refine HKW.out.mono ?_
      rintro e w5 ⟨nk,rfl,hk1,hk2,hb5⟩
      have hkb:nk<=9020000:=by omega
      obtain⟨t1,t2⟩:=HFIN.out nk hk1 hk2
      have HB5:=hide (bel2 HBW.out hb5)
      have HT2:=hide t2
      clear hb5 HKW HFIN hk2 t2
      go_wp2_with fail
      go_roundg rest.length
      case measure=>simp only[List.length_cons];omega
      case rel=>exact⟨j+1,n2+nk,d++[nd],rest,rfl,hdj2,by omega,by first | rfl | simp,by first | rfl | simp,t1,HT2,HD2,HB5⟩
    case pos =>
     obtain⟨hlt2,hr2⟩:=hgo
     match r2,hr2,hqk,HDA with
     | kv :: r2,_,hqk,HDA =>
      have hqlt:q < am:=by simp only[List.length_cons] at hqk;omega
      have hd1:decide ((q:Int) < (am:Int))=true:=decide_eq_true (by omega)
      have hd2:decide ((n2:Int) < 20000)=true:=decide_eq_true (by omega)
      have hga:ats[q]?=some kv:=by
       rw[HDA.out,List.getElem?_append_right (by omega),haq,Nat.sub_self]
       rfl
      obtain⟨b,off2,hap,z0,z1,hz1,hz2⟩:=HAR.out.2 q kv hga
      subst hap
      have z0:=cell_keep z0 HBW.out
      have z1:=cell_keep z1 HBW.out
      obtain⟨XA,hXA⟩:∃ X:ByteArray,X=⟨kv.1.toArray⟩:=⟨_,rfl⟩
      obtain⟨XV,hXV⟩:∃ X:ByteArray,X=⟨kv.2.toArray⟩:=⟨_,rfl⟩
      rw[<-hXA] at z0
      rw[<-hXV] at z1
      have hAl:XA.size=kv.1.length:=by rw[hXA];rfl
      have hVl:XV.size=kv.2.length:=by rw[hXV];rfl
      obtain⟨m2,hm2⟩:∃ m2:Nat,m2=n2+1+min XA.size 20000+min XV.size 20000:=⟨_,rfl⟩
      have HMM:Hid ((n2:Int)+1+min (XA.size:Int) 20000+min (XV.size:Int) 20000=(m2:Int)):=hide (by omega)
      have HW3:Hid (m2 < 20000->wsL d+(1+nd.name.length+nd.text.length+waL (a++[kv]))<=m2):=hide (by
       intro h
       have h1:=HW2.out hlt2
       rw[waL_app,show waL [kv]=1+kv.1.length+kv.2.length+0 from rfl]
       omega)
      have hm2b:m2<=60001:=by omega
      have hxa:XA.size<=281474976710656:=by rw[hAl];exact hz1
      have hxv:XV.size<=281474976710656:=by rw[hVl];exact hz2
      have HDA2:Hid (ats=(a++[kv])++r2):=hide (by rw[HDA.out];simp)
      have hqk2:q+(r2.length+1)=am:=hqk
      have haq2:(a++[kv]).length=q+1:=by simp[haq]
      clear hga hz1 hz2 hXA hXV hAl hVl hm2 HDA HW2 hqk haq HKW HKK x3 HWS HM1 HAR
      go_upto_region 11 with fail
      go_region
      rw[HMM.out]
      clear HMM
      go_wp2_with fail
      go_roundg r2.length
      case measure=>simp only[List.length_cons];omega
      case rel=>exact⟨q+1,m2,a++[kv],r2,rfl,haq2,by omega,by first | rfl | simp,by first | rfl | simp,hm2b,HW3,HDA2,hide (HBQ.out.trans ((bel_one _).mono HBQ.out.size))⟩
set_option maxRecDepth 100000 in
theorem light_nst (w:World) (v:Value) (ns:List Nd)(hk:NAt w v ns) :
  Calls Tryz.prog 13 #[v,.int .i64 0] w fun e w'=>∃ b:Bool,e=.returned (.bool b)/\(b=true->wsL ns < 20000)/\Below w.heap.size w w':=by
 obtain⟨D,hk⟩:=hk
 have HW:=hide (weight_nst D w v ns 0 hk (by decide))
 clear hk
 go_enter Tryz.func13,Tryz.ntmps13
 go_wp2_with fail
 refine HW.out.mono ?_
 rintro e w1 ⟨n,rfl,hn,h2,hb⟩
 have H2:=hide h2
 have HB:=hide hb
 clear h2 hb HW
 have hn:n<=9020000:=by omega
 go_wp2_with fail
 go_ret
 refine⟨_,rfl,?_,HB.out⟩
 intro h
 have h:(n:Int) < 20000:=of_decide_eq_true h
 have:=H2.out (by omega)
 omega
end Go.Proofs.YtkiofbikkhhdfaaGreatDoor.Dm
namespace Go.Proofs.YtkiofbikkhhdfaaGreatDoor.Dm
open Go.ChangeShapes Go.WideShapes Go.RowKit
open Utf1
theorem list_choice {α:Type}{R:Nat->α->Prop}:∀ n:Nat,(∀ i,i < n->∃ x,R i x)->∃ l:List α,l.length=n/\∀ i x,l[i]?=some x->R i x
 | 0,_=>⟨[],rfl,fun i x h=>by simp at h⟩
 | n+1,h=>by
  obtain⟨l,hl,hr⟩:=list_choice n (fun i hi=>h i (by omega))
  obtain⟨x,hx⟩:=h n (by omega)
  refine⟨l++[x],by simp[hl],?_⟩
  intro i y hy
  by_cases hi:i < l.length
  ·rw[List.getElem?_append_left hi] at hy
   exact hr i y hy
  ·have hlen:=(List.getElem?_eq_some_iff.1 hy).1
   rw[List.length_append,List.length_singleton] at hlen
   have e:i=l.length:=by omega
   subst e
   rw[List.getElem?_append_right (Nat.le_refl _),Nat.sub_self] at hy
   have:x=y:=by simpa using hy
   rw[hl,<-this]
   exact hx
section
variable {H:Type}{P:Program}
theorem weights_all {e:TypeId}{n:Nat}{d:DataW H}:∀ {l:List (DataW H)},d∈l->n∈d.weights P e->n∈DataW.weightsAll P e l
 | [],h,_=>by cases h
 | x :: r,h,hn=>by
  simp only[DataW.weightsAll,List.mem_append]
  rcases List.mem_cons.1 h with rfl | h
  ·exact .inl hn
  ·exact .inr (weights_all h hn)
theorem weights_slice {t e:TypeId}(hu:P.underlying t=some (.slice e)) {elems spare:List (DataW H)}{d:DataW H}{n:Nat}(h:d∈elems)(hn:n∈d.weights P e):n∈(DataW.slice elems spare).weights P t:=by
 simp only[DataW.weights,hu,List.mem_cons,List.mem_append]
 exact .inr (.inl (weights_all h hn))
theorem weights_agg {t t':TypeId}{fs:Array Field}(hu:P.underlying t=some (.struct fs)) {parts:List (DataW H)}{d:DataW H}{n j:Nat}(hf:(fs.toList.map (·.type))[j]?=some t')(h:parts[j]?=some d)(hn:n∈d.weights P t'):n∈(DataW.agg parts).weights P t:=by
 simp only[DataW.weights,hu]
 exact DataW.weights_mem_each hf h n hn
end
theorem cells1:Tryz.prog.cellsOf 9=1:=by kernel_rfl
theorem cellsAt:Tryz.prog.cellsOf 117=2:=by kernel_rfl
theorem cellsNd:Tryz.prog.cellsOf 54=4:=by kernel_rfl
section
variable {H:Type}{enc:TypeId × Value->H}{W:World}{sp:Nat->Bool}
set_option maxRecDepth 100000 in
theorem attr_elem {n:Nat}{cs:List Value}{x:DataW H × List MemPlace}(h:DataW.trod enc Tryz.prog W 0 sp true n 117 cs=some x):∃ a b:ByteArray,cs=[.string a,.string b]/\x.1=.agg [.lit (.string a.data.toList),.lit (.string b.data.toList)]:=by
 obtain⟨y0,y1,m,rfl,hl,h0,h1⟩:=trod_struct2 Tryz.underlying117 h
 rw[cellsAt] at hl
 match cs,hl with
 | [c0,c1],_ =>
  simp only[cells1,List.drop_zero,List.take_succ_cons,List.take_zero,List.drop_succ_cons] at h0 h1
  obtain⟨a,e0,rfl,-⟩:=DataW.trod_string Tryz.underlying9 h0
  obtain⟨b,e1,rfl,-⟩:=DataW.trod_string Tryz.underlying9 h1
  cases e0
  cases e1
  exact⟨a,b,rfl,rfl⟩
theorem spot_first {a:Addr}{b n:Nat}{cs:List Value}(h:W.cells? b (a.add 0) n=some cs)(hn:0 < n):a.spot=none:=by
 obtain⟨_,hl,hc⟩:=World.cells?_some h
 have h0:=hc 0 hn
 rw[List.getElem?_eq_getElem (by omega)] at h0
 simpa [Addr.add] using World.cell?_spot h0
theorem at_cell {a:Addr}{i k:Nat}{v:Value}(hs:a.spot=none)(h:W.cell? ((a.add i).add k)=some v):W.cell? ⟨a.block,a.off+i+k,none⟩=some v:=by
 obtain⟨b,off,spot⟩:=a
 simp only[] at hs
 subst hs
 rw[add_plain,add_plain] at h
 exact h
set_option maxRecDepth 100000 in
theorem attr_slice {n:Nat}{sl:Value}{y:DataW H × List MemPlace}(h:DataW.trod enc Tryz.prog W 0 sp true n 52 [sl]=some y)(hw:∀ k∈y.1.weights Tryz.prog 52,k<=reachBytes):∃ p m c at',sl=.slice p m c/\ARow W p m at':=by
 rcases DataW.trod_slice Tryz.underlying52 h with⟨hc,rfl⟩ | ⟨a,len,cap,elems,rest,n',_,hc,rfl,hb,hl,hm,hlen,hel,hsp,hns⟩
 ·cases hc
  exact⟨none,0,0,[],rfl,arow_nil W⟩
 ·cases hc
  rw[cellsAt] at hel
  have key:∀ i,i < len->∃ kv:List UInt8 × List UInt8,∃ b off,some a=some ⟨b,off,none⟩/\W.cell? ⟨b,off+i*2,none⟩=some (.string ⟨kv.1.toArray⟩)/\W.cell? ⟨b,off+i*2+1,none⟩=some (.string ⟨kv.2.toArray⟩)/\kv.1.length<=281474976710656/\kv.2.length<=281474976710656:=by
   intro i hi
   have h1:=hel i hi
   have hil:i < elems.length:=by omega
   rw[List.getElem?_eq_getElem hil,Option.bind_eq_some_iff] at h1
   obtain⟨cs,hcs,ht⟩:=h1
   obtain⟨s,t,rfl,ex⟩:=attr_elem ht
   obtain⟨_,_,hcell⟩:=World.cells?_some hcs
   have hsp1:a.spot=none:=by
    have h0:=hel 0 (by omega)
    rw[List.getElem?_eq_getElem (by omega),Option.bind_eq_some_iff,Nat.zero_mul] at h0
    obtain⟨cs0,hcs0,_⟩:=h0
    exact spot_first hcs0 (by decide)
   have c0:=at_cell hsp1 (hcell 0 (by decide))
   have c1:=at_cell hsp1 (hcell 1 (by decide))
   have hmem:elems[i].1∈elems.map (·.1):=List.mem_map.2 ⟨_,List.getElem_mem hil,rfl⟩
   have hws:∀ k∈elems[i].1.weights Tryz.prog 117,k<=reachBytes:=fun k hk=>hw k (weights_slice Tryz.underlying52 hmem hk)
   rw[ex] at hws
   have w0:=hws s.data.toList.length (weights_agg Tryz.underlying117 (j:=0) rfl rfl (by simp[DataW.weights]))
   have w1:=hws t.data.toList.length (weights_agg Tryz.underlying117 (j:=1) rfl rfl (by simp[DataW.weights]))
   have hr:=reachBytes_lt
   refine⟨(s.data.toList,t.data.toList),a.block,a.off,?_,?_,?_,?_,?_⟩
   ·obtain⟨b,off,spot⟩:=a
    simp only[] at hsp1
    rw[hsp1]
   ·rw[Nat.add_zero] at c0
    rw[c0]
   ·rw[c1]
   ·show s.data.toList.length<=_
    omega
   ·show t.data.toList.length<=_
    omega
  obtain⟨at',hal,har⟩:=list_choice len key
  exact⟨some a,len,cap,at',rfl,⟨hal.symm,by unfold maxLen at hm;omega⟩,har⟩
set_option maxRecDepth 100000 in
theorem nod_elem {n:Nat}{cs:List Value}{x:DataW H × List MemPlace}(h:DataW.trod enc Tryz.prog W 0 sp true n 54 cs=some x):∃ (name:ByteArray) (sl:Value) (text:ByteArray) (kl:Value) (m:Nat) (y z:DataW H × List MemPlace),cs=[.string name,sl,.string text,kl]/\n=m+1/\DataW.trod enc Tryz.prog W 0 sp true m 52 [sl]=some y/\DataW.trod enc Tryz.prog W 0 sp true m 32 [kl]=some z/\x.1=.agg [.lit (.string name.data.toList),y.1,.lit (.string text.data.toList),z.1]:=by
 obtain⟨xs,m,hn,rfl,hl,hlen,hf⟩:=DataW.trod_struct Tryz.underlying54 h
 rw[cellsNd] at hl
 match cs,hl,xs,hlen with
 | [c0,c1,c2,c3],_,[y0,y1,y2,y3],_ =>
  have h0:=hf 0 _ rfl
  have h1:=hf 1 _ rfl
  have h2:=hf 2 _ rfl
  have h3:=hf 3 _ rfl
  simp only[List.getElem?_cons_zero,List.getElem?_cons_succ] at h0 h1 h2 h3
  obtain⟨nm,e0,rfl,-⟩:=DataW.trod_string Tryz.underlying9 h0
  obtain⟨tx,e2,rfl,-⟩:=DataW.trod_string Tryz.underlying9 h2
  cases e0
  cases e2
  exact⟨nm,c1,tx,c3,m,y1,y3,rfl,hn,h1,h3,rfl⟩
set_option maxRecDepth 100000 in
theorem nod_slice:∀ (n:Nat) {sl:Value}{y:DataW H × List MemPlace},DataW.trod enc Tryz.prog W 0 sp true n 32 [sl]=some y->(∀ k∈y.1.weights Tryz.prog 32,k<=reachBytes)->∃ p m c ns,sl=.slice p m c/\NAtD W (n+1) sl ns:=by
 intro n
 induction n using Nat.strongRecOn with
 | _ n ih =>
 intro sl y h hw
 rcases DataW.trod_slice Tryz.underlying32 h with⟨hc,rfl⟩ | ⟨a,len,cap,elems,rest,n',hn',hc,rfl,hb,hl,hm,hlen,hel,hsp,hns⟩
 ·cases hc
  exact⟨none,0,0,[],rfl,⟨none,0,rfl,by decide,fun i nd h=>by simp at h⟩⟩
 ·cases hc
  rw[cellsNd] at hel
  have key:∀ i,i < len->∃ nd:Nd,∃ g off ap am ac kp km kc,some a=some ⟨g,off,none⟩/\W.cell? ⟨g,off+i*4,none⟩=some (.string ⟨nd.name.toArray⟩)/\W.cell? ⟨g,off+i*4+1,none⟩=some (.slice ap am ac)/\W.cell? ⟨g,off+i*4+2,none⟩=some (.string ⟨nd.text.toArray⟩)/\W.cell? ⟨g,off+i*4+3,none⟩=some (.slice kp km kc)/\(nd.name.length<=281474976710656/\nd.text.length<=281474976710656)/\ARow W ap am nd.attrs/\NAtD W n (.slice kp km kc) nd.kids:=by
   intro i hi
   have h1:=hel i hi
   have hil:i < elems.length:=by omega
   rw[List.getElem?_eq_getElem hil,Option.bind_eq_some_iff] at h1
   obtain⟨cs,hcs,ht⟩:=h1
   obtain⟨nm,sl1,tx,kl1,m,y1,z1,rfl,hmn,hy,hz,ex⟩:=nod_elem ht
   obtain⟨_,_,hcell⟩:=World.cells?_some hcs
   have hsp1:a.spot=none:=by
    have h0:=hel 0 (by omega)
    rw[List.getElem?_eq_getElem (by omega),Option.bind_eq_some_iff,Nat.zero_mul] at h0
    obtain⟨cs0,hcs0,_⟩:=h0
    exact spot_first hcs0 (by decide)
   have c0:=at_cell hsp1 (hcell 0 (by decide))
   have c1:=at_cell hsp1 (hcell 1 (by decide))
   have c2:=at_cell hsp1 (hcell 2 (by decide))
   have c3:=at_cell hsp1 (hcell 3 (by decide))
   have hmem:elems[i].1∈elems.map (·.1):=List.mem_map.2 ⟨_,List.getElem_mem hil,rfl⟩
   have hws:∀ k∈elems[i].1.weights Tryz.prog 54,k<=reachBytes:=fun k hk=>hw k (weights_slice Tryz.underlying32 hmem hk)
   rw[ex] at hws
   have w0:=hws nm.data.toList.length (weights_agg Tryz.underlying54 (j:=0) rfl rfl (by simp[DataW.weights]))
   have w2:=hws tx.data.toList.length (weights_agg Tryz.underlying54 (j:=2) rfl rfl (by simp[DataW.weights]))
   obtain⟨p,m',c,at',rfl,hat⟩:=attr_slice hy (fun k hk=>hws k (weights_agg Tryz.underlying54 (j:=1) rfl rfl hk))
   obtain⟨kp,km,kc,ns,rfl,hns2⟩:=ih m (by omega) hz (fun k hk=>hws k (weights_agg Tryz.underlying54 (j:=3) rfl rfl hk))
   have hr:=reachBytes_lt
   refine⟨.mk nm.data.toList at' tx.data.toList ns,a.block,a.off,p,m',c,kp,km,kc,?_,?_,?_,?_,?_,⟨?_,?_⟩,hat,hns2.more (by omega)⟩
   ·obtain⟨b,off,spot⟩:=a
    simp only[] at hsp1
    rw[hsp1]
   ·rw[Nat.add_zero] at c0
    rw[c0]
    rfl
   ·rw[c1]
   ·rw[c2]
    rfl
   ·rw[c3]
   ·show nm.data.toList.length<=_
    omega
   ·show tx.data.toList.length<=_
    omega
  obtain⟨ns,hal,har⟩:=list_choice len key
  refine⟨some a,len,cap,ns,rfl,⟨some a,cap,by rw[hal],by rw[hal];unfold maxLen at hm;omega,har⟩⟩
def NArg (w:World) (v:Value) (ns:List Nd):Prop:=NAt w v ns/\(v=.slice none 0 0\/∃ ad m c,v=.slice (some ad) m c)
set_option maxRecDepth 100000 in
theorem open_nods {a:Option Addr}{len cap:Nat}{d:DataW H}{p:List MemPlace}(h:DataW.Trod enc Tryz.prog W 0 sp true 32 (.slice a len cap) d p)(hw:∀ k∈d.weights Tryz.prog 32,k<=reachBytes):∃ ns:List Nd,NArg W (.slice a len cap) ns:=by
 obtain⟨fuel,hf⟩:=h
 obtain⟨_,_,_,ns,_,h⟩:=nod_slice fuel hf hw
 refine⟨ns,⟨_,h⟩,?_⟩
 rcases DataW.trod_slice Tryz.underlying32 hf with⟨hc,_⟩ | ⟨a',len',cap',_,_,_,_,hc,_⟩
 ·simp[Value.cells] at hc
  obtain⟨rfl,rfl,rfl⟩:=hc
  exact .inl rfl
 ·simp[Value.cells] at hc
  obtain⟨rfl,rfl,rfl⟩:=hc
  exact .inr ⟨_,_,_,rfl⟩
end
end Go.Proofs.YtkiofbikkhhdfaaGreatDoor.Dm
