import Derived.Test.YtkiofbikkhhdfabGreatDoorK23
import Derived.Test.YtkiofbikkhhdfabGreatDoorK22
import Derived.Test.YtkiofbikkhhdfabGreatDoorK21
import Derived.Test.YtkiofbikkhhdfabGreatDoorSX8
import Derived.Test.YtkiofbikkhhdfabGreatDoorK25
import Derived.Test.YtkiofbikkhhdfabGreatDoorR5
import Derived.Test.YtkiofbikkhhdfabGreatDoorK06
import Derived.Test.YtkiofbikkhhdfabGreatDoorK24
import Derived.Test.YtkiofbikkhhdfabGreatDoorK26
import Derived.Test.YtkiofbikkhhdfabGreatDoorK12
set_option maxRecDepth 100000
set_option maxHeartbeats 32000000
namespace Utf1
theorem wsL_mem:∀ {l:List Nd}{i:Nat}{x:Nd},l[i]?=some x->wsN x<=wsL l
 | [],i,x,h=>by simp at h
 | y :: l,0,x,h=>by
  have:y=x:=by simpa using h
  rw[this,wsL]
  omega
 | y :: l,i+1,x,h=>by
  have:=wsL_mem (l:=l) (i:=i) (x:=x) (by simpa using h)
  rw[wsL]
  omega
theorem waL_mem:∀ {l:List (List UInt8 × List UInt8)}{i:Nat}{x:List UInt8 × List UInt8},l[i]?=some x->1+x.1.length+x.2.length<=waL l
 | [],i,x,h=>by simp at h
 | y :: l,0,x,h=>by
  have:y=x:=by simpa using h
  rw[this,waL]
  omega
 | y :: l,i+1,x,h=>by
  have:=waL_mem (l:=l) (i:=i) (x:=x) (by simpa using h)
  rw[waL]
  omega
def tdSum:List Td->Nat
 | []=>0
 | k :: r=>k.text.length+tdSum r
theorem tdSum_app:∀ a b,tdSum (a++b)=tdSum a+tdSum b
 | [],b=>by simp[tdSum]
 | k :: a,b=>by
  rw[List.cons_append,tdSum,tdSum,tdSum_app a b]
  omega
mutual
theorem tdSum_N:∀ x:Nd,tdSum (tdN x)<=wsN x
 | .mk n a t k=>by
  rw[tdN,wsN]
  by_cases hn:n=[]
  ·rw[if_pos hn]
   show t.length+0<=_
   omega
  ·rw[if_neg hn]
   by_cases hv:n∈voids
   ·rw[if_pos hv]
    show 0+0<=_
    omega
   ·rw[if_neg hv]
    show 0+tdSum (tdL k++[⟨3,n,[],[]⟩])<=_
    rw[tdSum_app]
    have:=tdSum_L k
    show 0+(_+(0+0))<=_
    omega
theorem tdSum_L:∀ l:List Nd,tdSum (tdL l)<=wsL l
 | []=>by rw[tdL];exact Nat.zero_le _
 | x :: l=>by
  rw[tdL,wsL,tdSum_app]
  have:=tdSum_N x
  have:=tdSum_L l
  omega
end
mutual
theorem tk_N:∀ (x:Nd),∀ k∈tkN x,waL k.attrs<=wsN x/\k.name.length<=wsN x
 | .mk n a t kk,k,h=>by
  rw[tkN] at h
  rw[wsN]
  by_cases hn:n=[]
  ·rw[if_pos hn] at h
   have:k=⟨1,[],[],false,t⟩:=by simpa using h
   subst this
   exact⟨Nat.zero_le _,Nat.zero_le _⟩
  ·rw[if_neg hn] at h
   rcases List.mem_cons.1 h with rfl | h
   ·exact⟨by show waL a<=_;omega,by show n.length<=_;omega⟩
   ·by_cases hv:n∈voids
    ·rw[if_pos hv] at h
     cases h
    ·rw[if_neg hv] at h
     rcases List.mem_append.1 h with h | h
     ·have:=tk_L kk k h
      omega
     ·have:k=⟨3,n,[],false,[]⟩:=by simpa using h
      subst this
      exact⟨Nat.zero_le _,by show n.length<=_;omega⟩
theorem tk_L:∀ (l:List Nd),∀ k∈tkL l,waL k.attrs<=wsL l/\k.name.length<=wsL l
 | [],k,h=>by rw[tkL] at h;cases h
 | x :: l,k,h=>by
  rw[tkL] at h
  rw[wsL]
  rcases List.mem_append.1 h with h | h
  ·have:=tk_N x k h
   omega
  ·have:=tk_L l k h
   omega
end
mutual
theorem tk_lenN:∀ x:Nd,(tkN x).length<=2*ncN x
 | .mk n a t k=>by
  rw[tkN,ncN]
  by_cases hn:n=[]
  ·rw[if_pos hn]
   simp
   omega
  ·rw[if_neg hn]
   by_cases hv:n∈voids
   ·rw[if_pos hv]
    simp
    omega
   ·rw[if_neg hv]
    have:=tk_lenL k
    simp
    omega
theorem tk_lenL:∀ l:List Nd,(tkL l).length<=2*ncL l
 | []=>by rw[tkL];exact Nat.zero_le _
 | x :: l=>by
  rw[tkL,ncL,List.length_append]
  have:=tk_lenN x
  have:=tk_lenL l
  omega
end
end Utf1
namespace Go.Proofs.YtkiofbikkhhdfabGreatDoor.Dm
open Go.RowKit
open Utf1
theorem attr_two:∀ (l:List (List UInt8 × List UInt8)) (i:Nat) (p:List UInt8 × List UInt8),l[i]?=some p->(attrCells l)[i*2]?=some (.string ⟨p.1.toArray⟩)/\(attrCells l)[i*2+1]?=some (.string ⟨p.2.toArray⟩)
 | [],i,p,h=>by simp at h
 | q :: r,0,p,h=>by
  have:q=p:=by simpa using h
  subst this
  exact⟨rfl,rfl⟩
 | q :: r,i+1,p,h=>by
  have h':r[i]?=some p:=by simpa using h
  rw[show (i+1)*2=i*2+1+1 by omega]
  exact attr_two r i p h'
theorem attr_same:∀ l,attrCells l=_root_.Go.Proofs.YtkiofbikkhhdfabGreatDoor.To.attrCells l
 | []=>rfl
 | p :: r=>by
  show _ :: _ :: attrCells r=_ :: _ :: _root_.Go.Proofs.YtkiofbikkhhdfabGreatDoor.To.attrCells r
  rw[attr_same r]
theorem arow_own {w:World}{B n:Nat}{v:Value}{a:List (List UInt8 × List UInt8)}(h:w.ownsRow B 108 2 v n (attrCells a))(hn:n=a.length)(hb:waL a<=100000000):∃ p c,v=.slice p n c/\ARow w p n a:=by
 obtain⟨p,c,rfl⟩:=own_len h
 refine⟨p,c,rfl,⟨hn,own_most h⟩,?_⟩
 intro i kv hi
 have hil:=(List.getElem?_eq_some_iff.1 hi).1
 obtain⟨g,c',e,hcell⟩:=own_at h (by omega)
 injection e with e1
 have h2:=attr_two a i kv hi
 have hw:=waL_mem hi
 refine⟨g,0,e1,?_,?_,by omega,by omega⟩
 ·rw[Nat.zero_add,hcell _ (by omega)];exact h2.1
 ·rw[Nat.zero_add,hcell _ (by omega)];exact h2.2
theorem kat_node {w:World}{base:Nat}{v:Value}{ns:List Nd}{fp:List Nat}(h:KAt w base v ns fp):∃ p c,v=.slice p ns.length c/\∀ i nd,ns[i]?=some nd->∃ g av kp km kc f,p=some ⟨g,0,none⟩/\w.cell? ⟨g,i*4,none⟩=some (.string ⟨nd.name.toArray⟩)/\w.cell? ⟨g,i*4+1,none⟩=some av/\w.cell? ⟨g,i*4+2,none⟩=some (.string ⟨nd.text.toArray⟩)/\w.cell? ⟨g,i*4+3,none⟩=some (.slice kp km kc)/\KAt w base (.slice kp km kc) nd.kids f/\w.ownsRow base 108 2 av nd.attrs.length (attrCells nd.attrs):=by
 obtain⟨l,f,rfl,rfl,hro,hall⟩:=kat_inv h
 obtain⟨p,c,rfl⟩:=own_len hro
 refine⟨p,c,by rw[List.length_map],?_⟩
 intro i nd hi
 rw[List.getElem?_map] at hi
 cases hp:l[i]? with
 | none=>rw[hp] at hi;cases hi
 | some q =>
  rw[hp] at hi
  have e:q.1=nd:=by simpa using hi
  have hil:i < l.length:=(List.getElem?_eq_some_iff.1 hp).1
  obtain⟨g,cap,e2,hcell⟩:=own_at hro (by omega)
  cases e2
  have hd:l=l.take i++q :: l.drop (i+1):=by
   have h1:=List.take_append_drop i l
   rw[<-List.getElem_cons_drop hil,(List.getElem?_eq_some_iff.1 hp).2] at h1
   exact h1.symm
  rw[hd] at hall
  obtain⟨fa,fb,_,_,h2⟩:=kall_split hall
  obtain⟨nd',av,kv⟩:=q
  subst e
  generalize hz:(nd',av,kv) :: l.drop (i+1)=z at h2
  cases h2 with
  | nil=>cases hz
  | cons n2 av2 kv2 l2 f2 fps2 ha2 hk2 hl2 =>
   cases hz
   obtain⟨k,fk,_,_,hrk,_⟩:=kat_inv hk2
   obtain⟨kp,km,kc,rfl⟩:=own_slice hrk
   have hat:=fun j hj=>(hcell (i*4+j) (by omega)).trans (ndCells_at l i _ hp j hj)
   exact⟨g,av,kp,km,kc,f2,rfl,hat 0 (by decide),hat 1 (by decide),hat 2 (by decide),hat 3 (by decide),hk2,ha2⟩
theorem kat_nat {w:World}{base:Nat}:∀ (M:Nat) (v:Value) (ns:List Nd) (fp:List Nat),ncL ns<=M->wsL ns<=100000000->KAt w base v ns fp->NAtD w (M+1) v ns:=by
 intro M
 induction M using Nat.strongRecOn with
 | _ M ih =>
 intro v ns fp hM hw hk
 obtain⟨p,c,rfl,hn⟩:=kat_node hk
 refine⟨p,c,rfl,by have:=nc_len ns;have:=ncL_ws ns;omega,?_⟩
 intro i nd hi
 obtain⟨g,av,kp,km,kc,f,hp,x0,x1,x2,x3,hkk,hat⟩:=hn i nd hi
 have hws:=wsL_mem hi
 rw[wsN_kids] at hws
 obtain⟨ap,ac,rfl,har⟩:=arow_own hat rfl (by omega)
 have hnc:ncN nd<=ncL ns:=by
  have hmem:nd∈ns:=List.mem_of_getElem? hi
  obtain⟨a,b,rfl⟩:=List.append_of_mem hmem
  rw[ncL_app,ncL]
  omega
 rw[ncN_kids] at hnc
 have:=ih (M - 1) (by omega) (.slice kp km kc) nd.kids f (by omega) (by omega) hkk
 refine⟨g,0,ap,_,ac,kp,km,kc,hp,?_,?_,?_,?_,⟨by omega,by omega⟩,har,this.more (by omega)⟩
 ·rw[Nat.zero_add];exact x0
 ·rw[Nat.zero_add];exact x1
 ·rw[Nat.zero_add];exact x2
 ·rw[Nat.zero_add];exact x3
theorem toksCells_at:∀ (l:List (Tk × Value)) (i:Nat) (p:Tk × Value),l[i]?=some p->∀ j,j < 5->(To.toksCells l)[i*5+j]?=(To.tokCells p.1 p.2)[j]?
 | [],i,p,h,_,_=>by simp at h
 | q :: r,0,p,h,j,hj=>by
  have:q=p:=by simpa using h
  subst this
  show (To.tokCells q.1 q.2++To.toksCells r)[0*5+j]?=_
  rw[show 0*5+j=j by omega,List.getElem?_append_left (by simp[To.tokCells];omega)]
 | q :: r,i+1,p,h,j,hj=>by
  have h':r[i]?=some p:=by simpa using h
  show (To.tokCells q.1 q.2++To.toksCells r)[(i+1)*5+j]?=_
  rw[List.getElem?_append_right (by simp[To.tokCells];omega),show (i+1)*5+j - (To.tokCells q.1 q.2).length=i*5+j by simp[To.tokCells];omega]
  exact toksCells_at r i p h' j hj
theorem tok_row {w:World}{B:Nat}{v:Value}{l:List (Tk × Value)}(h:To.ToksAt w B v l)(hwa:∀ q∈l,waL q.1.attrs<=100000000):∃ l':List Te,TokRow w v l'/\l'.map Prod.fst=(l.map Prod.fst).map toTd/\l'.length=l.length/\∀ e∈l',AttrRow w e.2.1.1 e.2.1.2.1 e.1.attrs:=by
 have key:∀ q∈l,∃ p m c,q.2=.slice p m c:=fun q hq=>own_slice (h.2 q hq)
 obtain⟨F,hF⟩:∃ F:Tk × Value->Option Addr × Nat × Nat,∀ q∈l,q.2=.slice (F q).1 (F q).2.1 (F q).2.2 :=
  ⟨fun q=>match q.2 with
   | .slice p m c=>(p,m,c)
   | _=>(none,0,0),fun q hq=>by
    obtain⟨p,m,c,e⟩:=key q hq
    simp only[e]⟩
 refine⟨l.map (fun q=>(toTd q.1,F q,q.1.closed)),?_,?_,by simp,?_⟩
 ·obtain⟨p,c,rfl⟩:=own_len h.1
  refine⟨p,c,by rw[List.length_map],?_⟩
  intro i e he
  rw[List.getElem?_map] at he
  cases hq:l[i]? with
  | none=>rw[hq] at he;cases he
  | some q =>
   rw[hq] at he
   have e1:(toTd q.1,F q,q.1.closed)=e:=by simpa using he
   subst e1
   have hil:=(List.getElem?_eq_some_iff.1 hq).1
   obtain⟨g,c',e2,hcell⟩:=own_at h.1 (by omega)
   injection e2 with e3
   have hat:=fun j hj=>(hcell (i*5+j) (by omega)).trans (toksCells_at l i q hq j hj)
   have h2:=hat 2 (by decide)
   have h2':w.cell? ⟨g,i*5+2,none⟩=some q.2:=h2
   rw[hF q (List.mem_of_getElem? hq)] at h2'
   refine⟨g,0,e3,?_,?_,?_,?_,?_⟩
   ·rw[Nat.zero_add];exact hat 0 (by decide)
   ·rw[Nat.zero_add];exact hat 1 (by decide)
   ·rw[Nat.zero_add];exact h2'
   ·rw[Nat.zero_add];exact hat 3 (by decide)
   ·rw[Nat.zero_add];exact hat 4 (by decide)
 ·rw[List.map_map,List.map_map]
  rfl
 ·intro e he
  obtain⟨q,hq,rfl⟩:=List.mem_map.1 he
  have h1:=h.2 q hq
  rw[hF q hq] at h1
  rw[<-attr_same] at h1
  obtain⟨p,c,e2⟩:=own_len h1
  injection e2 with e3 e4
  refine⟨e4,?_⟩
  intro i kv hi
  have hil:=(List.getElem?_eq_some_iff.1 hi).1
  have hil:i < q.1.attrs.length:=hil
  obtain⟨g,c',e5,hcell⟩:=own_at h1 (by omega)
  injection e5 with e6
  have h2:=attr_two q.1.attrs i kv hi
  have hw1:=hwa q hq
  have hw2:=waL_mem (l:=q.1.attrs) hi
  refine⟨g,0,e6,?_,?_,by omega,by omega⟩
  ·rw[Nat.zero_add,hcell _ (by omega)];exact h2.1
  ·rw[Nat.zero_add,hcell _ (by omega)];exact h2.2
theorem textSum_td:∀ l:List Te,textSum l=tdSum (l.map Prod.fst)
 | []=>rfl
 | e :: r=>by rw[textSum,List.map_cons,tdSum,textSum_td r]
theorem build_page (w:World) (B:Nat) (v:Value) (l:List (Tk × Value)) (ns:List Nd)(h:To.ToksAt w B v l)(hl:l.map Prod.fst=tkL ns)(hs:stable ns=true)(hw:wsL ns<=400000) :
  Calls Tryz.prog 14 #[v] w fun e w'=>(∃ r,e=.returned (.tuple #[r,.int .i64 0])/\NAt w' r ns)/\Below w.heap.size w w':=by
 have hq:∀ q∈l,waL q.1.attrs<=wsL ns/\q.1.name.length<=wsL ns:=fun q hq=>tk_L ns q.1 (by rw[<-hl];exact List.mem_map.2 ⟨q,hq,rfl⟩)
 obtain⟨l',h1,h2,h3,h4⟩:=tok_row h (fun q hq'=>by have:=(hq q hq').1;omega)
 have h5:l'.map Prod.fst=tdL ns:=by rw[h2,hl,tdL_map]
 have hlen:l'.length<=800000:=by
  have e:=congrArg List.length hl
  rw[List.length_map] at e
  have:=tk_lenL ns
  have:=ncL_ws ns
  omega
 have hmem:∀ e∈l',waL e.1.attrs<=wsL ns/\e.1.name.length<=wsL ns:=by
  intro e he
  have:e.1∈(l.map Prod.fst).map toTd:=by rw[<-h2];exact List.mem_map.2 ⟨e,he,rfl⟩
  obtain⟨k,hk,e1⟩:=List.mem_map.1 this
  rw[hl] at hk
  have:=tk_L ns k hk
  rw[<-e1]
  exact this
 refine (build_st w v l' h1 (by omega) (by rw[textSum_td,h5];have:=tdSum_L ns;omega) (fun e he=>by have:=(hmem e he).2;omega) ?_).mono ?_
 ·intro e he
  have ha:=h4 e he
  refine clones_any w _ _ _ _ ha ?_
  have:=(hmem e he).1
  have:=wa_len e.1.attrs
  have:=ha.1
  omega
 ·rintro e w' ⟨r,err,rfl,hE,hb⟩
  obtain⟨rfl,fp,hk⟩:=hE.2 ns (by rw[h5];exact build_stable hs)
  exact⟨⟨r,rfl,_,kat_nat (ncL ns) r ns fp (Nat.le_refl _) (by omega) hk⟩,hb⟩
end Go.Proofs.YtkiofbikkhhdfabGreatDoor.Dm
namespace San
open Utf1 Pol8 Saf
theorem take_nd {ks:List Nd}{i:Nat}{x:Nd}(h:ks[i]?=some x):ks.take (i+1)=ks.take i++[x]:=by rw[List.take_add_one,h];rfl
theorem ws_take {ks:List Nd}{i:Nat}{x:Nd}(h:ks[i]?=some x):wsL (ks.take i)+wsN x<=wsL ks/\ncL (ks.take i)+ncN x<=ncL ks:=by
 have e:=List.take_append_drop (i+1) ks
 have h1:=congrArg wsL e
 have h2:=congrArg ncL e
 rw[wsL_app,take_nd h,wsL_app,wsL,wsL] at h1
 rw[ncL_app,take_nd h,ncL_app,ncL,ncL] at h2
 omega
theorem fold_next (p:Pol) {ks:List Nd}{i:Nat}{x:Nd}(h:ks[i]?=some x) (s:List Nd × L):(allL p (ks.take (i+1))).foldl push s=(allN p x).foldl push ((allL p (ks.take i)).foldl push s):=by
 rw[take_nd h,allL_app,List.foldl_append]
 congr 1
 rw[allL,allL,List.append_nil]
end San
namespace Go.Proofs.YtkiofbikkhhdfabGreatDoor.Dm
open Go.RowKit
open Utf1 Pol8
theorem ceach_any {p:Pol}(hp:Right p)(hf:fits p) {v1 v2 v3 v4 v5:Value}{l1 l2 l3 l4 l5:List ByteArray}{d:Nat}(hT:TreeC p v1 v2 v3 v4 v5 l1 l2 l3 l4 l5 d)(hE:EachC p v1 v2 v3 v4 v5 l1 l2 l3 l4 l5 d):EachC p v1 v2 v3 v4 v5 l1 l2 l3 l4 l5 (d+1):=by
 intro w0 w B u ks ns t hv hb0 hk hcs hz hz2 hz3
 obtain⟨q,cp,rfl,hkl,hn⟩:=hk
 obtain⟨N,hN⟩:∃ N,N=ks.length:=⟨_,rfl⟩
 have hNm:N<=9223372036854775807:=by rw[hN];exact hkl
 rw[<-hN]
 have HN:=hide hN
 have HV:=hide hv
 have HB0:=hide hb0
 have HNO:=hide hn
 have HCS:=hide hcs
 have HZ:=hide (And.intro hz (And.intro hz2 hz3))
 have HC:Hid (∀ (wx:World) (nd:Nd) (nm tx:ByteArray) (ap kp:Option Addr) (am ac km kc:Nat) (ns:List Nd) (t:List UInt8),Below w0.heap.size w0 wx->bl nm=nd.name->bl tx=nd.text->ARow w0 ap am nd.attrs->NAtD w0 d (.slice kp km kc) nd.kids->CS wx wx.heap.size w0.heap.size B (polA p v1 v2 v3 v4 v5) ns t->wsN nd<=90000->wsN nd+t.length<=10000000->2*ncN nd+ns.length<=1000000->_):=hide (fun wx nd nm tx ap kp am ac km kc ns t h1 h2 h3 h4 h5 h6 h7 h8 h9=>ctake_any hp hf hT hE w0 wx B nd nm tx ap kp am ac km kc ns t hv h1 h2 h3 h4 h5 h6 h7 h8 h9)
 clear hv hb0 hn hcs hz hz2 hz3 hT hE hp hf hkl hN
 go_enter Tryz.func106,Tryz.ntmps106
 go_wp2_with fail
 go_loopg [8] N (fun g v wx=>∃ i:Nat,i+g=N/\v=.int .i64 (i:Int)/\Hid (Below w0.heap.size w wx/\CS wx wx.heap.size w0.heap.size B (polA p v1 v2 v3 v4 v5) ((San.allL p (ks.take i)).foldl San.push (ns,t)).1 ((San.allL p (ks.take i)).foldl San.push (ns,t)).2))
 case atStart=>exact⟨0,by omega,rfl,hide ⟨Below.refl _ _,by rw[List.take_zero,San.allL];exact HCS.out⟩⟩
 case round =>
  obtain⟨i,hi,rfl,HU⟩:=hrel
  obtain⟨wz,hwz⟩:∃ wz,wz=wr:=⟨_,rfl⟩
  subst hwz
  by_cases hlt:i < N
  ·obtain⟨nd,hnd⟩:∃ nd,ks[i]?=some nd:=⟨_,List.getElem?_eq_getElem (by have:=HN.out;omega)⟩
   obtain⟨g,off,ap,am,ac,kp,km,kc,hq,x0,x1,x2,x3,-,ha,hkd⟩:=HNO.out i nd hnd
   have hbz:Below w0.heap.size w0 wz:=HB0.out.trans HU.out.1
   have x0:=cell_keep x0 hbz
   have x1:=cell_keep x1 hbz
   have x2:=cell_keep x2 hbz
   have x3:=cell_keep x3 hbz
   obtain⟨nm,hnm⟩:∃ X:ByteArray,X=⟨nd.name.toArray⟩:=⟨_,rfl⟩
   obtain⟨tx,htx⟩:∃ X:ByteArray,X=⟨nd.text.toArray⟩:=⟨_,rfl⟩
   rw[<-hnm] at x0
   rw[<-htx] at x2
   obtain⟨w2,hw2⟩:∃ w2,w2=wz.alloc (.cells #[.string nm,.slice ap am ac,.string tx,.slice kp km kc] 80):=⟨_,rfl⟩
   have hb2:Below wz.heap.size wz w2:=by rw[hw2];exact bel_alloc (Below.refl _ _) _
   have hbox:w2.heap[wz.heap.size]?=some (.cells #[.string nm,.slice ap am ac,.string tx,.slice kp km kc] 80 (0,0)):=by rw[hw2];exact new_block _ _ _
   have hl1:=San.push_len (San.allL p (ks.take i)) (ns,t)
   simp only at hl1
   have hl2:=San.all_lenL p (ks.take i)
   have hl3:=San.ws_take hnd
   have hl4:=HZ.out
   have CT:=hide (HC.out w2 nd nm tx ap kp am ac km kc _ _ (bel2 hbz hb2) (by rw[hnm]) (by rw[htx]) ha hkd (HU.out.2.under hb2).up (by omega) (by omega) (by omega))
   rw[<-San.fold_next p hnd] at CT
   have HB2:Hid (Below w0.heap.size w w2):=hide (HU.out.1.trans (hb2.mono hbz.size))
   have y0:=tag_cell hbox 0 _ rfl
   have y1:=tag_cell hbox 1 _ rfl
   have y2:=tag_cell hbox 2 _ rfl
   have y3:=tag_cell hbox 3 _ rfl
   clear hl1 hl2 hl3 hl4 hnm htx hbox hb2 hbz ha hkd hnd HU
   subst hq
   go_upto_region 3 with fail
   rw[<-hw2]
   clear hw2 x0 x1 x2 x3
   go_wp2_with fail
   refine CT.out.mono ?_
   rintro e w3 ⟨rfl,h3,h4⟩
   have HNX:=hide (And.intro (HB2.out.trans h4) h3)
   clear CT h3 h4 y0 y1 y2 y3
   go_wp2_with fail
   go_roundg (gk - 1)
   case measure=>omega
   case rel=>exact⟨i+1,by omega,by first | rfl | simp,HNX⟩
  ·have HFIN:Hid (CS wz wz.heap.size w0.heap.size B (polA p v1 v2 v3 v4 v5) ((San.allL p ks).foldl San.push (ns,t)).1 ((San.allL p ks).foldl San.push (ns,t)).2/\Below w0.heap.size w wz):=hide (by
    have h:=HU.out
    rw[List.take_of_length_le (by have:=HN.out;omega)] at h
    exact⟨h.2,h.1⟩)
   have hnl:¬ ((i:Int) < (N:Int)):=by omega
   clear HU hi
   go_wp2_with fail
   go_end0
   exact⟨rfl,HFIN.out⟩
theorem ctree_any {p:Pol}{v1 v2 v3 v4 v5:Value}{l1 l2 l3 l4 l5:List ByteArray}{d:Nat}(hE:EachC p v1 v2 v3 v4 v5 l1 l2 l3 l4 l5 d):TreeC p v1 v2 v3 v4 v5 l1 l2 l3 l4 l5 d:=by
 intro w u ks hv hk hz
 have hmf:∀ (fn:Fn) (first cap:Array Value) (w:World),(Instr.makeFunc fn first cap).run Tryz.prog w=.ok (.func fn first cap) w:=fun _ _ _ _=>rfl
 have HV:=hide hv
 have HK:=hide hk
 have HE:=hide hE
 obtain⟨uq,um,uc,rfl⟩:∃ a b c,u=.slice a b c:=by
  cases d with
  | zero=>exact hk.elim
  | succ d=>obtain⟨q,c,rfl,-⟩:=hk;exact⟨_,_,_,rfl⟩
 obtain⟨o1,k1,rfl,-,-⟩:=hv.s1
 obtain⟨o2,k2,rfl,-,-⟩:=hv.s2
 obtain⟨o3,k3,rfl,-,-⟩:=hv.s3
 obtain⟨o4,k4,rfl,-,-⟩:=hv.s4
 obtain⟨o5,k5,rfl,-,-⟩:=hv.s5
 obtain⟨w1,hw1⟩:∃ w1,w1=(w.alloc (.cells #[.int .i64 p.ep,.slice o1 (List.length l1) k1,.slice o2 (List.length l2) k2,.slice o3 (List.length l3) k3,.slice o4 (List.length l4) k4,.slice o5 (List.length l5) k5,.int .i64 p.dp,.int .i64 p.nd,.int .i64 p.bt] 24)).alloc (.cells #[.int .i64 p.ep,.slice o1 (List.length l1) k1,.slice o2 (List.length l2) k2,.slice o3 (List.length l3) k3,.slice o4 (List.length l4) k4,.slice o5 (List.length l5) k5,.int .i64 p.dp,.int .i64 p.nd,.int .i64 p.bt,.slice none 0 0,.pointer none,.slice none 0 0] 141):=⟨_,rfl⟩
 have HB1:Hid (Below w.heap.size w w1):=hide (by rw[hw1];exact bel_alloc (bel_alloc (Below.refl _ _) _) _)
 have HCS:Hid (CS w1 w1.heap.size w.heap.size (w.heap.size+1) (polA p (.slice o1 (List.length l1) k1) (.slice o2 (List.length l2) k2) (.slice o3 (List.length l3) k3) (.slice o4 (List.length l4) k4) (.slice o5 (List.length l5) k5)) [] []):=hide (by
  have hc:CB w1 (w.heap.size+1) (polA p (.slice o1 (List.length l1) k1) (.slice o2 (List.length l2) k2) (.slice o3 (List.length l3) k3) (.slice o4 (List.length l4) k4) (.slice o5 (List.length l5) k5)) (.slice none 0 0) (.pointer none) (.slice none 0 0):=by
   have h:=new_block (w.alloc (.cells #[.int .i64 p.ep,.slice o1 (List.length l1) k1,.slice o2 (List.length l2) k2,.slice o3 (List.length l3) k3,.slice o4 (List.length l4) k4,.slice o5 (List.length l5) k5,.int .i64 p.dp,.int .i64 p.nd,.int .i64 p.bt] 24)) #[.int .i64 p.ep,.slice o1 (List.length l1) k1,.slice o2 (List.length l2) k2,.slice o3 (List.length l3) k3,.slice o4 (List.length l4) k4,.slice o5 (List.length l5) k5,.int .i64 p.dp,.int .i64 p.nd,.int .i64 p.bt,.slice none 0 0,.pointer none,.slice none 0 0] 141
   rw[<-hw1,show (w.alloc (.cells #[.int .i64 p.ep,.slice o1 (List.length l1) k1,.slice o2 (List.length l2) k2,.slice o3 (List.length l3) k3,.slice o4 (List.length l4) k4,.slice o5 (List.length l5) k5,.int .i64 p.dp,.int .i64 p.nd,.int .i64 p.bt] 24)).heap.size=w.heap.size+1 by simp] at h
   exact h
  exact⟨.slice none 0 0,.pointer none,.slice none 0 0,[],[],⟨hc,⟨.inl rfl,World.ownsRow_nil _ _ _ _⟩,World.ownsRow_nil _ _ _ _,.nil,(fun k hk=>by cases hk),by omega,lt_of_block hc,fun k hk=>by cases hk⟩,rfl⟩)
 have CN:=hide (HE.out w w1 (w.heap.size+1) _ ks [] [] HV.out HB1.out HK.out HCS.out hz (by simp;omega) (by have:=ncL_ws ks;simp;omega))
 have HTR:=hide (San.push_tree p ks)
 have HLN:Hid (((San.allL p ks).foldl San.push ([],[])).1.length<=1000000):=hide (by
  have h1:=San.push_len (San.allL p ks) ([],[])
  have h2:=San.all_lenL p ks
  have h3:=ncL_ws ks
  simp only[List.length_nil] at h1
  omega)
 generalize (San.allL p ks).foldl San.push ([],[])=r at CN HTR HLN
 clear hv hk hE HV HK HE HCS hz
 go_enter Tryz.func77,Tryz.ntmps77
 go_upto_region 2 with fail
 rw[<-hw1]
 clear hw1
 go_wp2_with fail
 refine CN.out.mono ?_
 rintro e w2 ⟨rfl,h2,hb2⟩
 have CX:=hide (cs_end h2 HLN.out)
 have HB2:=hide (HB1.out.trans hb2)
 clear CN h2 hb2 HB1 HLN
 go_wp2_with fail
 refine CX.out.mono ?_
 rintro e w3 ⟨rfl,h3,hb3,-⟩
 rw[HTR.out] at h3
 have HB3:=hide (HB2.out.trans hb3)
 obtain⟨sv,pa,bv,l,fp,hcr,hl⟩:=h3
 have c9:=tag_cell hcr.c 9 _ rfl
 have HKT:Hid (KAt w3 w.heap.size sv (San.treeL p ks) (blk sv++fp)):=hide (by rw[<-hl];exact KAt.mk sv l fp hcr.r hcr.k)
 obtain⟨sp,sc,rfl⟩:=own_len hcr.r
 clear CX HB2 hb3 hcr hl HTR
 go_wp2_with fail
 go_ret
 exact⟨⟨_,_,rfl,HKT.out⟩,HB3.out⟩
theorem tree_all {p:Pol}(hp:Right p)(hf:fits p) {v1 v2 v3 v4 v5:Value}{l1 l2 l3 l4 l5:List ByteArray}:∀ d,EachC p v1 v2 v3 v4 v5 l1 l2 l3 l4 l5 d
 | 0=>fun _ _ _ _ _ _ _ _ _ h=>h.elim
 | d+1=>ceach_any hp hf (ctree_any (tree_all hp hf d)) (tree_all hp hf d)
theorem ptree_any {p:Pol}(hp:Right p)(hf:fits p) (v1 v2 v3 v4 v5:Value) (l1 l2 l3 l4 l5:List ByteArray) (d:Nat):TreeC p v1 v2 v3 v4 v5 l1 l2 l3 l4 l5 d:=ctree_any (tree_all hp hf d)
end Go.Proofs.YtkiofbikkhhdfabGreatDoor.Dm
namespace Utf1
mutual
theorem cnt_ncN:∀ x:Nd,cntN x=ncN x
 | .mk n a t k=>by rw[cntN,ncN,cnt_ncL k]
theorem cnt_ncL:∀ l:List Nd,cntL l=ncL l
 | []=>by rw[cntL,ncL]
 | x :: l=>by rw[cntL,ncL,cnt_ncN x,cnt_ncL l]
end
def tdw (k:Td):Nat:=1+k.name.length+k.text.length+waL k.attrs
def tdws:List Td->Nat
 | []=>0
 | k :: r=>tdw k+tdws r
theorem tdws_map:∀ l:List Tk,tdws (l.map toTd)=kws l
 | []=>rfl
 | k :: r=>by rw[List.map_cons,tdws,kws,tdws_map r];rfl
theorem one_len (last r:Nat):(one last r).length<=1:=by
 unfold one
 split
 ·simp
 ·split
  ·simp
  ·split <;> simp
theorem fixR_len:∀ (rs:List Nat) (last:Nat),(fixR last rs).length<=rs.length
 | [],_=>by simp[fixR]
 | r :: t,last=>by
  rw[fixR,List.length_append,List.length_cons]
  have:=fixR_len t r
  have:=one_len last r
  omega
theorem runesF_len:∀ (n:Nat) (l:List UInt8),(runesF n l).length<=n
 | 0,_=>by simp[runesF]
 | n+1,l=>by
  rw[runesF]
  split
  ·simp
  ·rw[List.length_cons]
   have:=runesF_len n (l.drop (dl l).2)
   omega
theorem enc_len:∀ rs:List Nat,(enc rs).length<=4*rs.length
 | []=>by simp[enc]
 | r :: t=>by
  have h1:=enc_len t
  have h2:=er_len r
  have e:enc (r :: t)=er r++enc t:=rfl
  rw[e,List.length_append,List.length_cons]
  omega
theorem fix_len4 (l:List UInt8):(fix l).length<=4*l.length:=by
 have h1:=enc_len (fixR 0 (runes l))
 have h2:=fixR_len (runes l) 0
 have h3:=runesF_len l.length l
 unfold fix
 unfold runes at *
 omega
theorem kws_mem {k:Tk}:∀ {l:List Tk},k∈l->kw k<=kws l
 | x :: r,h=>by
  rw[kws]
  rcases List.mem_cons.1 h with rfl | h
  ·omega
  ·have:=kws_mem h
   omega
theorem tdSum_kws:∀ l:List Tk,tdSum (l.map toTd)<=kws l
 | []=>Nat.le_refl _
 | k :: r=>by
  rw[List.map_cons,tdSum,kws]
  have:=tdSum_kws r
  have e:(toTd k).text=k.text:=rfl
  rw[e]
  unfold kw
  omega
end Utf1
namespace San
open Utf1 Pol8 Saf
theorem ws_ahead (t:L) (l:List Nd):wsL (textAhead t l)<=1+t.length+wsL l:=by
 unfold textAhead
 split
 ·omega
 ·cases l with
  | nil=>rw[wsL,wsL,txt,wsN];simp[waL,wsL]
  | cons y q =>
   simp only
   split
   ·rw[wsL,wsL,wsN_kids (txt _),wsN_kids y]
    simp[txt,Nd.name,Nd.text,Nd.attrs,Nd.kids,waL,wsL]
    omega
   ·rw[wsL,txt,wsN]
    simp[waL,wsL]
theorem ws_joinR:∀ l:List Nd,wsL (joinR l)<=wsL l
 | []=>by rw[joinR];exact Nat.le_refl _
 | x :: r=>by
  have h:=ws_joinR r
  rw[joinR_cons,wsL]
  split
  ·have:=ws_ahead x.text (joinR r)
   have:=wsN_kids x
   omega
  ·rw[wsL]
   omega
theorem prts_wt2:∀ ps:List L,Sty.wt (ps.filterMap Sty.pp)<=2*((ps.map fun p=>p.length+1).sum)
 | []=>by simp[Sty.wt]
 | p :: ps=>by
  have ih:=prts_wt2 ps
  cases h:Sty.pp p with
  | none =>
   rw[List.filterMap_cons_none h]
   simp
   omega
  | some x =>
   rw[List.filterMap_cons_some h]
   have hx:x.1.length+x.2.length+1<=p.length:=by
    unfold Sty.pp at h
    cases hp:Sty.part p with
    | none=>rw[hp] at h;simp at h
    | some y =>
     rw[hp] at h
     simp at h
     subst h
     have:=Sty.part_len p y.1 y.2 hp
     have h1:=Sty.pl_len y.1
     have h2:=Sty.pl_len y.2
     simp
     omega
   unfold Sty.wt at ih ⊢
   simp
   omega
theorem filt_len2 (props:List L) (s:L):(Sty.filt props s).length<=2*(s.length+1):=by
 have h1:=Sty.fold_len (Sty.lastOnly (Sty.stay props s)) []
 have h2:=Sty.wt_last (Sty.stay props s)
 have h3:=Sty.wt_filter (Sty.keep props) (Sty.prts s)
 have h4:=prts_wt2 (Sty.segs s)
 rw[Sty.segs_len] at h4
 unfold Sty.filt
 unfold Sty.stay at *
 unfold Sty.prts at *
 simp at h1
 omega
def jl:List L->Nat
 | []=>0
 | x :: r=>x.length+1+jl r
theorem jl_app:∀ a b:List L,jl (a++b)=jl a+jl b
 | [],b=>by simp[jl]
 | x :: a,b=>by rw[List.cons_append,jl,jl,jl_app a b];omega
theorem joinB_jl:∀ l:List L,(joinB l).length<=jl l
 | []=>Nat.le_refl _
 | [x]=>by simp[joinB,jl]
 | x :: y :: r=>by
  have:=joinB_jl (y :: r)
  rw[joinB,jl,List.length_append,List.length_cons]
  omega
theorem fold_jl (cl:List L):∀ l acc:List L,jl (l.foldl (clsStep cl) acc)<=jl acc+jl l
 | [],acc=>by simp[jl]
 | x :: r,acc=>by
  rw[List.foldl_cons]
  have h:=fold_jl cl r (clsStep cl acc x)
  have h2:jl (clsStep cl acc x)<=jl acc+(x.length+1):=by
   unfold clsStep
   split
   ·rw[jl_app];simp[jl]
   ·omega
  rw[jl]
  omega
theorem segs_jl (c:UInt8):∀ v:L,jl (Pol8.segs c v)=v.length+1
 | []=>rfl
 | b :: l=>by
  have ih:=segs_jl c l
  have hne:=segs_ne c l
  rw[Pol8.segs]
  split
  ·rw[jl,ih,List.length_cons]
   simp
   omega
  ·cases hs:Pol8.segs c l with
   | nil=>exact absurd hs hne
   | cons x r =>
    rw[hs] at ih
    simp only
    rw[jl] at ih ⊢
    rw[List.length_cons,List.length_cons]
    omega
theorem valO_len (p:Pol) (n v:L):(valO p n v).length<=2*(v.length+1):=by
 unfold valO
 split
 ·exact filt_len2 _ _
 ·split
  ·have h1:=joinB_jl ((Pol8.segs 32 v).foldl (clsStep p.cl) [])
   have h2:=fold_jl p.cl (Pol8.segs 32 v) []
   rw[segs_jl] at h2
   simp[jl] at h2
   unfold clsO clsK
   omega
  ·omega
theorem wa_atsK (p:Pol) (e:L):∀ a:At,waL (atsK p e a)<=4*waL a
 | []=>Nat.le_refl _
 | x :: r=>by
  have h:=wa_atsK p e r
  have e1:atsK p e (x :: r)=(atO p e x).toList++atsK p e r:=by
   unfold atsK
   rw[List.filterMap_cons]
   cases atO p e x <;> rfl
  rw[e1,waL_app,waL]
  cases hx:atO p e x with
  | none=>simp[waL];omega
  | some y =>
   obtain⟨-,hy,-⟩:=atO_some hx
   have:=valO_len p x.1 x.2
   rw[hy]
   simp[waL]
   omega
theorem wa_attrsO (p:Pol) (e:L) (a:At):waL (attrsO p e a)<=4*waL a+21:=by
 have h:=wa_atsK p e a
 unfold attrsO
 split
 ·rw[waL_app]
  have:waL [(relN,forced)]=21:=rfl
  omega
 ·omega
mutual
theorem ws_allN (p:Pol):∀ x:Nd,wsL (allN p x)<=4*wsN x+22*ncN x
 | .mk n a t k=>by
  have h:=ws_allL p k
  rw[allN,wsN,ncN]
  split
  ·rw[wsL,wsL,txt,wsN]
   simp[waL,wsL]
   omega
  split
  ·rw[wsL];omega
  split
  ·rw[wsL,wsL,wsN]
   have h1:=wa_attrsO p n a
   have h2:=ws_joinR (allL p k)
   simp only[List.length_nil]
   omega
  ·omega
theorem ws_allL (p:Pol):∀ l:List Nd,wsL (allL p l)<=4*wsL l+22*ncL l
 | []=>by rw[allL,wsL];omega
 | x :: r=>by
  have h1:=ws_allN p x
  have h2:=ws_allL p r
  rw[allL,wsL_app,wsL,ncL]
  omega
end
theorem sm_app:∀ a b:List Nd,smL (a++b) ↔ smL a/\smL b
 | [],b=>by simp[smL]
 | x :: a,b=>by rw[List.cons_append,smL,smL,sm_app a b,and_assoc]
theorem sm_txt (t:L):smN (txt t):=by
 unfold txt
 rw[smN]
 exact⟨by simp,by simp,trivial⟩
theorem sm_ahead {t:L}{l:List Nd}(h:smL l):smL (textAhead t l):=by
 unfold textAhead
 split
 ·exact h
 ·cases l with
  | nil=>exact⟨sm_txt t,trivial⟩
  | cons y q =>
   rw[smL] at h
   simp only
   split
   ·exact⟨sm_txt _,h.2⟩
   ·exact⟨sm_txt _,h⟩
theorem sm_join:∀ l:List Nd,smL l->smL (joinR l)
 | [],_=>by rw[joinR];exact trivial
 | x :: r,h=>by
  rw[smL] at h
  rw[joinR_cons]
  split
  ·exact sm_ahead (sm_join r h.2)
  ·exact⟨h.1,sm_join r h.2⟩
theorem wa_mem2 {kv:L × L}:∀ {l:At},kv∈l->kv.1.length+kv.2.length<=waL l
 | x :: r,h=>by
  rw[waL]
  rcases List.mem_cons.1 h with rfl | h
  ·omega
  ·have:=wa_mem2 h
   omega
theorem sm_attrsO {p:Pol}{e:L}{a:At}(h:waL a<=40000):∀ kv∈attrsO p e a,kv.1.length<=90000/\kv.2.length<=90000:=by
 intro kv hkv
 rcases mem_attrsO hkv with hk | ⟨rfl,-⟩
 ·unfold atsK at hk
  obtain⟨x,hx,e1⟩:=List.mem_filterMap.1 hk
  obtain⟨-,hy,-⟩:=atO_some e1
  have h1:=valO_len p x.1 x.2
  have h2:=wa_mem2 hx
  rw[hy]
  simp only
  omega
 ·decide
mutual
theorem sm_allN (p:Pol):∀ x:Nd,wsN x<=40000->smL (allN p x)
 | .mk n a t k,h=>by
  rw[wsN] at h
  have hk:=sm_allL p k (by omega)
  rw[allN]
  split
  ·exact⟨sm_txt t,trivial⟩
  split
  ·exact trivial
  split
  ·rw[smL,smN]
   exact⟨⟨by omega,sm_attrsO (by omega),sm_join _ hk⟩,trivial⟩
  ·exact hk
theorem sm_allL (p:Pol):∀ l:List Nd,wsL l<=40000->smL (allL p l)
 | [],_=>by rw[allL];exact trivial
 | x :: r,h=>by
  rw[wsL] at h
  rw[allL,sm_app]
  exact⟨sm_allN p x (by omega),sm_allL p r (by omega)⟩
end
theorem sm_tree (p:Pol) (ns:List Nd)(h:wsL ns<=40000):smL (treeL p ns):=sm_join _ (sm_allL p ns h)
theorem ws_tree (p:Pol) (ns:List Nd):wsL (treeL p ns)<=4*wsL ns+22*ncL ns:=Nat.le_trans (ws_joinR _) (ws_allL p ns)
end San
namespace Go.Proofs.YtkiofbikkhhdfabGreatDoor.Dm
open Go.RowKit
open Utf1
def wR (r:List Nd) (t:List UInt8):Nat:=wsL r+(if t=[] then 0 else 1+t.length)
theorem ws_add (p x:Nd):wsN (addKid p x)=wsN p+wsN x:=by
 rw[wsN_kids,wsN_kids p]
 show 1+p.name.length+p.text.length+waL p.attrs+wsL (p.kids++[x])=_
 rw[wsL_app]
 show _+(_+(wsN x+0))=_
 omega
theorem ws_textIn (p:Nd) (t:List UInt8):wsN (textIn p t)=wsN p+(if t=[] then 0 else 1+t.length):=by
 unfold textIn
 split
 ·rfl
 ·rw[ws_add,wsN_kids]
  show _+(1+0+t.length+0+0)=_
  omega
theorem wR_close (X:Nat):∀ nd p r t,wR (nd :: p :: r) t=X->wR (addKid p (textIn nd t) :: r) []=X:=by
 intro nd p r t h
 unfold wR at h ⊢
 rw[wsL,wsL] at h
 rw[wsL,ws_add,ws_textIn,if_pos rfl]
 omega
theorem wR_start {s:Bs}(name:List UInt8) (at':List (List UInt8 × List UInt8)):wR (startB name at' s).r (startB name at' s).t<=wR s.r s.t+(1+name.length+waL at'):=by
 unfold startB startR
 by_cases hn:name=[]
 ·rw[if_pos hn]
  exact Nat.le_add_right _ _
 ·rw[if_neg hn]
  have hw:=wayR_ind (Pr:=fun r t=>wR r t=wR s.r s.t) (fun nd p r t=>wR_close _ nd p r t) name s.r s.t rfl
  cases hc:(wayR name s.r s.t).1 with
  | nil=>exact Nat.le_add_right _ _
  | cons nd q =>
   rw[hc] at hw
   have hx:wsN (.mk name at' [] [])=1+name.length+waL at':=by
    rw[wsN_kids]
    show 1+name.length+0+waL at'+0=_
    omega
   simp only
   unfold wR at hw
   rw[wsL] at hw
   split
   ·show wR (addKid (textIn nd (wayR name s.r s.t).2) (.mk name at' [] []) :: q) []<=_
    unfold wR
    rw[wsL,ws_add,ws_textIn,if_pos rfl,hx]
    omega
   ·show wR (.mk name at' [] [] :: textIn nd (wayR name s.r s.t).2 :: q) []<=_
    unfold wR
    rw[wsL,wsL,ws_textIn,if_pos rfl,hx]
    omega
theorem wR_shut (s:Bs) (a:Nat):wR (shutB a s).r (shutB a s).t=wR s.r s.t :=
 closeR_ind (Pr:=fun r t=>wR r t=wR s.r s.t) (fun nd p r t=>wR_close _ nd p r t) (s.r.length - a) s.r s.t rfl
theorem wR_end (s:Bs) (name:List UInt8):wR (endB name s).r (endB name s).t<=wR s.r s.t+(1+name.length):=by
 unfold endB
 split
 ·rw[wR_shut]
  omega
 ·split
  ·rename_i h
   simp only
   rw[wR_shut]
   have:=wR_start (s:=s) [112] []
   rw[h]
   exact this
  ·split
   ·rename_i h
    have:=wR_start (s:=s) [98,114] []
    rw[h]
    exact this
   ·omega
theorem wR_take (s:Bs) (k:Td):wR (takeB k s).r (takeB k s).t<=wR s.r s.t+tdw k:=by
 unfold takeB tdw
 split
 ·unfold textB wR
  simp only
  by_cases h1:s.t=[]
  ·rw[if_pos h1,h1,List.nil_append]
   split
   ·omega
   ·omega
  ·rw[if_neg h1,if_neg (by simp[h1]),List.length_append]
   omega
 ·split
  ·have:=wR_start (s:=s) k.name k.attrs
   omega
  ·split
   ·have:=wR_end s k.name
    omega
   ·omega
theorem wR_run:∀ (l:List Td) (s u:Bs),runB l s=some u->wR u.r u.t<=wR s.r s.t+tdws l
 | [],s,u,e=>by
  cases e
  exact Nat.le_refl _
 | k :: l,s,u,e=>by
  unfold runB at e
  split at e
  ·have h1:=wR_run l _ u e
   have h2:=wR_take s k
   rw[tdws]
   omega
  ·cases e
theorem build_ws {s:List UInt8}{ns:List Nd}(h:buildT (toks s)=some ns):ncL ns<=2000/\wsL ns<=1+2*s.length:=by
 unfold buildT at h
 have hc:=build_cnt h
 rw[cnt_ncL] at hc
 refine⟨hc,?_⟩
 unfold buildB at h
 cases hr:runB ((toks s).map toTd) bs0 with
 | none=>rw[hr] at h;cases h
 | some u =>
  rw[hr] at h
  have h:treeB u=ns:=by simpa using h
  have h2:=wR_run _ bs0 u hr
  rw[<-wR_shut u 1] at h2
  have h3:wR bs0.r bs0.t=1:=rfl
  rw[h3,tdws_map] at h2
  have h4:=toks_sum s
  have key:wsL ns<=wR (shutB 1 u).r (shutB 1 u).t:=by
   rw[<-h]
   unfold treeB
   cases hs:(shutB 1 u).r with
   | nil=>exact Nat.zero_le _
   | cons nd q =>
    have h5:=ws_textIn nd (shutB 1 u).t
    rw[wsN_kids] at h5
    unfold wR
    rw[wsL]
    simp only
    omega
  omega
theorem clean_sm {p:Pol8.Pol}(hp:Pol8.Right p) {s:List UInt8}(hs:s.length<=16500):∃ t,Saf.safeB p t=true/\San.cleanF buildT p s=htL t/\buildT (toks (San.cleanF buildT p s))=some t/\smL t/\ncL t<=1000000/\wsL t<=180000/\(San.cleanF buildT p s).length<=2000000:=by
 obtain⟨t,h1,h2,h3,-⟩:=San.clean_is buildT_ok hp s
 have hst:=(San.safe_stable h1).1
 have key:smL t/\wsL t<=180000:=by
  unfold San.cleanF at h3
  have hsole:buildT (toks (esc false s))=some t->smL t/\wsL t<=180000:=by
   intro h
   rw[<-San.ht_sole,buildT_ok.page _ (San.safe_stable (San.safe_sole hp s)).1] at h
   cases h
   unfold San.sole
   split
   ·exact⟨trivial,by rw[wsL];omega⟩
   ·refine⟨⟨San.sm_txt s,trivial⟩,?_⟩
    rw[wsL,wsL,San.txt,wsN]
    simp[waL,wsL]
    omega
  cases hb:buildT (toks s) with
  | none =>
   rw[hb] at h3
   exact hsole h3
  | some ns =>
   rw[hb] at h3
   simp only at h3
   have hw:=build_ws hb
   split at h3
   ·rename_i hf
    have hf2:=hf
    unfold San.fitsT at hf2
    rw[Bool.and_eq_true,decide_eq_true_eq,decide_eq_true_eq] at hf2
    have hsf:=San.tree_safe hp (buildT_ok.nak s ns hb).1 hf2.1 hf2.2
    rw[buildT_ok.page _ (San.safe_stable hsf).1] at h3
    cases h3
    have:=San.ws_tree p ns
    exact⟨San.sm_tree p ns (by omega),by omega⟩
   ·exact hsole h3
 have h4:=htL_len t
 have h5:=ncL_ws t
 exact⟨t,h1,h2,h3,key.1,by omega,key.2,by rw[h2];omega⟩
theorem build_text (w:World) (B:Nat) (v:Value) (l:List (Tk × Value)) (s:List UInt8)(h:To.ToksAt w B v l)(hl:l.map Prod.fst=toks s)(hs:s.length<=40000) :
  Calls Tryz.prog 14 #[v] w fun e w'=>(∃ r err,e=.returned (.tuple #[r,.int .i64 err])/\(buildT (toks s)=none->err=5/\r=.slice none 0 0)/\∀ ns,buildT (toks s)=some ns->err=0/\NAt w' r ns)/\Below w.heap.size w w':=by
 have hsum:=toks_sum s
 have hq:∀ q∈l,kw q.1<=80000:=fun q hq=>by
  have:q.1∈toks s:=by rw[<-hl];exact List.mem_map.2 ⟨q,hq,rfl⟩
  have:=kws_mem this
  omega
 have hq2:∀ q∈l,waL q.1.attrs<=80000/\q.1.name.length<=80000:=fun q h=>by
  have:=hq q h
  unfold kw at this
  omega
 obtain⟨l',h1,h2,h3,h4⟩:=tok_row h (fun q hq'=>by have:=(hq2 q hq').1;omega)
 have hlen:l'.length<=40000:=by
  have e:=congrArg List.length hl
  rw[List.length_map] at e
  have:=toks_many s
  omega
 have hmem:∀ e∈l',∃ q∈l,toTd q.1=e.1:=by
  intro e he
  have:e.1∈(l.map Prod.fst).map toTd:=by rw[<-h2];exact List.mem_map.2 ⟨e,he,rfl⟩
  obtain⟨k,hk,e1⟩:=List.mem_map.1 this
  obtain⟨q,hq',e2⟩:=List.mem_map.1 hk
  exact⟨q,hq',by rw[e2];exact e1⟩
 have hts:textSum l'<=80000:=by
  rw[textSum_td,h2,hl]
  have:=tdSum_kws (toks s)
  omega
 refine (build_st w v l' h1 (by omega) (by omega) ?_ ?_).mono ?_
 ·intro e he
  obtain⟨q,hq',e1⟩:=hmem e he
  rw[<-e1]
  have:=(hq2 q hq').2
  show q.1.name.length<=_
  omega
 ·intro e he
  obtain⟨q,hq',e1⟩:=hmem e he
  have ha:=h4 e he
  refine clones_any w _ _ _ _ ha ?_
  have h5:=(hq2 q hq').1
  have h6:=wa_len e.1.attrs
  have h7:=ha.1
  rw[<-e1] at h6
  have h6:q.1.attrs.length<=waL q.1.attrs:=h6
  rw[<-e1] at h7
  have h7:_=q.1.attrs.length:=h7
  omega
 ·rintro e w' ⟨r,err,rfl,hE,hb⟩
  have e0:buildB (l'.map Prod.fst)=buildT (toks s):=by rw[h2,hl];rfl
  unfold BuildEnd at hE
  rw[e0] at hE
  refine⟨⟨r,err,rfl,fun h=>(hE.1 h).symm,fun ns h=>?_⟩,hb⟩
  obtain⟨e1,fp,hk⟩:=hE.2 ns h
  have hw:=build_ws h
  exact⟨e1,_,kat_nat (ncL ns) r ns fp (Nat.le_refl _) (by omega) hk⟩
end Go.Proofs.YtkiofbikkhhdfabGreatDoor.Dm
namespace Go.Proofs.YtkiofbikkhhdfabGreatDoor.Dm
open Go.RowKit
open Utf1 Pol8
def BoxA (w:World) (A:Array Value) (wx:World):Prop:=wx.heap[w.heap.size]?=some (.cells A 24 (0,0))/\Below w.heap.size w wx
theorem BoxA.keep {w wx wy:World}{A:Array Value}(h:BoxA w A wx)(hb:Below wx.heap.size wx wy):BoxA w A wy:=⟨(hb.block _ (lt_of_block h.1)).trans h.1,bel2 h.2 hb⟩
theorem BoxA.new (w:World) (A:Array Value):BoxA w A (w.alloc (.cells A 24)):=⟨new_block _ _ _,bel_alloc (Below.refl _ _) _⟩
def treeF (p:Pol) (s:List UInt8):Option (List Nd):=match buildT (toks s) with
 | none=>none
 | some ns=>if San.fitsT p (San.treeL p ns)=true then some (San.treeL p ns) else none
theorem clean_treeF (p:Pol) (s:List UInt8):San.cleanF buildT p s=match treeF p s with
 | none=>esc false s
 | some t=>htL t:=by
 unfold San.cleanF treeF
 cases buildT (toks s) with
 | none=>rfl
 | some ns =>
  simp only
  split <;> rfl
theorem treeF_ws {p:Pol}{s:List UInt8}{t:List Nd}(hs:s.length<=40000)(h:treeF p s=some t):wsL t<=400000:=by
 unfold treeF at h
 cases hb:buildT (toks s) with
 | none=>rw[hb] at h;cases h
 | some ns =>
  rw[hb] at h
  simp only at h
  split at h
  ·cases h
   have h1:=build_ws hb
   have h2:=San.ws_tree p ns
   omega
  ·cases h
theorem pcleanTree_any {p:Pol}(hp:Right p)(hf:fits p) (v1 v2 v3 v4 v5:Value) (l1 l2 l3 l4 l5:List ByteArray) (s:ByteArray) (w:World)(hv:PolV w v1 v2 v3 v4 v5 p l1 l2 l3 l4 l5)(hs:s.size<=40000)(hg:To.Glob w)(hgm:To.GlobM w) :
  Calls Tryz.prog 43 #[pval p v1 v2 v3 v4 v5,.string s] w fun e w'=>(∃ r,e=.returned (.tuple #[r,.bool (treeF p (bl s)).isSome])/\∀ t,treeF p (bl s)=some t->NAt w' r t)/\Below w.heap.size w w':=by
 obtain⟨R,hR⟩:∃ R,R=treeF p (bl s):=⟨_,rfl⟩
 rw[<-hR]
 unfold treeF at hR
 have HR:=hide hR
 have HV:=hide hv
 have HP:=hide (And.intro hp hf)
 have HL:Hid ((bl s).length<=40000):=hide (by rw[bl_len];exact hs)
 have HG:=hide (And.intro hg hgm)
 obtain⟨o1,k1,rfl,-,-⟩:=hv.s1
 obtain⟨o2,k2,rfl,-,-⟩:=hv.s2
 obtain⟨o3,k3,rfl,-,-⟩:=hv.s3
 obtain⟨o4,k4,rfl,-,-⟩:=hv.s4
 obtain⟨o5,k5,rfl,-,-⟩:=hv.s5
 obtain⟨w1,hw1⟩:∃ w1,w1=w.alloc (.cells #[.int .i64 p.ep,.slice o1 (List.length l1) k1,.slice o2 (List.length l2) k2,.slice o3 (List.length l3) k3,.slice o4 (List.length l4) k4,.slice o5 (List.length l5) k5,.int .i64 p.dp,.int .i64 p.nd,.int .i64 p.bt] 24):=⟨_,rfl⟩
 have H1:Hid (BoxA w #[.int .i64 p.ep,.slice o1 (List.length l1) k1,.slice o2 (List.length l2) k2,.slice o3 (List.length l3) k3,.slice o4 (List.length l4) k4,.slice o5 (List.length l5) k5,.int .i64 p.dp,.int .i64 p.nd,.int .i64 p.bt] w1):=hide (by rw[hw1];exact BoxA.new _ _)
 have CT:=hide (To.tokens_any s w1 (by omega) (HG.out.1.below H1.out.2) (HG.out.2.below H1.out.2))
 clear hR hv hp hf hg hgm hs
 go_enter Tryz.func43,Tryz.ntmps43
 go_upto_region 1 with fail
 rw[<-hw1]
 clear hw1
 go_wp2_with fail
 refine CT.out.mono ?_
 rintro e w2 ⟨v,l,rfl,hl,htk,h2⟩
 obtain⟨vp,vc,rfl⟩:=own_len htk.1
 have H2:=hide (H1.out.keep h2)
 have CB:=hide (build_text w2 w1.heap.size _ l (bl s) htk hl HL.out)
 clear CT hl htk h2 H1
 go_wp2_with fail
 refine CB.out.mono ?_
 rintro e w3 ⟨⟨r,err,rfl,hn,hsm⟩,h3⟩
 have H3:=hide (H2.out.keep h3)
 clear CB h3 H2
 cases hb:buildT (toks (bl s)) with
 | none =>
  obtain⟨rfl,rfl⟩:=hn hb
  have HN:Hid (R=none):=hide (by rw[HR.out,hb])
  clear hn hsm hb HR
  go_wp2_with fail
  go_ret2
  rw[HN.out]
  exact⟨⟨_,rfl,fun t h=>by cases h⟩,H3.out.2⟩
 | some ns =>
  obtain⟨rfl,d,hnat⟩:=hsm ns hb
  have hws:=build_ws hb
  have hws2:=San.ws_tree p ns
  have hl:=HL.out
  have HN:Hid (R=if San.fitsT p (San.treeL p ns)=true then some (San.treeL p ns) else none):=hide (by rw[HR.out,hb])
  obtain⟨T,hT⟩:∃ T,T=San.treeL p ns:=⟨_,rfl⟩
  obtain⟨rp,rm,rc,rfl⟩:∃ a b c,r=.slice a b c:=by
   cases d with
   | zero=>exact hnat.elim
   | succ d=>obtain⟨q,c,rfl,-⟩:=hnat;exact⟨_,_,_,rfl⟩
  have CX:=hide (ptree_any HP.out.1 HP.out.2 _ _ _ _ _ _ _ _ _ _ d w3 _ ns (HV.out.below H3.out.2) hnat (by omega))
  rw[<-hT] at HN hws2 CX
  have HW:Hid (wsL T<=1000000/\ncL T<=1000000):=hide (by have:=ncL_ws T;omega)
  have y0:=tag_cell H3.out.1 0 _ rfl
  have y1:=tag_cell H3.out.1 1 _ rfl
  have y2:=tag_cell H3.out.1 2 _ rfl
  have y3:=tag_cell H3.out.1 3 _ rfl
  have y4:=tag_cell H3.out.1 4 _ rfl
  have y5:=tag_cell H3.out.1 5 _ rfl
  have y6:=tag_cell H3.out.1 6 _ rfl
  have y7:=tag_cell H3.out.1 7 _ rfl
  have y8:=tag_cell H3.out.1 8 _ rfl
  clear hn hsm hb HR hnat hws hws2 hl hT
  go_wp2_with fail
  refine CX.out.mono ?_
  rintro e w4 ⟨⟨x,fp,rfl,hk⟩,h4⟩
  have H4:=hide (H3.out.keep h4)
  have hna:=kat_nat (ncL T) x T fp (Nat.le_refl _) (by have:=HW.out.1;omega) hk
  have HNA:=hide hna
  have CS:=hide (size_nst _ w4 x T hna (by have:=HW.out;omega))
  obtain⟨xp,xc,rfl⟩:=kat_slice hk
  clear CX h4 H3 hk hna y0 y1 y2 y3 y4 y5 y6 y7 y8
  go_wp2_with fail
  refine CS.out.mono ?_
  rintro e w5 ⟨rfl,h5⟩
  have H5:=hide (H4.out.keep h5)
  have HNA5:=hide (HNA.out.below h5)
  have y6:=tag_cell H5.out.1 6 _ rfl
  have y7:=tag_cell H5.out.1 7 _ rfl
  clear CS h5 H4 HNA
  unfold San.fitsT at HN
  obtain⟨nc,hnc⟩:∃ nc:Nat,nc=ncL T:=⟨_,rfl⟩
  obtain⟨dp,hdp⟩:∃ dp:Nat,dp=dpL T:=⟨_,rfl⟩
  rw[<-hnc,<-hdp] at HN ⊢
  clear hnc hdp
  by_cases h1:(nc:Int)<=p.nd
  ·rw[decide_eq_true h1] at HN
   have g1:¬ (p.nd < (nc:Int)):=by omega
   by_cases h2:(dp:Int)<=p.dp
   ·rw[decide_eq_true h2] at HN
    have g2:¬ (p.dp < (dp:Int)):=by omega
    have HN2:Hid (R=some T):=hide HN.out
    clear HN h1 h2
    go_wp2_with fail
    go_ret2
    rw[HN2.out]
    exact⟨⟨_,rfl,fun t h=>by cases h;exact⟨_,HNA5.out⟩⟩,H5.out.2⟩
   ·rw[decide_eq_false h2] at HN
    have g2:p.dp < (dp:Int):=by omega
    have HN2:Hid (R=none):=hide HN.out
    clear HN h1 h2
    go_wp2_with fail
    go_ret2
    rw[HN2.out]
    exact⟨⟨_,rfl,fun t h=>by cases h⟩,H5.out.2⟩
  ·rw[decide_eq_false h1] at HN
   have g1:p.nd < (nc:Int):=by omega
   have HN2:Hid (R=none):=hide HN.out
   clear HN h1
   go_wp2_with fail
   go_ret2
   rw[HN2.out]
   exact⟨⟨_,rfl,fun t h=>by cases h⟩,H5.out.2⟩
theorem bytes_below {w w':World}{v:Value}{l:List UInt8}(h:Uf.IsBytes w v l)(hb:Below w.heap.size w w'):Uf.IsBytes w' v l:=by
 rcases h with h | ⟨x,cap,e,hc⟩
 ·exact .inl h
 ·refine .inr ⟨x,cap,e,fun j hj=>?_⟩
  have h:=hc j hj
  rw[<-h]
  exact hb.cell (World.block_lt_of_cell? w _ h)
def cleanX (p:Pol) (raw:List UInt8):List UInt8:=if right p=true/\(raw.length:Int)<=p.bt then San.cleanF buildT p (fix raw) else []
def cleanE (p:Pol) (raw:List UInt8):Int:=if right p=true then (if (raw.length:Int)<=p.bt then 0 else 4) else 2
theorem pclean_any {p:Pol}(hf:fits p) (v1 v2 v3 v4 v5:Value) (l1 l2 l3 l4 l5:List ByteArray) (v:Value) (raw:List UInt8) (w:World)(hv:PolV w v1 v2 v3 v4 v5 p l1 l2 l3 l4 l5)(hr:Uf.IsBytes w v raw)(hl:raw.length<=100000000)(hs:(raw.length:Int)<=p.bt->(fix raw).length<=40000)(hg:To.Glob w)(hgm:To.GlobM w) :
  Calls Tryz.prog 13 #[pval p v1 v2 v3 v4 v5,v] w fun e w'=>e=.returned (.tuple #[.string ⟨(cleanX p raw).toArray⟩,.int .i64 (cleanE p raw)])/\Below w.heap.size w w':=by
 obtain⟨X,hX⟩:∃ X,X=cleanX p raw:=⟨_,rfl⟩
 obtain⟨E,hE⟩:∃ E,E=cleanE p raw:=⟨_,rfl⟩
 rw[<-hX,<-hE]
 unfold cleanX at hX
 unfold cleanE at hE
 have HX:=hide hX
 have HE:=hide hE
 have HV:=hide hv
 have HF:=hide hf
 have HG:=hide (And.intro hg hgm)
 have HS:=hide hs
 have HLR:=hide hl
 have HRW:=hide hr
 obtain⟨vp,vc,rfl⟩:∃ a c,v=.slice a raw.length c:=by
  rcases hr with⟨rfl,rfl⟩ | ⟨x,cap,rfl,-⟩
  ·exact⟨_,_,rfl⟩
  ·exact⟨_,_,rfl⟩
 obtain⟨N,hN⟩:∃ N,N=raw.length:=⟨_,rfl⟩
 rw[<-hN] at HX HE hl ⊢
 obtain⟨o1,k1,rfl,-,-⟩:=hv.s1
 obtain⟨o2,k2,rfl,-,-⟩:=hv.s2
 obtain⟨o3,k3,rfl,-,-⟩:=hv.s3
 obtain⟨o4,k4,rfl,-,-⟩:=hv.s4
 obtain⟨o5,k5,rfl,-,-⟩:=hv.s5
 obtain⟨w1,hw1⟩:∃ w1,w1=w.alloc (.cells #[.int .i64 p.ep,.slice o1 (List.length l1) k1,.slice o2 (List.length l2) k2,.slice o3 (List.length l3) k3,.slice o4 (List.length l4) k4,.slice o5 (List.length l5) k5,.int .i64 p.dp,.int .i64 p.nd,.int .i64 p.bt] 24):=⟨_,rfl⟩
 have H1:Hid (BoxA w #[.int .i64 p.ep,.slice o1 (List.length l1) k1,.slice o2 (List.length l2) k2,.slice o3 (List.length l3) k3,.slice o4 (List.length l4) k4,.slice o5 (List.length l5) k5,.int .i64 p.dp,.int .i64 p.nd,.int .i64 p.bt] w1):=hide (by rw[hw1];exact BoxA.new _ _)
 have CR:=hide (pright_any _ _ _ _ _ p _ _ _ _ _ w1 (HV.out.below H1.out.2) HF.out)
 have y0:=tag_cell H1.out.1 0 _ rfl
 have y1:=tag_cell H1.out.1 1 _ rfl
 have y2:=tag_cell H1.out.1 2 _ rfl
 have y3:=tag_cell H1.out.1 3 _ rfl
 have y4:=tag_cell H1.out.1 4 _ rfl
 have y5:=tag_cell H1.out.1 5 _ rfl
 have y6:=tag_cell H1.out.1 6 _ rfl
 have y7:=tag_cell H1.out.1 7 _ rfl
 have y8:=tag_cell H1.out.1 8 _ rfl
 have HRI:Hid (right p=true ↔ Right p):=hide (right_iff p)
 have CF:Hid (∀ wx,Below w.heap.size w wx->Calls Tryz.prog 19 #[.slice vp N vc] wx fun e w'=>e=.returned (.string ⟨(fix raw).toArray⟩)/\Below wx.heap.size wx w'):=hide (fun wx h=>by
  have:=Uf.fix_any _ raw wx (bytes_below HRW.out h) (by have:=HLR.out;omega)
  rw[<-hN] at this
  exact this)
 obtain⟨s,hsx⟩:∃ s:ByteArray,s=⟨(fix raw).toArray⟩:=⟨_,rfl⟩
 have hbs:bl s=fix raw:=by rw[hsx]
 rw[<-hsx] at CF
 have HSZ0:Hid ((N:Int)<=p.bt->s.size<=40000):=hide (fun h=>by rw[<-bl_len,hbs];exact HS.out (by rw[<-hN];exact h))
 rw[<-hbs] at HX
 generalize right p=rt at CR HX HE HRI
 clear hX hE hv hf hg hgm hs hr hN hsx hbs HS HLR HRW
 go_enter Tryz.func13,Tryz.ntmps13
 go_upto_region 1 with fail
 rw[<-hw1]
 clear hw1
 go_wp2_with fail
 refine CR.out.mono ?_
 rintro e w2 ⟨rfl,h2⟩
 have H2:=hide (H1.out.keep h2)
 clear CR h2 H1 y0 y1 y2 y3 y4 y5 y6 y7 y8
 cases rt with
 | false =>
  have HX2:Hid (X=[]):=hide (by rw[HX.out,if_neg (fun h=>by cases h.1)])
  have HE2:Hid (E=2):=hide (by rw[HE.out,if_neg (fun h=>by cases h)])
  clear HX HE
  go_wp2_with fail
  go_ret2
  rw[HX2.out,HE2.out]
  exact⟨rfl,H2.out.2⟩
 | true =>
  have HRP:Hid (Right p):=hide (HRI.out.1 rfl)
  have y8:=tag_cell H2.out.1 8 _ rfl
  by_cases hb:(N:Int)<=p.bt
  ·have HSZ:=hide (HSZ0.out hb)
   have HX2:Hid (X=San.cleanF buildT p (bl s)):=hide (by rw[HX.out,if_pos ⟨rfl,hb⟩])
   have HE2:Hid (E=0):=hide (by rw[HE.out,if_pos rfl,if_pos hb])
   have g1:¬ (p.bt < (N:Int)):=by omega
   have CF2:=hide (CF.out w2 H2.out.2)
   clear HX HE hb CF HRI
   go_wp2_with fail
   refine CF2.out.mono ?_
   rintro e w3 ⟨rfl,h3⟩
   have H3:=hide (H2.out.keep h3)
   clear CF2 h3 H2 y8
   have y0:=tag_cell H3.out.1 0 _ rfl
   have y1:=tag_cell H3.out.1 1 _ rfl
   have y2:=tag_cell H3.out.1 2 _ rfl
   have y3:=tag_cell H3.out.1 3 _ rfl
   have y4:=tag_cell H3.out.1 4 _ rfl
   have y5:=tag_cell H3.out.1 5 _ rfl
   have y6:=tag_cell H3.out.1 6 _ rfl
   have y7:=tag_cell H3.out.1 7 _ rfl
   have y8:=tag_cell H3.out.1 8 _ rfl
   have CC:=hide (pcleanTree_any HRP.out HF.out _ _ _ _ _ _ _ _ _ _ s w3 (HV.out.below H3.out.2) HSZ.out (HG.out.1.below H3.out.2) (HG.out.2.below H3.out.2))
   have HCL:=hide (clean_treeF p (bl s))
   have HWS:Hid (∀ t,treeF p (bl s)=some t->wsL t<=400000):=hide (fun t h=>treeF_ws (by rw[bl_len];exact HSZ.out) h)
   generalize treeF p (bl s)=T at CC HCL HWS
   go_wp2_with fail
   refine CC.out.mono ?_
   rintro e w4 ⟨⟨r,rfl,hn⟩,h4⟩
   have H4:=hide (H3.out.keep h4)
   clear CC h4 H3 y0 y1 y2 y3 y4 y5 y6 y7 y8
   cases T with
   | none =>
    have HX3:Hid (X=esc false (bl s)):=hide (by rw[HX2.out,HCL.out])
    have CE:=hide (To.escape_any s false w4 (by have:=HSZ.out;omega))
    clear HX2 HCL hn HWS
    go_wp2_with fail
    refine CE.out.mono ?_
    rintro e w5 ⟨rfl,h5⟩
    have HB:=hide (bel2 H4.out.2 h5)
    clear CE h5 H4
    go_wp2_with fail
    go_ret2
    rw[HX3.out,HE2.out]
    exact⟨rfl,HB.out⟩
   | some t =>
    have HX3:Hid (X=htL t):=hide (by rw[HX2.out,HCL.out])
    have hnat:=hn t rfl
    obtain⟨rp,rm,rc,rfl⟩:∃ a b c,r=.slice a b c:=by
     obtain⟨d,h⟩:=hnat
     cases d with
     | zero=>exact h.elim
     | succ d=>obtain⟨q,c,rfl,-⟩:=h;exact⟨_,_,_,rfl⟩
    have CH:=hide (html_nst w4 _ t hnat (by have:=htL_len t;have:=HWS.out t rfl;omega))
    clear HX2 HCL hn hnat HWS
    go_wp2_with fail
    refine CH.out.mono ?_
    rintro e w5 ⟨⟨O,rfl,hO⟩,h5⟩
    have HB:=hide (bel2 H4.out.2 h5)
    have HO:Hid (O=⟨(htL t).toArray⟩):=hide (by rw[<-hO])
    clear CH h5 H4 hO
    go_wp2_with fail
    go_ret2
    rw[HX3.out,HE2.out,HO.out]
    exact⟨rfl,HB.out⟩
  ·have HX2:Hid (X=[]):=hide (by rw[HX.out,if_neg (fun h=>hb h.2)])
   have HE2:Hid (E=4):=hide (by rw[HE.out,if_pos rfl,if_neg hb])
   have g1:p.bt < (N:Int):=by omega
   clear HX HE hb CF HRI
   go_wp2_with fail
   go_ret2
   rw[HX2.out,HE2.out]
   exact⟨rfl,H2.out.2⟩
end Go.Proofs.YtkiofbikkhhdfabGreatDoor.Dm
namespace Go.Proofs.YtkiofbikkhhdfabGreatDoor.Dm
open Go.RowKit
open Utf1 Pol8
def awQ:Pol:=⟨1,[[97]],[[97,46,104,114,101,102]],[[104,116,116,112,115]],[],[],9,99,999⟩
def awR:List UInt8:=[60,97,32,104,114,101,102,61,34,104,116,116,112,115,58,47,47,120,34,32,111,110,99,108,105,99,107,61,121,62,122,60,47,97,62,60,115,99,114,105,112,116,62,119,60,47,115,99,114,105,112,116,62,60,98,62,118]
theorem awQ_fits:fits awQ:=by
 intro l hl
 simp only[awQ,List.mem_cons,List.not_mem_nil,or_false] at hl
 rcases hl with rfl | rfl | rfl | rfl | rfl <;> simp
theorem awQ_x:cleanX awQ awR=[60,97,32,104,114,101,102,61,34,104,116,116,112,115,58,47,47,120,34,32,114,101,108,61,34,110,111,102,111,108,108,111,119,32,110,111,111,112,101,110,101,114,34,62,122,60,47,97,62,118]:=by decide +kernel
theorem awQ_e:cleanE awQ awR=0:=by decide +kernel
theorem awR_fix:(fix awR).length<=40000:=by decide +kernel
theorem one_rowQ (w:World) (x:ByteArray) (t:TypeId):StrArg (w.alloc (.cells #[.string x] t)) (.slice (some ⟨w.heap.size,0,none⟩) 1 1) [x]:=strArg_row w [x] t
structure AwQ (w:World) (wx:World):Prop where
 p:wx.heap[w.heap.size+3]?=some (.cells #[.int .i64 1,.slice (some ⟨w.heap.size,0,none⟩) 1 1,.slice (some ⟨w.heap.size+1,0,none⟩) 1 1,.slice (some ⟨w.heap.size+2,0,none⟩) 1 1,.slice none 0 0,.slice none 0 0,.int .i64 9,.int .i64 99,.int .i64 999] 24 (0,0))
 v:PolV wx (.slice (some ⟨w.heap.size,0,none⟩) 1 1) (.slice (some ⟨w.heap.size+1,0,none⟩) 1 1) (.slice (some ⟨w.heap.size+2,0,none⟩) 1 1) (.slice none 0 0) (.slice none 0 0) awQ [⟨#[97]⟩] [⟨#[97,46,104,114,101,102]⟩] [⟨#[104,116,116,112,115]⟩] [] []
 b:Below w.heap.size w wx
theorem AwQ.keep {w wx wy:World}(h:AwQ w wx)(hb:Below wx.heap.size wx wy):AwQ w wy:=⟨(hb.block _ (lt_of_block h.p)).trans h.p,h.v.below hb,bel2 h.b hb⟩
theorem AwQ.new (w:World):AwQ w ((((w.alloc (.cells #[.string ⟨#[97]⟩] 9)).alloc (.cells #[.string ⟨#[97,46,104,114,101,102]⟩] 9)).alloc (.cells #[.string ⟨#[104,116,116,112,115]⟩] 9)).alloc (.cells #[.int .i64 1,.slice (some ⟨w.heap.size,0,none⟩) 1 1,.slice (some ⟨w.heap.size+1,0,none⟩) 1 1,.slice (some ⟨w.heap.size+2,0,none⟩) 1 1,.slice none 0 0,.slice none 0 0,.int .i64 9,.int .i64 99,.int .i64 999] 24)):=by
 obtain⟨wa,ha⟩:∃ wa,wa=w.alloc (.cells #[.string ⟨#[97]⟩] 9):=⟨_,rfl⟩
 obtain⟨wb,hb⟩:∃ wb,wb=wa.alloc (.cells #[.string ⟨#[97,46,104,114,101,102]⟩] 9):=⟨_,rfl⟩
 obtain⟨wc,hc⟩:∃ wc,wc=wb.alloc (.cells #[.string ⟨#[104,116,116,112,115]⟩] 9):=⟨_,rfl⟩
 have za:wa.heap.size=w.heap.size+1:=by rw[ha];simp
 have zb:wb.heap.size=w.heap.size+2:=by rw[hb];simp[za]
 have zc:wc.heap.size=w.heap.size+3:=by rw[hc];simp[zb]
 have s1:=one_rowQ w ⟨#[97]⟩ 9
 have s2:=one_rowQ wa ⟨#[97,46,104,114,101,102]⟩ 9
 have s3:=one_rowQ wb ⟨#[104,116,116,112,115]⟩ 9
 rw[<-ha] at s1
 rw[za,<-hb] at s2
 rw[zb,<-hc] at s3
 have b1:Below w.heap.size w wa:=by rw[ha];exact bel_alloc (Below.refl _ _) _
 have b2:Below wa.heap.size wa wb:=by rw[hb];exact bel_alloc (Below.refl _ _) _
 have b3:Below wb.heap.size wb wc:=by rw[hc];exact bel_alloc (Below.refl _ _) _
 rw[<-ha,<-hb,<-hc]
 have hn:=new_block wc #[.int .i64 1,.slice (some ⟨w.heap.size,0,none⟩) 1 1,.slice (some ⟨w.heap.size+1,0,none⟩) 1 1,.slice (some ⟨w.heap.size+2,0,none⟩) 1 1,.slice none 0 0,.slice none 0 0,.int .i64 9,.int .i64 99,.int .i64 999] 24
 rw[zc] at hn
 have b4:Below wc.heap.size wc (wc.alloc (.cells #[.int .i64 1,.slice (some ⟨w.heap.size,0,none⟩) 1 1,.slice (some ⟨w.heap.size+1,0,none⟩) 1 1,.slice (some ⟨w.heap.size+2,0,none⟩) 1 1,.slice none 0 0,.slice none 0 0,.int .i64 9,.int .i64 99,.int .i64 999] 24)):=bel_alloc (Below.refl _ _) _
 exact⟨hn,⟨((s1.below b2).below b3).below b4,(s2.below b3).below b4,s3.below b4,strArg_nil _,strArg_nil _,rfl,rfl,rfl,rfl,rfl,trivial⟩,bel2 (bel2 (bel2 b1 b2) b3) b4⟩
theorem awR_new (w:World):Uf.IsBytes (w.alloc (.cells #[.int .u8 60,.int .u8 97,.int .u8 32,.int .u8 104,.int .u8 114,.int .u8 101,.int .u8 102,.int .u8 61,.int .u8 34,.int .u8 104,.int .u8 116,.int .u8 116,.int .u8 112,.int .u8 115,.int .u8 58,.int .u8 47,.int .u8 47,.int .u8 120,.int .u8 34,.int .u8 32,.int .u8 111,.int .u8 110,.int .u8 99,.int .u8 108,.int .u8 105,.int .u8 99,.int .u8 107,.int .u8 61,.int .u8 121,.int .u8 62,.int .u8 122,.int .u8 60,.int .u8 47,.int .u8 97,.int .u8 62,.int .u8 60,.int .u8 115,.int .u8 99,.int .u8 114,.int .u8 105,.int .u8 112,.int .u8 116,.int .u8 62,.int .u8 119,.int .u8 60,.int .u8 47,.int .u8 115,.int .u8 99,.int .u8 114,.int .u8 105,.int .u8 112,.int .u8 116,.int .u8 62,.int .u8 60,.int .u8 98,.int .u8 62,.int .u8 118] 5 (57,58))) (.slice (some ⟨w.heap.size,0,none⟩) 57 57) awR:=by
 have e:(awR.map fun b=>Value.int .u8 (b.toNat:Int)).toArray=#[.int .u8 60,.int .u8 97,.int .u8 32,.int .u8 104,.int .u8 114,.int .u8 101,.int .u8 102,.int .u8 61,.int .u8 34,.int .u8 104,.int .u8 116,.int .u8 116,.int .u8 112,.int .u8 115,.int .u8 58,.int .u8 47,.int .u8 47,.int .u8 120,.int .u8 34,.int .u8 32,.int .u8 111,.int .u8 110,.int .u8 99,.int .u8 108,.int .u8 105,.int .u8 99,.int .u8 107,.int .u8 61,.int .u8 121,.int .u8 62,.int .u8 122,.int .u8 60,.int .u8 47,.int .u8 97,.int .u8 62,.int .u8 60,.int .u8 115,.int .u8 99,.int .u8 114,.int .u8 105,.int .u8 112,.int .u8 116,.int .u8 62,.int .u8 119,.int .u8 60,.int .u8 47,.int .u8 115,.int .u8 99,.int .u8 114,.int .u8 105,.int .u8 112,.int .u8 116,.int .u8 62,.int .u8 60,.int .u8 98,.int .u8 62,.int .u8 118]:=by kernel_rfl
 rw[<-e]
 exact Uf.isBytes_new w _ (57,58) awR 57 57 rfl (Uf.cells_of awR)
theorem san_awake (w:World)(hg:To.Glob w)(hgm:To.GlobM w) :
  Calls Tryz.prog 9 #[] w fun e w'=>e=.returned (.bool true)/\Below w.heap.size w w':=by
 obtain⟨w1,hw1⟩:∃ w1,w1=(((w.alloc (.cells #[.string ⟨#[97]⟩] 9)).alloc (.cells #[.string ⟨#[97,46,104,114,101,102]⟩] 9)).alloc (.cells #[.string ⟨#[104,116,116,112,115]⟩] 9)).alloc (.cells #[.int .i64 1,.slice (some ⟨w.heap.size,0,none⟩) 1 1,.slice (some ⟨w.heap.size+1,0,none⟩) 1 1,.slice (some ⟨w.heap.size+2,0,none⟩) 1 1,.slice none 0 0,.slice none 0 0,.int .i64 9,.int .i64 99,.int .i64 999] 24):=⟨_,rfl⟩
 have H1:=hide (AwQ.new w)
 rw[<-hw1] at H1
 obtain⟨w2,hw2⟩:∃ w2,w2=w1.alloc (.cells #[.int .u8 60,.int .u8 97,.int .u8 32,.int .u8 104,.int .u8 114,.int .u8 101,.int .u8 102,.int .u8 61,.int .u8 34,.int .u8 104,.int .u8 116,.int .u8 116,.int .u8 112,.int .u8 115,.int .u8 58,.int .u8 47,.int .u8 47,.int .u8 120,.int .u8 34,.int .u8 32,.int .u8 111,.int .u8 110,.int .u8 99,.int .u8 108,.int .u8 105,.int .u8 99,.int .u8 107,.int .u8 61,.int .u8 121,.int .u8 62,.int .u8 122,.int .u8 60,.int .u8 47,.int .u8 97,.int .u8 62,.int .u8 60,.int .u8 115,.int .u8 99,.int .u8 114,.int .u8 105,.int .u8 112,.int .u8 116,.int .u8 62,.int .u8 119,.int .u8 60,.int .u8 47,.int .u8 115,.int .u8 99,.int .u8 114,.int .u8 105,.int .u8 112,.int .u8 116,.int .u8 62,.int .u8 60,.int .u8 98,.int .u8 62,.int .u8 118] 5 (57,58)):=⟨_,rfl⟩
 have hcv:(convert 25 25 (.slice (some ⟨w1.heap.size,0,none⟩) 57 57)).run Tryz.prog (w1.alloc (.cells #[.int .u8 60,.int .u8 97,.int .u8 32,.int .u8 104,.int .u8 114,.int .u8 101,.int .u8 102,.int .u8 61,.int .u8 34,.int .u8 104,.int .u8 116,.int .u8 116,.int .u8 112,.int .u8 115,.int .u8 58,.int .u8 47,.int .u8 47,.int .u8 120,.int .u8 34,.int .u8 32,.int .u8 111,.int .u8 110,.int .u8 99,.int .u8 108,.int .u8 105,.int .u8 99,.int .u8 107,.int .u8 61,.int .u8 121,.int .u8 62,.int .u8 122,.int .u8 60,.int .u8 47,.int .u8 97,.int .u8 62,.int .u8 60,.int .u8 115,.int .u8 99,.int .u8 114,.int .u8 105,.int .u8 112,.int .u8 116,.int .u8 62,.int .u8 119,.int .u8 60,.int .u8 47,.int .u8 115,.int .u8 99,.int .u8 114,.int .u8 105,.int .u8 112,.int .u8 116,.int .u8 62,.int .u8 60,.int .u8 98,.int .u8 62,.int .u8 118] 5))=.ok (.slice (some ⟨w1.heap.size,0,none⟩) 57 57) w2:=by
  rw[hw2]
  exact Lib.run_convert_bytes_const w1 25 5 _ 57 57 Tryz.underlying25 Tryz.underlying5
 have hb2:Below w1.heap.size w1 w2:=by rw[hw2];exact bel_alloc (Below.refl _ _) _
 have HR:=awR_new w1
 rw[<-hw2] at HR
 have H2:=hide (H1.out.keep hb2)
 have CC:=hide (pclean_any awQ_fits _ _ _ _ _ _ _ _ _ _ _ awR w2 H2.out.v HR (by decide) (fun _=>awR_fix) (hg.below H2.out.b) (hgm.below H2.out.b))
 rw[awQ_x,awQ_e] at CC
 have y0:=tag_cell H1.out.p 0 _ rfl
 have y1:=tag_cell H1.out.p 1 _ rfl
 have y2:=tag_cell H1.out.p 2 _ rfl
 have y3:=tag_cell H1.out.p 3 _ rfl
 have y4:=tag_cell H1.out.p 4 _ rfl
 have y5:=tag_cell H1.out.p 5 _ rfl
 have y6:=tag_cell H1.out.p 6 _ rfl
 have y7:=tag_cell H1.out.p 7 _ rfl
 have y8:=tag_cell H1.out.p 8 _ rfl
 clear HR hb2 hg hgm H1
 go_enter Tryz.func9,Tryz.ntmps9
 go_upto_region 2 with fail
 rw[<-hw1]
 clear hw1
 go_wp2_with fail
 rw[<-hw2]
 clear hw2 hcv
 refine CC.out.mono ?_
 rintro e w3 ⟨rfl,h3⟩
 have HB:=hide (bel2 H2.out.b h3)
 clear CC h3 H2 y0 y1 y2 y3 y4 y5 y6 y7 y8
 go_wp2_with fail
 go_ret
 exact⟨ret_bool (by decide +kernel),HB.out⟩
end Go.Proofs.YtkiofbikkhhdfabGreatDoor.Dm
namespace Go.Proofs.YtkiofbikkhhdfabGreatDoor
open Go.RowKit
open Utf1 Pol8
theorem ent_safe1:∀ args w,(callFunc 55 args).run Tryz.prog w=.ok (.enter 55 args) w:=enters_of Tryz.func55 (by kernel_rfl) rfl
theorem psafe_any (v1 v2 v3 v4 v5:Value) (p:Pol) (l1 l2 l3 l4 l5:List ByteArray) (v:Value) (ns:List Nd) (w:World)(hv:PolV w v1 v2 v3 v4 v5 p l1 l2 l3 l4 l5)(hf:fits p)(hk:Dm.NAt w v ns)(hws:smL ns)(hnc:ncL ns<=1000000) :
  Calls Tryz.prog 16 #[pval p v1 v2 v3 v4 v5,v] w fun e w'=>e=.returned (.bool (Saf.safeB p ns))/\Below w.heap.size w w':=by
 obtain⟨R,hR⟩:∃ R,R=Saf.safeB p ns:=⟨_,rfl⟩
 rw[<-hR]
 rw[Saf.safe_each] at hR
 have HR:=hide hR
 have HV:=hide hv
 have HK:=hide hk
 obtain⟨D,hkD⟩:=hk
 have CS:Hid (∀ wx,Below w.heap.size w wx->Calls Tryz.prog 53 #[v] wx fun e w'=>e=.returned (.tuple #[.int .i64 (ncL ns:Int),.int .i64 (dpL ns:Int)])/\Below wx.heap.size wx w'):=hide (fun wx h=>Dm.size_nst D wx v ns (Dm.NAtD.below h hkD) (by omega))
 have CT:Hid (∀ wx,Below w.heap.size w wx->Calls Tryz.prog 21 #[v] wx fun e w'=>e=.returned (.bool (stable ns))/\Below wx.heap.size wx w'):=hide (fun wx h=>Dm.stable_nst wx v ns (HK.out.below h) (by omega))
 have CI:Hid (∀ wx,wx.heap[w.heap.size]?=some (.cells #[.int .i64 p.ep,v1,v2,v3,v4,v5,.int .i64 p.dp,.int .i64 p.nd,.int .i64 p.bt] 24 (0,0))->Below w.heap.size w wx->Calls Tryz.prog 54 #[v,.func (.func 55) #[] #[.pointer (some ⟨w.heap.size,0,none⟩)]] wx fun e w'=>e=.returned (.bool (Saf.eachL p ns))/\Below wx.heap.size wx w'):=hide (fun wx hP h=>peach_nst 55 #[.pointer (some ⟨w.heap.size,0,none⟩)] ent_safe1 p D wx v ns (fun W XN XT ap kp am ac km kc at' hW har hX hz=>pelem1_any w.heap.size v1 v2 v3 v4 v5 p l1 l2 l3 l4 l5 hf XN XT ap kp am ac km kc at' W ((hW.block _ (lt_of_block hP)).trans hP) (hv.below (bel2 h hW)) har hX hz) (Dm.NAtD.below h hkD) hws)
 obtain⟨pv,cv,hvv,-⟩:∃ pv cv,v=.slice pv ns.length cv/\True:=by
  cases D with
  | zero=>exact hkD.elim
  | succ D =>
   obtain⟨pv,cv,e,-⟩:=hkD
   exact⟨pv,cv,e,trivial⟩
 obtain⟨o1,k1,rfl,-,-⟩:=hv.s1
 obtain⟨o2,k2,rfl,-,-⟩:=hv.s2
 obtain⟨o3,k3,rfl,-,-⟩:=hv.s3
 obtain⟨o4,k4,rfl,-,-⟩:=hv.s4
 obtain⟨o5,k5,rfl,-,-⟩:=hv.s5
 obtain⟨A,hA⟩:∃ A:Array Value,A=#[.int .i64 p.ep,.slice o1 l1.length k1,.slice o2 l2.length k2,.slice o3 l3.length k3,.slice o4 l4.length k4,.slice o5 l5.length k5,.int .i64 p.dp,.int .i64 p.nd,.int .i64 p.bt]:=⟨_,rfl⟩
 obtain⟨w1,hw1⟩:∃ w1,w1=w.alloc (.cells A 24):=⟨_,rfl⟩
 have H1:Hid (BoxP w A w1):=hide (by rw[hw1];exact⟨new_block _ _ _,bel_alloc (Below.refl _ _) _⟩)
 have HY:Hid (∀ wx,BoxP w A wx->wx.cell? ⟨w.heap.size,0,none⟩=some (.int .i64 p.ep)/\wx.cell? ⟨w.heap.size,1,none⟩=some (.slice o1 l1.length k1)/\wx.cell? ⟨w.heap.size,2,none⟩=some (.slice o2 l2.length k2)/\wx.cell? ⟨w.heap.size,3,none⟩=some (.slice o3 l3.length k3)/\wx.cell? ⟨w.heap.size,4,none⟩=some (.slice o4 l4.length k4)/\wx.cell? ⟨w.heap.size,5,none⟩=some (.slice o5 l5.length k5)/\wx.cell? ⟨w.heap.size,6,none⟩=some (.int .i64 p.dp)/\wx.cell? ⟨w.heap.size,7,none⟩=some (.int .i64 p.nd)/\wx.cell? ⟨w.heap.size,8,none⟩=some (.int .i64 p.bt)):=hide (fun wx h=>⟨h.cell 0 _ (by rw[hA];rfl),h.cell 1 _ (by rw[hA];rfl),h.cell 2 _ (by rw[hA];rfl),h.cell 3 _ (by rw[hA];rfl),h.cell 4 _ (by rw[hA];rfl),h.cell 5 _ (by rw[hA];rfl),h.cell 6 _ (by rw[hA];rfl),h.cell 7 _ (by rw[hA];rfl),h.cell 8 _ (by rw[hA];rfl)⟩)
 rw[<-hA] at CI
 rw[hA] at hw1
 subst hvv
 generalize ns.length=NL at CS CT CI
 generalize Saf.eachL p ns=ri at CI HR
 generalize hst:stable ns=rs at CT HR
 clear hst hA hv hR HV HK hkD hws hf
 obtain⟨nc,hnc'⟩:∃ nc,nc=ncL ns:=⟨_,rfl⟩
 obtain⟨dr,hdr⟩:∃ dr,dr=dpL ns:=⟨_,rfl⟩
 rw[<-hnc',<-hdr] at CS
 rw[<-hnc',<-hdr] at HR
 clear hnc hnc' hdr
 obtain⟨a6,a7,h6,h7⟩:∃ a6 a7,a6=p.dp/\a7=p.nd:=⟨_,_,rfl,rfl⟩
 rw[<-h6,<-h7] at HR
 have hmf:∀ (fn:Fn) (first cap:Array Value) (w:World),(Instr.makeFunc fn first cap).run Tryz.prog w=.ok (.func fn first cap) w:=fun _ _ _ _=>rfl
 go_enter Tryz.func16,Tryz.ntmps16
 go_upto_region 1 with fail
 rw[<-hw1]
 clear hw1
 go_wp2_with fail
 refine (CS.out _ H1.out.2).mono ?_
 rintro e w2 ⟨rfl,h2⟩
 have H2:=hide (H1.out.keep h2)
 clear h2 CS H1
 go_wp2_with fail
 refine (CT.out _ H2.out.2).mono ?_
 rintro e w3 ⟨rfl,h3⟩
 have H3:=hide (H2.out.keep h3)
 clear h3 CT H2
 obtain⟨y0,y1,y2,y3,y4,y5,y6,y7,y8⟩:=HY.out w3 H3.out
 rw[<-h6] at y6
 rw[<-h7] at y7
 have H67:=hide (And.intro h6 h7)
 clear h6 h7
 cases rs with
 | false =>
  have HN:Hid (R=false):=hide (by rw[HR.out];rfl)
  clear HR
  go_wp2_with fail
  go_ret
  rw[HN.out]
  exact⟨rfl,H3.out.2⟩
 | true =>
  rw[Bool.true_and] at HR
  by_cases hn:(nc:Int)<=a7
  ·have gn:decide (a7 < (nc:Int))=false:=decide_eq_false (by omega)
   by_cases hd:(dr:Int)<=a6
   ·have gd:decide (a6 < (dr:Int))=false:=decide_eq_false (by omega)
    have HN:Hid (R=ri):=hide (by rw[HR.out,decide_eq_true hn,decide_eq_true hd,Bool.true_and,Bool.true_and])
    clear HR hn hd
    go_wp2_with fail
    refine (CI.out _ H3.out.1 H3.out.2).mono ?_
    rintro e w4 ⟨rfl,h4⟩
    have H4:=hide (H3.out.keep h4)
    clear h4 CI H3 y0 y1 y2 y3 y4 y5 y6 y7 y8
    go_wp2_with fail
    go_ret
    rw[HN.out]
    exact⟨rfl,H4.out.2⟩
   ·have gd:decide (a6 < (dr:Int))=true:=decide_eq_true (by omega)
    have HN:Hid (R=false):=hide (by rw[HR.out,decide_eq_false hd];simp)
    clear HR hn hd
    go_wp2_with fail
    go_ret
    rw[HN.out]
    exact⟨rfl,H3.out.2⟩
  ·have gn:decide (a7 < (nc:Int))=true:=decide_eq_true (by omega)
   have HN:Hid (R=false):=hide (by rw[HR.out,decide_eq_false hn];rfl)
   clear HR hn
   go_wp2_with fail
   go_ret
   rw[HN.out]
   exact⟨rfl,H3.out.2⟩
end Go.Proofs.YtkiofbikkhhdfabGreatDoor
namespace Go.Proofs.YtkiofbikkhhdfabGreatDoor.Dm
open Go.RowKit
open Utf1 Pol8
theorem nat_slice {w:World}{v:Value}{ns:List Nd}(h:NAt w v ns):∃ a b c,v=.slice a b c:=by
 obtain⟨d,h⟩:=h
 cases d with
 | zero=>exact h.elim
 | succ d=>obtain⟨q,c,rfl,-⟩:=h;exact⟨_,_,_,rfl⟩
theorem bytes_of (w:World) (S:ByteArray):∃ cap w',(convert 9 25 (.string S)).run Tryz.prog w=.ok (.slice (some ⟨w.heap.size,0,none⟩) S.size cap) w'/\Uf.IsBytes w' (.slice (some ⟨w.heap.size,0,none⟩) S.size cap) (bl S)/\Below w.heap.size w w':=by
 refine⟨_,_,Lib.run_convert_string_bytes w 9 25 5 S Tryz.underlying9 Tryz.underlying25 Tryz.underlying5,.inr ⟨⟨w.heap.size,0,none⟩,_,by rw[bl_len],fun j hj=>?_⟩,Lib.bytesWorld_below _ _ _⟩
 rw[add_plain,Nat.zero_add]
 have hj':j < S.size:=by rw[bl_len] at hj;exact hj
 rw[Lib.bytesWorld_cell w 5 S j hj']
 have e:S.data.toList.getD j 0=(bl S)[j]:=by
  rw[List.getD_eq_getElem?_getD,List.getElem?_eq_getElem (by exact hj)]
  rfl
 rw[e]
theorem read_page (S:ByteArray) (t:List Nd) (w:World)(hS:bl S=htL t)(hst:stable t=true)(hw:wsL t<=400000)(hg:To.Glob w)(hgm:To.GlobM w) :
  Calls Tryz.prog 15 #[.string S] w fun e w'=>∃ v l,e=.returned v/\l.map Prod.fst=tkL t/\To.ToksAt w' w.heap.size v l/\Below w.heap.size w w':=by
 have h1:=htL_len t
 have h:=To.tokens_any S w (by rw[<-bl_len,hS];omega) hg hgm
 rw[hS,toks_stable hst] at h
 exact h
end Go.Proofs.YtkiofbikkhhdfabGreatDoor.Dm
namespace Go.Proofs.YtkiofbikkhhdfabGreatDoor.Dm
open Go.RowKit
open Utf1 Pol8
theorem lawSanStricter_walk {v1 v2 v3 v4 v5:Value}{p:Pol}{l1 l2 l3 l4 l5:List ByteArray}{u1 u2 u3 u4 u5:Value}{q:Pol}{m1 m2 m3 m4 m5:List ByteArray}{v:Value}{raw:List UInt8}(w:World)(hv:PolV w v1 v2 v3 v4 v5 p l1 l2 l3 l4 l5)(hu:PolV w u1 u2 u3 u4 u5 q m1 m2 m3 m4 m5)(hr:Uf.IsBytes w v raw)(hg:To.Glob w)(hgm:To.GlobM w) :
  Calls Tryz.prog 3 #[pval p v1 v2 v3 v4 v5,pval q u1 u2 u3 u4 u5,v] w fun e w'=>e=.returned (.bool true)/\Below w.heap.size w w':=by
 have HV:=hide hv
 have HQ:=hide hu
 have HRW:=hide hr
 have HG:=hide (And.intro hg hgm)
 obtain⟨vp,vc,rfl⟩:∃ a c,v=.slice a raw.length c:=by
  rcases hr with⟨rfl,rfl⟩ | ⟨x,cap,rfl,-⟩
  ·exact⟨_,_,rfl⟩
  ·exact⟨_,_,rfl⟩
 obtain⟨N,hN⟩:∃ N,N=raw.length:=⟨_,rfl⟩
 rw[<-hN]
 obtain⟨o1,k1,rfl,-,-⟩:=hv.s1
 obtain⟨o2,k2,rfl,-,-⟩:=hv.s2
 obtain⟨o3,k3,rfl,-,-⟩:=hv.s3
 obtain⟨o4,k4,rfl,-,-⟩:=hv.s4
 obtain⟨o5,k5,rfl,-,-⟩:=hv.s5
 obtain⟨i1,j1,rfl,-,-⟩:=hu.s1
 obtain⟨i2,j2,rfl,-,-⟩:=hu.s2
 obtain⟨i3,j3,rfl,-,-⟩:=hu.s3
 obtain⟨i4,j4,rfl,-,-⟩:=hu.s4
 obtain⟨i5,j5,rfl,-,-⟩:=hu.s5
 obtain⟨w1,hw1⟩:∃ w1,w1=(w.alloc (.cells #[.int .i64 p.ep,.slice o1 (List.length l1) k1,.slice o2 (List.length l2) k2,.slice o3 (List.length l3) k3,.slice o4 (List.length l4) k4,.slice o5 (List.length l5) k5,.int .i64 p.dp,.int .i64 p.nd,.int .i64 p.bt] 24)).alloc (.cells #[.int .i64 q.ep,.slice i1 (List.length m1) j1,.slice i2 (List.length m2) j2,.slice i3 (List.length m3) j3,.slice i4 (List.length m4) j4,.slice i5 (List.length m5) j5,.int .i64 q.dp,.int .i64 q.nd,.int .i64 q.bt] 24):=⟨_,rfl⟩
 have H1:Hid (BoxQ w #[.int .i64 p.ep,.slice o1 (List.length l1) k1,.slice o2 (List.length l2) k2,.slice o3 (List.length l3) k3,.slice o4 (List.length l4) k4,.slice o5 (List.length l5) k5,.int .i64 p.dp,.int .i64 p.nd,.int .i64 p.bt] #[.int .i64 q.ep,.slice i1 (List.length m1) j1,.slice i2 (List.length m2) j2,.slice i3 (List.length m3) j3,.slice i4 (List.length m4) j4,.slice i5 (List.length m5) j5,.int .i64 q.dp,.int .i64 q.nd,.int .i64 q.bt] w1):=hide (by rw[hw1];exact BoxQ.new _ _ _)
 have CA:=hide (san_awake w1 (HG.out.1.below H1.out.2.2) (HG.out.2.below H1.out.2.2))
 have CL:Hid (∀ wx,Below w.heap.size w wx->_):=hide (fun wx h=>rlight_any _ _ _ _ _ p _ _ _ _ _ wx (HV.out.below h))
 have CM:Hid (∀ wx,Below w.heap.size w wx->_):=hide (fun wx h=>rlight_any _ _ _ _ _ q _ _ _ _ _ wx (HQ.out.below h))
 have R1:Hid (light p->∀ wx,Below w.heap.size w wx->_):=hide (fun hl wx h=>pright_any _ _ _ _ _ p _ _ _ _ _ wx (HV.out.below h) (light_fits hl))
 have R2:Hid (light q->∀ wx,Below w.heap.size w wx->_):=hide (fun hl wx h=>pright_any _ _ _ _ _ q _ _ _ _ _ wx (HQ.out.below h) (light_fits hl))
 have T1:Hid (light p->light q->∀ wx,Below w.heap.size w wx->_):=hide (fun hl hm wx h=>pstrict_any _ _ _ _ _ _ _ _ _ _ p q _ _ _ _ _ _ _ _ _ _ wx (HV.out.below h) (HQ.out.below h) (light_fits hl) (light_fits hm))
 have CC:Hid (light q->N<=3000->∀ wx,Below w.heap.size w wx->Calls Tryz.prog 13 #[.agg #[.int .i64 q.ep,.slice i1 (List.length m1) j1,.slice i2 (List.length m2) j2,.slice i3 (List.length m3) j3,.slice i4 (List.length m4) j4,.slice i5 (List.length m5) j5,.int .i64 q.dp,.int .i64 q.nd,.int .i64 q.bt],.slice vp N vc] wx fun e w'=>e=.returned (.tuple #[.string ⟨(cleanX q raw).toArray⟩,.int .i64 (cleanE q raw)])/\Below wx.heap.size wx w'):=hide (fun hlt hn wx h=>by
  have h4:=fix_len4 raw
  have:=pclean_any (light_fits hlt) _ _ _ _ _ _ _ _ _ _ _ raw wx (HQ.out.below h) (bytes_below HRW.out h) (by omega) (fun _=>by omega) (HG.out.1.below h) (HG.out.2.below h)
  rw[<-hN] at this
  exact this)
 have HNR:=hide hN
 clear hv hu hr hg hgm hN
 go_enter Tryz.func3,Tryz.ntmps3
 go_upto_region 1 with fail
 rw[<-hw1]
 clear hw1
 go_wp2_with fail
 refine CA.out.mono ?_
 rintro e w2 ⟨rfl,h2⟩
 have H2:=hide (H1.out.keep h2)
 have CL2:=hide (CL.out w2 H2.out.2.2)
 clear CA h2 H1 CL
 have y0:=H2.out.a 0 _ rfl
 have y1:=H2.out.a 1 _ rfl
 have y2:=H2.out.a 2 _ rfl
 have y3:=H2.out.a 3 _ rfl
 have y4:=H2.out.a 4 _ rfl
 have y5:=H2.out.a 5 _ rfl
 have y6:=H2.out.a 6 _ rfl
 have y7:=H2.out.a 7 _ rfl
 have y8:=H2.out.a 8 _ rfl
 have z0:=H2.out.b 0 _ rfl
 have z1:=H2.out.b 1 _ rfl
 have z2:=H2.out.b 2 _ rfl
 have z3:=H2.out.b 3 _ rfl
 have z4:=H2.out.b 4 _ rfl
 have z5:=H2.out.b 5 _ rfl
 have z6:=H2.out.b 6 _ rfl
 have z7:=H2.out.b 7 _ rfl
 have z8:=H2.out.b 8 _ rfl
 go_wp2_with fail
 refine CL2.out.mono ?_
 rintro e w3 ⟨⟨b1,rfl,hb1⟩,h3⟩
 have H3:=hide (H2.out.keep h3)
 have HB1:=hide hb1
 have CM2:=hide (CM.out w3 H3.out.2.2)
 clear CL2 h3 hb1 H2 y0 y1 y2 y3 y4 y5 y6 y7 y8 z0 z1 z2 z3 z4 z5 z6 z7 z8 CM
 have y0:=H3.out.a 0 _ rfl
 have y1:=H3.out.a 1 _ rfl
 have y2:=H3.out.a 2 _ rfl
 have y3:=H3.out.a 3 _ rfl
 have y4:=H3.out.a 4 _ rfl
 have y5:=H3.out.a 5 _ rfl
 have y6:=H3.out.a 6 _ rfl
 have y7:=H3.out.a 7 _ rfl
 have y8:=H3.out.a 8 _ rfl
 have z0:=H3.out.b 0 _ rfl
 have z1:=H3.out.b 1 _ rfl
 have z2:=H3.out.b 2 _ rfl
 have z3:=H3.out.b 3 _ rfl
 have z4:=H3.out.b 4 _ rfl
 have z5:=H3.out.b 5 _ rfl
 have z6:=H3.out.b 6 _ rfl
 have z7:=H3.out.b 7 _ rfl
 have z8:=H3.out.b 8 _ rfl
 go_wp2_with fail
 refine CM2.out.mono ?_
 rintro e w4 ⟨⟨b2,rfl,hb2⟩,h4⟩
 have H4:=hide (H3.out.keep h4)
 have HB2:=hide hb2
 clear CM2 h4 hb2 H3 y0 y1 y2 y3 y4 y5 y6 y7 y8 z0 z1 z2 z3 z4 z5 z6 z7 z8
 cases b1 with
 | false =>
  clear R1 R2 T1 CC
  go_wp2_with fail
  go_ret
  exact⟨rfl,H4.out.2.2⟩
 | true =>
 cases b2 with
 | false =>
  clear R1 R2 T1 CC
  go_wp2_with fail
  go_ret
  exact⟨rfl,H4.out.2.2⟩
 | true =>
 have HLP:=hide (HB1.out rfl)
 have HLQ:=hide (HB2.out rfl)
 clear HB1 HB2
 by_cases hn:N<=3000
 case neg =>
  have g1:3000 < N:=by omega
  clear R1 R2 T1 CC hn
  go_wp2_with fail
  go_ret
  exact⟨rfl,H4.out.2.2⟩
 have g1:¬ (3000 < N):=by omega
 have HN3:=hide hn
 have R1b:=hide (R1.out HLP.out w4 H4.out.2.2)
 clear hn R1
 have y0:=H4.out.a 0 _ rfl
 have y1:=H4.out.a 1 _ rfl
 have y2:=H4.out.a 2 _ rfl
 have y3:=H4.out.a 3 _ rfl
 have y4:=H4.out.a 4 _ rfl
 have y5:=H4.out.a 5 _ rfl
 have y6:=H4.out.a 6 _ rfl
 have y7:=H4.out.a 7 _ rfl
 have y8:=H4.out.a 8 _ rfl
 have z0:=H4.out.b 0 _ rfl
 have z1:=H4.out.b 1 _ rfl
 have z2:=H4.out.b 2 _ rfl
 have z3:=H4.out.b 3 _ rfl
 have z4:=H4.out.b 4 _ rfl
 have z5:=H4.out.b 5 _ rfl
 have z6:=H4.out.b 6 _ rfl
 have z7:=H4.out.b 7 _ rfl
 have z8:=H4.out.b 8 _ rfl
 go_wp2_with fail
 refine R1b.out.mono ?_
 rintro e w5 ⟨rfl,h5⟩
 have H5:=hide (H4.out.keep h5)
 have R2b:=hide (R2.out HLQ.out w5 H5.out.2.2)
 clear R1b h5 H4 y0 y1 y2 y3 y4 y5 y6 y7 y8 z0 z1 z2 z3 z4 z5 z6 z7 z8 R2
 cases hrp:right p with
 | false =>
  clear R2b T1 CC hrp
  go_wp2_with fail
  go_ret
  exact⟨rfl,H5.out.2.2⟩
 | true =>
 have y0:=H5.out.a 0 _ rfl
 have y1:=H5.out.a 1 _ rfl
 have y2:=H5.out.a 2 _ rfl
 have y3:=H5.out.a 3 _ rfl
 have y4:=H5.out.a 4 _ rfl
 have y5:=H5.out.a 5 _ rfl
 have y6:=H5.out.a 6 _ rfl
 have y7:=H5.out.a 7 _ rfl
 have y8:=H5.out.a 8 _ rfl
 have z0:=H5.out.b 0 _ rfl
 have z1:=H5.out.b 1 _ rfl
 have z2:=H5.out.b 2 _ rfl
 have z3:=H5.out.b 3 _ rfl
 have z4:=H5.out.b 4 _ rfl
 have z5:=H5.out.b 5 _ rfl
 have z6:=H5.out.b 6 _ rfl
 have z7:=H5.out.b 7 _ rfl
 have z8:=H5.out.b 8 _ rfl
 go_wp2_with fail
 refine R2b.out.mono ?_
 rintro e w6 ⟨rfl,h6⟩
 have H6:=hide (H5.out.keep h6)
 have T1b:=hide (T1.out HLP.out HLQ.out w6 H6.out.2.2)
 clear R2b h6 H5 y0 y1 y2 y3 y4 y5 y6 y7 y8 z0 z1 z2 z3 z4 z5 z6 z7 z8 T1
 cases hrq:right q with
 | false =>
  clear T1b CC hrp hrq
  go_wp2_with fail
  go_ret
  exact⟨rfl,H6.out.2.2⟩
 | true =>
 have y0:=H6.out.a 0 _ rfl
 have y1:=H6.out.a 1 _ rfl
 have y2:=H6.out.a 2 _ rfl
 have y3:=H6.out.a 3 _ rfl
 have y4:=H6.out.a 4 _ rfl
 have y5:=H6.out.a 5 _ rfl
 have y6:=H6.out.a 6 _ rfl
 have y7:=H6.out.a 7 _ rfl
 have y8:=H6.out.a 8 _ rfl
 have z0:=H6.out.b 0 _ rfl
 have z1:=H6.out.b 1 _ rfl
 have z2:=H6.out.b 2 _ rfl
 have z3:=H6.out.b 3 _ rfl
 have z4:=H6.out.b 4 _ rfl
 have z5:=H6.out.b 5 _ rfl
 have z6:=H6.out.b 6 _ rfl
 have z7:=H6.out.b 7 _ rfl
 have z8:=H6.out.b 8 _ rfl
 go_wp2_with fail
 refine T1b.out.mono ?_
 rintro e w7 ⟨rfl,h7⟩
 have H7:=hide (H6.out.keep h7)
 clear T1b h7 H6 y0 y1 y2 y3 y4 y5 y6 y7 y8 z0 z1 z2 z3 z4 z5 z6 z7 z8
 cases hst:stricter p q with
 | false =>
  clear CC hrp hrq hst
  go_wp2_with fail
  go_ret
  exact⟨rfl,H7.out.2.2⟩
 | true =>
 have CC2:=hide (CC.out HLQ.out HN3.out w7 H7.out.2.2)
 clear CC
 have y0:=H7.out.a 0 _ rfl
 have y1:=H7.out.a 1 _ rfl
 have y2:=H7.out.a 2 _ rfl
 have y3:=H7.out.a 3 _ rfl
 have y4:=H7.out.a 4 _ rfl
 have y5:=H7.out.a 5 _ rfl
 have y6:=H7.out.a 6 _ rfl
 have y7:=H7.out.a 7 _ rfl
 have y8:=H7.out.a 8 _ rfl
 have z0:=H7.out.b 0 _ rfl
 have z1:=H7.out.b 1 _ rfl
 have z2:=H7.out.b 2 _ rfl
 have z3:=H7.out.b 3 _ rfl
 have z4:=H7.out.b 4 _ rfl
 have z5:=H7.out.b 5 _ rfl
 have z6:=H7.out.b 6 _ rfl
 have z7:=H7.out.b 7 _ rfl
 have z8:=H7.out.b 8 _ rfl
 by_cases hok:(raw.length:Int)<=q.bt
 case neg =>
  have hE:cleanE q raw=4:=by unfold cleanE;rw[if_pos hrq,if_neg hok]
  rw[hE] at CC2
  clear hok hE hrp hrq hst
  go_wp2_with fail
  refine CC2.out.mono ?_
  rintro e w8 ⟨rfl,h8⟩
  have HB:=hide (bel2 H7.out.2.2 h8)
  clear CC2 h8 H7 y0 y1 y2 y3 y4 y5 y6 y7 y8 z0 z1 z2 z3 z4 z5 z6 z7 z8
  go_wp2_with fail
  go_ret
  exact⟨rfl,HB.out⟩
 have hRP:=(right_iff p).1 hrp
 have hRQ:=(right_iff q).1 hrq
 obtain⟨t,hsf,ht,hbt,hsm,hnc,hws,hpl⟩:=clean_sm hRQ (s:=fix raw) (by have:=fix_len4 raw;have:=HN3.out;have:=HNR.out;omega)
 have hag:=San.clean_again buildT_ok hRQ raw
 have hE:cleanE q raw=0:=by unfold cleanE;rw[if_pos hrq,if_pos hok]
 have hX:cleanX q raw=htL t:=by unfold cleanX;rw[if_pos ⟨hrq,hok⟩,ht]
 rw[ht] at hag hpl
 rw[hE,hX] at CC2
 obtain⟨S,hS⟩:∃ S:ByteArray,S=⟨(htL t).toArray⟩:=⟨_,rfl⟩
 have hSb:bl S=htL t:=by rw[hS]
 rw[<-hS] at CC2
 have hSl:S.size=(htL t).length:=by rw[<-bl_len,hSb]
 have HS1:=hide (And.intro hSb (And.intro hag.1 (And.intro hSl hpl)))
 have HRR:=hide (And.intro hRP (And.intro hrp ((str_iff p q).1 hst)))
 clear hok hE hX hS hSb hag hsf ht hbt hsm hnc hws hpl hRP hRQ hrp hrq hst hSl
 go_wp2_with fail
 refine CC2.out.mono ?_
 rintro e w8 ⟨rfl,h8⟩
 have H8:=hide (H7.out.keep h8)
 clear CC2 h8 H7 y0 y1 y2 y3 y4 y5 y6 y7 y8 z0 z1 z2 z3 z4 z5 z6 z7 z8
 have y0:=H8.out.a 0 _ rfl
 have y1:=H8.out.a 1 _ rfl
 have y2:=H8.out.a 2 _ rfl
 have y3:=H8.out.a 3 _ rfl
 have y4:=H8.out.a 4 _ rfl
 have y5:=H8.out.a 5 _ rfl
 have y6:=H8.out.a 6 _ rfl
 have y7:=H8.out.a 7 _ rfl
 have y8:=H8.out.a 8 _ rfl
 have z0:=H8.out.b 0 _ rfl
 have z1:=H8.out.b 1 _ rfl
 have z2:=H8.out.b 2 _ rfl
 have z3:=H8.out.b 3 _ rfl
 have z4:=H8.out.b 4 _ rfl
 have z5:=H8.out.b 5 _ rfl
 have z6:=H8.out.b 6 _ rfl
 have z7:=H8.out.b 7 _ rfl
 have z8:=H8.out.b 8 _ rfl
 by_cases hbp:(S.size:Int)<=p.bt
 case neg =>
  have g2:p.bt < (S.size:Int):=by omega
  clear hbp
  go_wp2_with fail
  go_ret
  exact⟨rfl,H8.out.2.2⟩
 have g2:¬ (p.bt < (S.size:Int)):=by omega
 obtain⟨hRP,hrp,hstr⟩:=HRR.out
 obtain⟨hSb,hfx,hSl,hpl⟩:=HS1.out
 have hbp2:=hRP.c.2.2.2.2
 obtain⟨t2,hsf,ht,hbt,hsm,hnc,hws,-⟩:=clean_sm hRP (s:=htL t) (by omega)
 obtain⟨cap,w9,hcv,hby,hb9⟩:=bytes_of w8 S
 have H9:=hide (H8.out.keep hb9)
 have CX:=hide (pclean_any (light_fits HLP.out) _ _ _ _ _ _ _ _ _ _ _ (bl S) w9 (HV.out.below H9.out.2.2) hby (by rw[hSb];omega) (fun hb=>by rw[hSb,hfx];omega) (HG.out.1.below H9.out.2.2) (HG.out.2.below H9.out.2.2))
 have hX:cleanX p (bl S)=htL t2:=by unfold cleanX;rw[bl_len,if_pos ⟨hrp,hbp⟩,hSb,hfx,ht]
 have hE:cleanE p (bl S)=0:=by unfold cleanE;rw[if_pos hrp,bl_len,if_pos hbp]
 rw[hX,hE] at CX
 obtain⟨S2,hS2⟩:∃ S:ByteArray,S=⟨(htL t2).toArray⟩:=⟨_,rfl⟩
 have hS2b:bl S2=htL t2:=by rw[hS2]
 rw[<-hS2] at CX
 have hst2:=(San.safe_stable hsf).1
 have hsq:=Saf.safe_more hRP hstr hsf
 have CT:Hid (∀ wx,Below w.heap.size w wx->_):=hide (fun wx h=>read_page S2 t2 wx hS2b hst2 (by omega) (HG.out.1.below h) (HG.out.2.below h))
 have CB:Hid (∀ wx (u:Value) (l:List (Tk × Value)) (B:Nat),To.ToksAt wx B u l->l.map Prod.fst=tkL t2->_):=hide (fun wx u l B h1 h2=>build_page wx B u l t2 h1 h2 hst2 (by omega))
 have CS:Hid (∀ wx (u:Value),Below w.heap.size w wx->NAt wx u t2->_):=hide (fun wx u h1 h2=>psafe_any _ _ _ _ _ p _ _ _ _ _ u t2 wx (HV.out.below h1) (light_fits HLP.out) h2 hsm hnc)
 rw[hsf] at CS
 have CS':Hid (∀ wx (u:Value),Below w.heap.size w wx->NAt wx u t2->_):=hide (fun wx u h1 h2=>psafe_any _ _ _ _ _ q _ _ _ _ _ u t2 wx (HQ.out.below h1) (light_fits HLQ.out) h2 hsm hnc)
 rw[hsq] at CS'
 clear hbp hRP hrp hstr hSb hfx hSl hpl hbp2 hsf ht hbt hsm hnc hws hby hb9 hX hE hS2 hS2b hst2 hsq
 go_wp2_with fail
 refine CX.out.mono ?_
 rintro e w10 ⟨rfl,h10⟩
 have H10:=hide (H9.out.keep h10)
 have CT2:=hide (CT.out w10 H10.out.2.2)
 clear CX h10 H9 H8 y0 y1 y2 y3 y4 y5 y6 y7 y8 z0 z1 z2 z3 z4 z5 z6 z7 z8 hcv CT
 go_wp2_with fail
 refine CT2.out.mono ?_
 rintro e w11 ⟨u,l,rfl,hl,htk,h11⟩
 have H11:=hide (H10.out.keep h11)
 have CB2:=hide (CB.out w11 u l _ htk hl)
 obtain⟨up,uc,rfl⟩:=own_len htk.1
 clear CT2 h11 H10 CB hl htk
 go_wp2_with fail
 refine CB2.out.mono ?_
 rintro e w12 ⟨⟨r,rfl,hna⟩,h12⟩
 have H12:=hide (H11.out.keep h12)
 have HNA:=hide hna
 have CS2:=hide (CS.out w12 r H12.out.2.2 hna)
 obtain⟨rp,rm,rc,rfl⟩:=nat_slice hna
 clear CB2 h12 H11 CS hna
 have y0:=H12.out.a 0 _ rfl
 have y1:=H12.out.a 1 _ rfl
 have y2:=H12.out.a 2 _ rfl
 have y3:=H12.out.a 3 _ rfl
 have y4:=H12.out.a 4 _ rfl
 have y5:=H12.out.a 5 _ rfl
 have y6:=H12.out.a 6 _ rfl
 have y7:=H12.out.a 7 _ rfl
 have y8:=H12.out.a 8 _ rfl
 have z0:=H12.out.b 0 _ rfl
 have z1:=H12.out.b 1 _ rfl
 have z2:=H12.out.b 2 _ rfl
 have z3:=H12.out.b 3 _ rfl
 have z4:=H12.out.b 4 _ rfl
 have z5:=H12.out.b 5 _ rfl
 have z6:=H12.out.b 6 _ rfl
 have z7:=H12.out.b 7 _ rfl
 have z8:=H12.out.b 8 _ rfl
 go_wp2_with fail
 refine CS2.out.mono ?_
 rintro e w13 ⟨rfl,h13⟩
 have H13:=hide (H12.out.keep h13)
 have CS3:=hide (CS'.out w13 _ H13.out.2.2 (HNA.out.below h13))
 clear CS2 h13 H12 CS' HNA y0 y1 y2 y3 y4 y5 y6 y7 y8 z0 z1 z2 z3 z4 z5 z6 z7 z8
 have y0:=H13.out.a 0 _ rfl
 have y1:=H13.out.a 1 _ rfl
 have y2:=H13.out.a 2 _ rfl
 have y3:=H13.out.a 3 _ rfl
 have y4:=H13.out.a 4 _ rfl
 have y5:=H13.out.a 5 _ rfl
 have y6:=H13.out.a 6 _ rfl
 have y7:=H13.out.a 7 _ rfl
 have y8:=H13.out.a 8 _ rfl
 have z0:=H13.out.b 0 _ rfl
 have z1:=H13.out.b 1 _ rfl
 have z2:=H13.out.b 2 _ rfl
 have z3:=H13.out.b 3 _ rfl
 have z4:=H13.out.b 4 _ rfl
 have z5:=H13.out.b 5 _ rfl
 have z6:=H13.out.b 6 _ rfl
 have z7:=H13.out.b 7 _ rfl
 have z8:=H13.out.b 8 _ rfl
 go_wp2_with fail
 refine CS3.out.mono ?_
 rintro e w14 ⟨rfl,h14⟩
 have HB:=hide (bel2 H13.out.2.2 h14)
 clear CS3 h14 H13 y0 y1 y2 y3 y4 y5 y6 y7 y8 z0 z1 z2 z3 z4 z5 z6 z7 z8
 go_wp2_with fail
 go_ret
 exact⟨rfl,HB.out⟩
end Go.Proofs.YtkiofbikkhhdfabGreatDoor.Dm
