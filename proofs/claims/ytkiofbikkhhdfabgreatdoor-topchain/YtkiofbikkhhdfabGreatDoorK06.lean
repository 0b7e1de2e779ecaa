import Derived.Test.YtkiofbikkhhdfabGreatDoorG1
import Derived.Deep.RegionWith
import Derived.Deep.Cut
import Derived.RegionTactic
import Derived.Laws.Rows
import Derived.Lib.AppendStr
import Derived.Lib.UnsafeStr
import Derived.WalkMore
import Derived.Test.YtkiofbikkhhdfabGreatDoorK05
set_option maxRecDepth 100000
set_option maxHeartbeats 8000000
namespace Go.Proofs.YtkiofbikkhhdfabGreatDoor.Dm
open Go.RowKit
open Utf1
theorem new_cell (w:World) (A:Array Value) (t:TypeId) (i:Nat):(w.alloc (.cells A t)).cell? ⟨w.heap.size,i,none⟩=A[i]?:=by
 have h:(w.alloc (.cells A t)).heap[w.heap.size]?=some (.cells A t (0,0)):=by
  show (w.heap.push _)[w.heap.size]?=_
  exact Array.getElem?_push_size
 unfold World.cell?
 rw[h]
 rfl
end Go.Proofs.YtkiofbikkhhdfabGreatDoor.Dm
namespace Utf1
inductive Nd where
 | mk (name:List UInt8) (attrs:List (List UInt8 × List UInt8)) (text:List UInt8) (kids:List Nd)
def Nd.name:Nd->List UInt8
 | .mk n _ _ _=>n
def Nd.attrs:Nd->List (List UInt8 × List UInt8)
 | .mk _ a _ _=>a
def Nd.text:Nd->List UInt8
 | .mk _ _ t _=>t
def Nd.kids:Nd->List Nd
 | .mk _ _ _ k=>k
end Utf1
namespace Go.Proofs.YtkiofbikkhhdfabGreatDoor.Dm
open Go.RowKit
open Utf1
def attrCells:List (List UInt8 × List UInt8)->List Value
 | []=>[]
 | p :: r=>.string ⟨p.1.toArray⟩ :: .string ⟨p.2.toArray⟩ :: attrCells r
theorem attrCells_app:∀ a b,attrCells (a++b)=attrCells a++attrCells b
 | [],_=>rfl
 | p :: r,b=>by simp only[attrCells,List.cons_append,attrCells_app r b]
def ndCells1 (n:Nd) (av kv:Value):List Value:=[.string ⟨n.name.toArray⟩,av,.string ⟨n.text.toArray⟩,kv]
def ndCells:List (Nd × Value × Value)->List Value
 | []=>[]
 | p :: r=>ndCells1 p.1 p.2.1 p.2.2++ndCells r
theorem ndCells_len:∀ l,(ndCells l).length=l.length*4
 | []=>rfl
 | p :: r=>by
  simp only[ndCells,List.length_append,ndCells_len r,ndCells1,List.length_cons,List.length_nil]
  omega
theorem ndCells_app:∀ a b,ndCells (a++b)=ndCells a++ndCells b
 | [],_=>rfl
 | p :: r,b=>by simp only[ndCells,List.cons_append,ndCells_app r b,List.append_assoc]
theorem ndCells_at:∀ (l:List (Nd × Value × Value)) (i:Nat) (p:Nd × Value × Value),l[i]?=some p->∀ j,j < 4->(ndCells l)[i*4+j]?=(ndCells1 p.1 p.2.1 p.2.2)[j]?
 | [],i,p,h,_,_=>by simp at h
 | q :: r,0,p,h,j,hj=>by
  have:q=p:=by simpa using h
  subst this
  show (ndCells1 q.1 q.2.1 q.2.2++ndCells r)[0*4+j]?=_
  rw[show 0*4+j=j by omega,List.getElem?_append_left (by simp[ndCells1];omega)]
 | q :: r,i+1,p,h,j,hj=>by
  have h':r[i]?=some p:=by simpa using h
  show (ndCells1 q.1 q.2.1 q.2.2++ndCells r)[(i+1)*4+j]?=_
  rw[List.getElem?_append_right (by simp[ndCells1];omega),show (i+1)*4+j - (ndCells1 q.1 q.2.1 q.2.2).length=i*4+j by simp[ndCells1];omega]
  exact ndCells_at r i p h' j hj
def blk (v:Value):List Nat:=v.ownBlock.toList
mutual
inductive KAt (w:World) (base:Nat):Value->List Nd->List Nat->Prop
 | mk (v:Value) (l:List (Nd × Value × Value)) (fp:List Nat) (row:w.ownsRow base 80 4 v l.length (ndCells l)) (all:KAll w base l fp):KAt w base v (l.map Prod.fst) (blk v++fp)
inductive KAll (w:World) (base:Nat):List (Nd × Value × Value)->List Nat->Prop
 | nil:KAll w base [] []
 | cons (n:Nd) (av kv:Value) (l:List (Nd × Value × Value)) (fp fps:List Nat)(ha:w.ownsRow base 108 2 av n.attrs.length (attrCells n.attrs))(hk:KAt w base kv n.kids fp)(hl:KAll w base l fps):KAll w base ((n,av,kv) :: l) (fp++fps)
end
structure Stays (w w':World) (S:List Nat):Prop where
 size:w.heap.size<=w'.heap.size
 block:∀ k,k < w.heap.size->k ∉ S->w'.heap[k]?=w.heap[k]?
 attr:∀ k∈S,∀ cs fz,w.heap[k]?≠some (.cells cs 108 fz)
theorem own_stays {w w':World}{base:Nat}{e:TypeId}{size:Nat}{v:Value}{n:Nat}{xs:List Value}{S:List Nat}(h:w.ownsRow base e size v n xs)(hS:∀ k,k < w.heap.size->k ∉ S->w'.heap[k]?=w.heap[k]?)(hv:∀ k,v.ownBlock=some k->k ∉ S):w'.ownsRow base e size v n xs:=by
 obtain⟨h1,h2 | ⟨g,cap,cur,h3,h4,h5,h6⟩⟩:=h
 ·exact⟨h1,.inl h2⟩
 ·subst h3
  have hl:g < w.heap.size:=(Array.getElem?_eq_some_iff.1 h5).1
  exact⟨h1,.inr ⟨g,cap,cur,rfl,h4,(hS g hl (hv g rfl)).trans h5,h6⟩⟩
theorem attr_stays {w w':World}{base:Nat}{v:Value}{n:Nat}{xs:List Value}{S:List Nat}(h:w.ownsRow base 108 2 v n xs)(hS:Stays w w' S):w'.ownsRow base 108 2 v n xs:=by
 refine own_stays h hS.block ?_
 intro k hk hkS
 obtain⟨_,⟨rfl,_⟩ | ⟨g,cap,cur,rfl,_,hg,_⟩⟩:=h
 ·cases hk
 ·cases hk
  exact hS.attr _ hkS _ _ hg
mutual
theorem KAt.stays {w w':World}{base:Nat}{S:List Nat}{v:Value}{ns:List Nd}{fp:List Nat}(h:KAt w base v ns fp)(hS:Stays w w' S)(hd:∀ k∈fp,k ∉ S):KAt w' base v ns fp :=
 match h with
 | .mk v l fp row all=>.mk v l fp (own_stays row hS.block fun k hk=>hd k (List.mem_append_left _ (by unfold blk;rw[hk];simp))) (all.stays hS fun k hk=>hd k (List.mem_append_right _ hk))
theorem KAll.stays {w w':World}{base:Nat}{S:List Nat}{l:List (Nd × Value × Value)}{fp:List Nat}(h:KAll w base l fp)(hS:Stays w w' S)(hd:∀ k∈fp,k ∉ S):KAll w' base l fp :=
 match h with
 | .nil=>.nil
 | .cons n av kv l fp fps ha hk hl=>.cons n av kv l fp fps (attr_stays ha hS) (hk.stays hS fun k hk'=>hd k (List.mem_append_left _ hk')) (hl.stays hS fun k hk'=>hd k (List.mem_append_right _ hk'))
end
theorem KAll.app {w:World}{base:Nat}:∀ {l:List (Nd × Value × Value)}{l':List (Nd × Value × Value)}{fp fp':List Nat},KAll w base l fp->KAll w base l' fp'->KAll w base (l++l') (fp++fp')
 | _,_,_,_,.nil,h'=>h'
 | _,_,_,_,.cons n av kv l fp fps ha hk hl,h'=>by
  rw[List.append_assoc]
  exact .cons n av kv _ fp _ ha hk (hl.app h')
theorem own_lt {w:World}{base:Nat}{e:TypeId}{size:Nat}{v:Value}{n:Nat}{xs:List Value}(h:w.ownsRow base e size v n xs):∀ k∈blk v,base<=k/\k < w.heap.size:=by
 intro k hk
 unfold blk at hk
 obtain⟨_,⟨rfl,_⟩ | ⟨g,cap,cur,rfl,hb,hg,_⟩⟩:=h
 ·simp[Value.ownBlock] at hk
 ·have:k=g:=by simpa [Value.ownBlock] using hk
  subst this
  exact⟨hb,(Array.getElem?_eq_some_iff.1 hg).1⟩
mutual
theorem KAt.lt {w:World}{base:Nat}{v:Value}{ns:List Nd}{fp:List Nat}(h:KAt w base v ns fp):∀ k∈fp,base<=k/\k < w.heap.size :=
 match h with
 | .mk v l fp row all=>fun k hk=>(List.mem_append.1 hk).elim (own_lt row k) (all.lt k)
theorem KAll.lt {w:World}{base:Nat}{l:List (Nd × Value × Value)}{fp:List Nat}(h:KAll w base l fp):∀ k∈fp,base<=k/\k < w.heap.size :=
 match h with
 | .nil=>fun k hk=>by cases hk
 | .cons n av kv l fp fps ha hk hl=>fun k hk'=>(List.mem_append.1 hk').elim (hk.lt k) (hl.lt k)
end
theorem below_stays {w w':World}(hb:Below w.heap.size w w'):Stays w w' []:=⟨hb.size,fun k hk _=>hb.block k hk,fun k hk=>by cases hk⟩
theorem KAt.under {w w':World}{base:Nat}{v:Value}{ns:List Nd}{fp:List Nat}(h:KAt w base v ns fp)(hb:Below w.heap.size w w'):KAt w' base v ns fp:=h.stays (below_stays hb) (fun _ _ h=>by cases h)
theorem KAll.under {w w':World}{base:Nat}{l:List (Nd × Value × Value)}{fp:List Nat}(h:KAll w base l fp)(hb:Below w.heap.size w w'):KAll w' base l fp:=h.stays (below_stays hb) (fun _ _ h=>by cases h)
theorem KAt.empty (w:World) (base:Nat):KAt w base (.slice Option.none 0 0) [] []:=KAt.mk (.slice Option.none 0 0) [] [] (World.ownsRow_nil _ _ _ _) .nil
end Go.Proofs.YtkiofbikkhhdfabGreatDoor.Dm
namespace Utf1
def atH (kv:List UInt8 × List UInt8):List UInt8:=[32]++kv.1++[61,34]++esc true kv.2++[34]
def atsH:List (List UInt8 × List UInt8)->List UInt8
 | []=>[]
 | p :: r=>atH p++atsH r
mutual
def htN:Nd->List UInt8
 | .mk n a t k=>if n=[] then esc false t else [60]++n++atsH a++[62]++(if n∈voids then [] else htL k++([60,47]++n++[62]))
def htL:List Nd->List UInt8
 | []=>[]
 | n :: r=>htN n++htL r
end
def waL:List (List UInt8 × List UInt8)->Nat
 | []=>0
 | p :: r=>1+p.1.length+p.2.length+waL r
mutual
def wsN:Nd->Nat
 | .mk n a t k=>1+n.length+t.length+waL a+wsL k
def wsL:List Nd->Nat
 | []=>0
 | n :: r=>wsN n+wsL r
end
mutual
def ncN:Nd->Nat
 | .mk _ _ _ k=>1+ncL k
def ncL:List Nd->Nat
 | []=>0
 | n :: r=>ncN n+ncL r
end
mutual
def dpN:Nd->Nat
 | .mk n _ _ k=>dpL k+(if n=[] then 0 else 1)
def dpL:List Nd->Nat
 | []=>0
 | n :: r=>max (dpN n) (dpL r)
end
theorem htN_kids (n:Nd):htN n=if n.name=[] then esc false n.text else [60]++n.name++atsH n.attrs++[62]++(if n.name∈voids then [] else htL n.kids++([60,47]++n.name++[62])):=by
 cases n
 rw[htN]
 rfl
theorem wsN_kids (n:Nd):wsN n=1+n.name.length+n.text.length+waL n.attrs+wsL n.kids:=by
 cases n
 rw[wsN]
 rfl
theorem ncN_kids (n:Nd):ncN n=1+ncL n.kids:=by
 cases n
 rw[ncN]
 rfl
theorem dpN_kids (n:Nd):dpN n=dpL n.kids+(if n.name=[] then 0 else 1):=by
 cases n
 rw[dpN]
 rfl
theorem htL_app:∀ a b:List Nd,htL (a++b)=htL a++htL b
 | [],b=>by simp[htL]
 | n :: a,b=>by rw[List.cons_append,htL,htL,htL_app a b,List.append_assoc]
theorem wsL_app:∀ a b:List Nd,wsL (a++b)=wsL a+wsL b
 | [],b=>by simp[wsL]
 | n :: a,b=>by
  rw[List.cons_append,wsL,wsL,wsL_app a b]
  omega
theorem ncL_app:∀ a b:List Nd,ncL (a++b)=ncL a+ncL b
 | [],b=>by simp[ncL]
 | n :: a,b=>by
  rw[List.cons_append,ncL,ncL,ncL_app a b]
  omega
theorem dpL_app:∀ a b:List Nd,dpL (a++b)=max (dpL a) (dpL b)
 | [],b=>by simp[dpL]
 | n :: a,b=>by
  rw[List.cons_append,dpL,dpL,dpL_app a b]
  omega
theorem atsH_app:∀ a b,atsH (a++b)=atsH a++atsH b
 | [],b=>by simp[atsH]
 | n :: a,b=>by rw[List.cons_append,atsH,atsH,atsH_app a b,List.append_assoc]
theorem waL_app:∀ a b,waL (a++b)=waL a+waL b
 | [],b=>by simp[waL]
 | n :: a,b=>by
  rw[List.cons_append,waL,waL,waL_app a b]
  omega
theorem nc_len:∀ l:List Nd,l.length<=ncL l
 | []=>Nat.le_refl _
 | n :: r=>by
  rw[ncL,ncN_kids,List.length_cons]
  have:=nc_len r
  omega
theorem wa_len:∀ l,List.length l<=waL l
 | []=>Nat.le_refl _
 | n :: r=>by
  rw[waL,List.length_cons]
  have:=wa_len r
  omega
theorem atH_len (p):(atH p).length<=6*(1+p.1.length+p.2.length):=by
 have:=(esc_lens true p.2).2
 simp only[atH,List.length_append,List.length_cons,List.length_nil]
 omega
theorem atsH_len:∀ l,(atsH l).length<=6*waL l
 | []=>Nat.le_refl _
 | p :: r=>by
  rw[atsH,waL,List.length_append]
  have:=atsH_len r
  have:=atH_len p
  omega
mutual
theorem ncN_ws:∀ n:Nd,ncN n<=wsN n
 | .mk n a t k=>by
  rw[ncN,wsN]
  have:=ncL_ws k
  omega
theorem ncL_ws:∀ l:List Nd,ncL l<=wsL l
 | []=>Nat.le_refl _
 | n :: r=>by
  rw[ncL,wsL]
  have:=ncN_ws n
  have:=ncL_ws r
  omega
end
mutual
theorem dpN_nc:∀ n:Nd,dpN n<=ncN n
 | .mk n a t k=>by
  rw[dpN,ncN]
  have:=dpL_nc k
  split <;> omega
theorem dpL_nc:∀ l:List Nd,dpL l<=ncL l
 | []=>Nat.le_refl _
 | n :: r=>by
  rw[dpL,ncL]
  have:=dpN_nc n
  have:=dpL_nc r
  omega
end
mutual
theorem htN_len:∀ n:Nd,(htN n).length<=6*wsN n
 | .mk n a t k=>by
  rw[htN,wsN]
  have h1:=htL_len k
  have h2:=atsH_len a
  have h3:=(esc_lens false t).2
  split
  ·omega
  ·split
   ·simp only[List.length_append,List.length_cons,List.length_nil]
    omega
   ·simp only[List.length_append,List.length_cons,List.length_nil]
    omega
theorem htL_len:∀ l:List Nd,(htL l).length<=6*wsL l
 | []=>Nat.le_refl _
 | n :: r=>by
  rw[htL,wsL,List.length_append]
  have:=htN_len n
  have:=htL_len r
  omega
end
end Utf1
namespace Go.Proofs.YtkiofbikkhhdfabGreatDoor.Dm
open Go.RowKit
open Utf1
def ARow (w:World) (p:Option Addr) (m:Nat) (a:List (List UInt8 × List UInt8)):Prop:=(m=a.length/\m<=9223372036854775807)/\∀ i kv,a[i]?=some kv->∃ b off,p=some ⟨b,off,none⟩/\w.cell? ⟨b,off+i*2,none⟩=some (.string ⟨kv.1.toArray⟩)/\w.cell? ⟨b,off+i*2+1,none⟩=some (.string ⟨kv.2.toArray⟩)/\kv.1.length<=281474976710656/\kv.2.length<=281474976710656
def NAtD (w:World):Nat->Value->List Nd->Prop
 | 0,_,_=>False
 | d+1,v,ns=>∃ p c,v=.slice p ns.length c/\ns.length<=9223372036854775807/\∀ i nd,ns[i]?=some nd->∃ g off ap am ac kp km kc,p=some ⟨g,off,none⟩/\w.cell? ⟨g,off+i*4,none⟩=some (.string ⟨nd.name.toArray⟩)/\w.cell? ⟨g,off+i*4+1,none⟩=some (.slice ap am ac)/\w.cell? ⟨g,off+i*4+2,none⟩=some (.string ⟨nd.text.toArray⟩)/\w.cell? ⟨g,off+i*4+3,none⟩=some (.slice kp km kc)/\(nd.name.length<=281474976710656/\nd.text.length<=281474976710656)/\ARow w ap am nd.attrs/\NAtD w d (.slice kp km kc) nd.kids
theorem ARow.below {w w':World}{p:Option Addr}{m:Nat}{a:List (List UInt8 × List UInt8)}(h:ARow w p m a)(hb:Below w.heap.size w w'):ARow w' p m a:=by
 refine⟨h.1,?_⟩
 intro i kv hi
 obtain⟨b,off,hp,x0,x1,h2⟩:=h.2 i kv hi
 exact⟨b,off,hp,cell_keep x0 hb,cell_keep x1 hb,h2⟩
theorem NAtD.below {w w':World}(hb:Below w.heap.size w w'):∀ {d:Nat}{v:Value}{ns:List Nd},NAtD w d v ns->NAtD w' d v ns
 | 0,_,_,h=>h.elim
 | d+1,v,ns,h=>by
  obtain⟨p,c,hv,hl,hn⟩:=h
  refine⟨p,c,hv,hl,?_⟩
  intro i nd hi
  obtain⟨g,off,ap,am,ac,kp,km,kc,hp,x0,x1,x2,x3,hs,ha,hk⟩:=hn i nd hi
  exact⟨g,off,ap,am,ac,kp,km,kc,hp,cell_keep x0 hb,cell_keep x1 hb,cell_keep x2 hb,cell_keep x3 hb,hs,ha.below hb,NAtD.below hb hk⟩
theorem NAtD.more {w:World}:∀ {d d':Nat}{v:Value}{ns:List Nd},NAtD w d v ns->d<=d'->NAtD w d' v ns
 | 0,_,_,_,h,_=>h.elim
 | d+1,0,_,_,_,hd=>by omega
 | d+1,d'+1,v,ns,h,hd=>by
  obtain⟨p,c,hv,hl,hn⟩:=h
  refine⟨p,c,hv,hl,?_⟩
  intro i nd hi
  obtain⟨g,off,ap,am,ac,kp,km,kc,hp,x0,x1,x2,x3,hs,ha,hk⟩:=hn i nd hi
  exact⟨g,off,ap,am,ac,kp,km,kc,hp,x0,x1,x2,x3,hs,ha,NAtD.more hk (by omega)⟩
def NAt (w:World) (v:Value) (ns:List Nd):Prop:=∃ d,NAtD w d v ns
theorem NAt.below {w w':World}{v:Value}{ns:List Nd}(h:NAt w v ns)(hb:Below w.heap.size w w'):NAt w' v ns:=by
 obtain⟨d,h⟩:=h
 exact⟨d,h.below hb⟩
theorem nm_empty (l:List UInt8):(⟨l.toArray⟩:ByteArray).toList.isEmpty=decide (l=[]):=by
 rw[ByteArray.toList_eq]
 show l.isEmpty=_
 cases l <;> simp
end Go.Proofs.YtkiofbikkhhdfabGreatDoor.Dm
namespace Go.Proofs.YtkiofbikkhhdfabGreatDoor.Dm
open Go.RowKit
open Utf1
theorem size_nst:∀ (D:Nat) (w:World) (v:Value) (ns:List Nd),NAtD w D v ns->ncL ns<=1000000000 ->
  Calls Tryz.prog 53 #[v] w fun e w'=>e=.returned (.tuple #[.int .i64 (ncL ns:Int),.int .i64 (dpL ns:Int)])/\Below w.heap.size w w':=by
 intro D
 induction D with
 | zero=>intro w v ns h;exact h.elim
 | succ D0 ih =>
 intro w v ns hk hM
 obtain⟨p,c,rfl,-,hnode⟩:=hk
 have HNODE:=hide hnode
 have HIH:=hide ih
 have hlc:=nc_len ns
 obtain⟨N,hN⟩:∃ N,N=ns.length:=⟨_,rfl⟩
 rw[<-hN] at hlc ⊢
 have HN:=hide hN
 clear hnode ih hN
 go_enter Tryz.func53,Tryz.ntmps53
 go_wp2_with fail
 go_loopg [4,5,14] N (fun k v4 v5 v14 wr=>∃ (j:Nat) (d rest:List Nd),rest.length=k/\d.length=j/\j+k=N/\v4=.int .i64 ((N+ncL d - j:Nat):Int)/\v5=.int .i64 (dpL d:Int)/\v14=.int .i64 (j:Int)/\Hid (ns=d++rest)/\Hid (Below w.heap.size w wr))
 case atStart=>exact⟨0,[],ns,HN.out.symm,rfl,by omega,rfl,rfl,rfl,hide rfl,hide (Below.refl _ _)⟩
 case round =>
  obtain⟨j,d,rest,rfl,hdj,hjk,rfl,rfl,rfl,HD,HB⟩:=hrel
  have hcd:=nc_len d
  match rest,hjk,HD with
  | [],hjk,HD =>
   have e1:N+ncL d - j=ncL ns:=by
    have:=HD.out
    rw[List.append_nil] at this
    rw[this]
    simp only[List.length_nil] at hjk
    omega
   have e2:dpL d=dpL ns:=by rw[HD.out,List.append_nil]
   simp only[List.length_nil,Nat.add_zero] at hjk
   rw[e1,e2]
   subst hjk
   clear e1 e2 HD hcd hdj
   go_wp2_with fail
   try rw[Exit.noGoto_ret]
   go_ret2
   exact⟨rfl,HB.out⟩
  | nd :: rest,hjk,HD =>
   have hjN:j < N:=by simp only[List.length_cons] at hjk;omega
   have hge:ns[j]?=some nd:=by
    rw[HD.out,List.getElem?_append_right (by omega),hdj,Nat.sub_self]
    rfl
   obtain⟨g,off,ap,am,ac,kp,km,kc,hp,x0,x1,x2,x3,-,-,hkk⟩:=HNODE.out j nd hge
   subst hp
   have hbr:=HB.out
   have x0:=cell_keep x0 hbr
   have x1:=cell_keep x1 hbr
   have x2:=cell_keep x2 hbr
   have x3:=cell_keep x3 hbr
   have hc:ncL ns=ncL d+(ncN nd+ncL rest):=by
    rw[HD.out,ncL_app]
    rfl
   have hkn:=ncN_kids nd
   have hdp:=dpL_nc nd.kids
   have hlr:=nc_len rest
   have hdd:=dpL_nc d
   have hdk:=dpN_kids nd
   have HCK:=hide (fun wx (hx:Below w.heap.size w wx)=>HIH.out wx (.slice kp km kc) nd.kids (hkk.below hx) (by omega))
   have hcd2:ncL (d++[nd])=ncL d+ncN nd:=by
    rw[ncL_app]
    rfl
   have hdd2:dpL (d++[nd])=max (dpL d) (dpN nd):=by
    rw[dpL_app]
    simp[dpL]
   obtain⟨XN,hXN⟩:∃ X:ByteArray,X=⟨nd.name.toArray⟩:=⟨_,rfl⟩
   obtain⟨XT,hXT⟩:∃ X:ByteArray,X=⟨nd.text.toArray⟩:=⟨_,rfl⟩
   rw[<-hXN] at x0
   rw[<-hXT] at x2
   have q0:XN.toList.isEmpty=decide (nd.name=[]):=by
    rw[ByteArray.toList_eq,hXN]
    show nd.name.isEmpty=_
    cases nd.name <;> simp
   obtain⟨w2,hw2⟩:∃ w2,w2=wr.alloc (.cells #[.string XN,.slice ap am ac,.string XT,.slice kp km kc] 80):=⟨_,rfl⟩
   have hwsz:w.heap.size<=wr.heap.size:=hbr.size
   have hbw2:Below w.heap.size w w2:=by rw[hw2];exact HB.out.alloc HB.out.size _
   have y0:w2.cell? ⟨wr.heap.size,0,none⟩=some (.string XN):=by rw[hw2,new_cell];rfl
   have y3:w2.cell? ⟨wr.heap.size,3,none⟩=some (.slice kp km kc):=by rw[hw2,new_cell];rfl
   have hlt2:wr.heap.size < w2.heap.size:=by rw[hw2];simp
   have HBW2:=hide hbw2
   have HD2:Hid (ns=(d++[nd])++rest):=hide (by rw[HD.out];simp)
   have hjk2:j+(rest.length+1)=N:=hjk
   clear hge hkk hbr HB HD hbw2 hXT hXN hjk
   obtain⟨S,hS⟩:∃ S,S=N+ncL d - j:=⟨_,rfl⟩
   obtain⟨D,hD⟩:∃ D,D=dpL d:=⟨_,rfl⟩
   obtain⟨K,hK⟩:∃ K,K=ncL nd.kids:=⟨_,rfl⟩
   obtain⟨E,hE⟩:∃ E,E=dpL nd.kids:=⟨_,rfl⟩
   rw[<-hS,<-hD]
   rw[<-hK,<-hE] at HCK
   have hKb:K<=1000000000:=by omega
   have hEb:E<=1000000000:=by omega
   have hSb:S<=1000000000:=by omega
   have hDb:D<=1000000000:=by omega
   have hSK:S+K<=2000000000:=by omega
   have e4:((N+ncL (d++[nd]) - (j+1):Nat):Int)=(S:Int)+(K:Int):=by omega
   have HE4:=hide e4
   have HE5:Hid (dpL (d++[nd])=max D (E+if nd.name=[] then 0 else 1)):=hide (by rw[hdd2,hdk,<-hE,<-hD])
   have hjb:j<=1000000000:=by omega
   have hdj2:(d++[nd]).length=j+1:=by simp[hdj]
   have HJ2:=hide (And.intro hdj2 (show j+1+rest.length=N by omega))
   clear hS hD hK hE e4 hdd2 hdk hcd2 hkn hdp hlr hdd hc hcd hlc hdj hdj2 hjk2 hM
   go_upto_region 5 with fail
   rw[<-hw2]
   clear hw2 x0 x1 x2 x3
   go_wp2_with fail
   refine (HCK.out w2 HBW2.out).mono ?_
   rintro e w3 ⟨rfl,hb3⟩
   have y0:=cell_keep y0 hb3
   have HBW3:=hide (HBW2.out.trans (hb3.mono HBW2.out.size))
   clear hb3 HCK HBW2 y3
   by_cases hnm:nd.name=[]
   ·rw[decide_eq_true hnm] at q0
    rw[if_pos hnm] at HE5
    clear hnm
    go_wp2_with fail
    go_roundg rest.length
    case measure=>simp only[List.length_cons];omega
    case rel =>
     refine⟨j+1,d++[nd],rest,rfl,HJ2.out.1,HJ2.out.2,?_,?_,by first | rfl | simp,HD2,HBW3⟩
     ·rw[HE4.out]
     ·rw[HE5.out]
      congr 1
      omega
   ·rw[decide_eq_false hnm] at q0
    rw[if_neg hnm] at HE5
    clear hnm
    go_wp2_with fail
    go_roundg rest.length
    case measure=>simp only[List.length_cons];omega
    case rel =>
     refine⟨j+1,d++[nd],rest,rfl,HJ2.out.1,HJ2.out.2,?_,?_,by first | rfl | simp,HD2,HBW3⟩
     ·rw[HE4.out]
     ·rw[HE5.out]
      congr 1
      omega
end Go.Proofs.YtkiofbikkhhdfabGreatDoor.Dm
namespace Go.Proofs.YtkiofbikkhhdfabGreatDoor.Dm
open Go.RowKit
open Utf1
theorem new_block (w:World) (A:Array Value) (t:TypeId):(w.alloc (.cells A t)).heap[w.heap.size]?=some (.cells A t (0,0)):=by
 show (w.heap.push _)[w.heap.size]?=_
 simp
theorem partOf_text (w:World) (ap:Option Addr) (am ac:Nat) (XN XT:ByteArray) (kp:Option Addr) (km kc:Nat)(h:XN.toList.isEmpty=true) :
  Calls Tryz.prog 102 #[.agg #[.string XN,.slice ap am ac,.string XT,.slice kp km kc]] w fun e w'=>e=.returned (.iface 161 (.agg #[.string XN,.slice ap am ac,.string XT,.slice kp km kc]))/\Below w.heap.size w w':=by
 go_enter Tryz.func102,Tryz.ntmps102
 go_wp2_with fail
 go_ret
 exact⟨rfl,(Below.refl _ _).alloc (Nat.le_refl _) _⟩
theorem partOf_elem (w:World) (ap:Option Addr) (am ac:Nat) (XN XT:ByteArray) (kp:Option Addr) (km kc:Nat)(h:XN.toList.isEmpty=false) :
  Calls Tryz.prog 102 #[.agg #[.string XN,.slice ap am ac,.string XT,.slice kp km kc]] w fun e w'=>e=.returned (.iface 162 (.agg #[.string XN,.slice ap am ac,.string XT,.slice kp km kc]))/\Below w.heap.size w w':=by
 go_enter Tryz.func102,Tryz.ntmps102
 go_wp2_with fail
 go_ret
 exact⟨rfl,(Below.refl _ _).alloc (Nat.le_refl _) _⟩
end Go.Proofs.YtkiofbikkhhdfabGreatDoor.Dm
