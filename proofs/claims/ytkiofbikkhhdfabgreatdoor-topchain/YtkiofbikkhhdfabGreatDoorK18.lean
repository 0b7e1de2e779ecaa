import Derived.Test.YtkiofbikkhhdfabGreatDoorN10
import Derived.Test.YtkiofbikkhhdfabGreatDoorK02
import Derived.Test.YtkiofbikkhhdfabGreatDoorK15
import Derived.Test.YtkiofbikkhhdfabGreatDoorK10
import Derived.OwnWalk
import Derived.Test.YtkiofbikkhhdfabGreatDoorK12
import Derived.Deep.RegionHeld3
set_option maxRecDepth 100000
set_option maxHeartbeats 8000000
namespace Utf1
theorem stN_text {p i b:Bool}{n:List UInt8}{a:List (List UInt8 × List UInt8)}{t:List UInt8}{k:List Nd}(hn:n=[])(h:stN p i b (.mk n a t k)=true):t≠[]/\b=false/\a=[]/\k=[]:=by
 rw[stN,if_pos hn] at h
 simp only[Bool.and_eq_true,Bool.not_eq_true',List.isEmpty_iff] at h
 refine⟨?_,h.1.1.2,h.1.2,h.2⟩
 intro e
 rw[e] at h
 exact absurd h.1.1.1 (by decide)
theorem stN_elem {p i b:Bool}{n:List UInt8}{a:List (List UInt8 × List UInt8)}{t:List UInt8}{k:List Nd}(hn:n≠[])(h:stN p i b (.mk n a t k)=true):t=[]/\mayE n=true/\mayA a=true/\((p && decide (n∈blocks)) || (i && decide (n=[108,105])))=false/\(n∈voids->k=[])/\(n ∉ voids->stL (p || decide (n=[112])) (itm i n) false k=true):=by
 rw[stN,if_neg hn] at h
 rw[Bool.and_eq_true,Bool.and_eq_true,Bool.and_eq_true,Bool.and_eq_true] at h
 obtain⟨⟨⟨⟨h1,h2⟩,h3⟩,h4⟩,h5⟩:=h
 refine⟨List.isEmpty_iff.1 h1,h2,h3,by rw[Bool.not_eq_true'] at h4;exact h4,fun hv=>?_,fun hv=>?_⟩
 ·rw[if_pos hv] at h5
  exact List.isEmpty_iff.1 h5
 ·rw[if_neg hv] at h5
  exact h5
theorem stL_cons {p i b:Bool}{n:Nd}{r:List Nd}(h:stL p i b (n :: r)=true):stN p i b n=true/\stL p i (decide (n.name=[])) r=true:=by
 rw[stL,Bool.and_eq_true] at h
 exact h
end Utf1
namespace Saf
open Utf1 Pol8
def href:L:=[104,114,101,102]
def relN:L:=[114,101,108]
def styN:L:=[115,116,121,108,101]
def clsN:L:=[99,108,97,115,115]
def aN:L:=[97]
def forced:L:=[110,111,102,111,108,108,111,119,32,110,111,111,112,101,110,101,114]
def placeL:List L:=[[104,114,101,102],[115,114,99],[99,105,116,101],[97,99,116,105,111,110],[98,97,99,107,103,114,111,117,110,100],[108,111,110,103,100,101,115,99],[112,105,110,103],[112,111,115,116,101,114],[115,114,99,115,101,116],[117,115,101,109,97,112]]
def placeB (n:L):Bool:=decide (n∈placeL)
def clsFrom (cl seen:List L):List L->Bool
 | []=>true
 | x :: r=>(decide (x∈cl) && !decide (x∈seen)) && clsFrom cl (seen++[x]) r
def classesB (cl:List L) (v:L):Bool:=clsFrom cl [] (Pol8.segs 32 v)
def valueB (p:Pol) (e n v:L):Bool:=decide (e∈p.el) && (if n=relN then decide (e=aN) && decide (v=forced) else if n=styN then decide (v≠[]) && decide (Sty.filt p.pr v=v) else attrB p e n && (if n=clsN then decide (v≠[]) && classesB p.cl v else (!placeB n || allowed v p.sc)))
abbrev At:=List (L × L)
def hasB (a:At) (n:L):Bool:=a.any fun kv=>decide (kv.1=n)
def lastB (a:At) (n:L):Bool:=decide (a.getLast?.map Prod.fst=some n)
def linkedB (a:At):Bool:=if hasB a href=true then lastB a relN else !hasB a relN
mutual
def innerN (p:Pol):Nd->Bool
 | .mk n a _ k=>if n=[] then true else a.all (fun kv=>valueB p n kv.1 kv.2) && (decide (n∈p.el) && ((!decide (n=aN) || linkedB a) && innerL p k))
def innerL (p:Pol):List Nd->Bool
 | []=>true
 | x :: r=>innerN p x && innerL p r
end
def safeB (p:Pol) (ns:List Nd):Bool:=stable ns && (decide ((ncL ns:Int)<=p.nd) && (decide ((dpL ns:Int)<=p.dp) && innerL p ns))
theorem clsFrom_more {cl cl':List L}(h:∀ x∈cl,x∈cl'):∀ (l seen:List L),clsFrom cl seen l=true->clsFrom cl' seen l=true
 | [],_,_=>rfl
 | x :: r,seen,hc=>by
  rw[clsFrom,Bool.and_eq_true,Bool.and_eq_true,decide_eq_true_eq] at hc ⊢
  exact⟨⟨h x hc.1.1,hc.1.2⟩,clsFrom_more h r _ hc.2⟩
theorem allowed_sub {v:L}{s s':List L}(h:∀ x∈s,x∈s')(ha:allowed v s=true):allowed v s'=true:=by
 unfold allowed at ha ⊢
 cases e:scheme v with
 | none=>rw[e] at ha;exact ha
 | some x =>
  rw[e] at ha
  simp only[decide_eq_true_eq] at ha ⊢
  exact h x ha
theorem word_cs {n:L}(h:isWord n=true):n≠[]/\∀ b∈n,wc b=true:=by
 unfold isWord at h
 rw[Bool.and_eq_true,Bool.and_eq_true,decide_eq_true_eq,List.all_eq_true] at h
 exact⟨fun e=>by rw[e] at h;simp at h,h.2.1⟩
theorem wc_not (b:UInt8)(h:wc b=true):Sty.cutset.contains b=false:=by
 have:=of_decide_eq_true h
 exact Sty.set_not b (by omega) (by omega) (by omega) (by omega) (by omega)
theorem word_pl {n:L}(h:isWord n=true) (a z:L)(ha:∀ b∈a,Sty.cutset.contains b=true)(hz:∀ b∈z,Sty.cutset.contains b=true):Sty.pl (a++n++z)=n:=by
 obtain⟨h0,h1⟩:=word_cs h
 have h2:∀ b,n.head?=some b->Sty.cutset.contains b=false:=fun b hb=>wc_not b (h1 b (List.mem_of_mem_head? hb))
 have h3:∀ b,n.getLast?=some b->Sty.cutset.contains b=false:=fun b hb=>wc_not b (h1 b (List.mem_of_mem_getLast? hb))
 unfold Sty.pl
 rw[Sty.trim_around a n z h0 ha hz (Sty.trim_id n h2 h3) h2 h3]
 refine Sty.lower_id n fun b hb=>?_
 have:=of_decide_eq_true (h1 b hb)
 omega
theorem good_word {n v:L}(hn:isWord n=true)(hv:Sty.okv v=true):Sty.Good (n,v):=by
 have c32:∀ b∈([32]:L),Sty.cutset.contains b=true:=by decide
 have c0:∀ b∈([]:L),Sty.cutset.contains b=true:=by simp
 obtain⟨h0,h1⟩:=word_cs hn
 obtain⟨_,v1,_,_⟩:=Sty.okv_ends hv
 refine⟨fun e=>?_,fun e=>?_,fun e=>?_,?_,?_,?_⟩
 ·have:=h1 _ e;revert this;decide
 ·have:=h1 _ e;revert this;decide
 ·have:=v1 _ e;revert this;decide
 ·have:=word_pl hn [] [] c0 c0;simpa using this
 ·have:=word_pl hn [32] [] c32 c0;simpa using this
 ·have:=Sty.okv_pl hv [32] [] c32 c0;simpa using this
theorem filt_sub {P P':List L}(hp:∀ n∈P,isWord n=true)(hs:∀ n∈P,n∈P') {v:L}(h:Sty.filt P v=v):Sty.filt P' v=v:=by
 have h1:Sty.prts v=Sty.lastOnly (Sty.stay P v):=by
  have:=Sty.prts_all (Sty.lastOnly (Sty.stay P v)) (fun x hx=>good_word (hp x.1 (Sty.stay_keep hx).1) (Sty.stay_keep hx).2)
  rw[show (Sty.lastOnly (Sty.stay P v)).foldl Sty.emit []=v from h] at this
  exact this
 have h2:Sty.stay P' v=Sty.lastOnly (Sty.stay P v):=by
  show (Sty.prts v).filter (Sty.keep P')=_
  rw[h1]
  refine List.filter_eq_self.2 ?_
  ·intro x hx
   obtain⟨a,b⟩:=Sty.stay_keep hx
   unfold Sty.keep
   rw[decide_eq_true (hs _ a),b]
   rfl
 unfold Sty.filt
 rw[h2,Sty.last_last]
 exact h
theorem word_46 {n:L}(h:isWord n=true):(46:UInt8) ∉ n:=fun e=>by
 have:=(word_cs h).2 _ e
 revert this
 decide
theorem value_more {p q:Pol}(hp:Right p)(hs:Str p q) {e n v:L}(h:valueB p e n v=true):valueB q e n v=true:=by
 unfold valueB at h ⊢
 rw[Bool.and_eq_true,decide_eq_true_eq] at h ⊢
 obtain⟨he,h⟩:=h
 refine⟨hs.el e he,?_⟩
 by_cases hr:n=relN
 ·rw[if_pos hr] at h ⊢
  exact h
 ·rw[if_neg hr] at h ⊢
  by_cases hst:n=styN
  ·rw[if_pos hst] at h ⊢
   rw[Bool.and_eq_true,decide_eq_true_eq,decide_eq_true_eq] at h ⊢
   exact⟨h.1,filt_sub (words_all hp.pr) hs.pr h.2⟩
  ·rw[if_neg hst] at h ⊢
   rw[Bool.and_eq_true] at h ⊢
   refine⟨lets_more hs (word_46 (words_all hp.el e he)) h.1,?_⟩
   have h:=h.2
   by_cases hc:n=clsN
   ·rw[if_pos hc] at h ⊢
    rw[Bool.and_eq_true] at h ⊢
    exact⟨h.1,clsFrom_more hs.cl _ _ h.2⟩
   ·rw[if_neg hc] at h ⊢
    rw[Bool.or_eq_true] at h ⊢
    exact h.imp id (allowed_sub hs.sc)
mutual
theorem innerN_more {p q:Pol}(hp:Right p)(hs:Str p q):∀ x:Nd,innerN p x=true->innerN q x=true
 | .mk n a t k,h=>by
  rw[innerN] at h ⊢
  by_cases hn:n=[]
  ·rw[if_pos hn]
  ·rw[if_neg hn] at h ⊢
   rw[Bool.and_eq_true,Bool.and_eq_true,Bool.and_eq_true,decide_eq_true_eq,List.all_eq_true] at h ⊢
   exact⟨fun kv hkv=>value_more hp hs (h.1 kv hkv),hs.el n h.2.1,h.2.2.1,innerL_more hp hs k h.2.2.2⟩
theorem innerL_more {p q:Pol}(hp:Right p)(hs:Str p q):∀ l:List Nd,innerL p l=true->innerL q l=true
 | [],_=>rfl
 | x :: r,h=>by
  rw[innerL,Bool.and_eq_true] at h ⊢
  exact⟨innerN_more hp hs x h.1,innerL_more hp hs r h.2⟩
end
theorem safe_more {p q:Pol}(hp:Right p)(hs:Str p q) {ns:List Nd}(h:safeB p ns=true):safeB q ns=true:=by
 unfold safeB at h ⊢
 rw[Bool.and_eq_true,Bool.and_eq_true,Bool.and_eq_true,decide_eq_true_eq,decide_eq_true_eq] at h ⊢
 have:=hs.c
 exact⟨h.1,by omega,by omega,innerL_more hp hs ns h.2.2.2⟩
end Saf
namespace Saf
open Utf1 Pol8
theorem itm_mono {i i':Bool}(h:i'=true->i=true) (n:L):itm i' n=true->itm i n=true:=by
 unfold itm
 split
 ·exact id
 ·split
  ·exact id
  ·exact h
theorem inner_app (p:Pol):∀ a b:List Nd,innerL p (a++b)=(innerL p a && innerL p b)
 | [],b=>by rw[List.nil_append,innerL,Bool.true_and]
 | x :: a,b=>by rw[List.cons_append,innerL,innerL,inner_app p a b,Bool.and_assoc]
structure SafeP (p:Pol) (ns:List Nd):Prop where
 n:ncL ns<=2000
 d:dpL ns<=64
 s:stL false false false ns=true
 pn:(ncL ns:Int)<=p.nd
 pd:(dpL ns:Int)<=p.dp
 i:innerL p ns=true
theorem safe_iff (p:Pol) (ns:List Nd):safeB p ns=true ↔ SafeP p ns:=by
 unfold safeB stable
 simp only[Bool.and_eq_true,decide_eq_true_eq]
 constructor
 ·rintro ⟨⟨⟨h1,h2⟩,h3⟩,h4,h5,h6⟩
  exact⟨h1,h2,h3,h4,h5,h6⟩
 ·rintro ⟨h1,h2,h3,h4,h5,h6⟩
  exact⟨⟨⟨h1,h2⟩,h3⟩,h4,h5,h6⟩
theorem safe_nil {p:Pol}(h:Right p):safeB p []=true:=by
 have:=h.c
 refine (safe_iff _ _).2 ⟨by simp[ncL],by simp[dpL],by rw[stL],?_,?_,by rw[innerL]⟩
 ·rw[ncL]
  omega
 ·rw[dpL]
  omega
theorem safe_text {p:Pol}(h:Right p) (t:L):safeB p [.mk [] [] t []]=decide (t≠[]):=by
 have hc:=h.c
 by_cases ht:t=[]
 ·subst ht
  rw[decide_eq_false (fun e=>e rfl)]
  cases hs:safeB p [.mk [] [] [] []] with
  | false=>rfl
  | true =>
   have:=(safe_iff _ _).1 hs
   have h1:=this.s
   rw[stL,Bool.and_eq_true] at h1
   exact absurd rfl (stN_text rfl h1.1).1
 ·rw[decide_eq_true ht]
  have e1:ncL [Nd.mk [] [] t []]=1:=by simp[ncL,ncN]
  have e2:dpL [Nd.mk [] [] t []]=0:=by simp[dpL,dpN]
  refine (safe_iff _ _).2 ⟨by rw[e1];omega,by rw[e2];omega,?_,by rw[e1];omega,by rw[e2];omega,?_⟩
  ·rw[stL,stL,stN,if_pos rfl]
   have:t.isEmpty=false:=by
    cases t with
    | nil=>exact absurd rfl ht
    | cons a r=>rfl
   simp[this]
  ·rw[innerL,innerL,innerN,if_pos rfl]
   rfl
end Saf
namespace San
open Utf1 Pol8 Saf
def dropL:List L:=[[101,109,98,101,100],[102,111,114,109],[109,97,116,104],[111,98,106,101,99,116],[115,101,108,101,99,116],[115,118,103],[116,101,109,112,108,97,116,101],[110,111,115,99,114,105,112,116],[102,114,97,109,101,115,101,116]]
def dropB (n:L):Bool:=(rawOf n).isSome || decide (n∈dropL)
def clsStep (cl acc:List L) (c:L):List L:=if c∈cl/\c ∉ acc then acc++[c] else acc
def clsK (cl:List L) (v:L):List L:=(Pol8.segs 32 v).foldl (clsStep cl) []
def joinB:List L->L
 | []=>[]
 | [x]=>x
 | x :: y :: r=>x++32 :: joinB (y :: r)
def clsO (cl:List L) (v:L):L:=joinB (clsK cl v)
def valO (p:Pol) (n v:L):L:=if n=styN then Sty.filt p.pr v else if n=clsN then clsO p.cl v else v
def atO (p:Pol) (e:L) (kv:L × L):Option (L × L):=if kv.1=relN then none else if valueB p e kv.1 (valO p kv.1 kv.2)=true then some (kv.1,valO p kv.1 kv.2) else none
def atsK (p:Pol) (e:L) (a:At):At:=a.filterMap (atO p e)
def attrsO (p:Pol) (e:L) (a:At):At:=if e=aN/\hasB (atsK p e a) href=true then atsK p e a++[(relN,forced)] else atsK p e a
def txt (t:L):Nd:=.mk [] [] t []
def joinR:List Nd->List Nd
 | []=>[]
 | x :: r=>if x.name=[] then (if x.text=[] then joinR r else match joinR r with
   | []=>[txt x.text]
   | y :: q=>if y.name=[] then txt (x.text++y.text) :: q else txt x.text :: y :: q) else x :: joinR r
mutual
def allN (p:Pol):Nd->List Nd
 | .mk n a t k=>if n=[] then [txt t] else if dropB n=true then [] else if n∈p.el then [.mk n (attrsO p n a) [] (joinR (allL p k))] else allL p k
def allL (p:Pol):List Nd->List Nd
 | []=>[]
 | x :: r=>allN p x++allL p r
end
def treeL (p:Pol) (ns:List Nd):List Nd:=joinR (allL p ns)
theorem allN_kids (p:Pol) (x:Nd):allN p x=if x.name=[] then [txt x.text] else if dropB x.name=true then [] else if x.name∈p.el then [.mk x.name (attrsO p x.name x.attrs) [] (joinR (allL p x.kids))] else allL p x.kids:=by
 cases x
 rw[allN]
 rfl
theorem allL_app (p:Pol):∀ a b:List Nd,allL p (a++b)=allL p a++allL p b
 | [],b=>by rw[List.nil_append,allL,List.nil_append]
 | x :: a,b=>by rw[List.cons_append,allL,allL,allL_app p a b,List.append_assoc]
def textAhead (t:L) (l:List Nd):List Nd:=if t=[] then l else match l with
 | []=>[txt t]
 | y :: q=>if y.name=[] then txt (t++y.text) :: q else txt t :: y :: q
theorem joinR_cons (x:Nd) (r:List Nd):joinR (x :: r)=if x.name=[] then textAhead x.text (joinR r) else x :: joinR r:=by
 rw[joinR]
 rfl
theorem ahead_txt {t:L}(h:t≠[]) (s:L) (q:List Nd):textAhead t (txt s :: q)=txt (t++s) :: q:=by
 unfold textAhead
 rw[if_neg h]
 rfl
def Joined:List Nd->Prop
 | []=>True
 | x :: r=>(x.name=[]->x=txt x.text/\x.text≠[]/\∀ y q,r=y :: q->y.name≠[])/\Joined r
theorem txt_name (t:L):(txt t).name=[]:=rfl
theorem txt_text (t:L):(txt t).text=t:=rfl
theorem ahead_joined {t:L}{l:List Nd}(h:Joined l):Joined (textAhead t l):=by
 unfold textAhead
 by_cases ht:t=[]
 ·rw[if_pos ht]
  exact h
 ·rw[if_neg ht]
  cases l with
  | nil=>exact⟨fun _=>⟨rfl,ht,fun y q e=>by cases e⟩,trivial⟩
  | cons y q =>
   simp only
   by_cases hy:y.name=[]
   ·rw[if_pos hy]
    obtain⟨h1,h2⟩:=h
    obtain⟨-,-,h3⟩:=h1 hy
    exact⟨fun _=>⟨rfl,fun e=>ht (List.append_eq_nil_iff.1 e).1,h3⟩,h2⟩
   ·rw[if_neg hy]
    exact⟨fun _=>⟨rfl,ht,fun z r e=>by cases e;exact hy⟩,h⟩
theorem join_joined:∀ l:List Nd,Joined (joinR l)
 | []=>trivial
 | x :: r=>by
  rw[joinR_cons]
  split
  ·exact ahead_joined (join_joined r)
  ·rename_i h
   exact⟨fun e=>absurd e h,join_joined r⟩
theorem join_id:∀ l:List Nd,Joined l->joinR l=l
 | [],_=>by rw[joinR]
 | x :: r,h=>by
  rw[joinR_cons,join_id r h.2]
  by_cases hx:x.name=[]
  ·obtain⟨h1,h2,h3⟩:=h.1 hx
   rw[if_pos hx]
   unfold textAhead
   rw[if_neg h2]
   cases r with
   | nil=>rw[<-h1]
   | cons y q =>
    simp only
    rw[if_neg (h3 y q rfl),<-h1]
  ·rw[if_neg hx]
theorem ahead_ahead (s t:L) (l:List Nd):textAhead s (textAhead t l)=textAhead (s++t) l:=by
 by_cases hs:s=[]
 ·subst hs
  unfold textAhead
  simp
 ·by_cases ht:t=[]
  ·subst ht
   rw[List.append_nil]
   congr 1
  ·have e1:textAhead t l=(match l with | []=>[txt t] | y :: q=>if y.name=[] then txt (t++y.text) :: q else txt t :: y :: q):=by unfold textAhead;rw[if_neg ht]
   cases l with
   | nil =>
    rw[e1,ahead_txt hs]
    unfold textAhead
    rw[if_neg (fun e=>hs (List.append_eq_nil_iff.1 e).1)]
   | cons y q =>
    rw[e1]
    simp only
    by_cases hy:y.name=[]
    ·rw[if_pos hy,ahead_txt hs]
     unfold textAhead
     rw[if_neg (fun e=>hs (List.append_eq_nil_iff.1 e).1)]
     simp only
     rw[if_pos hy,List.append_assoc]
    ·rw[if_neg hy,ahead_txt hs]
     unfold textAhead
     rw[if_neg (fun e=>hs (List.append_eq_nil_iff.1 e).1)]
     simp only
     rw[if_neg hy]
end San
namespace Go.Proofs.YtkiofbikkhhdfabGreatDoor
open Go.RowKit Go.WideMaps
open Utf1 Pol8
theorem cut_seg (V:ByteArray)(hV:V.size<=100000):∃ (A B:ByteArray) (f:Bool),(∀ w,Calls Tryz.prog 28 #[.string V,.string ⟨#[32]⟩] w fun e w'=>e=.returned (.tuple #[.string A,.string B,.bool f])/\Below w.heap.size w w')/\A.size<=V.size/\B.size<=V.size/\(f=true->A.size+1+B.size=V.size/\Pol8.segs 32 (bl V)=bl A :: Pol8.segs 32 (bl B))/\(f=false->Pol8.segs 32 (bl V)=[bl A]):=by
 by_cases h:(32:UInt8)∈bl V
 ·obtain⟨A,B,e,hn⟩:=Sy.split_ba V 32 h
  have hsz:A.size+1+B.size=V.size:=by
   have:=congrArg List.length e
   rw[bl_len,List.length_append,List.length_cons,bl_len,bl_len] at this
   omega
  exact⟨A,B,true,fun w=>Sy.cut_some V 32 A B e hn hV w,by omega,by omega,fun _=>⟨hsz,by rw[e];exact Pol8.segs_semi 32 _ _ hn⟩,fun h=>by cases h⟩
 ·exact⟨V,⟨#[]⟩,false,fun w=>Sy.cut_none V 32 h w,Nat.le_refl _,Nat.zero_le _,(fun h=>by cases h),fun _=>Pol8.segs_end 32 _ h⟩
def MOk (D:DataW Unit) (seen:List L):Prop:=∀ x:L,D.atKey (.string x) (.lit (.int .i64 0))=.lit (.int .i64 (if x∈seen then 1 else 0))
theorem MOk.nil:MOk (.map []) []:=fun _=>rfl
theorem MOk.put {D:DataW Unit}{seen:List L}(h:MOk D seen)(hD:Maps.IsMap D) (x:L):MOk (D.put (.string x) (.lit (.int .i64 1))) (seen++[x]):=by
 intro y
 by_cases e:y=x
 ·subst e
  rw[Maps.atKey_put_same hD (by simp[WideAt.IsKeyLit]) _ _,if_pos (by simp)]
 ·rw[Maps.atKey_put_other (fun e'=>e (by injection e')) _ _,h y]
  simp[e]
structure MetI (w:World) (mb:Nat) (R:Bool) (cl:List L) (V:L) (more:Bool) (n:Nat) (seen:List L) (wx:World):Prop where
 b:Below w.heap.size w wx
 m:∃ D:DataW Unit,wx.ownsMap Tryz.prog 9 (plainElem Tryz.prog 3) mb n D/\Maps.IsMap D/\MOk D seen
 on:more=true->R=Saf.clsFrom cl seen (Pol8.segs 32 V)
 off:more=false->R=true
theorem lit_int {a c:Int}(h:(DataW.lit (.int .i64 a):DataW Unit)=.lit (.int .i64 c)):c=a:=by
 injection h with e
 injection e with _ e
 exact e.symm
theorem pclasses_any (s:ByteArray) (v:Value) (cs:List ByteArray)(hs:s.size<=90000)(hl:cs.length<=100000) (w:World)(hv:StrArg w v cs) :
  Calls Tryz.prog 121 #[.string s,v] w fun e w'=>e=.returned (.bool (decide (bl s≠[]) && Saf.classesB (cs.map bl) (bl s)))/\Below w.heap.size w w':=by
 have g1:=eq_lit s []
 have g2:=empty_bl s
 by_cases he:bl s=[]
 ·rw[decide_eq_true he] at g1 g2
  rw[decide_eq_false (fun h=>h he)]
  clear he
  obtain⟨p,cap,rfl,-,-⟩:=hv
  go_enter Tryz.func121,Tryz.ntmps121
  go_wp2_with fail
  go_ret
  exact⟨rfl,Below.refl _ _⟩
 rw[decide_eq_false he] at g1 g2
 rw[decide_eq_true he,Bool.true_and]
 obtain⟨R,hR⟩:∃ R,R=Saf.classesB (cs.map bl) (bl s):=⟨_,rfl⟩
 rw[<-hR]
 unfold Saf.classesB at hR
 have hmm:=@run_makeMap Tryz.prog
 have HZ3:Hid (∀ w:World,(zeroValue 3).run Tryz.prog w=.ok (.int .i64 0) w):=hide (fun w=>by kernel_rfl)
 have HC:Hid (∀ (X:ByteArray) wx,Below w.heap.size w wx->Calls Tryz.prog 71 #[v,.string X] wx fun e w'=>e=.returned (.bool (decide (bl X∈cs.map bl)))/\w'=wx):=hide (fun X wx h=>Sy.contains_any X v cs hl wx (hv.below h))
 have H0:Hid (MetI w w.heap.size R (cs.map bl) (bl s) true 0 [] (w.alloc (.map #[] 0))):=hide ⟨bel_alloc (Below.refl _ _) _,⟨.map [],World.ownsMap_made (H:=Unit) w Tryz.prog 9 (plainElem Tryz.prog 3),Maps.isMap_empty,MOk.nil⟩,fun _=>hR,fun h=>by cases h⟩
 obtain⟨p,cap,rfl,-,-⟩:=hv
 generalize cs.length=NL at *
 clear hR he hl
 go_enter Tryz.func121,Tryz.ntmps121
 go_wp2_with fail
 clear g1 g2 hmm
 go_loopg [0,6] (s.size+1) (fun g v0 v6 wx=>∃ (V:ByteArray) (more:Bool) (n:Nat) (seen:List L),v0=.string V/\v6=.bool more/\n+g<=s.size+1/\V.size<=90000/\(more=true->V.size+1<=g)/\Hid (MetI w w.heap.size R (cs.map bl) (bl V) more n seen wx))
 case atStart=>exact⟨s,true,0,[],rfl,rfl,by omega,hs,fun _=>by omega,H0⟩
 case round =>
  obtain⟨V,more,n,seen,rfl,rfl,hn,hV,hg,HU⟩:=hrel
  clear H0
  cases more with
  | false =>
   have HR:Hid (R=true):=hide (HU.out.off rfl)
   have HB:=hide HU.out.b
   clear HU hg
   go_wp2_with fail
   go_ret
   rw[HR.out]
   exact⟨rfl,HB.out⟩
  | true =>
   have hg:=hg rfl
   obtain⟨A,B,f,hcut,hA,hBs,hf1,hf0⟩:=cut_seg V (by omega)
   have HF1:=hide hf1
   have HF0:=hide hf0
   have HON:Hid (R=Saf.clsFrom (cs.map bl) seen (Pol8.segs 32 (bl V))):=hide (HU.out.on rfl)
   have CC:=hide (hcut wr)
   clear hcut hf1 hf0
   go_wp2_with fail
   refine CC.out.mono ?_
   rintro e w1 ⟨rfl,h1⟩
   clear CC
   obtain⟨D,hmap,hD,hok⟩:=HU.out.m
   have hmap:=hmap.kept (below_grown h1) (by simp)
   have HB:=hide (bel2 HU.out.b h1)
   have hkey:keyOf Tryz.prog 9 (.string A)=some (.string (bl A)):=keyOf_string_mk Tryz.underlying9 (by unfold maxLen;omega)
   obtain⟨c,hlk,hat,-⟩:=hmap.lookup_int (Maps.string_keyed Tryz.underlying9) Tryz.underlying118 Tryz.underlying3 (HZ3.out _) hkey
   rw[hok (bl A)] at hat
   have hc:=lit_int hat
   have HMAP:=hide hmap
   have HD:=hide hD
   have HOK:=hide hok
   have CA:=hide (HC.out A)
   clear hmap hD hok hat h1 HU
   by_cases hin:bl A∈seen
   ·rw[if_pos hin] at hc
    subst hc
    have HN:Hid (R=false):=hide (by
     rw[HON.out]
     cases f with
     | true=>rw[(HF1.out rfl).2,Saf.clsFrom,decide_eq_true hin];simp
     | false=>rw[HF0.out rfl,Saf.clsFrom,decide_eq_true hin];simp)
    clear hin HON HF1 HF0
    go_wp2_with (at_mapUpdate;refine wpList_mapUpdate_own _ rfl _ _ _ 118 rfl 9 3 (Maps.string_keyed Tryz.underlying9) Tryz.underlying118 _ w.heap.size n _ rfl HMAP.out (by unfold maxLen;omega) _ _ _ rfl rfl hkey _ [] (plainElem_int Tryz.underlying3 (by decide)) ?_)
    intro w2 hmap1 hg1
    have HB2:Hid (Below w.heap.size w w2):=hide (HB.out.grown hg1 HB.out.size (fun j hj=>by injection hj with hj;omega))
    obtain⟨c2,hlk2,hat2,-⟩:=hmap1.lookup_int (Maps.string_keyed Tryz.underlying9) Tryz.underlying118 Tryz.underlying3 (HZ3.out _) hkey
    rw[Maps.atKey_put_same HD.out (by simp[WideAt.IsKeyLit]) _ _] at hat2
    have hc2:=lit_int hat2
    subst hc2
    clear hmap1 hg1 hat2 hlk hkey HMAP HB
    go_wp2_with fail
    go_ret
    rw[HN.out]
    exact⟨rfl,HB2.out⟩
   ·rw[if_neg hin] at hc
    subst hc
    go_wp2_with (at_mapUpdate;refine wpList_mapUpdate_own _ rfl _ _ _ 118 rfl 9 3 (Maps.string_keyed Tryz.underlying9) Tryz.underlying118 _ w.heap.size n _ rfl HMAP.out (by unfold maxLen;omega) _ _ _ rfl rfl hkey _ [] (plainElem_int Tryz.underlying3 (by decide)) ?_)
    intro w2 hmap1 hg1
    have HB2:Hid (Below w.heap.size w w2):=hide (HB.out.grown hg1 HB.out.size (fun j hj=>by injection hj with hj;omega))
    obtain⟨c2,hlk2,hat2,-⟩:=hmap1.lookup_int (Maps.string_keyed Tryz.underlying9) Tryz.underlying118 Tryz.underlying3 (HZ3.out _) hkey
    rw[Maps.atKey_put_same HD.out (by simp[WideAt.IsKeyLit]) _ _] at hat2
    have hc2:=lit_int hat2
    subst hc2
    have HM2:=hide hmap1
    have CA:=hide (CA.out w2 HB2.out)
    clear hmap1 hg1 hat2 hlk hkey HMAP HB
    by_cases hcl:bl A∈cs.map bl
    ·rw[decide_eq_true hcl] at CA
     have HNX:Hid (MetI w w.heap.size R (cs.map bl) (bl B) f (n+1) (seen++[bl A]) w2):=hide ⟨HB2.out,⟨_,HM2.out,HD.out.put _ _,HOK.out.put HD.out (bl A)⟩,fun h=>by
      rw[HON.out,(HF1.out h).2,Saf.clsFrom,decide_eq_true hcl,decide_eq_false hin]
      rfl,fun h=>by
      rw[HON.out,HF0.out h,Saf.clsFrom,decide_eq_true hcl,decide_eq_false hin,Saf.clsFrom]
      rfl⟩
     have HSZ:Hid ((f=true->B.size+1<=gk - 1)/\(B.size<=90000)):=hide ⟨fun h=>by have:=(HF1.out h).1;omega,by omega⟩
     clear hcl hin HON HF1 HF0 HM2
     go_wp2_with fail
     refine CA.out.mono ?_
     rintro e w3 ⟨rfl,rfl⟩
     clear CA
     go_wp2_with fail
     go_roundg (gk - 1)
     case measure=>omega
     case rel=>exact⟨B,f,n+1,seen++[bl A],rfl,rfl,by omega,HSZ.out.2,HSZ.out.1,HNX⟩
    ·rw[decide_eq_false hcl] at CA
     have HN:Hid (R=false):=hide (by
      rw[HON.out]
      cases f with
      | true=>rw[(HF1.out rfl).2,Saf.clsFrom,decide_eq_false hcl];simp
      | false=>rw[HF0.out rfl,Saf.clsFrom,decide_eq_false hcl];simp)
     clear hcl hin HON HF1 HF0 HM2
     go_wp2_with fail
     refine CA.out.mono ?_
     rintro e w3 ⟨rfl,rfl⟩
     clear CA
     go_wp2_with fail
     go_ret
     rw[HN.out]
     exact⟨rfl,HB2.out⟩
end Go.Proofs.YtkiofbikkhhdfabGreatDoor
namespace Go.Proofs.YtkiofbikkhhdfabGreatDoor
open Go.RowKit
open Utf1 Pol8
theorem wpAnyH_at {P:Program}{ops:Array Oper}{Q:Exit->Act->World->Prop}{md:Region.Mode}{S:World->Prop}{i:Nat}{oi:Oper}{v:Value}{fuel:Nat}{listed:Array Bool}{a a1:Act}{w:World}(hi:ops[i]?=some oi)
  (hs:Region.noSelect ops=true)(hf:Region.free md ops listed i=true)(hr:(Region.ready md ops listed).contains i=true)
  (hQ:∀ c a w,Q (.panic c) (a.put oi.dst v) w->Q (.panic c) a w)(hy:YieldsIf P ops S oi v a)(hS:S w)(ha:a.put oi.dst v=a1)
  (h:wpAnyH P md ops Q S fuel (listed.setIfInBounds i true) a1 w):wpAnyH P md ops Q S (fuel+1) listed a w:=by
 subst ha
 exact wpAnyH_take hi hs hf hr hQ hy hS h
theorem wpAnyH_atn {P:Program}{ops:Array Oper}{Q:Exit->Act->World->Prop}{md:Region.Mode}{S:World->Prop}(i:Nat) {oi:Oper}{fuel:Nat}{listed:Array Bool}{a a1:Act}{w:World}(hi:ops[i]?=some oi)
  (h:wpAnyH P md ops Q S fuel (listed.setIfInBounds i true) a1 w)(hwd:Region.wanted oi (yielded ops a.tmps)=false:=by rfl)(hs:Region.noSelect ops=true:=by kernel_rfl)(hf:Region.free md ops listed i=true:=by kernel_rfl)(hr:(Region.ready md ops listed).contains i=true:=by kernel_rfl)
  (ha:a.put oi.dst undef=a1:=by (go_simp;exact rfl))(hQ:∀ c a w,Q (.panic c) (a.put oi.dst undef) w->Q (.panic c) a w:=by exact fun _ _ _ h=>h)(hS:S w:=by assumption):wpAnyH P md ops Q S (fuel+1) listed a w:=wpAnyH_at hi hs hf hr hQ (Or.inr ⟨hwd,rfl⟩) hS ha h
theorem wpAnyH_atp {P:Program}{ops:Array Oper}{Q:Exit->Act->World->Prop}{md:Region.Mode}{S:World->Prop}(i:Nat) {oi:Oper}{v:Value}{fuel:Nat}{listed:Array Bool}{a a1:Act}{w:World}(hi:ops[i]?=some oi)
  (h:wpAnyH P md ops Q S fuel (listed.setIfInBounds i true) a1 w)(hwd:Region.wanted oi (yielded ops a.tmps)=true:=by rfl)(hs:Region.noSelect ops=true:=by kernel_rfl)(hf:Region.free md ops listed i=true:=by kernel_rfl)(hr:(Region.ready md ops listed).contains i=true:=by kernel_rfl)
  (hy:∀ w,S w->(execOp a.eval oi).run P w=.ok (.value v) w:=by (intro w hSw;(try dsimp only at hSw);go_simp;try (with_reducible rfl)))(ha:a.put oi.dst v=a1:=by (go_simp;exact rfl))
  (hQ:∀ c a w,Q (.panic c) (a.put oi.dst v) w->Q (.panic c) a w:=by exact fun _ _ _ h=>h)(hS:S w:=by assumption):wpAnyH P md ops Q S (fuel+1) listed a w:=wpAnyH_at hi hs hf hr hQ (Or.inl ⟨hwd,hy⟩) hS ha h
def BoxV (w:World) (A B:Array Value) (wx:World):Prop:=wx.heap[w.heap.size]?=some (.cells A 24 (0,0))/\wx.heap[w.heap.size+1]?=some (.cells B 108 (0,0))/\Below w.heap.size w wx
theorem BoxV.keep {w wx wy:World}{A B:Array Value}(h:BoxV w A B wx)(hb:Below wx.heap.size wx wy):BoxV w A B wy :=
 ⟨(hb.block _ (Array.getElem?_eq_some_iff.1 h.1).1).trans h.1,(hb.block _ (Array.getElem?_eq_some_iff.1 h.2.1).1).trans h.2.1,h.2.2.trans (hb.mono h.2.2.size)⟩
theorem BoxV.a {w wx:World}{A B:Array Value}(h:BoxV w A B wx) (i:Nat) (v:Value)(hv:A[i]?=some v):wx.cell? ⟨w.heap.size,i,none⟩=some v:=tag_cell h.1 i v hv
theorem BoxV.b {w wx:World}{A B:Array Value}(h:BoxV w A B wx) (i:Nat) (v:Value)(hv:B[i]?=some v):wx.cell? ⟨w.heap.size+1,i,none⟩=some v:=tag_cell h.2.1 i v hv
theorem BoxV.new (w:World) (A B:Array Value):BoxV w A B ((w.alloc (.cells A 24)).alloc (.cells B 108)):=by
 have s1:(w.alloc (.cells A 24)).heap.size=w.heap.size+1:=by simp
 have k2:=new_block (w.alloc (.cells A 24)) B 108
 rw[s1] at k2
 refine⟨?_,k2,bel_alloc (bel_alloc (Below.refl _ _) _) _⟩
 rw[Below.heap_alloc _ _ _ (by rw[s1];omega)]
 exact new_block _ _ _
theorem ne_empty (a:ByteArray):(a.toList != [])=decide (bl a≠[]):=by
 rw[ByteArray.toList_eq]
 by_cases h:bl a=[]
 ·rw[decide_eq_false (fun e=>e h),show a.data.toList=[] from h]
  rfl
 ·rw[decide_eq_true h]
  simpa using h
def BoxN (w:World) (A:Array Value) (wx:World):Prop:=wx.heap[w.heap.size]?=some (.cells A 80 (0,0))/\Below w.heap.size w wx
theorem BoxN.keep {w wx wy:World}{A:Array Value}(h:BoxN w A wx)(hb:Below wx.heap.size wx wy):BoxN w A wy :=
 ⟨(hb.block _ (Array.getElem?_eq_some_iff.1 h.1).1).trans h.1,h.2.trans (hb.mono h.2.size)⟩
theorem BoxN.cell {w wx:World}{A:Array Value}(h:BoxN w A wx) (i:Nat) (v:Value)(hv:A[i]?=some v):wx.cell? ⟨w.heap.size,i,none⟩=some v:=tag_cell h.1 i v hv
theorem BoxN.new (w:World) (A:Array Value):BoxN w A (w.alloc (.cells A 80)):=⟨new_block _ _ _,bel_alloc (Below.refl _ _) _⟩
end Go.Proofs.YtkiofbikkhhdfabGreatDoor
namespace Saf
open Utf1 Pol8
def fi (n:L):At->Int
 | []=>-1
 | kv :: r=>if kv.1=n then 0 else if fi n r < 0 then -1 else fi n r+1
theorem fi_none:∀ (a:At) (n:L),hasB a n=false->fi n a=-1
 | [],_,_=>rfl
 | kv :: r,n,h=>by
  unfold hasB at h
  rw[List.any_cons,Bool.or_eq_false_iff,decide_eq_false_iff_not] at h
  rw[fi,if_neg h.1,fi_none r n h.2]
  rfl
theorem fi_at:∀ (a:At) (n:L) (i:Nat) (kv:L × L),a[i]?=some kv->kv.1=n->(∀ (j:Nat) (x:L × L),j < i->a[j]?=some x->x.1≠n)->fi n a=(i:Int)
 | [],n,i,kv,h,_,_=>by simp at h
 | x :: r,n,0,kv,h,e,_=>by
  have:x=kv:=by simpa using h
  subst this
  rw[fi,if_pos e]
  rfl
 | x :: r,n,i+1,kv,h,e,hb=>by
  have h0:=hb 0 x (by omega) rfl
  have:=fi_at r n i kv (by simpa using h) e (fun j y hj hy=>hb (j+1) y (by omega) (by simpa using hy))
  rw[fi,if_neg h0,this,if_neg (by omega)]
  omega
theorem has_first:∀ (a:At) (n:L),hasB a n=true->∃ (i:Nat) (kv:L × L),a[i]?=some kv/\kv.1=n/\∀ (j:Nat) (x:L × L),j < i->a[j]?=some x->x.1≠n
 | [],n,h=>by cases h
 | x :: r,n,h=>by
  by_cases e:x.1=n
  ·exact⟨0,x,rfl,e,fun j y hj=>by omega⟩
  ·unfold hasB at h
   rw[List.any_cons,decide_eq_false e,Bool.false_or] at h
   obtain⟨i,kv,h1,h2,h3⟩:=has_first r n h
   refine⟨i+1,kv,by simpa using h1,h2,fun j y hj hy=>?_⟩
   cases j with
   | zero =>
    have:x=y:=by simpa using hy
    subst this
    exact e
   | succ j=>exact h3 j y (by omega) (by simpa using hy)
theorem fi_has (a:At) (n:L):decide (fi n a < 0)=!hasB a n:=by
 cases h:hasB a n with
 | false=>rw[fi_none a n h];rfl
 | true =>
  obtain⟨i,kv,h1,h2,h3⟩:=has_first a n h
  rw[fi_at a n i kv h1 h2 h3,decide_eq_false (by omega)]
  rfl
def relB (a:At):Bool:=if fi href a < 0 then decide (fi relN a < 0) else decide (fi relN a=(a.length:Int) - 1)
theorem rel_linked (a:At)(hd:(a.map Prod.fst).Nodup):relB a=linkedB a:=by
 unfold relB linkedB
 cases hh:hasB a href with
 | false =>
  rw[fi_none a href hh,if_pos (by omega),if_neg (by decide),fi_has]
 | true =>
  obtain⟨i,kv,h1,h2,h3⟩:=has_first a href hh
  have hl:=(List.getElem?_eq_some_iff.1 h1).1
  rw[fi_at a href i kv h1 h2 h3,if_neg (by omega),if_pos rfl]
  unfold lastB
  cases hr:hasB a relN with
  | false =>
   rw[fi_none a relN hr,decide_eq_false (by omega),eq_comm,decide_eq_false_iff_not]
   intro e
   cases hg:a.getLast? with
   | none=>rw[hg] at e;cases e
   | some x =>
    rw[hg] at e
    have e:x.1=relN:=Option.some.inj e
    have hm:=List.mem_of_getLast? hg
    have:hasB a relN=true:=List.any_eq_true.2 ⟨x,hm,decide_eq_true e⟩
    rw[this] at hr
    cases hr
  | true =>
   obtain⟨k,x,g1,g2,g3⟩:=has_first a relN hr
   have hk:=(List.getElem?_eq_some_iff.1 g1).1
   rw[fi_at a relN k x g1 g2 g3,List.getLast?_eq_getElem?]
   by_cases e:k=a.length - 1
   ·rw[decide_eq_true (by omega),<-e,g1]
    show true=decide (some x.1=some relN)
    rw[g2,decide_eq_true rfl]
   ·rw[decide_eq_false (by omega),eq_comm,decide_eq_false_iff_not]
    intro hl2
    have hlt:a.length - 1 < a.length:=by omega
    rw[List.getElem?_eq_getElem hlt] at hl2
    have hl2:(a[a.length - 1]).1=relN:=Option.some.inj hl2
    have hx:=(List.getElem?_eq_some_iff.1 g1).2
    have hd':=(List.pairwise_iff_getElem.1 hd) k (a.length - 1) (by rw[List.length_map];exact hk) (by rw[List.length_map];exact hlt) (by omega)
    rw[List.getElem_map,List.getElem_map,hl2,hx,g2] at hd'
    exact hd' rfl
def elemB (p:Pol) (n:L) (a:At):Bool:=decide (n∈p.el) && (a.all (fun kv=>valueB p n kv.1 kv.2) && (!decide (n=aN) || relB a))
mutual
def eachN (p:Pol):Nd->Bool
 | .mk n a _ k=>(decide (n=[]) || elemB p n a) && eachL p k
def eachL (p:Pol):List Nd->Bool
 | []=>true
 | x :: r=>eachN p x && eachL p r
end
theorem eachN_kids (p:Pol) (x:Nd):eachN p x=((decide (x.name=[]) || elemB p x.name x.attrs) && eachL p x.kids):=by
 cases x
 rw[eachN]
 rfl
theorem eachL_no {p:Pol}:∀ {ns:List Nd}{i:Nat}{x:Nd},ns[i]?=some x->eachN p x=false->eachL p ns=false
 | [],i,x,h,_=>by simp at h
 | y :: r,0,x,h,hx=>by
  have e:y=x:=by simpa using h
  subst e
  rw[eachL,hx]
  rfl
 | y :: r,i+1,x,h,hx=>by
  rw[eachL,eachL_no (ns:=r) (i:=i) (by simpa using h) hx,Bool.and_false]
theorem eachL_yes {p:Pol}:∀ {ns:List Nd},(∀ (i:Nat) (x:Nd),ns[i]?=some x->eachN p x=true)->eachL p ns=true
 | [],_=>by rw[eachL]
 | y :: r,h=>by
  rw[eachL,h 0 y rfl,eachL_yes (ns:=r) (fun i x hx=>h (i+1) x (by simpa using hx))]
  rfl
mutual
theorem each_innerN (pl:Pol):∀ (x:Nd) {p i b:Bool},stN p i b x=true->eachN pl x=innerN pl x
 | .mk n a t k,p,i,b,h=>by
  rw[eachN,innerN]
  by_cases hn:n=[]
  ·rw[(stN_text hn h).2.2.2,if_pos hn,decide_eq_true hn,eachL]
   rfl
  ·obtain⟨-,-,ha,-,h1,h2⟩:=stN_elem hn h
   have hk:eachL pl k=innerL pl k:=by
    by_cases hv:n∈voids
    ·rw[h1 hv,eachL,innerL]
    ·exact each_innerL pl k (h2 hv)
   unfold mayA at ha
   rw[Bool.and_eq_true,decide_eq_true_eq] at ha
   rw[if_neg hn,decide_eq_false hn,Bool.false_or,hk]
   unfold elemB
   rw[rel_linked a ha.2]
   generalize decide (n∈pl.el)=A
   generalize (a.all fun kv=>valueB pl n kv.1 kv.2)=B
   generalize (!decide (n=aN) || linkedB a)=C
   generalize innerL pl k=D
   cases A <;> cases B <;> cases C <;> rfl
theorem each_innerL (pl:Pol):∀ (l:List Nd) {p i b:Bool},stL p i b l=true->eachL pl l=innerL pl l
 | [],_,_,_,_=>by rw[eachL,innerL]
 | x :: r,p,i,b,h=>by
  rw[stL,Bool.and_eq_true] at h
  rw[eachL,innerL,each_innerN pl x h.1,each_innerL pl r h.2]
end
theorem safe_each (p:Pol) (ns:List Nd):safeB p ns=(stable ns && (decide ((ncL ns:Int)<=p.nd) && (decide ((dpL ns:Int)<=p.dp) && eachL p ns))):=by
 unfold safeB
 cases h:stable ns with
 | false=>rfl
 | true =>
  unfold stable at h
  rw[Bool.and_eq_true] at h
  rw[each_innerL p ns h.2]
end Saf
