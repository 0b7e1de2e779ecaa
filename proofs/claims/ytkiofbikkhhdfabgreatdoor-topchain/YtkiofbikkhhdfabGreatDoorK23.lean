import Derived.Test.YtkiofbikkhhdfabGreatDoorK18
import Derived.Test.YtkiofbikkhhdfabGreatDoorN10
import Derived.Test.YtkiofbikkhhdfabGreatDoorK22
import Derived.Test.YtkiofbikkhhdfabGreatDoorK19
import Derived.Test.YtkiofbikkhhdfabGreatDoorK10
import Derived.Test.YtkiofbikkhhdfabGreatDoorK05
namespace Utf1
open Go
theorem pl_facts {c:UInt8}(h:nmB [45,95,58] c=true):isNm c=false/\isAt c=false/\isGap c=false/\low8 c=c/\c≠60/\c≠62/\c≠33/\c≠63/\c≠47:=by
 unfold nmB at h
 rw[Bool.or_eq_true,Bool.or_eq_true] at h
 have key:SmallB c->isNm c=false/\isAt c=false/\isGap c=false/\low8 c=c/\c≠60/\c≠62/\c≠33/\c≠63/\c≠47:=by
  intro hs
  obtain⟨a1,a2,a3,a4,a5,a6⟩:=small_facts hs
  exact⟨a1,a2,a3,a4,a5,a6,beq_eq_false_iff_ne.1 (small_ne hs 33 (by decide)),beq_eq_false_iff_ne.1 (small_ne hs 63 (by decide)),beq_eq_false_iff_ne.1 (small_ne hs 47 (by decide))⟩
 rcases h with (h | h) | h
 ·exact key (.inl (of_decide_eq_true h))
 ·exact key (.inr (of_decide_eq_true h))
 ·have h:=of_decide_eq_true h
  simp only[List.mem_cons,List.not_mem_nil,or_false] at h
  rcases h with rfl | rfl | rfl <;> decide
def Plain (n:List UInt8):Prop:=(∃ c t,n=c :: t/\97<=c.toNat/\c.toNat<=122)/\∀ c∈n,nmB [45,95,58] c=true
theorem plain_attr {n:List UInt8}(h:isNmL [45,95,58] n=true):Plain n:=by
 cases n with
 | nil=>cases h
 | cons c t =>
  rw[isNmL,Bool.and_eq_true] at h
  exact⟨⟨c,t,rfl,of_decide_eq_true h.1⟩,List.all_eq_true.1 h.2⟩
theorem plain_elem {n:List UInt8}(h:isNmL [45] n=true):Plain n:=by
 cases n with
 | nil=>cases h
 | cons c t =>
  rw[isNmL,Bool.and_eq_true] at h
  refine⟨⟨c,t,rfl,of_decide_eq_true h.1⟩,fun x hx=>?_⟩
  have:=List.all_eq_true.1 h.2 x hx
  unfold nmB at this ⊢
  rw[Bool.or_eq_true] at this ⊢
  rcases this with h | h
  ·exact .inl h
  ·refine .inr (decide_eq_true ?_)
   have h:=of_decide_eq_true h
   simp only[List.mem_cons,List.not_mem_nil,or_false] at h
   rw[h]
   decide
theorem mayE_plain {n:List UInt8}(h:mayE n=true):Plain n/\rawOf n=none:=by
 unfold mayE at h
 rw[Bool.and_eq_true] at h
 refine⟨plain_elem h.2,?_⟩
 cases hr:rawOf n with
 | none=>rfl
 | some b=>rw[hr] at h;exact absurd h.1 (by simp)
theorem beg_startP (n r:List UInt8)(h:Plain n):beg (60 :: (n++r))=3:=by
 obtain⟨⟨c,t,rfl,h1,h2⟩,hs⟩:=h
 have hc:=pl_facts (hs c (List.mem_cons_self ..))
 have k33:=hc.2.2.2.2.2.2.1
 have k63:=hc.2.2.2.2.2.2.2.1
 rw[beg_lt]
 show beg1 (c :: (t++r))=3
 unfold beg1
 simp only
 rw[if_neg (by simp[List.isPrefixOf,Ne.symm k33]),if_neg (by simp[k33,k63]),if_pos (isLet_small h1 h2)]
theorem beg_endP (n r:List UInt8)(h:Plain n):beg (60 :: 47 :: (n++r))=3:=by
 obtain⟨⟨c,t,rfl,h1,h2⟩,hs⟩:=h
 rw[beg_lt]
 show beg1 (47 :: c :: (t++r))=3
 unfold beg1
 simp only
 rw[if_neg (by simp[List.isPrefixOf]),if_neg (by decide),if_neg (by decide),if_neg (by decide)]
 show beg2 (c :: (t++r))=3
 unfold beg2
 simp only
 rw[if_pos (isLet_small h1 h2)]
theorem getD_startP (n r:List UInt8)(h:Plain n):(60 :: (n++r)).getD 1 0≠47:=by
 obtain⟨⟨c,t,rfl,h1,h2⟩,hs⟩:=h
 exact (pl_facts (hs c (List.mem_cons_self ..))).2.2.2.2.2.2.2.2
theorem nm_allP {n:List UInt8}(h:Plain n):∀ c∈n,(!isNm c)=true:=fun c hc=>by rw[(pl_facts (h.2 c hc)).1];rfl
theorem lowerP (n:List UInt8)(h:∀ c∈n,nmB [45,95,58] c=true):lower n=n:=by
 unfold lower
 induction n with
 | nil=>rfl
 | cons c t ih =>
  rw[List.map_cons,(pl_facts (h c (List.mem_cons_self ..))).2.2.2.1,ih (fun x hx=>h x (List.mem_cons_of_mem _ hx))]
theorem toks_stopP (n r:List UInt8)(h:Plain n):toks (60 :: 47 :: (n++62 :: r))=⟨3,n,[],false,[]⟩ :: toks r:=by
 have hb:tagBody (60 :: 47 :: (n++62 :: r))=n++62 :: r:=by
  unfold tagBody
  rw[if_pos (by rfl)]
  rfl
 have ht:=take_until (p:=fun x=>!isNm x) (d:=62) (by decide) r n (nm_allP h)
 have hk:tagOf (60 :: 47 :: (n++62 :: r))=some (⟨3,n,[],false,[]⟩,r):=by
  unfold tagOf
  rw[hb,ht.2,attrsOf_end [] (62 :: r) r (by rfl)]
  simp only
  rw[if_pos (by rfl),ht.1,lowerP n h.2]
 rw[toks_tag _ r _ (beg_endP n _ h) hk]
 have:withRaw ⟨3,n,[],false,[]⟩ r=([],r):=by
  unfold withRaw
  rw[if_neg (by simp)]
 rw[this]
 rfl
theorem one_attr (a v r:List UInt8) (acc:List (List UInt8 × List UInt8))(ha:Plain a)(hn:a ∉ acc.map Prod.fst):attrsOf acc (32 :: (a++61 :: 34 :: (esc true v++34 :: r)))=attrsOf (acc++[(a,v)]) r:=by
 obtain⟨⟨c,t,rfl,h1,h2⟩,hs⟩:=ha
 have hc:=pl_facts (hs c (List.mem_cons_self ..))
 have hta:∀ x∈t,(!isAt x)=true:=fun x hx=>by rw[(pl_facts (hs x (List.mem_cons_of_mem _ hx))).2.1];rfl
 have h3:=take_until (p:=fun x=>!isAt x) (d:=61) (by decide) (34 :: (esc true v++34 :: r)) t hta
 have h4:=take_until (p:=fun x=>x != (34:UInt8)) (d:=34) (by decide) r (esc true v) (fun x hx=>by simpa using (esc_bytes true v x hx).2.2 rfl)
 have h5:oneAt c (t++61 :: 34 :: (esc true v++34 :: r))=some (c :: t,esc true v,r):=by
  unfold oneAt
  rw[h3.2,h3.1]
  simp only[show (61 :: 34 :: (esc true v++34 :: r)).dropWhile isBl=61 :: 34 :: (esc true v++34 :: r) from rfl,show (34 :: (esc true v++34 :: r)).dropWhile isBl=34 :: (esc true v++34 :: r) from rfl,true_or,if_true]
  rw[h4.1,h4.2]
 rw[attrsOf_one acc _ (t++61 :: 34 :: (esc true v++34 :: r)) c _ _ _ (by
  show List.dropWhile isGap (32 :: c :: _)=_
  rw[List.dropWhile_cons,if_pos (by decide),List.dropWhile_cons,if_neg (by rw[hc.2.2.1];decide)]
  rfl) hc.2.2.2.2.2.1 h5]
 have:addAt acc (lower (c :: t)) (res (esc true v))=acc++[(c :: t,v)]:=by
  rw[lowerP _ hs,res_esc]
  unfold addAt
  rw[if_neg hn]
 rw[this]
theorem all_attrs (r:List UInt8):∀ (a acc:List (List UInt8 × List UInt8)),(∀ kv∈a,Plain kv.1)->((acc++a).map Prod.fst).Nodup->attrsOf acc (atsH a++62 :: r)=some (acc++a,false,r)
 | [],acc,_,_=>by
  rw[show atsH []++62 :: r=62 :: r from rfl,attrsOf_end acc (62 :: r) r (by rfl),List.append_nil]
  rfl
 | (k,v) :: a,acc,h1,h2=>by
  have e:atsH ((k,v) :: a)++62 :: r=32 :: (k++61 :: 34 :: (esc true v++34 :: (atsH a++62 :: r))):=by
   rw[atsH,atH]
   simp only[List.append_assoc,List.cons_append,List.nil_append]
  have hn:k ∉ acc.map Prod.fst:=by
   intro hm
   rw[List.map_append,List.nodup_append] at h2
   exact h2.2.2 k hm k (by simp) rfl
  rw[e,one_attr k v _ acc (h1 (k,v) (List.mem_cons_self ..)) hn,all_attrs r a (acc++[(k,v)]) (fun kv hkv=>h1 kv (List.mem_cons_of_mem _ hkv)) (by rw[List.append_assoc];exact h2),List.append_assoc]
  rfl
theorem mayA_facts {a:List (List UInt8 × List UInt8)}(h:mayA a=true):(∀ kv∈a,Plain kv.1)/\(a.map Prod.fst).Nodup:=by
 unfold mayA at h
 rw[Bool.and_eq_true] at h
 exact⟨fun kv hkv=>plain_attr (List.all_eq_true.1 h.1 kv hkv),of_decide_eq_true h.2⟩
theorem toks_elem (n r:List UInt8) (a:List (List UInt8 × List UInt8))(hn:mayE n=true)(ha:mayA a=true):toks (60 :: (n++(atsH a++62 :: r)))=⟨2,n,a,false,[]⟩ :: toks r:=by
 obtain⟨hp,hraw⟩:=mayE_plain hn
 obtain⟨ha1,ha2⟩:=mayA_facts ha
 have hb:tagBody (60 :: (n++(atsH a++62 :: r)))=n++(atsH a++62 :: r):=by
  unfold tagBody
  rw[if_neg (getD_startP n _ hp)]
  rfl
 obtain⟨d,x,hd,hdx⟩:∃ d x,(fun y=>!isNm y) d=false/\atsH a++62 :: r=d :: x:=by
  cases a with
  | nil=>exact⟨62,r,by decide,rfl⟩
  | cons kv a=>exact⟨32,_,by decide,rfl⟩
 have ht:=take_until (p:=fun x=>!isNm x) hd x n (nm_allP hp)
 rw[<-hdx] at ht
 have hk:tagOf (60 :: (n++(atsH a++62 :: r)))=some (⟨2,n,a,false,[]⟩,r):=by
  unfold tagOf
  rw[hb,ht.2,all_attrs r a [] ha1 (by simpa using ha2)]
  simp only
  rw[if_neg (getD_startP n _ hp),ht.1,lowerP n hp.2]
  rfl
 rw[toks_tag _ r _ (beg_startP n _ hp) hk,withRaw_none _ _ _ _ _ hraw]
 rfl
mutual
def tkN:Nd->List Tk
 | .mk n a t k=>if n=[] then [⟨1,[],[],false,t⟩] else ⟨2,n,a,false,[]⟩ :: (if n∈voids then [] else tkL k++[⟨3,n,[],false,[]⟩])
def tkL:List Nd->List Tk
 | []=>[]
 | n :: r=>tkN n++tkL r
end
theorem ht_beg {p i:Bool}{m:Nd}{q:List Nd}(r:List UInt8)(h:stL p i true (m :: q)=true):beg (htL (m :: q)++r)≠0:=by
 obtain⟨n,a,t,k⟩:=m
 have h1:=(stL_cons h).1
 by_cases hn:n=[]
 ·exact absurd (stN_text hn h1).2.1 (by decide)
 ·have hp:=(mayE_plain (stN_elem hn h1).2.1).1
  rw[htL,htN,if_neg hn]
  simp only[List.append_assoc,List.cons_append,List.nil_append]
  rw[beg_startP n _ hp]
  decide
mutual
theorem toks_htN:∀ (nd:Nd) (p i b:Bool) (r:List UInt8),stN p i b nd=true->(nd.name=[]->r=[]\/beg r≠0)->toks (htN nd++r)=tkN nd++toks r
 | .mk n a t k,p,i,b,r,h,hr=>by
  by_cases hn:n=[]
  ·obtain⟨h1,_,_,_⟩:=stN_text hn h
   rw[htN,tkN,if_pos hn,if_pos hn]
   rcases hr hn with rfl | hr
   ·rw[List.append_nil,toks_esc t h1,toks_nil]
    rfl
   ·rw[toks_ahead _ r hr (esc_ne _ _ h1) (fun c hc=>(esc_bytes false t c hc).1),res_esc]
    rfl
  ·obtain⟨_,h2,h3,_,h4,h5⟩:=stN_elem hn h
   rw[htN,tkN,if_neg hn,if_neg hn]
   by_cases hv:n∈voids
   ·rw[if_pos hv,if_pos hv]
    simp only[List.append_assoc,List.cons_append,List.nil_append]
    rw[toks_elem n r a h2 h3]
   ·rw[if_neg hv,if_neg hv]
    have e:[60]++n++atsH a++[62]++(htL k++([60,47]++n++[62]))++r=60 :: (n++(atsH a++62 :: (htL k++(60 :: 47 :: (n++62 :: r))))):=by simp only[List.append_assoc,List.cons_append,List.nil_append]
    have hp:=(mayE_plain h2).1
    rw[e,toks_elem n _ a h2 h3,toks_htL k _ _ _ (60 :: 47 :: (n++62 :: r)) (h5 hv) (.inr (by rw[beg_endP n _ hp];decide)),toks_stopP n r hp]
    simp only[List.append_assoc,List.cons_append,List.nil_append]
theorem toks_htL:∀ (ns:List Nd) (p i b:Bool) (r:List UInt8),stL p i b ns=true->(r=[]\/beg r≠0)->toks (htL ns++r)=tkL ns++toks r
 | [],_,_,_,r,_,_=>by
  rw[htL,tkL]
  rfl
 | n :: q,p,i,b,r,h,hr=>by
  obtain⟨h1,h2⟩:=stL_cons h
  rw[htL,tkL,List.append_assoc,List.append_assoc,toks_htN n p i b (htL q++r) h1 ?_,toks_htL q _ _ _ r h2 hr]
  intro hn
  rw[decide_eq_true hn] at h2
  cases q with
  | nil=>rw[htL];exact hr
  | cons m q=>exact .inr (ht_beg r h2)
end
theorem toks_stable {ns:List Nd}(h:stable ns=true):toks (htL ns)=tkL ns:=by
 unfold stable at h
 rw[Bool.and_eq_true] at h
 have:=toks_htL ns _ _ _ [] h.2 (.inl rfl)
 rw[List.append_nil,toks_nil,List.append_nil] at this
 exact this
end Utf1
namespace Utf1
end Utf1
namespace Utf1
mutual
def tdN:Nd->List Td
 | .mk n a t k=>if n=[] then [⟨1,[],[],t⟩] else ⟨2,n,a,[]⟩ :: (if n∈voids then [] else tdL k++[⟨3,n,[],[]⟩])
def tdL:List Nd->List Td
 | []=>[]
 | n :: r=>tdN n++tdL r
end
end Utf1
namespace Go.Proofs.YtkiofbikkhhdfabGreatDoor.Dm
open Go.RowKit
open Utf1
def addKids (nd:Nd) (l:List Nd):Nd:=.mk nd.name nd.attrs nd.text (nd.kids++l)
theorem addKids_nil (nd:Nd):addKids nd []=nd:=by
 cases nd
 simp[addKids,Nd.name,Nd.attrs,Nd.text,Nd.kids]
theorem addKids_cons (nd x:Nd) (l:List Nd):addKids (addKid nd x) l=addKids nd (x :: l):=by
 unfold addKids addKid
 simp[Nd.name,Nd.attrs,Nd.text,Nd.kids]
def noP:List Nd->Prop
 | []=>True
 | [_]=>True
 | nd :: m :: r=>nd.name≠[112]/\noP (m :: r)
def itemR:List Nd->Bool
 | []=>false
 | [_]=>false
 | nd :: m :: r=>if nd.name=[108,105] then true else if nd.name=[117,108]\/nd.name=[111,108] then false else itemR (m :: r)
theorem noP_same {a b:Nd}{q:List Nd}(h:a.name=b.name):noP (a :: q) ↔ noP (b :: q):=by
 cases q with
 | nil=>exact Iff.rfl
 | cons c q=>simp only[noP,h]
theorem item_same {a b:Nd}{q:List Nd}(h:a.name=b.name):itemR (a :: q)=itemR (b :: q):=by
 cases q with
 | nil=>rfl
 | cons c q=>simp only[itemR,h]
theorem inner_noP:∀ r:List Nd,noP r->innerR [[112]] r=0
 | [],_=>rfl
 | [_],_=>by simp[innerR]
 | nd :: m :: r,h=>by
  rw[innerR,if_neg (by simp),if_neg (by simpa using h.1)]
  exact inner_noP (m :: r) h.2
theorem inner_item:∀ r:List Nd,r.getLast?.map Nd.name=some []->itemR r=false->(r.reverse[innerR [[108,105],[117,108],[111,108]] r]?.map Nd.name)≠some [108,105]
 | [],h,_=>by cases h
 | [x],h,_=>by
  have h:some x.name=some []:=by simpa using h
  have e:innerR [[108,105],[117,108],[111,108]] [x]=0:=by simp[innerR]
  rw[e]
  show some x.name≠_
  rw[h]
  simp
 | nd :: m :: r,h,hi=>by
  rw[innerR,if_neg (by simp)]
  rw[itemR] at hi
  by_cases h1:nd.name∈[[108,105],[117,108],[111,108]]
  ·rw[if_pos h1,List.reverse_cons,List.getElem?_append_right (by simp)]
   simp only[List.length_reverse,Nat.sub_self,List.getElem?_cons_zero,Option.map_some]
   intro e
   have e:nd.name=[108,105]:=by simpa using e
   rw[if_pos e] at hi
   cases hi
  ·rw[if_neg h1,List.reverse_cons]
   have hn1:nd.name≠[108,105]:=fun e=>h1 (by rw[e];decide)
   have hn2:¬ (nd.name=[117,108]\/nd.name=[111,108]):=by
    rintro (e | e)
    ·exact h1 (by rw[e];decide)
    ·exact h1 (by rw[e];decide)
   rw[if_neg hn1,if_neg hn2] at hi
   have hlt:innerR [[108,105],[117,108],[111,108]] (m :: r) < (m :: r).length:=innerR_lt _ _ (by simp)
   rw[List.getElem?_append_left (by rw[List.length_reverse];exact hlt)]
   refine inner_item (m :: r) ?_ hi
   rw[List.getLast?_cons_cons] at h
   exact h
theorem way_none {name:List UInt8}{r:List Nd}{t:List UInt8}(hroot:r.getLast?.map Nd.name=some [])(h1:name∈blocks->noP r)(h2:name=[108,105]->itemR r=false):wayR name r t=(r,t):=by
 unfold wayR
 by_cases hb:name∈blocks
 ·rw[if_pos hb]
  have hc:closeIn [[112]] r t=(r,t):=by
   unfold closeIn
   rw[inner_noP r (h1 hb),if_neg (by omega)]
  by_cases hl:name=[108,105]
  ·rw[if_pos hl,hc]
   simp only
   rw[if_neg (inner_item r hroot (h2 hl))]
  ·rw[if_neg hl,hc]
 ·rw[if_neg hb]
theorem end_top (n:List UInt8) (x y:Nd) (q:List Nd) (t:List UInt8) (o m:Nat)(hx:x.name=n):endB n ⟨x :: y :: q,t,o,m⟩=⟨addKid y (textIn x t) :: q,[],o,m⟩:=by
 have hi:innerR [n] (x :: y :: q)=(y :: q).length:=by
  rw[innerR,if_neg (by simp),if_pos (by simp[hx])]
 unfold endB
 simp only[hi]
 rw[if_pos (by simp)]
 unfold shutB
 have:(x :: y :: q).length - (y :: q).length=1:=by simp
 simp only[this]
 rfl
mutual
theorem run_nd:∀ (x:Nd) (p i b:Bool) (nd:Nd) (q:List Nd) (t:List UInt8) (o m:Nat) (y:List Td),stN p i b x=true->(b=false->t=[])->(nd :: q).getLast?.map Nd.name=some []->(p=false->noP (nd :: q))->(i=false->itemR (nd :: q)=false)->o<=64->m+ncN x<=2000->q.length+dpN x<=64 ->
  ∃ nd' t' o',runB (tdN x++y) ⟨nd :: q,t,o,m⟩=runB y ⟨nd' :: q,t',o',m+ncN x⟩/\o'<=64/\nd'.name=nd.name/\textIn nd' t'=addKid (textIn nd t) x/\(x.name≠[]->t'=[])
 | .mk n a tx k,p,i,b,nd,q,t,o,m,y,h,hbt,hroot,hp,hi,ho,hm,hd=>by
  by_cases hn:n=[]
  ·obtain⟨h1,h2,h3,h4⟩:=stN_text hn h
   have ht:=hbt h2
   subst hn
   subst h3
   subst h4
   subst ht
   have hnc:ncN (.mk [] [] tx [])=1:=by rw[ncN];rfl
   rw[hnc] at hm ⊢
   have hk:takeB ⟨1,[],[],tx⟩ ⟨nd :: q,[],o,m⟩=⟨nd :: q,tx,o,m+1⟩:=by
    unfold takeB textB
    rw[if_pos rfl]
    have:newT [] tx=1:=by unfold newT;rw[if_pos ⟨rfl,h1⟩]
    simp only[this,List.nil_append]
   refine⟨nd,tx,o,?_,ho,rfl,?_,fun e=>absurd rfl e⟩
   ·rw[tdN,if_pos rfl]
    show runB (⟨1,[],[],tx⟩ :: y) _=_
    rw[runB,hk,if_pos ⟨ho,hm⟩]
   ·unfold textIn
    rw[if_neg h1,if_pos rfl]
  ·obtain⟨h1,h2,h3,h4,h5,h6⟩:=stN_elem hn h
   rw[Bool.or_eq_false_iff,Bool.and_eq_false_iff,Bool.and_eq_false_iff] at h4
   subst h1
   have hw:wayR n (nd :: q) t=(nd :: q,t):=by
    refine way_none hroot (fun hb=>?_) (fun hl=>?_)
    ·rcases h4.1 with hp' | hb'
     ·exact hp hp'
     ·exact absurd hb (of_decide_eq_false hb')
    ·rcases h4.2 with hi' | hl'
     ·exact hi hi'
     ·exact absurd hl (of_decide_eq_false hl')
   have hnc:ncN (.mk n a [] k)=1+ncL k:=by rw[ncN]
   have hdp:dpN (.mk n a [] k)=dpL k+1:=by rw[dpN,if_neg hn]
   rw[hdp] at hd
   by_cases hv:n∈voids
   ·have hk0:=h5 hv
    subst hk0
    have hst:startB n a ⟨nd :: q,t,o,m⟩=⟨addKid (textIn nd t) (.mk n a [] []) :: q,[],o,m+1⟩:=by
     unfold startB startR
     rw[if_neg hn]
     simp only[hw]
     rw[if_pos hv]
    have hk:takeB ⟨2,n,a,[]⟩ ⟨nd :: q,t,o,m⟩=⟨addKid (textIn nd t) (.mk n a [] []) :: q,[],o,m+1⟩:=by
     unfold takeB
     rw[if_neg (show ¬ ((2:Int)=1) by decide),if_pos rfl]
     exact hst
    have hnc1:ncN (.mk n a [] [])=1:=by rw[ncN];rfl
    rw[hnc1] at hm ⊢
    refine⟨addKid (textIn nd t) (.mk n a [] []),[],o,?_,ho,?_,?_,fun _=>rfl⟩
    ·rw[tdN,if_neg hn,if_pos hv]
     show runB (⟨2,n,a,[]⟩ :: y) _=_
     rw[runB,hk,if_pos ⟨ho,hm⟩]
    ·rw[addKid_root,textIn_name]
    ·unfold textIn
     rw[if_pos rfl]
   ·have hst:startB n a ⟨nd :: q,t,o,m⟩=⟨.mk n a [] [] :: textIn nd t :: q,[],max o (q.length+1),m+1⟩:=by
     unfold startB startR
     rw[if_neg hn]
     simp only[hw]
     rw[if_neg hv]
    have hk:takeB ⟨2,n,a,[]⟩ ⟨nd :: q,t,o,m⟩=⟨.mk n a [] [] :: textIn nd t :: q,[],max o (q.length+1),m+1⟩:=by
     unfold takeB
     rw[if_neg (show ¬ ((2:Int)=1) by decide),if_pos rfl]
     exact hst
    have ho1:max o (q.length+1)<=64:=by omega
    rw[hnc] at hm ⊢
    obtain⟨nd2,t2,o2,e1,e2,e3,e4⟩:=run_nl k (p || decide (n=[112])) (Utf1.itm i n) false (.mk n a [] []) (textIn nd t :: q) [] (max o (q.length+1)) (m+1) (⟨3,n,[],[]⟩ :: y) (h6 hv) (fun _=>rfl)
     (by rw[List.getLast?_cons_cons];rw[last_name (textIn_name nd t)];exact hroot)
     (by
      intro hp'
      rw[Bool.or_eq_false_iff] at hp'
      exact⟨of_decide_eq_false hp'.2,(noP_same (textIn_name nd t)).2 (hp hp'.1)⟩)
     (by
      intro hi'
      rw[itemR]
      unfold Utf1.itm at hi'
      show (if n=[108,105] then true else if n=[117,108]\/n=[111,108] then false else itemR (textIn nd t :: q))=false
      by_cases hl:n=[108,105]
      ·rw[if_pos hl] at hi'
       cases hi'
      ·rw[if_neg hl] at hi' ⊢
       by_cases hu:n=[117,108]\/n=[111,108]
       ·rw[if_pos hu]
       ·rw[if_neg hu] at hi' ⊢
        rw[item_same (textIn_name nd t)]
        exact hi hi')
     ho1 (by omega) (by rw[List.length_cons];omega)
    have hx:textIn nd2 t2=.mk n a [] k:=by
     rw[e4]
     unfold textIn
     rw[if_pos rfl]
     rfl
    have hk2:takeB ⟨3,n,[],[]⟩ ⟨nd2 :: textIn nd t :: q,t2,o2,m+1+ncL k⟩=⟨addKid (textIn nd t) (.mk n a [] k) :: q,[],o2,m+1+ncL k⟩:=by
     unfold takeB
     rw[if_neg (show ¬ ((3:Int)=1) by decide),if_neg (show ¬ ((3:Int)=2) by decide),if_pos rfl,<-hx]
     exact end_top n nd2 (textIn nd t) q t2 o2 _ e3
    refine⟨addKid (textIn nd t) (.mk n a [] k),[],o2,?_,e2,?_,?_,fun _=>rfl⟩
    ·rw[tdN,if_neg hn,if_neg hv]
     have:⟨2,n,a,[]⟩ :: (tdL k++[⟨3,n,[],[]⟩])++y=⟨2,n,a,[]⟩ :: (tdL k++(⟨3,n,[],[]⟩ :: y)):=by simp
     rw[this,runB,hk,if_pos ⟨ho1,by show m+1<=2000;omega⟩,e1,runB,hk2,if_pos ⟨e2,by show m+1+ncL k<=2000;omega⟩]
     rw[show m+1+ncL k=m+(1+ncL k) by omega]
    ·rw[addKid_root,textIn_name]
    ·unfold textIn
     rw[if_pos rfl]
theorem run_nl:∀ (l:List Nd) (p i b:Bool) (nd:Nd) (q:List Nd) (t:List UInt8) (o m:Nat) (y:List Td),stL p i b l=true->(b=false->t=[])->(nd :: q).getLast?.map Nd.name=some []->(p=false->noP (nd :: q))->(i=false->itemR (nd :: q)=false)->o<=64->m+ncL l<=2000->q.length+dpL l<=64 ->
  ∃ nd' t' o',runB (tdL l++y) ⟨nd :: q,t,o,m⟩=runB y ⟨nd' :: q,t',o',m+ncL l⟩/\o'<=64/\nd'.name=nd.name/\textIn nd' t'=addKids (textIn nd t) l
 | [],p,i,b,nd,q,t,o,m,y,_,_,_,_,_,ho,_,_=>⟨nd,t,o,by rw[tdL,ncL];rfl,ho,rfl,by rw[addKids_nil]⟩
 | x :: l,p,i,b,nd,q,t,o,m,y,h,hbt,hroot,hp,hi,ho,hm,hd=>by
  obtain⟨h1,h2⟩:=stL_cons h
  rw[ncL] at hm ⊢
  rw[dpL] at hd
  obtain⟨nd1,t1,o1,e1,e2,e3,e4,e5⟩:=run_nd x p i b nd q t o m (tdL l++y) h1 hbt hroot hp hi ho (by omega) (by omega)
  obtain⟨nd2,t2,o2,f1,f2,f3,f4⟩:=run_nl l p i (decide (x.name=[])) nd1 q t1 o1 (m+ncN x) y h2 (fun hx=>e5 (of_decide_eq_false hx)) (by rw[last_name e3];exact hroot) (fun hp'=>(noP_same e3).2 (hp hp')) (fun hi'=>by rw[item_same e3];exact hi hi') e2 (by omega) (by omega)
  refine⟨nd2,t2,o2,?_,f2,f3.trans e3,?_⟩
  ·rw[tdL,List.append_assoc,e1,f1,Nat.add_assoc]
  ·rw[f4,e4,addKids_cons]
end
theorem build_stable {ns:List Nd}(h:stable ns=true):buildB (tdL ns)=some ns:=by
 unfold stable at h
 rw[Bool.and_eq_true,Bool.and_eq_true] at h
 obtain⟨⟨h1,h2⟩,h3⟩:=h
 have h1:=of_decide_eq_true h1
 have h2:=of_decide_eq_true h2
 obtain⟨nd',t',o',e1,e2,e3,e4⟩:=run_nl ns false false false (.mk [] [] [] []) [] [] 0 0 [] h3 (fun _=>rfl) rfl (fun _=>trivial) (fun _=>rfl) (by omega) (by omega) (by simpa using h2)
 rw[List.append_nil] at e1
 unfold buildB bs0
 rw[e1,runB]
 show some (treeB _)=_
 unfold treeB shutB
 simp only[List.length_cons,List.length_nil,Nat.zero_add,Nat.sub_self]
 show some (textIn nd' t').kids=_
 rw[e4]
 unfold textIn addKids
 rw[if_pos rfl]
 rfl
end Go.Proofs.YtkiofbikkhhdfabGreatDoor.Dm
namespace Go.Proofs.YtkiofbikkhhdfabGreatDoor.Dm
open Go.RowKit
open Utf1
theorem runB_good:∀ (l:List Td) (s u:Bs),Good s->s.o<=64->s.n<=2000->runB l s=some u->Good u/\u.o<=64/\u.n<=2000
 | [],s,u,h,h1,h2,e=>by
  cases e
  exact⟨h,h1,h2⟩
 | k :: l,s,u,h,h1,h2,e=>by
  unfold runB at e
  split at e
  ·rename_i hc
   exact runB_good l _ u (take_good h k).1 hc.1 hc.2 e
  ·cases e
theorem tree_cnt {s:Bs}(h:Good s):cntL (treeB s)=s.n:=by
 have g:=shut_good h (Nat.le_refl 1) (List.length_pos_iff.2 h.ne)
 obtain⟨nd,hnd⟩:=List.length_eq_one_iff.1 g.2.2
 have hc:=g.1.cnt
 unfold treeB
 rw[hnd] at hc ⊢
 have hc:cntN nd+0+tx (shutB 1 s).t=s.n+1:=hc
 have h1:=cnt_text nd (shutB 1 s).t
 have h2:=cntN_kids (textIn nd (shutB 1 s).t)
 show cntL (textIn nd (shutB 1 s).t).kids=_
 omega
theorem build_cnt {l:List Td}{ns:List Nd}(h:buildB l=some ns):cntL ns<=2000:=by
 unfold buildB at h
 cases hr:runB l bs0 with
 | none=>rw[hr] at h;cases h
 | some u =>
  rw[hr] at h
  cases h
  have:=runB_good l bs0 u good0 (by decide) (by decide) hr
  rw[tree_cnt this.1]
  exact this.2.2
end Go.Proofs.YtkiofbikkhhdfabGreatDoor.Dm
namespace Utf1
mutual
def deepN:Nd->Nat
 | .mk n _ _ k=>deepL k+(if n=[] then 0 else 1)
def deepL:List Nd->Nat
 | []=>0
 | n :: r=>max (deepN n) (deepL r)
end
theorem deepN_kids (n:Nd):deepN n=deepL n.kids+(if n.name=[] then 0 else 1):=by
 cases n
 rw[deepN]
 rfl
theorem deepL_app:∀ a b:List Nd,deepL (a++b)=max (deepL a) (deepL b)
 | [],b=>by simp[deepL]
 | n :: a,b=>by
  rw[List.cons_append,deepL,deepL,deepL_app a b]
  omega
end Utf1
namespace Go.Proofs.YtkiofbikkhhdfabGreatDoor.Dm
open Go.RowKit
open Utf1
theorem addKid_text (p x:Nd):(addKid p x).text=p.text:=by
 cases p
 rfl
theorem textIn_text (p:Nd) (t:List UInt8):(textIn p t).text=p.text:=by
 unfold textIn
 split
 ·rfl
 ·exact addKid_text _ _
theorem closeR_ind {Pr:List Nd->List UInt8->Prop}(h1:∀ nd p r t,Pr (nd :: p :: r) t->Pr (addKid p (textIn nd t) :: r) []):∀ n r t,Pr r t->Pr (closeR n r t).1 (closeR n r t).2
 | 0,r,t,h=>by
  have:closeR 0 r t=(r,t):=by cases r <;> rfl
  rw[this]
  exact h
 | n+1,[],t,h=>h
 | n+1,[a],t,h=>h
 | n+1,nd :: p :: r,t,h=>closeR_ind h1 n _ _ (h1 nd p r t h)
theorem closeIn_ind {Pr:List Nd->List UInt8->Prop}(h1:∀ nd p r t,Pr (nd :: p :: r) t->Pr (addKid p (textIn nd t) :: r) []) (ns:List (List UInt8)) (r:List Nd) (t:List UInt8)(h:Pr r t):Pr (closeIn ns r t).1 (closeIn ns r t).2:=by
 unfold closeIn
 split
 ·exact closeR_ind h1 _ _ _ h
 ·exact h
theorem wayR_ind {Pr:List Nd->List UInt8->Prop}(h1:∀ nd p r t,Pr (nd :: p :: r) t->Pr (addKid p (textIn nd t) :: r) []) (name:List UInt8) (r:List Nd) (t:List UInt8)(h:Pr r t):Pr (wayR name r t).1 (wayR name r t).2:=by
 have c:=closeIn_ind h1 [[112]] r t h
 unfold wayR
 split
 ·split
  ·split
   ·exact closeR_ind h1 _ _ _ c
   ·exact c
  ·exact c
 ·exact h
end Go.Proofs.YtkiofbikkhhdfabGreatDoor.Dm
namespace Utf1
mutual
def FineN (bs vs:List (List UInt8)):Nd->Bool->Bool->Bool->Prop
 | .mk n a t k,p,li,pr=>(n=[]->t≠[]/\k=[]/\a=[]/\pr=false)/\(n≠[]->t=[]/\¬ (p=true/\n∈bs)/\¬ (li=true/\n=[108,105])/\(n∈vs->k=[])/\FineL bs vs k (p || decide (n=[112])) ((li && decide (n≠[117,108]) && decide (n≠[111,108])) || decide (n=[108,105])) false)
def FineL (bs vs:List (List UInt8)):List Nd->Bool->Bool->Bool->Prop
 | [],_,_,_=>True
 | nd :: r,p,li,pr=>FineN bs vs nd p li pr/\FineL bs vs r p li (decide (nd.name=[]))
end
end Utf1
namespace Go.Proofs.YtkiofbikkhhdfabGreatDoor.Dm
open Go.RowKit
open Utf1
def lastT (l:List Nd) (pr:Bool):Bool:=match l.getLast? with | none=>pr | some y=>decide (y.name=[])
theorem lastT_cons (x:Nd) (l:List Nd) (pr:Bool):lastT (x :: l) pr=lastT l (decide (x.name=[])):=by
 unfold lastT
 cases l with
 | nil=>rfl
 | cons a b =>
  rw[List.getLast?_cons_cons]
  obtain⟨y,hy⟩:∃ y,(a :: b).getLast?=some y:=⟨_,List.getLast?_eq_some_getLast (by simp)⟩
  rw[hy]
theorem lastT_snoc (l:List Nd) (x:Nd) (pr:Bool):lastT (l++[x]) pr=decide (x.name=[]):=by
 unfold lastT
 rw[List.getLast?_concat]
theorem fine_app {bs vs:List (List UInt8)}:∀ (a:List Nd) (x:Nd) (p li pr:Bool),FineL bs vs a p li pr->FineN bs vs x p li (lastT a pr)->FineL bs vs (a++[x]) p li pr
 | [],x,p,li,pr,_,h=>by
  show FineL bs vs [x] p li pr
  rw[FineL]
  exact⟨h,by rw[FineL];trivial⟩
 | y :: a,x,p,li,pr,h1,h2=>by
  rw[List.cons_append,FineL]
  rw[FineL] at h1
  rw[lastT_cons] at h2
  exact⟨h1.1,fine_app a x p li _ h1.2 h2⟩
def ctxN:List (List UInt8)->Bool × Bool
 | []=>(false,false)
 | a :: rest=>if rest=[] then (false,false) else ((ctxN rest).1 || decide (a=[112]),((ctxN rest).2 && decide (a≠[117,108]) && decide (a≠[111,108])) || decide (a=[108,105]))
def okN:List (List UInt8)->Prop
 | []=>True
 | a :: rest=>(rest≠[]->¬ ((ctxN rest).1=true/\a∈blocks)/\¬ ((ctxN rest).2=true/\a=[108,105]))/\okN rest
def innerN (ns:List (List UInt8)):List (List UInt8)->Nat
 | []=>0
 | a :: rest=>if rest=[] then 0 else if a∈ns then rest.length else innerN ns rest
theorem inner_names (ns:List (List UInt8)):∀ r:List Nd,innerR ns r=innerN ns (r.map Nd.name)
 | []=>rfl
 | nd :: rest=>by
  rw[List.map_cons]
  unfold innerR innerN
  by_cases h:rest=[]
  ·rw[if_pos h,if_pos (by rw[h];rfl)]
  ·have h':rest.map Nd.name≠[]:=by simpa using h
   rw[if_neg h,if_neg h',List.length_map,inner_names ns rest]
theorem close_names:∀ (n:Nat) (r:List Nd) (t:List UInt8),n < r.length->(closeR n r t).1.map Nd.name=(r.map Nd.name).drop n
 | 0,r,t,_=>by
  have:closeR 0 r t=(r,t):=by cases r <;> rfl
  rw[this]
  rfl
 | n+1,[],t,h=>by simp at h
 | n+1,[_],t,h=>by simp at h
 | n+1,nd :: p :: r,t,h=>by
  have ih:=close_names n (addKid p (textIn nd t) :: r) [] (by simp only[List.length_cons] at h ⊢;omega)
  show (closeR n (addKid p (textIn nd t) :: r) []).1.map Nd.name=_
  rw[ih]
  simp only[List.map_cons,addKid_name,List.drop_succ_cons]
theorem innerN_lt (ns:List (List UInt8)):∀ L:List (List UInt8),L≠[]->innerN ns L < L.length
 | [],h=>absurd rfl h
 | a :: rest,_=>by
  unfold innerN
  split
  ·simp
  ·rename_i hr
   split
   ·simp
   ·have:=innerN_lt ns rest hr
    simp only[List.length_cons]
    omega
theorem okN_drop:∀ (n:Nat) (L:List (List UInt8)),okN L->okN (L.drop n)
 | 0,_,h=>h
 | _+1,[],h=>h
 | n+1,_ :: rest,h=>okN_drop n rest h.2
theorem ctx_drop:∀ (n:Nat) (L:List (List UInt8)),(ctxN L).1=false->(ctxN (L.drop n)).1=false
 | 0,L,h=>h
 | n+1,[],h=>h
 | n+1,a :: rest,h=>by
  refine ctx_drop n rest ?_
  unfold ctxN at h
  split at h
  ·rename_i hr
   rw[hr]
   rfl
  ·simp only[Bool.or_eq_false_iff] at h
   exact h.1
def shutN (ns:List (List UInt8)) (L:List (List UInt8)):List (List UInt8):=if 0 < innerN ns L then L.drop (L.length - innerN ns L) else L
theorem p_closed:∀ L:List (List UInt8),okN L->(ctxN (shutN [[112]] L)).1=false
 | [],_=>rfl
 | a :: rest,h=>by
  by_cases hr:rest=[]
  ·subst hr
   rfl
  ·have ih:=p_closed rest h.2
   have hpos:0 < rest.length:=List.length_pos_iff.2 hr
   unfold shutN innerN
   rw[if_neg hr]
   by_cases ha:a∈[[112]]
   ·rw[if_pos ha,if_pos hpos,List.length_cons,Nat.add_sub_cancel_left]
    have ha':a=[112]:=by simpa using ha
    have:=(h.1 hr).1
    show (ctxN rest).1=false
    cases hc:(ctxN rest).1 with
    | false=>rfl
    | true=>exact absurd ⟨hc,by rw[ha'];decide⟩ this
   ·rw[if_neg ha]
    unfold shutN at ih
    have hlt:=innerN_lt [[112]] rest hr
    by_cases hi:0 < innerN [[112]] rest
    ·rw[if_pos hi] at ih ⊢
     rw[List.length_cons,show rest.length+1 - innerN [[112]] rest=(rest.length - innerN [[112]] rest)+1 by omega,List.drop_succ_cons]
     exact ih
    ·rw[if_neg hi] at ih ⊢
     unfold ctxN
     rw[if_neg hr]
     have:decide (a=[112])=false:=decide_eq_false (by simpa using ha)
     show ((ctxN rest).1 || decide (a=[112]))=false
     rw[ih,this]
     rfl
theorem li_closed:∀ L:List (List UInt8),okN L->(L.reverse[innerN [[108,105],[117,108],[111,108]] L]?=some [108,105]->(ctxN (L.drop (L.length - innerN [[108,105],[117,108],[111,108]] L))).2=false)/\(L.reverse[innerN [[108,105],[117,108],[111,108]] L]?≠some [108,105]->(ctxN L).2=false)
 | [],_=>⟨fun _=>rfl,fun _=>rfl⟩
 | a :: rest,h=>by
  by_cases hr:rest=[]
  ·subst hr
   exact⟨fun _=>rfl,fun _=>rfl⟩
  ·have ih:=li_closed rest h.2
   have hpos:0 < rest.length:=List.length_pos_iff.2 hr
   have hlt:=innerN_lt [[108,105],[117,108],[111,108]] rest hr
   unfold innerN
   rw[if_neg hr]
   by_cases ha:a∈[[108,105],[117,108],[111,108]]
   ·rw[if_pos ha,List.length_cons,Nat.add_sub_cancel_left,List.reverse_cons,List.getElem?_append_right (by simp),List.length_reverse,Nat.sub_self]
    constructor
    ·intro e
     have ha':a=[108,105]:=by simpa using e
     have:=(h.1 hr).2
     show (ctxN rest).2=false
     cases hc:(ctxN rest).2 with
     | false=>rfl
     | true=>exact absurd ⟨hc,ha'⟩ this
    ·intro e
     have ha':a≠[108,105]:=by simpa using e
     unfold ctxN
     rw[if_neg hr]
     simp only[List.mem_cons,List.not_mem_nil,or_false] at ha
     rcases ha with rfl | rfl | rfl
     ·exact absurd rfl ha'
     ·simp
     ·simp
   ·rw[if_neg ha]
    have hge:(rest.reverse++[a])[innerN [[108,105],[117,108],[111,108]] rest]?=rest.reverse[innerN [[108,105],[117,108],[111,108]] rest]?:=List.getElem?_append_left (by rw[List.length_reverse];exact hlt)
    rw[List.reverse_cons,hge]
    simp only[List.mem_cons,List.not_mem_nil,or_false,not_or] at ha
    constructor
    ·intro e
     rw[List.length_cons,show rest.length+1 - innerN [[108,105],[117,108],[111,108]] rest=(rest.length - innerN [[108,105],[117,108],[111,108]] rest)+1 by omega,List.drop_succ_cons]
     exact ih.1 e
    ·intro e
     have:=ih.2 e
     unfold ctxN
     rw[if_neg hr]
     show ((ctxN rest).2 && decide (a≠[117,108]) && decide (a≠[111,108]) || decide (a=[108,105]))=false
     rw[this,decide_eq_false ha.1]
     rfl
theorem way_ctx (name:List UInt8) (r:List Nd) (t:List UInt8)(hr:r≠[])(hok:okN (r.map Nd.name))(hroot:r.getLast?.map Nd.name=some []):(name∈blocks->(ctxN ((wayR name r t).1.map Nd.name)).1=false)/\(name=[108,105]->(ctxN ((wayR name r t).1.map Nd.name)).2=false):=by
 have hlt:=innerR_lt [[112]] r hr
 have hc1:(closeIn [[112]] r t).1.map Nd.name=shutN [[112]] (r.map Nd.name):=by
  unfold closeIn shutN
  rw[<-inner_names,List.length_map]
  split
  ·exact close_names _ r t (by omega)
  ·rfl
 have hp:=p_closed _ hok
 rw[<-hc1] at hp
 have hok1:okN ((closeIn [[112]] r t).1.map Nd.name):=by
  rw[hc1]
  unfold shutN
  split
  ·exact okN_drop _ _ hok
  ·exact hok
 have hc:=closeIn_all [[112]] r t hr
 have hne:(closeIn [[112]] r t).1≠[]:=List.length_pos_iff.1 hc.1
 have hroot1:=(closeIn_root [[112]] r t hr).trans hroot
 obtain⟨r1,t1,e1⟩:∃ r1 t1,closeIn [[112]] r t=(r1,t1):=⟨_,_,rfl⟩
 rw[e1] at hp hok1 hne hroot1
 have hp:(ctxN (r1.map Nd.name)).1=false:=hp
 have hl:=li_closed _ hok1
 have hlt2:=innerR_lt [[108,105],[117,108],[111,108]] r1 hne
 unfold wayR
 rw[e1]
 by_cases hb:name∈blocks
 ·rw[if_pos hb]
  by_cases hli:name=[108,105]
  ·rw[if_pos hli]
   simp only[]
   have hget:r1.reverse[innerR [[108,105],[117,108],[111,108]] r1]?.map Nd.name=(r1.map Nd.name).reverse[innerN [[108,105],[117,108],[111,108]] (r1.map Nd.name)]?:=by
    rw[<-inner_names,<-List.map_reverse,List.getElem?_map]
   by_cases hh:r1.reverse[innerR [[108,105],[117,108],[111,108]] r1]?.map Nd.name=some [108,105]
   ·rw[if_pos hh]
    by_cases h0:innerR [[108,105],[117,108],[111,108]] r1=0
    ·exfalso
     rw[h0,<-List.head?_eq_getElem?,List.head?_reverse,hroot1] at hh
     exact absurd hh (by decide)
    ·have hcn:=close_names (r1.length - innerR [[108,105],[117,108],[111,108]] r1) r1 t1 (by omega)
     refine⟨fun _=>?_,fun _=>?_⟩
     ·rw[hcn]
      exact ctx_drop _ _ hp
     ·rw[hcn]
      have:=hl.1 (by rw[<-hget];exact hh)
      rw[List.length_map,<-inner_names] at this
      exact this
   ·rw[if_neg hh]
    exact⟨fun _=>hp,fun _=>hl.2 (by rw[<-hget];exact hh)⟩
  ·rw[if_neg hli]
   exact⟨fun _=>hp,fun e=>absurd e hli⟩
 ·rw[if_neg hb]
  exact⟨fun h=>absurd h hb,fun e=>absurd (by rw[e];decide) hb⟩
end Go.Proofs.YtkiofbikkhhdfabGreatDoor.Dm
namespace Go.Proofs.YtkiofbikkhhdfabGreatDoor.Dm
open Go.RowKit
open Utf1
theorem FineN_iff {bs vs:List (List UInt8)}(x:Nd) (p li pr:Bool):FineN bs vs x p li pr ↔ (x.name=[]->x.text≠[]/\x.kids=[]/\x.attrs=[]/\pr=false)/\(x.name≠[]->x.text=[]/\¬ (p=true/\x.name∈bs)/\¬ (li=true/\x.name=[108,105])/\(x.name∈vs->x.kids=[])/\FineL bs vs x.kids (p || decide (x.name=[112])) ((li && decide (x.name≠[117,108]) && decide (x.name≠[111,108])) || decide (x.name=[108,105])) false):=by
 cases x
 rw[FineN]
 exact Iff.rfl
theorem fine_textIn {bs vs:List (List UInt8)}(nd:Nd) (t:List UInt8) (p li:Bool)(h:FineL bs vs nd.kids p li false)(hl:lastT nd.kids false=false):FineL bs vs (textIn nd t).kids p li false:=by
 unfold textIn
 split
 ·exact h
 ·rename_i ht
  show FineL bs vs (nd.kids++[.mk [] [] t []]) p li false
  refine fine_app nd.kids _ p li false h ?_
  rw[FineN_iff]
  exact⟨fun _=>⟨ht,rfl,rfl,hl⟩,fun hn=>absurd rfl hn⟩
theorem deep_textIn (nd:Nd) (t:List UInt8):deepL (textIn nd t).kids=deepL nd.kids:=by
 unfold textIn
 split
 ·rfl
 ·show deepL (nd.kids++[.mk [] [] t []])=_
  rw[deepL_app]
  have:deepL [.mk [] [] t []]=0:=rfl
  omega
theorem kids_add (p x:Nd):(addKid p x).kids=p.kids++[x]:=by
 cases p
 rfl
def ctxR (r:List Nd):Bool × Bool:=ctxN (r.map Nd.name)
def okR:List Nd->Prop
 | []=>True
 | nd :: rest=>(rest≠[]->nd.name≠[]/\nd.text=[]/\nd.name ∉ voids)/\FineL blocks voids nd.kids (ctxR (nd :: rest)).1 (ctxR (nd :: rest)).2 false/\okR rest
def dpR:List Nd->Prop
 | []=>True
 | nd :: rest=>rest.length+deepL nd.kids<=65/\dpR rest
structure Fi (K:Nat) (r:List Nd):Prop where
 ok:okR r
 nm:okN (r.map Nd.name)
 lk:∀ nd q,r=nd :: q->lastT nd.kids false=false
 dp:dpR r
 len:r.length<=K
theorem ctx_same {a b:Nd}(r:List Nd)(h:a.name=b.name):ctxR (a :: r)=ctxR (b :: r):=by
 unfold ctxR
 rw[List.map_cons,List.map_cons,h]
theorem names_same {a b:Nd}(r:List Nd)(h:a.name=b.name):(a :: r).map Nd.name=(b :: r).map Nd.name:=by rw[List.map_cons,List.map_cons,h]
theorem ctx_in (nd p:Nd) (r:List Nd):ctxR (nd :: p :: r)=((ctxR (p :: r)).1 || decide (nd.name=[112]),((ctxR (p :: r)).2 && decide (nd.name≠[117,108]) && decide (nd.name≠[111,108])) || decide (nd.name=[108,105])):=by
 unfold ctxR
 rw[List.map_cons]
 rw[ctxN,if_neg (by simp)]
theorem close_fi (K:Nat):∀ nd p r,Fi K (nd :: p :: r)->∀ t,Fi K (addKid p (textIn nd t) :: r):=by
 intro nd p r h t
 obtain⟨⟨o1,o2,o3⟩,⟨n1,n2⟩,lk,⟨d1,d2⟩,len⟩:=h
 obtain⟨e1,e2,e3⟩:=o1 (by simp)
 have hlk:=lk nd (p :: r) rfl
 have hn:=n1 (by simp)
 have hX:FineN blocks voids (textIn nd t) (ctxR (p :: r)).1 (ctxR (p :: r)).2 (lastT p.kids false):=by
  rw[FineN_iff,textIn_name,textIn_text]
  refine⟨fun e=>absurd e e1,fun _=>⟨e2,hn.1,hn.2,fun e=>absurd e e3,?_⟩⟩
  refine fine_textIn nd t _ _ ?_ hlk
  rw[ctx_in] at o2
  exact o2
 obtain⟨q1,q2,q3⟩:=o3
 refine⟨⟨?_,?_,q3⟩,?_,?_,⟨?_,d2.2⟩,?_⟩
 ·intro hr
  rw[addKid_name,addKid_text]
  exact q1 hr
 ·rw[ctx_same r (addKid_name p (textIn nd t)),kids_add]
  exact fine_app _ _ _ _ _ q2 hX
 ·rw[names_same r (addKid_name p (textIn nd t))]
  exact n2
 ·intro a q e
  cases e
  rw[kids_add,lastT_snoc,textIn_name]
  exact decide_eq_false e1
 ·rw[kids_add,deepL_app]
  have h1:deepL [textIn nd t]=deepL nd.kids+1:=by
   rw[deepL,deepL,deepN_kids,textIn_name,if_neg e1,deep_textIn]
   omega
  have h2:=d2.1
  simp only[List.length_cons] at d1
  omega
 ·simp only[List.length_cons] at len ⊢
  omega
theorem start_fi {s:Bs}(hg:Good s) (name:List UInt8) (at':List (List UInt8 × List UInt8))(h:Fi (s.o+1) s.r)(ho:s.o<=64):Fi ((startB name at' s).o+1) (startB name at' s).r:=by
 have hw:=wayR_ind (Pr:=fun r _=>Fi (s.o+1) r) (fun nd p r t h=>close_fi _ nd p r h t) name s.r s.t h
 have hctx:=way_ctx name s.r s.t hg.ne h.nm hg.root
 unfold startB startR
 by_cases hn:name=[]
 ·rw[if_pos hn]
  exact h
 ·rw[if_neg hn]
  cases hh:(wayR name s.r s.t).1 with
  | nil=>exact h
  | cons nd q =>
   rw[hh] at hw hctx
   obtain⟨⟨o1,o2,o3⟩,n2,lk,⟨d1,d2⟩,len⟩:=hw
   have hlk:=lk nd q rfl
   simp only[]
   generalize (wayR name s.r s.t).2=t1
   have hk:=fine_textIn nd t1 _ _ o2 hlk
   have hdt:=deep_textIn nd t1
   simp only[List.length_cons] at len
   have hX:∀ pr,FineN blocks voids (.mk name at' [] []) (ctxR (nd :: q)).1 (ctxR (nd :: q)).2 pr:=by
    intro pr
    rw[FineN_iff]
    refine⟨fun e=>absurd e hn,fun _=>⟨rfl,?_,?_,fun _=>rfl,?_⟩⟩
    ·rintro ⟨e1,e2⟩
     have:=hctx.1 e2
     unfold ctxR at e1
     rw[this] at e1
     cases e1
    ·rintro ⟨e1,e2⟩
     have:=hctx.2 e2
     unfold ctxR at e1
     rw[this] at e1
     cases e1
    ·show FineL blocks voids [] _ _ _
     rw[FineL]
     trivial
   by_cases hv:name∈voids
   ·rw[if_pos hv]
    show Fi (s.o+1) (addKid (textIn nd t1) (.mk name at' [] []) :: q)
    have hnm:(addKid (textIn nd t1) (.mk name at' [] [])).name=nd.name:=by rw[addKid_name,textIn_name]
    refine⟨⟨?_,?_,o3⟩,?_,?_,⟨?_,d2⟩,by simp only[List.length_cons];exact len⟩
    ·intro hq
     rw[hnm,addKid_text,textIn_text]
     exact o1 hq
    ·rw[ctx_same q hnm,kids_add]
     exact fine_app _ _ _ _ _ hk (hX _)
    ·rw[names_same q hnm]
     exact n2
    ·intro a b e
     cases e
     rw[kids_add,lastT_snoc]
     exact decide_eq_false hn
    ·rw[kids_add,deepL_app,hdt]
     have h1:deepL [.mk name at' [] []]=1:=by
      rw[deepL,deepL,deepN,deepL,if_neg hn]
      rfl
     omega
   ·rw[if_neg hv]
    show Fi (max s.o (q.length+1)+1) (.mk name at' [] [] :: textIn nd t1 :: q)
    have hnm:=textIn_name nd t1
    refine⟨⟨fun _=>⟨hn,rfl,hv⟩,?_,?_,?_,o3⟩,⟨fun _=>?_,?_⟩,?_,⟨?_,?_,d2⟩,?_⟩
    ·show FineL blocks voids [] _ _ _
     rw[FineL]
     trivial
    ·intro hq
     rw[hnm,textIn_text]
     exact o1 hq
    ·rw[ctx_same q hnm]
     exact hk
    ·have hx:=((FineN_iff _ _ _ _).1 (hX false)).2 hn
     have e:ctxN ((textIn nd t1 :: q).map Nd.name)=ctxR (nd :: q):=by
      unfold ctxR
      rw[names_same q hnm]
     show ¬((ctxN ((textIn nd t1 :: q).map Nd.name)).1=true/\name∈blocks)/\¬((ctxN ((textIn nd t1 :: q).map Nd.name)).2=true/\name=[108,105])
     rw[e]
     exact⟨hx.2.1,hx.2.2.1⟩
    ·show okN ((textIn nd t1 :: q).map Nd.name)
     rw[names_same q hnm]
     exact n2
    ·intro a b e
     cases e
     rfl
    ·show (textIn nd t1 :: q).length+deepL []<=65
     simp only[List.length_cons,deepL]
     omega
    ·rw[hdt]
     exact d1
    ·simp only[List.length_cons]
     omega
theorem shut_fi {K:Nat}(a:Nat) (s:Bs)(h:Fi K s.r):Fi K (shutB a s).r :=
 closeR_ind (Pr:=fun r _=>Fi K r) (fun nd p r t h=>close_fi _ nd p r h t) _ s.r s.t h
theorem end_fi {s:Bs}(hg:Good s) (name:List UInt8)(h:Fi (s.o+1) s.r)(ho:s.o<=64):Fi ((endB name s).o+1) (endB name s).r:=by
 unfold endB
 split
 ·exact shut_fi _ s h
 ·split
  ·exact shut_fi _ _ (start_fi hg [112] [] h ho)
  ·split
   ·exact start_fi hg [98,114] [] h ho
   ·exact h
theorem take_fi {s:Bs}(hg:Good s) (k:Td)(h:Fi (s.o+1) s.r)(ho:s.o<=64):Fi ((takeB k s).o+1) (takeB k s).r:=by
 unfold takeB
 split
 ·exact h
 ·split
  ·exact start_fi hg _ _ h ho
  ·split
   ·exact end_fi hg _ h ho
   ·exact h
theorem run_fi:∀ (l:List Td) (s u:Bs),Good s->Fi (s.o+1) s.r->s.o<=64->runB l s=some u->Fi (u.o+1) u.r
 | [],s,u,_,h,_,e=>by
  cases e
  exact h
 | k :: l,s,u,hg,h,ho,e=>by
  unfold runB at e
  split at e
  ·rename_i hc
   exact run_fi l _ u (take_good hg k).1 (take_fi hg k h ho) hc.1 e
  ·cases e
theorem fi0:Fi (bs0.o+1) bs0.r:=⟨⟨fun h=>absurd rfl h,by show FineL blocks voids [] _ _ _;rw[FineL];trivial,trivial⟩,⟨fun h=>absurd rfl h,trivial⟩,fun nd q e=>by cases e;rfl,⟨by decide,trivial⟩,by decide⟩
theorem build_fine {l:List Td}{ns:List Nd}(h:buildB l=some ns):FineL blocks voids ns false false false/\deepL ns<=65:=by
 unfold buildB at h
 cases hr:runB l bs0 with
 | none=>rw[hr] at h;cases h
 | some u =>
  rw[hr] at h
  cases h
  have g:=(runB_good l bs0 u good0 (by decide) (by decide) hr).1
  have hf:=shut_fi 1 u (run_fi l bs0 u good0 fi0 (by decide) hr)
  have gs:=shut_good g (Nat.le_refl 1) (List.length_pos_iff.2 g.ne)
  obtain⟨nd,hnd⟩:=List.length_eq_one_iff.1 gs.2.2
  unfold treeB
  rw[hnd] at hf ⊢
  obtain⟨⟨_,o2,_⟩,_,lk,⟨d1,_⟩,_⟩:=hf
  show FineL blocks voids (textIn nd (shutB 1 u).t).kids false false false/\deepL (textIn nd (shutB 1 u).t).kids<=65
  refine⟨fine_textIn nd _ _ _ o2 (lk nd [] rfl),?_⟩
  rw[deep_textIn]
  simpa using d1
end Go.Proofs.YtkiofbikkhhdfabGreatDoor.Dm
namespace Utf1
def toTd (k:Tk):Td:=⟨(k.kind:Int),k.name,k.attrs,k.text⟩
mutual
theorem tdN_map:∀ x:Nd,(tkN x).map toTd=tdN x
 | .mk n a t k=>by
  rw[tkN,tdN]
  by_cases hn:n=[]
  ·rw[if_pos hn,if_pos hn]
   rfl
  ·rw[if_neg hn,if_neg hn]
   by_cases hv:n∈voids
   ·rw[if_pos hv,if_pos hv]
    rfl
   ·rw[if_neg hv,if_neg hv,List.map_cons,List.map_append,tdL_map k]
    rfl
theorem tdL_map:∀ l:List Nd,(tkL l).map toTd=tdL l
 | []=>by rw[tkL,tdL];rfl
 | x :: l=>by rw[tkL,tdL,List.map_append,tdN_map x,tdL_map l]
end
end Utf1
namespace San
open Utf1 Pol8 Saf
mutual
def gdN:Nd->Prop
 | .mk _ a t k=>Gd t/\(∀ kv∈a,Gd kv.2)/\gdL k
def gdL:List Nd->Prop
 | []=>True
 | x :: r=>gdN x/\gdL r
end
theorem gdN_kids (x:Nd):gdN x ↔ Gd x.text/\(∀ kv∈x.attrs,Gd kv.2)/\gdL x.kids:=by
 cases x
 rw[gdN]
 rfl
theorem gdL_app:∀ a b:List Nd,gdL (a++b) ↔ gdL a/\gdL b
 | [],b=>by simp[gdL]
 | x :: a,b=>by rw[List.cons_append,gdL,gdL,gdL_app a b,and_assoc]
theorem gd_txt {t:L}(h:Gd t):gdN (txt t):=by
 unfold txt
 rw[gdN]
 exact⟨h,(fun kv hkv=>by cases hkv),trivial⟩
theorem gd_ahead {t:L}{l:List Nd}(ht:Gd t)(h:gdL l):gdL (textAhead t l):=by
 unfold textAhead
 split
 ·exact h
 ·split
  ·exact⟨gd_txt ht,trivial⟩
  ·rename_i y q
   rw[gdL] at h
   split
   ·exact⟨gd_txt (gd_app ht ((gdN_kids y).1 h.1).1),h.2⟩
   ·exact⟨gd_txt ht,h⟩
theorem gd_join:∀ l:List Nd,gdL l->gdL (joinR l)
 | [],_=>by rw[joinR];exact trivial
 | x :: r,h=>by
  rw[gdL] at h
  rw[joinR_cons]
  split
  ·exact gd_ahead ((gdN_kids x).1 h.1).1 (gd_join r h.2)
  ·exact⟨h.1,gd_join r h.2⟩
theorem word_low {n:L}(h:isWord n=true):∀ c∈n,c.toNat < 128/\c.toNat≠0/\c.toNat≠13:=by
 intro c hc
 have:=of_decide_eq_true ((word_cs h).2 c hc)
 omega
theorem okv_low {v:L}(h:Sty.okv v=true):∀ c∈v,c.toNat < 128/\c.toNat≠0/\c.toNat≠13:=by
 unfold Sty.okv at h
 rw[Bool.and_eq_true,List.all_eq_true] at h
 intro c hc
 have:=of_decide_eq_true (h.2 c hc)
 omega
theorem emit_low:∀ (l:List Sty.NV) (acc:L),(∀ x∈l,(∀ c∈x.1,c.toNat < 128/\c.toNat≠0/\c.toNat≠13)/\∀ c∈x.2,c.toNat < 128/\c.toNat≠0/\c.toNat≠13)->(∀ c∈acc,c.toNat < 128/\c.toNat≠0/\c.toNat≠13)->∀ c∈l.foldl Sty.emit acc,c.toNat < 128/\c.toNat≠0/\c.toNat≠13
 | [],acc,_,h=>h
 | x :: r,acc,h1,h2=>by
  rw[List.foldl_cons]
  refine emit_low r _ (fun y hy=>h1 y (List.mem_cons_of_mem _ hy)) ?_
  obtain⟨k1,k2⟩:=h1 x (List.mem_cons_self ..)
  have sep1:∀ c∈([59,32]:L),c.toNat < 128/\c.toNat≠0/\c.toNat≠13:=by decide
  have sep2:∀ c∈([58,32]:L),c.toNat < 128/\c.toNat≠0/\c.toNat≠13:=by decide
  intro c hc
  unfold Sty.emit at hc
  rcases List.mem_append.1 hc with hc | hc
  ·rcases List.mem_append.1 hc with hc | hc
   ·rcases List.mem_append.1 hc with hc | hc
    ·split at hc
     ·cases hc
     ·rcases List.mem_append.1 hc with hc | hc
      ·exact h2 c hc
      ·exact sep1 c hc
    ·exact k1 c hc
   ·exact sep2 c hc
  ·exact k2 c hc
theorem filt_low {props:List L}(hp:∀ n∈props,isWord n=true) (v:L):Gd (Sty.filt props v):=by
 refine gd_ascii ?_
 unfold Sty.filt
 exact emit_low _ [] (fun x hx=>⟨word_low (hp x.1 (Sty.stay_keep hx).1),okv_low (Sty.stay_keep hx).2⟩) (fun c hc=>by cases hc)
theorem clsK_in (cl:List L):∀ (l acc:List L),(∀ x∈acc,x∈cl)->∀ x∈l.foldl (clsStep cl) acc,x∈cl
 | [],acc,h=>h
 | y :: r,acc,h=>by
  rw[List.foldl_cons]
  refine clsK_in cl r _ ?_
  unfold clsStep
  split
  ·rename_i hy
   intro x hx
   rcases List.mem_append.1 hx with hx | hx
   ·exact h x hx
   ·rw[List.mem_singleton.1 hx]
    exact hy.1
  ·exact h
theorem joinB_low:∀ l:List L,(∀ x∈l,∀ c∈x,c.toNat < 128/\c.toNat≠0/\c.toNat≠13)->∀ c∈joinB l,c.toNat < 128/\c.toNat≠0/\c.toNat≠13
 | [],_=>by simp[joinB]
 | [x],h=>h x (List.mem_cons_self ..)
 | x :: y :: r,h=>by
  rw[joinB]
  intro c hc
  rcases List.mem_append.1 hc with hc | hc
  ·exact h x (List.mem_cons_self ..) c hc
  ·rcases List.mem_cons.1 hc with e | hc
   ·rw[e]
    decide
   ·exact joinB_low (y :: r) (fun z hz=>h z (List.mem_cons_of_mem _ hz)) c hc
theorem gd_attrs {p:Pol}(hp:Right p) (e:L) {a:At}(h:∀ kv∈a,Gd kv.2):∀ kv∈attrsO p e a,Gd kv.2:=by
 intro kv hkv
 rcases mem_attrsO hkv with hkv | ⟨rfl,-⟩
 ·unfold atsK at hkv
  rw[List.mem_filterMap] at hkv
  obtain⟨x,hx,ho⟩:=hkv
  obtain⟨-,h4,-⟩:=atO_some ho
  rw[h4]
  show Gd (valO p x.1 x.2)
  unfold valO
  split
  ·exact filt_low (words_all hp.pr) _
  ·split
   ·refine gd_ascii (joinB_low _ (fun y hy=>word_low (words_all hp.cl y ?_)))
    exact clsK_in p.cl _ [] (fun z hz=>by cases hz) y hy
   ·exact h x hx
 ·exact gd_ascii (by decide)
mutual
theorem gd_allN {p:Pol}(hp:Right p):∀ x:Nd,gdN x->gdL (allN p x)
 | .mk n a t k,h=>by
  rw[gdN] at h
  rw[allN]
  split
  ·exact⟨gd_txt h.1,trivial⟩
  ·split
   ·exact trivial
   ·split
    ·rw[gdL,gdN]
     exact⟨⟨gd_nil,gd_attrs hp n h.2.1,gd_join _ (gd_allL hp k h.2.2)⟩,trivial⟩
    ·exact gd_allL hp k h.2.2
theorem gd_allL {p:Pol}(hp:Right p):∀ l:List Nd,gdL l->gdL (allL p l)
 | [],_=>by rw[allL];exact trivial
 | x :: r,h=>by
  rw[gdL] at h
  rw[allL,gdL_app]
  exact⟨gd_allN hp x h.1,gd_allL hp r h.2⟩
end
theorem gd_tree {p:Pol}(hp:Right p) {ns:List Nd}(h:gdL ns):gdL (treeL p ns):=gd_join _ (gd_allL hp ns h)
theorem nm_gd {o n:L}(ho:∀ c∈o,c.toNat < 128/\c.toNat≠0/\c.toNat≠13)(h:isNmL o n=true):Gd n:=by
 refine gd_ascii (fun c hc=>?_)
 cases n with
 | nil=>cases hc
 | cons d t =>
  rw[isNmL,Bool.and_eq_true,List.all_eq_true] at h
  have h1:=h.2 c hc
  unfold nmB isSm at h1
  rw[Bool.or_eq_true,Bool.or_eq_true,decide_eq_true_eq,decide_eq_true_eq,decide_eq_true_eq] at h1
  rcases h1 with (h1 | h1) | h1
  ·omega
  ·omega
  ·exact ho c h1
theorem gd_atsH:∀ {a:At},(∀ kv∈a,isNmL [45,95,58] kv.1=true)->(∀ kv∈a,Gd kv.2)->Gd (atsH a)
 | [],_,_=>gd_nil
 | kv :: r,h1,h2=>by
  rw[atsH]
  refine gd_app ?_ (gd_atsH (fun x hx=>h1 x (List.mem_cons_of_mem _ hx)) (fun x hx=>h2 x (List.mem_cons_of_mem _ hx)))
  have k1:=nm_gd (by decide) (h1 kv (List.mem_cons_self ..))
  have k2:=gd_esc' true (h2 kv (List.mem_cons_self ..))
  unfold atH
  have g:∀ l:L,(∀ c∈l,c.toNat < 128/\c.toNat≠0/\c.toNat≠13)->Gd l:=fun l h=>gd_ascii h
  exact gd_app (gd_app (gd_app (gd_app (g [32] (by decide)) k1) (g [61,34] (by decide))) k2) (g [34] (by decide))
mutual
theorem gd_htN:∀ (x:Nd) {p i b:Bool},stN p i b x=true->gdN x->Gd (htN x)
 | .mk n a t k,p,i,b,hs,h=>by
  rw[gdN] at h
  rw[htN]
  by_cases hn:n=[]
  ·rw[if_pos hn]
   exact gd_esc' false h.1
  ·rw[if_neg hn]
   obtain⟨-,k2,k3,-,-,k6⟩:=stN_elem hn hs
   unfold mayE at k2
   rw[Bool.and_eq_true] at k2
   unfold mayA at k3
   rw[Bool.and_eq_true,List.all_eq_true] at k3
   have hname:=nm_gd (by decide) k2.2
   refine gd_app (gd_app (gd_app (gd_app (gd_ascii (by decide)) hname) (gd_atsH k3.1 h.2.1)) (gd_ascii (by decide))) ?_
   by_cases hv:n∈voids
   ·rw[if_pos hv]
    exact gd_nil
   ·rw[if_neg hv]
    exact gd_app (gd_htL k (k6 hv) h.2.2) (gd_app (gd_app (gd_ascii (by decide)) hname) (gd_ascii (by decide)))
theorem gd_htL:∀ (l:List Nd) {p i b:Bool},stL p i b l=true->gdL l->Gd (htL l)
 | [],_,_,_,_,_=>by rw[htL];exact gd_nil
 | x :: r,p,i,b,hs,h=>by
  rw[stL,Bool.and_eq_true] at hs
  rw[gdL] at h
  rw[htL]
  exact gd_app (gd_htN x hs.1 h.1) (gd_htL r hs.2 h.2)
end
end San
namespace San
open Utf1 Pol8 Saf
structure BuildOk (B:List Tk->Option (List Nd)):Prop where
 nak:∀ s ns,B (toks s)=some ns->nakL false false ns/\plainL ns
 gd:∀ s ns,Gd s->B (toks s)=some ns->gdL ns
 page:∀ ns,stable ns=true->B (toks (htL ns))=some ns
def fitsT (p:Pol) (ns:List Nd):Bool:=decide ((ncL ns:Int)<=p.nd) && decide ((dpL ns:Int)<=p.dp)
def cleanF (B:List Tk->Option (List Nd)) (p:Pol) (s:L):L:=match B (toks s) with
 | none=>esc false s
 | some ns=>if fitsT p (treeL p ns)=true then htL (treeL p ns) else esc false s
theorem safe_stable {p:Pol}{ns:List Nd}(h:safeB p ns=true):stable ns=true/\fitsT p ns=true:=by
 unfold safeB at h
 rw[Bool.and_eq_true,Bool.and_eq_true,Bool.and_eq_true] at h
 refine⟨h.1,?_⟩
 unfold fitsT
 rw[h.2.1,h.2.2.1]
 rfl
theorem ht_txt (s:L):htL [txt s]=esc false s:=by
 rw[htL,htL,List.append_nil]
 unfold txt
 rw[htN,if_pos rfl]
def sole (s:L):List Nd:=if s=[] then [] else [txt s]
theorem ht_sole (s:L):htL (sole s)=esc false s:=by
 unfold sole
 split
 ·rename_i h
  rw[h,htL,esc_nil]
 ·exact ht_txt s
theorem safe_sole {p:Pol}(hp:Right p) (s:L):safeB p (sole s)=true:=by
 unfold sole
 split
 ·exact safe_nil hp
 ·rename_i h
  have:=safe_text hp s
  rw[decide_eq_true h] at this
  exact this
theorem clean_is {B:List Tk->Option (List Nd)}(hB:BuildOk B) {p:Pol}(hp:Right p) (s:L):∃ t,safeB p t=true/\cleanF B p s=htL t/\B (toks (cleanF B p s))=some t/\(Gd s->gdL t):=by
 have esc':∃ t,safeB p t=true/\esc false s=htL t/\B (toks (esc false s))=some t/\(Gd s->gdL t):=by
  have h:=safe_sole hp s
  refine⟨sole s,h,(ht_sole s).symm,?_,fun hs=>?_⟩
  ·rw[<-ht_sole]
   exact hB.page _ (safe_stable h).1
  ·unfold sole
   split
   ·exact trivial
   ·exact⟨gd_txt hs,trivial⟩
 unfold cleanF
 cases hb:B (toks s) with
 | none=>exact esc'
 | some ns =>
  simp only
  split
  ·rename_i hf
   have hf2:=hf
   unfold fitsT at hf2
   rw[Bool.and_eq_true,decide_eq_true_eq,decide_eq_true_eq] at hf2
   have h:=tree_safe hp (hB.nak s ns hb).1 hf2.1 hf2.2
   exact⟨treeL p ns,h,rfl,hB.page _ (safe_stable h).1,fun hs=>gd_tree hp (hB.gd s ns hs hb)⟩
  ·exact esc'
theorem clean_keeps {B:List Tk->Option (List Nd)}(hB:BuildOk B) {p:Pol}(hp:Right p) {t:List Nd}(h:safeB p t=true):cleanF B p (htL t)=htL t:=by
 obtain⟨h1,h2⟩:=safe_stable h
 unfold cleanF
 rw[hB.page t h1]
 simp only
 rw[tree_id hp h,if_pos h2]
theorem clean_again {B:List Tk->Option (List Nd)}(hB:BuildOk B) {p:Pol}(hp:Right p) (raw:L):fix (cleanF B p (fix raw))=cleanF B p (fix raw)/\cleanF B p (cleanF B p (fix raw))=cleanF B p (fix raw):=by
 obtain⟨t,h1,h2,-,h4⟩:=clean_is hB hp (fix raw)
 have hg:=h4 (gd_fix raw)
 rw[h2]
 refine⟨fix_gd (gd_htL t ((safe_iff _ _).1 h1).s hg),clean_keeps hB hp h1⟩
end San
namespace Utf1
open Go
def NameB (c:UInt8):Prop:=isNm c=false/\¬ (65<=c.toNat/\c.toNat<=90)
structure TkOk (t:Tk):Prop where
 kind:1<=t.kind/\t.kind<=4
 tag:(t.kind=2\/t.kind=3) ↔ t.name≠[]
 text:(t.kind=2\/t.kind=3)->t.text=[]
 only:t.kind≠2->t.closed=false/\t.attrs=[]
 nm:∀ c∈t.name,NameB c
 nodup:(t.attrs.map Prod.fst).Nodup
theorem tk_plain (k:Nat) (x:List UInt8)(h:k=1\/k=4):TkOk ⟨k,[],[],false,x⟩:=by
 refine⟨?_,?_,?_,?_,?_,?_⟩
 ·show 1<=k/\k<=4
  omega
 ·refine⟨fun h'=>?_,fun h'=>absurd rfl h'⟩
  simp only at h'
  omega
 ·intro h'
  simp only at h'
  omega
 ·exact fun _=>⟨rfl,rfl⟩
 ·intro c hc
  cases hc
 ·exact List.nodup_nil
theorem addAt_nodup (acc:List (List UInt8 × List UInt8)) (n v:List UInt8)(h:(acc.map Prod.fst).Nodup):((addAt acc n v).map Prod.fst).Nodup:=by
 unfold addAt
 split
 ·exact h
 ·rename_i hn
  rw[List.map_append,List.nodup_append]
  refine⟨h,by simp,?_⟩
  intro a ha b hb
  have:b=n:=by simpa using hb
  subst this
  intro e
  subst e
  exact hn ha
theorem attrsF_nodup:∀ (n:Nat) (acc:List (List UInt8 × List UInt8)) (s:List UInt8) (a:List (List UInt8 × List UInt8)) (cl:Bool) (r:List UInt8),(acc.map Prod.fst).Nodup->attrsF n acc s=some (a,cl,r)->(a.map Prod.fst).Nodup
 | 0,_,_,_,_,_,_,h=>by cases h
 | n+1,acc,s,a,cl,r,hn,h=>by
  unfold attrsF at h
  split at h
  ·cases h
  ·split at h
   ·cases h
    exact hn
   ·split at h
    ·cases h
    ·exact attrsF_nodup n _ _ _ _ _ (addAt_nodup _ _ _ hn) h
theorem let_nm {c:UInt8}(h:isLet c=true):isNm c=false/\c≠47:=by
 have hc:(97<=c.toNat/\c.toNat<=122)\/(65<=c.toNat/\c.toNat<=90):=by
  unfold isLet at h
  simp only[Bool.or_eq_true,Bool.and_eq_true,decide_eq_true_eq,UInt8.le_iff_toNat_le] at h
  exact h
 have k:∀ k:UInt8,k.toNat < 65->(c==k)=false:=by
  intro k hk
  refine beq_eq_false_iff_ne.2 ?_
  rintro rfl
  omega
 refine⟨?_,beq_eq_false_iff_ne.1 (k 47 (by decide))⟩
 unfold isNm isBl
 rw[k 9 (by decide),k 10 (by decide),k 12 (by decide),k 13 (by decide),k 32 (by decide),k 47 (by decide),k 62 (by decide)]
 rfl
theorem beg_body {l:List UInt8}(h:beg l=3):∃ c t,tagBody l=c :: t/\isLet c=true:=by
 cases l with
 | nil=>cases h
 | cons a t =>
  by_cases ha:a=60
  ·subst ha
   rw[beg_lt] at h
   cases t with
   | nil=>cases h
   | cons c u =>
    unfold beg1 at h
    simp only at h
    split at h
    ·cases h
    ·split at h
     ·cases h
     ·split at h
      ·rename_i hc
       refine⟨c,u,?_,hc⟩
       unfold tagBody
       rw[if_neg (show (60 :: c :: u).getD 1 0≠47 from (let_nm hc).2)]
       rfl
      ·split at h
       ·cases h
       ·rename_i h47
        have h47:c=47:=by simpa using h47
        subst h47
        cases u with
        | nil=>cases h
        | cons d v =>
         unfold beg2 at h
         simp only at h
         split at h
         ·rename_i hd
          refine⟨d,v,?_,hd⟩
          unfold tagBody
          rw[if_pos (by rfl)]
          rfl
         ·cases h
  ·rw[beg_ne t ha] at h
   cases h
theorem takeWhile_all {p:UInt8->Bool}:∀ (l:List UInt8),∀ c∈l.takeWhile p,p c=true
 | [],c,h=>by cases h
 | a :: t,c,h=>by
  rw[List.takeWhile_cons] at h
  split at h
  ·rename_i ha
   rcases List.mem_cons.1 h with rfl | h
   ·exact ha
   ·exact takeWhile_all t c h
  ·cases h
theorem low_nm (d:UInt8)(h:isNm d=false):isNm (low8 d)=false:=by
 unfold low8
 split
 ·rename_i hd
  have hs:SmallB (UInt8.ofNat (d.toNat+32)):=.inl (by rw[toNat_ofNat (by omega)];omega)
  exact (small_facts hs).1
 ·exact h
theorem name_bytes (s:List UInt8):∀ c∈lower (s.takeWhile (fun x=>!isNm x)),NameB c:=by
 intro c hc
 refine⟨?_,lower_no _ c hc⟩
 unfold lower at hc
 obtain⟨d,hd,rfl⟩:=List.mem_map.1 hc
 have:=takeWhile_all s d hd
 exact low_nm d (by simpa using this)
theorem tagOf_ok {l r:List UInt8}{k:Tk}(hb:beg l=3)(h:tagOf l=some (k,r)):TkOk k:=by
 obtain⟨c,t,hbody,hc⟩:=beg_body hb
 have hne:lower ((tagBody l).takeWhile (fun x=>!isNm x))≠[]:=by
  rw[hbody,List.takeWhile_cons,if_pos (by rw[(let_nm hc).1];rfl)]
  simp[lower]
 unfold tagOf at h
 split at h
 ·cases h
 ·rename_i a cl q he
  have hn:=attrsF_nodup _ _ _ _ _ _ (by simp) he
  cases h
  split
  ·refine⟨by simp,?_,fun _=>rfl,fun _=>⟨rfl,rfl⟩,name_bytes _,by simp⟩
   exact⟨fun _=>hne,fun _=>.inr rfl⟩
  ·refine⟨by simp,?_,fun _=>rfl,fun h=>absurd rfl h,name_bytes _,hn⟩
   exact⟨fun _=>hne,fun _=>.inl rfl⟩
theorem toksF_ok:∀ (n:Nat) (l:List UInt8),∀ t∈toksF n l,TkOk t
 | 0,_,t,h=>by cases h
 | _+1,[],t,h=>by cases h
 | n+1,c :: u,t,h=>by
  unfold toksF at h
  split at h
  ·rcases List.mem_cons.1 h with rfl | h
   ·exact tk_plain _ _ (.inr rfl)
   ·exact toksF_ok n _ t h
  ·split at h
   ·exact toksF_ok n _ t h
   ·split at h
    ·rename_i h3
     split at h
     ·cases h
     ·rename_i k r hk
      rcases List.mem_cons.1 h with rfl | h
      ·exact tagOf_ok h3 hk
      ·rcases List.mem_append.1 h with h | h
       ·unfold withRaw at h
        split at h
        ·split at h
         ·cases h
         ·split at h
          ·cases h
          ·rw[List.mem_singleton.1 h]
           exact tk_plain _ _ (.inl rfl)
        ·cases h
       ·exact toksF_ok n _ t h
    ·rcases List.mem_cons.1 h with rfl | h
     ·exact tk_plain _ _ (.inl rfl)
     ·exact toksF_ok n _ t h
theorem withRaw_cnt (t:Tk) (r:List UInt8):(withRaw t r).1.length+(withRaw t r).2.length<=r.length:=by
 unfold withRaw
 split
 ·split
  ·simp
  ·split
   ·simp
   ·rename_i h
    have:=rawLen_le t.name r
    simp
    omega
 ·simp
theorem toksF_many:∀ (n:Nat) (l:List UInt8),(toksF n l).length<=l.length
 | 0,_=>Nat.zero_le _
 | _+1,[]=>Nat.zero_le _
 | n+1,c :: u=>by
  unfold toksF
  split
  ·have h1:=cut_len ((c :: u).drop 4) [45,45,62] (by decide)
   have h2:=toksF_many n (Lib.cut ((c :: u).drop 4) [45,45,62]).2.1
   rw[List.length_drop] at h1
   simp only[List.length_cons] at h1 ⊢
   omega
  ·split
   ·have h1:=cut_len (c :: u) [62] (by decide)
    have h2:=toksF_many n (Lib.cut (c :: u) [62]).2.1
    omega
   ·split
    ·split
     ·exact Nat.zero_le _
     ·rename_i k r hk
      have h4:=tagOf_len hk
      have h5:=withRaw_cnt k r
      have h6:=toksF_many n (withRaw k r).2
      simp only[List.length_cons,List.length_append] at h4 ⊢
      omega
    ·rename_i h1 h2 h3
     have h0:beg (c :: u)=0:=by have:=beg_le (c :: u);omega
     have h6:=stop_pos c u h0
     have h7:=toksF_many n ((c :: u).drop (stop (c :: u)))
     rw[List.length_drop] at h7
     simp only[List.length_cons] at h7 ⊢
     omega
theorem toks_many (l:List UInt8):(toks l).length<=l.length:=toksF_many _ _
theorem toks_ok (l:List UInt8):∀ t∈toks l,TkOk t:=toksF_ok _ _
end Utf1
namespace San
open Utf1 Pol8 Saf
mutual
def evN (P:At->Prop) (T:L->Prop):Nd->Prop
 | .mk n a t k=>(n≠[]->P a)/\T t/\evL P T k
def evL (P:At->Prop) (T:L->Prop):List Nd->Prop
 | []=>True
 | x :: r=>evN P T x/\evL P T r
end
section
variable {P:At->Prop}{T:L->Prop}
theorem evN_kids (x:Nd):evN P T x ↔ (x.name≠[]->P x.attrs)/\T x.text/\evL P T x.kids:=by
 cases x
 rw[evN]
 rfl
theorem evL_app:∀ a b:List Nd,evL P T (a++b) ↔ evL P T a/\evL P T b
 | [],b=>by simp[evL]
 | x :: a,b=>by rw[List.cons_append,evL,evL,evL_app a b,and_assoc]
end
end San
namespace Go.Proofs.YtkiofbikkhhdfabGreatDoor.Dm
open Go.RowKit
open Utf1 San
section
variable {P:Saf.At->Prop}{T:San.L->Prop}
theorem ev_add {p x:Nd}(hp:evN P T p)(hx:evN P T x):evN P T (addKid p x):=by
 rw[evN_kids] at hp ⊢
 refine⟨hp.1,?_,?_⟩
 ·have:(addKid p x).text=p.text:=rfl
  rw[this]
  exact hp.2.1
 ·show evL P T (p.kids++[x])
  rw[evL_app]
  exact⟨hp.2.2,hx,trivial⟩
theorem ev_textIn {p:Nd}{t:San.L}(hp:evN P T p)(ht:T t):evN P T (textIn p t):=by
 unfold textIn
 split
 ·exact hp
 ·refine ev_add hp ?_
  rw[evN]
  exact⟨fun h=>absurd rfl h,ht,trivial⟩
theorem ev_close (h0:T []):∀ nd p r (t:San.L),(evL P T (nd :: p :: r)/\T t)->evL P T (addKid p (textIn nd t) :: r)/\T []:=by
 intro nd p r t ⟨h,ht⟩
 rw[evL,evL] at h
 refine⟨?_,h0⟩
 rw[evL]
 exact⟨ev_add h.2.1 (ev_textIn h.1 ht),h.2.2⟩
theorem ev_start (h0:T []) {s:Bs}(name:San.L) (at':Saf.At)(h:evL P T s.r/\T s.t)(hm:name≠[]->P at'):evL P T (startB name at' s).r/\T (startB name at' s).t:=by
 unfold startB startR
 by_cases hn:name=[]
 ·rw[if_pos hn]
  exact h
 ·rw[if_neg hn]
  have hw:evL P T (wayR name s.r s.t).1/\T (wayR name s.r s.t).2:=wayR_ind (Pr:=fun r t=>evL P T r/\T t) (fun nd p r t=>ev_close h0 nd p r t) name s.r s.t h
  cases hc:(wayR name s.r s.t).1 with
  | nil=>exact h
  | cons nd q =>
   rw[hc,evL] at hw
   have hx:evN P T (.mk name at' [] []):=by
    rw[evN]
    exact⟨fun _=>hm hn,h0,trivial⟩
   simp only
   split
   ·refine⟨?_,h0⟩
    show evL P T (addKid _ _ :: q)
    rw[evL]
    exact⟨ev_add (ev_textIn hw.1.1 hw.2) hx,hw.1.2⟩
   ·refine⟨?_,h0⟩
    show evL P T (_ :: textIn nd _ :: q)
    rw[evL,evL]
    exact⟨hx,ev_textIn hw.1.1 hw.2,hw.1.2⟩
theorem ev_shut (h0:T []) {s:Bs}(a:Nat)(h:evL P T s.r/\T s.t):evL P T (shutB a s).r/\T (shutB a s).t :=
 closeR_ind (Pr:=fun r t=>evL P T r/\T t) (fun nd p r t=>ev_close h0 nd p r t) (s.r.length - a) s.r s.t h
theorem ev_end (h0:T [])(hP:P []) {s:Bs}(name:San.L)(h:evL P T s.r/\T s.t):evL P T (endB name s).r/\T (endB name s).t:=by
 unfold endB
 split
 ·exact ev_shut h0 _ h
 ·split
  ·exact ev_shut h0 _ (ev_start h0 _ _ h (fun _=>hP))
  ·split
   ·exact ev_start h0 _ _ h (fun _=>hP)
   ·exact h
theorem ev_take (h0:T [])(hP:P [])(ha:∀ x y,T x->T y->T (x++y)) {s:Bs}(k:Td)(h:evL P T s.r/\T s.t)(hm:P k.attrs/\T k.text):evL P T (takeB k s).r/\T (takeB k s).t:=by
 unfold takeB
 split
 ·unfold textB
  simp only
  exact⟨h.1,ha _ _ h.2 hm.2⟩
 ·split
  ·exact ev_start h0 _ _ h (fun _=>hm.1)
  ·split
   ·exact ev_end h0 hP _ h
   ·exact h
theorem ev_run (h0:T [])(hP:P [])(ha:∀ x y,T x->T y->T (x++y)):∀ (l:List Td) (s u:Bs),(evL P T s.r/\T s.t)->(∀ k∈l,P k.attrs/\T k.text)->runB l s=some u->evL P T u.r/\T u.t
 | [],s,u,h,_,e=>by
  cases e
  exact h
 | k :: l,s,u,h,hm,e=>by
  unfold runB at e
  split at e
  ·exact ev_run h0 hP ha l _ u (ev_take h0 hP ha k h (hm k (List.mem_cons_self ..))) (fun x hx=>hm x (List.mem_cons_of_mem _ hx)) e
  ·cases e
theorem ev_build (h0:T [])(hP:P [])(ha:∀ x y,T x->T y->T (x++y)) {l:List Td}{ns:List Nd}(hm:∀ k∈l,P k.attrs/\T k.text)(h:buildB l=some ns):evL P T ns:=by
 unfold buildB at h
 cases hr:runB l bs0 with
 | none=>rw[hr] at h;cases h
 | some u =>
  rw[hr] at h
  have h:treeB u=ns:=by simpa using h
  have hb:evL P T bs0.r/\T bs0.t:=by
   refine⟨?_,h0⟩
   show evL P T [.mk [] [] [] []]
   rw[evL,evN]
   exact⟨⟨fun e=>absurd rfl e,h0,trivial⟩,trivial⟩
  have h1:=ev_shut h0 1 (ev_run h0 hP ha l bs0 u hb hm hr)
  rw[<-h]
  unfold treeB
  cases hs:(shutB 1 u).r with
  | nil=>exact trivial
  | cons nd q =>
   rw[hs,evL] at h1
   have h4:=ev_textIn h1.1.1 h1.2
   rw[evN_kids] at h4
   exact h4.2.2
end
theorem itm_fineN (li:Bool) (n:List UInt8):((li && decide (n≠[117,108]) && decide (n≠[111,108])) || decide (n=[108,105]))=Utf1.itm li n:=by
 unfold Utf1.itm
 by_cases h1:n=[108,105]
 ·rw[if_pos h1,decide_eq_true h1,Bool.or_true]
 ·rw[if_neg h1,decide_eq_false h1,Bool.or_false]
  by_cases h2:n=[117,108]
  ·rw[if_pos (.inl h2),decide_eq_false (by simp[h2]),Bool.and_false,Bool.false_and]
  ·by_cases h3:n=[111,108]
   ·rw[if_pos (.inr h3),decide_eq_false (by simp[h3]:¬ n≠[111,108]),Bool.and_false]
   ·rw[if_neg (fun h=>h.elim h2 h3),decide_eq_true h2,decide_eq_true h3,Bool.and_true,Bool.and_true]
mutual
theorem fine_nakN {T:San.L->Prop}:∀ (x:Nd) (p i b:Bool),FineN blocks voids x p i b->evN (fun a=>(a.map Prod.fst).Nodup) T x->nakN p i x/\plainN x
 | .mk n a t k,p,i,b,h,he=>by
  rw[FineN] at h
  rw[evN] at he
  rw[nakN,plainN]
  by_cases hn:n=[]
  ·obtain⟨-,h2,-,-⟩:=h.1 hn
   subst h2
   exact⟨fun e=>absurd hn e,fun _=>rfl,fun e=>absurd hn e,trivial⟩
  ·obtain⟨h1,h2,h3,h4,h5⟩:=h.2 hn
   rw[itm_fineN] at h5
   obtain⟨k1,k2⟩:=fine_nakL k _ _ _ h5 he.2.2
   refine⟨fun _=>⟨he.1 hn,?_,h4,k1⟩,fun e=>absurd e hn,fun _=>h1,k2⟩
   rw[Bool.or_eq_false_iff]
   constructor
   ·cases p with
    | false=>rfl
    | true=>rw[Bool.true_and];exact decide_eq_false (fun hb=>h2 ⟨rfl,hb⟩)
   ·cases i with
    | false=>rfl
    | true=>rw[Bool.true_and];exact decide_eq_false (fun hb=>h3 ⟨rfl,hb⟩)
theorem fine_nakL {T:San.L->Prop}:∀ (l:List Nd) (p i b:Bool),FineL blocks voids l p i b->evL (fun a=>(a.map Prod.fst).Nodup) T l->nakL p i l/\plainL l
 | [],_,_,_,_,_=>⟨trivial,trivial⟩
 | x :: l,p,i,b,h,he=>by
  rw[FineL] at h
  rw[evL] at he
  obtain⟨a1,a2⟩:=fine_nakN x p i b h.1 he.1
  obtain⟨b1,b2⟩:=fine_nakL l p i _ h.2 he.2
  exact⟨⟨a1,b1⟩,a2,b2⟩
end
mutual
theorem fine_gdN:∀ (x:Nd) (p i b:Bool),FineN blocks voids x p i b->evN (fun a=>∀ kv∈a,Gd kv.2) Gd x->gdN x
 | .mk n a t k,p,i,b,h,he=>by
  rw[FineN] at h
  rw[evN] at he
  rw[gdN]
  by_cases hn:n=[]
  ·obtain⟨-,h2,h3,-⟩:=h.1 hn
   subst h2
   subst h3
   exact⟨he.2.1,(fun kv hkv=>by cases hkv),trivial⟩
  ·obtain⟨-,-,-,-,h5⟩:=h.2 hn
   exact⟨he.2.1,he.1 hn,fine_gdL k _ _ _ h5 he.2.2⟩
theorem fine_gdL:∀ (l:List Nd) (p i b:Bool),FineL blocks voids l p i b->evL (fun a=>∀ kv∈a,Gd kv.2) Gd l->gdL l
 | [],_,_,_,_,_=>trivial
 | x :: l,p,i,b,h,he=>by
  rw[FineL] at h
  rw[evL] at he
  exact⟨fine_gdN x p i b h.1 he.1,fine_gdL l p i _ h.2 he.2⟩
end
def buildT (l:List Tk):Option (List Nd):=buildB (l.map toTd)
theorem buildT_ok:BuildOk buildT:=by
 refine⟨fun s ns h=>?_,fun s ns hs h=>?_,fun ns h=>?_⟩
 ·refine fine_nakL ns _ _ _ (build_fine h).1 (ev_build (P:=fun a=>(a.map Prod.fst).Nodup) (T:=fun _=>True) trivial (by simp) (fun _ _ _ _=>trivial) (fun k hk=>?_) h)
  obtain⟨x,hx,rfl⟩:=List.mem_map.1 hk
  exact⟨(toks_ok s x hx).nodup,trivial⟩
 ·refine fine_gdL ns _ _ _ (build_fine h).1 (ev_build (P:=fun a=>∀ kv∈a,Gd kv.2) (T:=Gd) gd_nil (fun kv hkv=>by cases hkv) (fun _ _=>gd_app) (fun k hk=>?_) h)
  obtain⟨x,hx,rfl⟩:=List.mem_map.1 hk
  have:=gd_toks hs x hx
  exact⟨fun kv hkv=>(this.a kv hkv).2,this.t⟩
 ·unfold buildT
  rw[toks_stable h,tdL_map]
  exact build_stable h
end Go.Proofs.YtkiofbikkhhdfabGreatDoor.Dm
namespace Utf1
open Go
def kw (k:Tk):Nat:=1+k.name.length+k.text.length+waL k.attrs
def kws:List Tk->Nat
 | []=>0
 | k :: r=>kw k+kws r
theorem kws_app:∀ a b,kws (a++b)=kws a+kws b
 | [],b=>by simp[kws]
 | k :: a,b=>by
  rw[List.cons_append,kws,kws,kws_app a b]
  omega
theorem two_len {α:Type}(p:α->Bool) (l:List α):(l.takeWhile p).length+(l.dropWhile p).length=l.length:=by
 rw[<-List.length_append,List.takeWhile_append_dropWhile]
theorem oneAt_sum {c:UInt8}{t nm v r:List UInt8}(h:oneAt c t=some (nm,v,r)):nm.length+v.length+r.length<=t.length+1/\1<=nm.length:=by
 have h1:=two_len (fun x=>!isAt x) t
 unfold oneAt at h
 have h2:=drop_le isBl (t.dropWhile (fun x=>!isAt x))
 split at h
 ·rename_i u hu
  rw[hu] at h2
  simp only[List.length_cons] at h2
  have h3:=drop_le isBl u
  split at h
  ·rename_i q v0 hv
   rw[hv] at h3
   simp only[List.length_cons] at h3
   split at h
   ·have h4:=two_len (fun x=>x != q) v0
    split at h
    ·cases h
    ·rename_i x r0 hr
     rw[hr] at h4
     simp only[List.length_cons] at h4
     cases h
     simp only[List.length_cons]
     omega
   ·have h4:=two_len (fun x=>!isVa x) (q :: v0)
    simp only[List.length_cons] at h4
    cases h
    simp only[List.length_cons]
    omega
  ·cases h
   simp only[List.length_cons,List.length_nil]
   omega
 ·rename_i s2 _
  cases h
  simp only[List.length_cons,List.length_nil]
  omega
theorem lower_len (l:List UInt8):(lower l).length=l.length:=by
 unfold lower
 rw[List.length_map]
theorem waL_add (acc:List (List UInt8 × List UInt8)) (n v:List UInt8):waL (addAt acc n v)<=waL acc+(1+n.length+v.length):=by
 unfold addAt
 split
 ·omega
 ·rw[waL_app]
  show _+(1+n.length+v.length+0)<=_
  omega
theorem attrsF_sum:∀ (n:Nat) (acc:List (List UInt8 × List UInt8)) (s:List UInt8) (a:List (List UInt8 × List UInt8)) (cl:Bool) (r:List UInt8),attrsF n acc s=some (a,cl,r)->waL a+2*r.length<=waL acc+2*s.length
 | 0,_,_,_,_,_,h=>by cases h
 | n+1,acc,s,a,cl,r,h=>by
  unfold attrsF at h
  have h1:=drop_le isGap s
  split at h
  ·cases h
  ·rename_i c t he
   rw[he] at h1
   simp only[List.length_cons] at h1
   split at h
   ·cases h
    omega
   ·split at h
    ·cases h
    ·rename_i nm v q h1a
     have h2:=oneAt_sum h1a
     have h3:=attrsF_sum n _ _ _ _ _ h
     have h4:=waL_add acc (lower nm) (res v)
     rw[lower_len] at h4
     have h5:=res_len v
     omega
theorem tagOf_sum {l r:List UInt8}{k:Tk}(hl:2<=l.length)(h:tagOf l=some (k,r)):kw k+2*r.length<=2*l.length:=by
 unfold tagOf at h
 split at h
 ·cases h
 ·rename_i a cl q he
  cases h
  have h1:=attrsF_sum _ _ _ _ _ _ he
  have h2:=two_len (fun x=>!isNm x) (tagBody l)
  have h3:(tagBody l).length+1<=l.length:=by
   unfold tagBody
   split <;> (rw[List.length_drop];omega)
  have hw:waL ([]:List (List UInt8 × List UInt8))=0:=rfl
  rw[hw] at h1
  split
  ·unfold kw
   simp only[lower_len,List.length_nil,hw]
   omega
  ·unfold kw
   simp only[lower_len,List.length_nil]
   omega
theorem withRaw_sum (t:Tk) (r:List UInt8):kws (withRaw t r).1+2*(withRaw t r).2.length<=2*r.length:=by
 unfold withRaw
 split
 ·split
  ·show 0+2*r.length<=_
   omega
  ·rename_i b _
   split
   ·show 0+2*r.length<=_
    omega
   ·rename_i hne
    have h1:=rawLen_le t.name r
    have h2:=res_len (r.take (rawLen t.name r))
    simp only[kws,kw,List.length_drop,List.length_nil]
    have hw:waL ([]:List (List UInt8 × List UInt8))=0:=rfl
    rw[hw]
    rw[List.length_take] at h2
    split
    ·omega
    ·rw[List.length_take]
     omega
 ·show 0+2*r.length<=_
  omega
theorem beg_len {l:List UInt8}(h:beg l=3):2<=l.length:=by
 match l,h with
 | [],h=>exact absurd h (by decide)
 | [c],h =>
  exfalso
  by_cases hc:c=60
  ·subst hc
   exact absurd h (by decide)
  ·rw[beg_ne [] hc] at h
   exact absurd h (by decide)
 | a :: b :: t,_=>simp
theorem cut_sum (s sep:List UInt8):(Lib.cut s sep).1.length+(Lib.cut s sep).2.1.length<=s.length:=by
 unfold Lib.cut
 split
 ·simp only[List.length_take,List.length_drop]
  omega
 ·simp
theorem toksF_sum:∀ (n:Nat) (l:List UInt8),kws (toksF n l)<=2*l.length
 | 0,l=>Nat.zero_le _
 | n+1,[]=>Nat.zero_le _
 | n+1,c :: t=>by
  unfold toksF
  by_cases h1:beg (c :: t)=1
  ·rw[if_pos h1,kws]
   have h2:=toksF_sum n (Lib.cut ((c :: t).drop 4) [45,45,62]).2.1
   have h3:=cut_sum ((c :: t).drop 4) [45,45,62]
   rw[List.length_drop] at h3
   simp only[kw,List.length_nil]
   have hw:waL ([]:List (List UInt8 × List UInt8))=0:=rfl
   rw[hw]
   have h4:1<=(c :: t).length:=by simp
   omega
  ·rw[if_neg h1]
   by_cases h2:beg (c :: t)=2
   ·rw[if_pos h2]
    have h3:=toksF_sum n (Lib.cut (c :: t) [62]).2.1
    have h4:=cut_sum (c :: t) [62]
    omega
   ·rw[if_neg h2]
    by_cases h3:beg (c :: t)=3
    ·rw[if_pos h3]
     split
     ·exact Nat.zero_le _
     ·rename_i k r hk
      have h4:=tagOf_sum (beg_len h3) hk
      have h5:=withRaw_sum k r
      have h6:=toksF_sum n (withRaw k r).2
      rw[kws,kws_app]
      omega
    ·rw[if_neg h3,kws]
     have hb:beg (c :: t)=0:=by
      have:=beg_le (c :: t)
      omega
     have h4:=stop_pos c t hb
     have h5:=stop_le (c :: t)
     have h6:=toksF_sum n ((c :: t).drop (stop (c :: t)))
     have h7:=res_len ((c :: t).take (stop (c :: t)))
     rw[List.length_drop] at h6
     rw[List.length_take] at h7
     simp only[kw,List.length_nil]
     have hw:waL ([]:List (List UInt8 × List UInt8))=0:=rfl
     rw[hw]
     omega
theorem toks_sum (l:List UInt8):kws (toks l)<=2*l.length:=toksF_sum _ _
end Utf1
