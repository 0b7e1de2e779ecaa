import Derived.Test.YtkiofbikkhhdfabGreatDoorMath
import Derived.Lib.SlTrimSet
namespace Pol8
open Go
abbrev L:=List UInt8
def lt (a b:L):Bool:=Op.bytesLess a b
def sm (c:UInt8):Bool:=decide (97<=c.toNat/\c.toNat<=122)
def wc (c:UInt8):Bool:=decide ((97<=c.toNat/\c.toNat<=122)\/(48<=c.toNat/\c.toNat<=57)\/c.toNat=45)
def isWord (l:L):Bool:=decide (1<=l.length/\l.length<=32) && (l.all wc && l.head?.any sm)
def chain:List L->Bool
 | []=>true
 | [_]=>true
 | a :: b :: r=>lt a b && chain (b :: r)
def rises (l:List L):Bool:=chain l && decide (l.length<=64)
def words (l:List L):Bool:=l.all isWord && rises l
def rawL:List L:=[[115,99,114,105,112,116],[115,116,121,108,101],[120,109,112],[105,102,114,97,109,101],[110,111,101,109,98,101,100],[110,111,102,114,97,109,101,115],[112,108,97,105,110,116,101,120,116]]
def rcL:List L:=[[116,101,120,116,97,114,101,97],[116,105,116,108,101]]
def isRaw (s:L):Bool:=decide (s∈rawL) || decide (s∈rcL)
def neverL:List L:=[[98,97,115,101],[101,109,98,101,100],[102,111,114,109],[105,110,112,117,116],[108,105,110,107],[109,97,116,104],[109,101,116,97],[111,98,106,101,99,116],[112,97,114,97,109],[115,101,108,101,99,116],[115,118,103],[116,101,109,112,108,97,116,101],[110,111,115,99,114,105,112,116],[102,114,97,109,101],[102,114,97,109,101,115,101,116]]
def never (s:L):Bool:=isRaw s || decide (s∈neverL)
def dot:L->Option (L × L)
 | []=>none
 | b :: l=>if b=46 then some ([],l) else (dot l).map fun x=>(b :: x.1,x.2)
theorem dot_none:∀ (p:L),(46:UInt8) ∉ p->dot p=none
 | [],_=>rfl
 | b :: p,h=>by
  have hb:b≠46:=fun e=>h (by simp[e])
  have hp:(46:UInt8) ∉ p:=fun e=>h (by simp[e])
  rw[dot,if_neg hb,dot_none p hp]
  rfl
theorem dot_some:∀ (a b:L),(46:UInt8) ∉ a->dot (a++46 :: b)=some (a,b)
 | [],b,_=>by simp[dot]
 | c :: a,b,h=>by
  have hb:c≠46:=fun e=>h (by simp[e])
  have hp:(46:UInt8) ∉ a:=fun e=>h (by simp[e])
  rw[List.cons_append,dot,if_neg hb,dot_some a b hp]
  rfl
def isOn (a:L):Bool:=decide (a.take 2=[111,110])
def srcdoc:L:=[115,114,99,100,111,99]
def formaction:L:=[102,111,114,109,97,99,116,105,111,110]
def style:L:=[115,116,121,108,101]
def may (a:L):Bool:=isWord a && (!isOn a && decide (a≠srcdoc/\a≠formaction/\a≠style))
def attrOk (el:List L) (s:L):Bool:=match dot s with
 | none=>false
 | some (n,a)=>decide (n=[42]\/n∈el) && may a
structure Pol where
 ep:Int
 el:List L
 at_:List L
 sc:List L
 cl:List L
 pr:List L
 dp:Int
 nd:Int
 bt:Int
def li:L:=[108,105]
def ul:L:=[117,108]
def ol:L:=[111,108]
def js:L:=[106,97,118,97,115,99,114,105,112,116]
def dat:L:=[100,97,116,97]
def vbs:L:=[118,98,115,99,114,105,112,116]
def caps (p:Pol):Bool:=decide ((1<=p.ep/\p.ep<=1000000)/\(1<=p.dp/\p.dp<=64)/\(1<=p.nd/\p.nd<=2000)/\(1<=p.bt/\p.bt<=16384))
def right (p:Pol):Bool:=caps p && ((words p.el && (rises p.at_ && (words p.sc && (words p.cl && words p.pr)))) && (p.el.all (fun e=>!never e) && (p.at_.all (attrOk p.el) && (decide (li∈p.el->ul∈p.el/\ol∈p.el) && decide (js ∉ p.sc/\dat ∉ p.sc/\vbs ∉ p.sc)))))
structure Right (p:Pol):Prop where
 c:(1<=p.ep/\p.ep<=1000000)/\(1<=p.dp/\p.dp<=64)/\(1<=p.nd/\p.nd<=2000)/\(1<=p.bt/\p.bt<=16384)
 el:words p.el=true
 at_:rises p.at_=true
 sc:words p.sc=true
 cl:words p.cl=true
 pr:words p.pr=true
 nv:∀ e∈p.el,never e=false
 ao:∀ a∈p.at_,attrOk p.el a=true
 ll:li∈p.el->ul∈p.el/\ol∈p.el
 ss:js ∉ p.sc/\dat ∉ p.sc/\vbs ∉ p.sc
theorem right_iff (p:Pol):right p=true ↔ Right p:=by
 unfold right caps
 simp only[Bool.and_eq_true,decide_eq_true_eq,List.all_eq_true,Bool.not_eq_true']
 constructor
 ·rintro ⟨h1,⟨h2,h3,h4,h5,h6⟩,h7,h8,h9,h10⟩
  exact⟨h1,h2,h3,h4,h5,h6,h7,h8,h9,h10⟩
 ·rintro ⟨h1,h2,h3,h4,h5,h6,h7,h8,h9,h10⟩
  exact⟨h1,⟨h2,h3,h4,h5,h6⟩,h7,h8,h9,h10⟩
def segs (c:UInt8):L->List L
 | []=>[[]]
 | b :: l=>if b=c then [] :: segs c l else
  match segs c l with
  | []=>[[b]]
  | x :: r=>(b :: x) :: r
theorem segs_ne (c:UInt8) (l:L):segs c l≠[]:=by
 cases l with
 | nil=>simp[segs]
 | cons b l =>
  unfold segs
  split
  ·simp
  ·split <;> simp
theorem segs_end (c:UInt8):∀ (p:L),c ∉ p->segs c p=[p]
 | [],_=>rfl
 | b :: p,h=>by
  have hb:b≠c:=fun e=>h (by simp[e])
  have hp:c ∉ p:=fun e=>h (by simp[e])
  rw[segs,if_neg hb,segs_end c p hp]
theorem segs_app (c:UInt8):∀ (a r:L),segs c (a++c :: r)=segs c a++segs c r
 | [],r=>by simp[segs]
 | b :: a,r=>by
  by_cases hb:b=c
  ·rw[List.cons_append,segs,if_pos hb,segs,if_pos hb,segs_app c a r,List.cons_append]
  ·rw[List.cons_append,segs,if_neg hb,segs,if_neg hb,segs_app c a r]
   cases h:segs c a with
   | nil=>exact absurd h (segs_ne c a)
   | cons x q=>simp
theorem segs_semi (c:UInt8) (p r:L)(h:c ∉ p):segs c (p++c :: r)=p :: segs c r:=by
 rw[segs_app,segs_end c p h]
 rfl
theorem wc_no (c:UInt8)(hc:wc c=false) {l:L}(h:isWord l=true):c ∉ l:=by
 intro hm
 unfold isWord at h
 rw[Bool.and_eq_true,Bool.and_eq_true,List.all_eq_true] at h
 have:=h.2.1 c hm
 rw[this] at hc
 cases hc
theorem words_all {l:List L}(h:words l=true):∀ x∈l,isWord x=true:=by
 unfold words at h
 rw[Bool.and_eq_true,List.all_eq_true] at h
 exact h.1
def star (a:L):L:=42 :: a.dropWhile (fun c=>decide (c≠46))
def sub (a b:List L):Bool:=a.all fun x=>decide (x∈b)
def stricter (p q:Pol):Bool:=p.at_.all (fun a=>decide (a∈q.at_\/star a∈q.at_)) && (sub p.el q.el && (sub p.sc q.sc && (sub p.cl q.cl && (sub p.pr q.pr && decide (p.dp<=q.dp/\p.nd<=q.nd/\p.bt<=q.bt)))))
def attrB (p:Pol) (e a:L):Bool:=decide (e∈p.el) && decide ((42 :: 46 :: a)∈p.at_\/(e++46 :: a)∈p.at_)
structure Str (p q:Pol):Prop where
 at_:∀ a∈p.at_,a∈q.at_\/star a∈q.at_
 el:∀ x∈p.el,x∈q.el
 sc:∀ x∈p.sc,x∈q.sc
 cl:∀ x∈p.cl,x∈q.cl
 pr:∀ x∈p.pr,x∈q.pr
 c:p.dp<=q.dp/\p.nd<=q.nd/\p.bt<=q.bt
theorem str_iff (p q:Pol):stricter p q=true ↔ Str p q:=by
 unfold stricter sub
 simp only[Bool.and_eq_true,decide_eq_true_eq,List.all_eq_true]
 constructor
 ·rintro ⟨h1,h2,h3,h4,h5,h6⟩
  exact⟨h1,h2,h3,h4,h5,h6⟩
 ·rintro ⟨h1,h2,h3,h4,h5,h6⟩
  exact⟨h1,h2,h3,h4,h5,h6⟩
theorem dw_app (e a:L)(h:(46:UInt8) ∉ e):(e++46 :: a).dropWhile (fun c=>decide (c≠46))=46 :: a:=by
 induction e with
 | nil=>rw[List.nil_append,List.dropWhile_cons,if_neg (by decide)]
 | cons c e ih =>
  rw[List.cons_append,List.dropWhile_cons,if_pos (by
   apply decide_eq_true
   intro hc
   exact h (by simp[hc]))]
  exact ih (fun hm=>h (by simp[hm]))
theorem lets_more {p q:Pol}(h:Str p q) {e a:L}(he:(46:UInt8) ∉ e)(hp:attrB p e a=true):attrB q e a=true:=by
 unfold attrB at hp ⊢
 rw[Bool.and_eq_true,decide_eq_true_eq,decide_eq_true_eq] at hp ⊢
 refine⟨h.el e hp.1,?_⟩
 have key:∀ x,star x=42 :: 46 :: a->x∈p.at_->(42 :: 46 :: a)∈q.at_\/x∈q.at_:=fun x hx hm=>by
  rcases h.at_ x hm with g | g
  ·exact .inr g
  ·rw[hx] at g
   exact .inl g
 rcases hp.2 with g | g
 ·rcases key _ (by
   unfold star
   exact congrArg (42 :: ·) (dw_app [42] a (by decide))) g with g | g
  ·exact .inl g
  ·exact .inl g
 ·rcases key _ (by
   unfold star
   rw[dw_app e a he]) g with g | g
  ·exact .inl g
  ·exact .inr g
end Pol8
namespace Sty
open Go
open Utf1
abbrev L:=List UInt8
def cutset:L:=[9,10,12,13,32]
def okc (c:UInt8):Bool:=decide ((97<=c.toNat/\c.toNat<=122)\/(48<=c.toNat/\c.toNat<=57)\/c.toNat=32\/c.toNat=35\/c.toNat=37\/c.toNat=46\/c.toNat=44\/c.toNat=45)
def okv (l:L):Bool:=decide (1<=l.length/\l.length<=100/\l.head?≠some 32/\l.getLast?≠some 32) && l.all okc
def pl (l:L):L:=lower (Lib.trimS l cutset)
def segs:L->List L
 | []=>[[]]
 | b :: l=>if b=59 then [] :: segs l else
  match segs l with
  | []=>[[b]]
  | x :: r=>(b :: x) :: r
theorem segs_ne (l:L):segs l≠[]:=by
 cases l with
 | nil=>simp[segs]
 | cons b l =>
  unfold segs
  split
  ·simp
  ·split <;> simp
theorem segs_end:∀ (p:L),(59:UInt8) ∉ p->segs p=[p]
 | [],_=>rfl
 | b :: p,h=>by
  have hb:b≠59:=fun e=>h (by simp[e])
  have hp:(59:UInt8) ∉ p:=fun e=>h (by simp[e])
  rw[segs,if_neg hb,segs_end p hp]
theorem segs_app:∀ (a r:L),segs (a++59 :: r)=segs a++segs r
 | [],r=>by simp[segs]
 | b :: a,r=>by
  by_cases hb:b=59
  ·rw[List.cons_append,segs,if_pos hb,segs,if_pos hb,segs_app a r,List.cons_append]
  ·rw[List.cons_append,segs,if_neg hb,segs,if_neg hb,segs_app a r]
   cases h:segs a with
   | nil=>exact absurd h (segs_ne a)
   | cons x q=>simp
theorem segs_semi (p r:L)(h:(59:UInt8) ∉ p):segs (p++59 :: r)=p :: segs r:=by
 rw[segs_app,segs_end p h]
 rfl
def part:L->Option (L × L)
 | []=>none
 | b :: l=>if b=58 then some ([],l) else (part l).map fun x=>(b :: x.1,x.2)
theorem part_none:∀ (p:L),(58:UInt8) ∉ p->part p=none
 | [],_=>rfl
 | b :: p,h=>by
  have hb:b≠58:=fun e=>h (by simp[e])
  have hp:(58:UInt8) ∉ p:=fun e=>h (by simp[e])
  rw[part,if_neg hb,part_none p hp]
  rfl
theorem part_some:∀ (a b:L),(58:UInt8) ∉ a->part (a++58 :: b)=some (a,b)
 | [],b,_=>by simp[part]
 | c :: a,b,h=>by
  have hb:c≠58:=fun e=>h (by simp[e])
  have hp:(58:UInt8) ∉ a:=fun e=>h (by simp[e])
  rw[List.cons_append,part,if_neg hb,part_some a b hp]
  rfl
theorem part_len:∀ (p a b:L),part p=some (a,b)->a.length+b.length+1=p.length
 | [],a,b,h=>by simp[part] at h
 | c :: p,a,b,h=>by
  rw[part] at h
  by_cases hc:c=58
  ·rw[if_pos hc] at h
   simp at h
   obtain⟨rfl,rfl⟩:=h
   simp
  ·rw[if_neg hc] at h
   cases hp:part p with
   | none=>rw[hp] at h;simp at h
   | some x =>
    rw[hp] at h
    simp at h
    obtain⟨rfl,rfl⟩:=h
    have:=part_len p x.1 x.2 hp
    simp
    omega
abbrev NV:=L × L
def pp (p:L):Option NV:=(part p).map fun x=>(pl x.1,pl x.2)
def keep (props:List L) (x:NV):Bool:=decide (x.1∈props) && okv x.2
def prts (s:L):List NV:=(segs s).filterMap pp
def stay (props:List L) (s:L):List NV:=(prts s).filter (keep props)
def lastOnly:List NV->List NV
 | []=>[]
 | x :: r=>if x.1∈r.map Prod.fst then lastOnly r else x :: lastOnly r
def emit (acc:L) (x:NV):L:=(if acc=[] then [] else acc++[59,32])++x.1++[58,32]++x.2
def filt (props:List L) (s:L):L:=(lastOnly (stay props s)).foldl emit []
def isLast (st:List NV) (i:Nat):Prop:=∀ k x y,i < k->st[k]?=some x->st[i]?=some y->x.1≠y.1
open Classical in
noncomputable def outTo (st:List NV):Nat->L
 | 0=>[]
 | i+1=>if isLast st i then match st[i]? with
   | some x=>emit (outTo st i) x
   | none=>outTo st i
  else outTo st i
open Classical in
theorem outTo_from (st:List NV):∀ (suf:List NV) (i:Nat),st.drop i=suf->outTo st st.length=(lastOnly suf).foldl emit (outTo st i)\/st.length < i
 | [],i,h=>by
  have hi:st.length<=i:=by simpa using h
  by_cases e:i=st.length
  ·left;subst e;rfl
  ·right;omega
 | x :: suf,i,h=>by
  left
  have hi:i < st.length:=by
   have:=congrArg List.length h
   simp at this
   omega
  have hx:st[i]?=some x:=by
   have:=congrArg List.head? h
   rw[List.head?_drop] at this
   simpa using this
  have hd:st.drop (i+1)=suf:=by
   have:=congrArg List.tail h
   rw[List.tail_drop] at this
   simpa using this
  have ih:=(outTo_from st suf (i+1) hd).resolve_right (by omega)
  have key:isLast st i ↔ x.1 ∉ suf.map Prod.fst:=by
   constructor
   ·intro hl hm
    obtain⟨y,hy,e⟩:=List.mem_map.1 hm
    obtain⟨j,hj⟩:=List.mem_iff_getElem?.1 hy
    rw[<-hd,List.getElem?_drop] at hj
    exact hl (i+1+j) y x (by omega) hj hx e
   ·intro hm k a b hk ha hb e
    rw[hx] at hb
    cases hb
    apply hm
    refine List.mem_map.2 ⟨a,?_,e⟩
    rw[<-hd]
    refine List.mem_iff_getElem?.2 ⟨k - (i+1),?_⟩
    rw[List.getElem?_drop,show i+1+(k - (i+1))=k by omega]
    exact ha
  rw[ih,outTo,lastOnly,hx]
  by_cases hl:isLast st i
  ·rw[if_pos hl,if_neg (key.1 hl)]
   rfl
  ·rw[if_neg hl,if_pos (by
    by_cases hm:x.1∈suf.map Prod.fst
    ·exact hm
    ·exact absurd (key.2 hm) hl)]
theorem outTo_all (st:List NV):outTo st st.length=(lastOnly st).foldl emit []:=by
 rcases outTo_from st st 0 rfl with h | h
 ·exact h
 ·exact absurd h (by omega)
theorem outTo_last (st:List NV) (i:Nat) (x:NV)(h:isLast st i)(hx:st[i]?=some x):outTo st (i+1)=emit (outTo st i) x:=by
 rw[outTo,if_pos h,hx]
theorem outTo_skip (st:List NV) (i:Nat)(h:¬ isLast st i):outTo st (i+1)=outTo st i:=by
 rw[outTo,if_neg h]
theorem dropWhile_len (f:UInt8->Bool):∀ l:L,(l.dropWhile f).length<=l.length
 | []=>Nat.le_refl _
 | b :: l=>by
  rw[List.dropWhile_cons]
  split
  ·have:=dropWhile_len f l
   simp
   omega
  ·exact Nat.le_refl _
theorem trimS_len (l cs:L):(Lib.trimS l cs).length<=l.length:=by
 unfold Lib.trimS Lib.trimLeftS Lib.trimRightS
 refine Nat.le_trans (dropWhile_len _ _) ?_
 rw[List.length_reverse]
 refine Nat.le_trans (dropWhile_len _ _) ?_
 rw[List.length_reverse]
 exact Nat.le_refl _
theorem lower_len (l:L):(lower l).length=l.length:=by simp[lower]
theorem pl_len (l:L):(pl l).length<=l.length:=by
 unfold pl
 rw[lower_len]
 exact trimS_len _ _
def wt (l:List NV):Nat:=(l.map fun x=>x.1.length+x.2.length+4).sum
theorem segs_len:∀ s:L,((segs s).map fun p=>p.length+1).sum=s.length+1
 | []=>by simp[segs]
 | b :: s=>by
  have ih:=segs_len s
  rw[segs]
  split
  ·simp
   omega
  ·split
   ·rename_i h;exact absurd h (segs_ne s)
   ·rename_i x r h
    rw[h] at ih
    simp at ih ⊢
    omega
theorem prts_wt_aux:∀ ps:List L,wt (ps.filterMap pp)<=3*((ps.map fun p=>p.length+1).sum)
 | []=>by simp[wt]
 | p :: ps=>by
  have ih:=prts_wt_aux ps
  cases h:pp p with
  | none =>
   rw[List.filterMap_cons_none h]
   simp
   omega
  | some x =>
   rw[List.filterMap_cons_some h]
   have hx:x.1.length+x.2.length+1<=p.length:=by
    unfold pp at h
    cases hp:part p with
    | none=>rw[hp] at h;simp at h
    | some y =>
     rw[hp] at h
     simp at h
     subst h
     have:=part_len p y.1 y.2 hp
     have h1:=pl_len y.1
     have h2:=pl_len y.2
     simp
     omega
   unfold wt at ih ⊢
   simp
   omega
theorem prts_wt (s:L):wt (prts s)<=3*(s.length+1):=by
 rw[<-segs_len s]
 exact prts_wt_aux _
theorem wt_filter (f:NV->Bool):∀ l:List NV,wt (l.filter f)<=wt l
 | []=>Nat.le_refl _
 | x :: l=>by
  have ih:=wt_filter f l
  rw[List.filter_cons]
  unfold wt at ih ⊢
  split <;> simp <;> omega
theorem wt_last:∀ l:List NV,wt (lastOnly l)<=wt l
 | []=>Nat.le_refl _
 | x :: l=>by
  have ih:=wt_last l
  rw[lastOnly]
  unfold wt at ih ⊢
  split <;> simp <;> omega
theorem emit_len (acc:L) (x:NV):(emit acc x).length<=acc.length+(x.1.length+x.2.length+4):=by
 unfold emit
 split
 ·simp;omega
 ·simp;omega
theorem fold_len:∀ (l:List NV) (acc:L),(l.foldl emit acc).length<=acc.length+wt l
 | [],acc=>by simp[wt]
 | x :: l,acc=>by
  have ih:=fold_len l (emit acc x)
  have:=emit_len acc x
  rw[List.foldl_cons]
  unfold wt at ih ⊢
  simp
  omega
theorem outTo_len (st:List NV):∀ i,(outTo st i).length<=wt (st.take i)
 | 0=>by simp[outTo,wt]
 | i+1=>by
  have ih:=outTo_len st i
  have hmon:wt (st.take i)<=wt (st.take (i+1)):=by
   rw[List.take_add_one]
   unfold wt
   simp
  by_cases hl:isLast st i
  ·cases hx:st[i]? with
   | none =>
    have:outTo st (i+1)=outTo st i:=by rw[outTo,if_pos hl,hx]
    rw[this]
    omega
   | some x =>
    rw[outTo_last st i x hl hx]
    have:=emit_len (outTo st i) x
    have hw:wt (st.take (i+1))=wt (st.take i)+(x.1.length+x.2.length+4):=by
     rw[List.take_add_one,hx]
     unfold wt
     simp
    omega
  ·rw[outTo_skip st i hl]
   omega
theorem wt_take (st:List NV) (i:Nat):wt (st.take i)<=wt st:=by
 have h:wt st=wt (st.take i)+wt (st.drop i):=by
  have:=congrArg wt (List.take_append_drop i st).symm
  rw[this]
  unfold wt
  rw[List.map_append,List.sum_append]
 omega
structure Good (x:NV):Prop where
 n58:(58:UInt8) ∉ x.1
 n59:(59:UInt8) ∉ x.1
 v59:(59:UInt8) ∉ x.2
 pn:pl x.1=x.1
 pn':pl (32 :: x.1)=x.1
 pv:pl (32 :: x.2)=x.2
theorem pp_item (x:NV)(h:Good x):pp (x.1++[58,32]++x.2)=some x:=by
 unfold pp
 rw[show x.1++[58,32]++x.2=x.1++58 :: (32 :: x.2) by simp,part_some _ _ h.n58]
 simp[h.pn,h.pv]
theorem pp_item' (x:NV)(h:Good x):pp (32 :: (x.1++[58,32]++x.2))=some x:=by
 unfold pp
 rw[show 32 :: (x.1++[58,32]++x.2)=(32 :: x.1)++58 :: (32 :: x.2) by simp,part_some _ _ (by
  intro e
  rcases List.mem_cons.1 e with e | e
  ·exact absurd e (by decide)
  ·exact h.n58 e)]
 simp[h.pn',h.pv]
theorem item_59 (x:NV)(h:Good x):(59:UInt8) ∉ x.1++[58,32]++x.2:=by
 intro e
 rw[List.mem_append,List.mem_append] at e
 rcases e with (e | e) | e
 ·exact h.n59 e
 ·revert e;decide
 ·exact h.v59 e
theorem prts_app (a b:L):prts (a++59 :: b)=prts a++prts b:=by
 unfold prts
 rw[segs_app,List.filterMap_append]
theorem prts_one (p:L)(h:(59:UInt8) ∉ p) (x:NV)(hx:pp p=some x):prts p=[x]:=by
 unfold prts
 rw[segs_end p h,List.filterMap_cons_some hx]
 rfl
theorem emit_ne (acc:L) (x:NV):emit acc x≠[]:=by
 unfold emit
 intro h
 have:=congrArg List.length h
 simp at this
theorem prts_fold:∀ (l:List NV) (acc:L),(∀ x∈l,Good x)->acc≠[]->prts (l.foldl emit acc)=prts acc++l
 | [],acc,_,_=>by simp
 | x :: l,acc,hg,hn=>by
  have hx:=hg x (by simp)
  rw[List.foldl_cons,prts_fold l (emit acc x) (fun y hy=>hg y (by simp[hy])) (emit_ne acc x)]
  have:emit acc x=acc++59 :: (32 :: (x.1++[58,32]++x.2)):=by
   unfold emit
   rw[if_neg hn]
   simp
  rw[this,prts_app,prts_one (32 :: (x.1++[58,32]++x.2)) (by
   intro e
   rcases List.mem_cons.1 e with e | e
   ·exact absurd e (by decide)
   ·exact item_59 x hx e) x (pp_item' x hx)]
  simp
theorem prts_all (l:List NV)(hg:∀ x∈l,Good x):prts (l.foldl emit [])=l:=by
 cases l with
 | nil=>simp[prts,segs,pp,part]
 | cons x l =>
  have hx:=hg x (by simp)
  rw[List.foldl_cons,prts_fold l (emit [] x) (fun y hy=>hg y (by simp[hy])) (emit_ne [] x)]
  have:emit [] x=x.1++[58,32]++x.2:=by simp[emit]
  rw[this,prts_one _ (item_59 x hx) x (pp_item x hx)]
  rfl
theorem last_mem:∀ (l:List NV) (x:NV),x∈lastOnly l->x∈l
 | [],x,h=>by simp[lastOnly] at h
 | y :: l,x,h=>by
  rw[lastOnly] at h
  split at h
  ·exact List.mem_cons_of_mem _ (last_mem l x h)
  ·rcases List.mem_cons.1 h with h | h
   ·simp[h]
   ·exact List.mem_cons_of_mem _ (last_mem l x h)
theorem last_fst:∀ (l:List NV) (n:L),n∈(lastOnly l).map Prod.fst ↔ n∈l.map Prod.fst
 | [],n=>by simp[lastOnly]
 | y :: l,n=>by
  have ih:=last_fst l n
  rw[lastOnly]
  split
  ·rename_i hy
   rw[ih,List.map_cons,List.mem_cons]
   constructor
   ·intro h;exact Or.inr h
   ·rintro (h | h)
    ·rw[h];exact hy
    ·exact h
  ·rw[List.map_cons,List.map_cons,List.mem_cons,List.mem_cons,ih]
theorem last_last:∀ l:List NV,lastOnly (lastOnly l)=lastOnly l
 | []=>rfl
 | y :: l=>by
  have ih:=last_last l
  by_cases hy:y.1∈l.map Prod.fst
  ·rw[lastOnly,if_pos hy,ih]
  ·rw[lastOnly,if_neg hy,lastOnly,if_neg (by rw[last_fst];exact hy),ih]
theorem trim_id (l:L)(h1:∀ b,l.head?=some b->cutset.contains b=false)(h2:∀ b,l.getLast?=some b->cutset.contains b=false):Lib.trimS l cutset=l:=by
 have hr:Lib.trimRightS l cutset=l:=by
  unfold Lib.trimRightS
  cases h:l.reverse with
  | nil=>have:=congrArg List.reverse h;simpa using this.symm
  | cons b r =>
   have hb:l.getLast?=some b:=by rw[<-List.head?_reverse,h];rfl
   rw[List.dropWhile_cons,if_neg (by rw[h2 b hb];decide),<-h,List.reverse_reverse]
 unfold Lib.trimS
 rw[hr]
 unfold Lib.trimLeftS
 cases l with
 | nil=>rfl
 | cons b r=>rw[List.dropWhile_cons,if_neg (by rw[h1 b rfl];decide)]
theorem lower_id (l:L)(h:∀ b∈l,¬ (65<=b.toNat/\b.toNat<=90)):lower l=l:=by
 unfold lower
 conv=>rhs;rw[<-List.map_id l]
 apply List.map_congr_left
 intro b hb
 unfold low8
 rw[if_neg (h b hb)]
 rfl
theorem dw_all (f:UInt8->Bool) (a r:L)(ha:∀ b∈a,f b=true):(a++r).dropWhile f=r.dropWhile f:=by
 induction a with
 | nil=>rfl
 | cons b a ih =>
  rw[List.cons_append,List.dropWhile_cons,if_pos (ha b (by simp))]
  exact ih fun c hc=>ha c (by simp[hc])
theorem trim_around (a l z:L)(hl:l≠[])(ha:∀ b∈a,cutset.contains b=true)(hz:∀ b∈z,cutset.contains b=true)(h:Lib.trimS l cutset=l)(h1:∀ b,l.head?=some b->cutset.contains b=false)(h2:∀ b,l.getLast?=some b->cutset.contains b=false):Lib.trimS (a++l++z) cutset=l:=by
 have hr:Lib.trimRightS (a++l++z) cutset=a++l:=by
  unfold Lib.trimRightS
  rw[List.reverse_append,dw_all _ z.reverse _ (fun b hb=>hz b (List.mem_reverse.1 hb)),List.reverse_append]
  cases hc:l.reverse with
  | nil=>exact absurd (by have:=congrArg List.reverse hc;simpa using this) hl
  | cons b r =>
   have hb:l.getLast?=some b:=by rw[<-List.head?_reverse,hc];rfl
   rw[List.cons_append,List.dropWhile_cons,if_neg (by rw[h2 b hb];decide),<-List.cons_append,<-hc,List.reverse_append,List.reverse_reverse,List.reverse_reverse]
 unfold Lib.trimS
 rw[hr]
 unfold Lib.trimLeftS
 rw[dw_all _ a l ha]
 cases l with
 | nil=>rfl
 | cons b r=>rw[List.dropWhile_cons,if_neg (by rw[h1 b rfl];decide)]
theorem set_not (b:UInt8)(h:b.toNat≠9)(h1:b.toNat≠10)(h2:b.toNat≠12)(h3:b.toNat≠13)(h4:b.toNat≠32):cutset.contains b=false:=by
 unfold cutset
 rw[Bool.eq_false_iff]
 intro e
 have e:=List.contains_iff_mem.1 e
 simp at e
 rcases e with rfl | rfl | rfl | rfl | rfl <;> simp at *
theorem okc_not (b:UInt8)(h:okc b=true)(h32:b≠32):cutset.contains b=false:=by
 have h32':b.toNat≠32:=fun e=>h32 (by have:=UInt8.toNat_inj.1 (show b.toNat=(32:UInt8).toNat from e);exact this)
 have h:=of_decide_eq_true h
 exact set_not b (by omega) (by omega) (by omega) (by omega) h32'
theorem okv_ends {v:L}(h:okv v=true):v≠[]/\(∀ b∈v,okc b=true)/\(∀ b,v.head?=some b->cutset.contains b=false)/\(∀ b,v.getLast?=some b->cutset.contains b=false):=by
 unfold okv at h
 rw[Bool.and_eq_true,decide_eq_true_eq,List.all_eq_true] at h
 obtain⟨⟨h1,h2,h3,h4⟩,h5⟩:=h
 refine⟨fun e=>by rw[e] at h1;simp at h1,h5,fun b hb=>?_,fun b hb=>?_⟩
 ·exact okc_not b (h5 b (List.mem_of_mem_head? hb)) fun e=>h3 (by rw[<-e];exact hb)
 ·exact okc_not b (h5 b (List.mem_of_mem_getLast? hb)) fun e=>h4 (by rw[<-e];exact hb)
theorem okv_pl {v:L}(h:okv v=true) (a z:L)(ha:∀ b∈a,cutset.contains b=true)(hz:∀ b∈z,cutset.contains b=true):pl (a++v++z)=v:=by
 obtain⟨h0,h1,h2,h3⟩:=okv_ends h
 unfold pl
 rw[trim_around a v z h0 ha hz (trim_id v h2 h3) h2 h3]
 refine lower_id v fun b hb=>?_
 have:=of_decide_eq_true (h1 b hb)
 omega
theorem stay_keep {props:List L}{s:L}{x:NV}(h:x∈lastOnly (stay props s)):x.1∈props/\okv x.2=true:=by
 have:=(List.mem_filter.1 (last_mem _ _ h)).2
 unfold keep at this
 rw[Bool.and_eq_true,decide_eq_true_eq] at this
 exact this
end Sty
