import Derived.Test.YtkiofbikkhhdfabGreatDoorMath
namespace Utf1
open Go
theorem encode_er (r:Nat)(hs:Scalar r):Utf8.encode (r:Int)=⟨(er r).toArray⟩:=by
 have hv:=(valid_iff r).2 hs
 unfold Scalar at hs
 have e:∀ (a:ByteArray) (l:List UInt8),a.data.toList=l->a=⟨l.toArray⟩:=by
  intro a l h
  subst h
  rfl
 refine e _ _ ?_
 by_cases h1:r<=127
 ·have c1:r < 128:=by omega
  rw[er1 h1]
  simp[Utf8.encode,hv,c1]
 ·have c1:¬ r < 128:=by omega
  by_cases h2:r<=2047
  ·have c2:r < 2048:=by omega
   rw[er2 (by omega) h2]
   simp[Utf8.encode,hv,c1,c2]
  ·have c2:¬ r < 2048:=by omega
   by_cases h3:r<=65535
   ·have c3:r < 65536:=by omega
    rw[er3 (by omega)]
    simp[Utf8.encode,hv,c1,c2,c3]
   ·have c3:¬ r < 65536:=by omega
    rw[er4 (by omega) (by omega)]
    simp[Utf8.encode,hv,c1,c2,c3]
def names:List (List UInt8 × Nat):=[([97,109,112],38),([108,116],60),([103,116],62),([113,117,111,116],34),([97,112,111,115],39),([110,98,115,112],160),([99,111,112,121],169),([114,101,103],174),([100,101,103],176),([109,105,100,100,111,116],183),([108,97,113,117,111],171),([114,97,113,117,111],187),([116,105,109,101,115],215),([101,97,99,117,116,101],233),([110,100,97,115,104],8211),([109,100,97,115,104],8212),([108,115,113,117,111],8216),([114,115,113,117,111],8217),([108,100,113,117,111],8220),([114,100,113,117,111],8221),([104,101,108,108,105,112],8230),([101,117,114,111],8364)]
def lookN:List (List UInt8 × Nat)->List UInt8->Option Nat
 | [],_=>none
 | p :: r,l=>if p.1=l then some p.2 else lookN r l
def named (l:List UInt8):Option Nat:=lookN names l
theorem lookN_mem:∀ (t:List (List UInt8 × Nat)) (l:List UInt8) (r:Nat),lookN t l=some r->(l,r)∈t
 | [],_,_,h=>by cases h
 | p :: t,l,r,h=>by
  unfold lookN at h
  split at h
  ·rename_i e
   cases h
   subst e
   exact List.mem_cons_self ..
  ·exact List.mem_cons_of_mem _ (lookN_mem t l r h)
theorem names_facts:∀ p∈names,2<=p.1.length/\p.1.length<=6/\p.2 < 55296/\p.2≠0/\p.2≠13:=by decide
theorem named_facts {l:List UInt8}{r:Nat}(h:named l=some r):2<=l.length/\l.length<=6/\Scalar r:=by
 have:=names_facts _ (lookN_mem _ _ _ h)
 exact⟨this.1,this.2.1,.inl this.2.2.1⟩
def dig (c:Nat):Nat:=if 48<=c/\c<=57 then c - 48 else if 97<=c/\c<=102 then c - 87 else if 65<=c/\c<=70 then c - 55 else 99
def num (b acc:Nat):List UInt8->Option Nat
 | []=>some acc
 | c :: t=>if dig c.toNat < b then num b (acc*b+dig c.toNat) t else none
def chN (n:Nat):Nat:=if n=0\/n=13\/(55296<=n/\n<=57343)\/1114111 < n then 65533 else n
theorem chN_scalar (n:Nat):Scalar (chN n):=by
 unfold chN Scalar
 split <;> omega
def numS (b:Nat) (l:List UInt8):Option Nat:=if l=[] then none else (num b 0 l).map chN
def sfN (t:List UInt8):Option Nat :=
 match t with
 | []=>none
 | x :: d=>if x=120\/x=88 then (if 6 < d.length then none else numS 16 d) else (if 6 < d.length then none else numS 10 (x :: d))
def sf (l:List UInt8):Option Nat :=
 match l with
 | []=>none
 | c :: t=>if c=35 then sfN t else named (c :: t)
theorem numS_scalar {b:Nat}{l:List UInt8}{r:Nat}(h:numS b l=some r):Scalar r:=by
 unfold numS at h
 split at h
 ·cases h
 ·cases hn:num b 0 l with
  | none=>rw[hn] at h;cases h
  | some n=>rw[hn] at h;cases h;exact chN_scalar n
theorem numS_ne {b:Nat}{l:List UInt8}{r:Nat}(h:numS b l=some r):1<=l.length:=by
 unfold numS at h
 split at h
 ·cases h
 ·rename_i e
  have:l.length≠0:=by simpa using e
  omega
theorem sf_facts {l:List UInt8}{r:Nat}(h:sf l=some r):2<=l.length/\l.length<=8/\Scalar r:=by
 cases l with
 | nil=>cases h
 | cons c t =>
  unfold sf at h
  simp only at h
  split at h
  ·cases t with
   | nil=>cases h
   | cons x d =>
    unfold sfN at h
    simp only at h
    split at h
    ·split at h
     ·cases h
     ·have h1:=numS_scalar h
      have h2:=numS_ne h
      simp only[List.length_cons]
      exact⟨by omega,by omega,h1⟩
    ·split at h
     ·cases h
     ·have h1:=numS_scalar h
      simp only[List.length_cons]
      exact⟨by omega,by omega,h1⟩
  ·have:=named_facts h
   exact⟨this.1,by omega,this.2.2⟩
theorem dig_low' (c:Nat):dig (lowN c)=dig c:=by
 unfold lowN
 by_cases h:65<=c/\c<=90
 ·rw[if_pos h]
  unfold dig
  by_cases h2:c<=70
  ·rw[if_neg (by omega),if_pos (by omega),if_neg (by omega),if_neg (by omega),if_pos (by omega)]
   omega
  ·rw[if_neg (by omega),if_neg (by omega),if_neg (by omega),if_neg (by omega),if_neg (by omega),if_neg (by omega)]
 ·rw[if_neg h]
theorem num_lower (b:Nat):∀ (l:List UInt8) (acc:Nat),num b acc (lower l)=num b acc l
 | [],_=>rfl
 | c :: t,acc=>by
  show num b acc (low8 c :: lower t)=_
  unfold num
  rw[low8_toNat,dig_low',num_lower b t]
theorem numS_lower (b:Nat) (l:List UInt8):numS b (lower l)=numS b l:=by
 unfold numS
 rw[num_lower]
 cases l <;> simp[lower]
theorem num_bound (b:Nat):∀ (l:List UInt8) (acc n:Nat),num b acc l=some n->n < (acc+1)*b ^ l.length
 | [],acc,n,h=>by
  simp only[num] at h
  cases h
  simp
 | c :: t,acc,n,h=>by
  unfold num at h
  split at h
  ·rename_i hd
   have:=num_bound b t _ n h
   have h2:(acc*b+dig c.toNat+1)<=(acc+1)*b:=by
    rw[Nat.add_mul,Nat.one_mul]
    omega
   refine Nat.lt_of_lt_of_le this ?_
   rw[List.length_cons,Nat.pow_succ,Nat.mul_comm (b ^ t.length) b,<-Nat.mul_assoc]
   exact Nat.mul_le_mul_right _ h2
  ·cases h
def refAt (t:List UInt8):Option (Nat × Nat) :=
 if t.findIdx (·==59) < t.length/\t.findIdx (·==59)<=8 then (sf (t.take (t.findIdx (·==59)))).map fun r=>(r,t.findIdx (·==59)+1) else none
theorem refAt_facts {t:List UInt8}{r k:Nat}(h:refAt t=some (r,k)):3<=k/\k<=9/\k<=t.length/\Scalar r:=by
 unfold refAt at h
 split at h
 ·rename_i hc
  cases hs:sf (t.take (t.findIdx (·==59))) with
  | none=>rw[hs] at h;cases h
  | some q =>
   rw[hs] at h
   cases h
   have:=sf_facts hs
   rw[List.length_take] at this
   refine⟨by omega,by omega,by omega,this.2.2⟩
 ·cases h
def resF:Nat->List UInt8->List UInt8
 | 0,_=>[]
 | _+1,[]=>[]
 | n+1,c :: t=>match (if c=38 then refAt t else none) with
  | some (r,k)=>er r++resF n (t.drop k)
  | none=>c :: resF n t
def res (l:List UInt8):List UInt8:=resF l.length l
theorem resF_more:∀ (n m:Nat) (l:List UInt8),l.length<=n->l.length<=m->resF n l=resF m l
 | 0,m,l,hn,_=>by
  have:l=[]:=List.length_eq_zero_iff.1 (by omega)
  subst this
  cases m <;> rfl
 | n+1,0,l,_,hm=>by
  have:l=[]:=List.length_eq_zero_iff.1 (by omega)
  subst this
  rfl
 | n+1,m+1,[],_,_=>rfl
 | n+1,m+1,c :: t,hn,hm=>by
  simp only[List.length_cons] at hn hm
  unfold resF
  cases (if c=38 then refAt t else none) with
  | none=>simp only;rw[resF_more n m t (by omega) (by omega)]
  | some p =>
   obtain⟨r,k⟩:=p
   simp only
   rw[resF_more n m (t.drop k) (by rw[List.length_drop];omega) (by rw[List.length_drop];omega)]
theorem res_nil:res []=[]:=rfl
theorem res_plain (c:UInt8) (t:List UInt8)(h:c≠38):res (c :: t)=c :: res t:=by
 unfold res
 rw[List.length_cons,resF,if_neg h]
theorem res_none (t:List UInt8)(h:refAt t=none):res (38 :: t)=38 :: res t:=by
 unfold res
 rw[List.length_cons,resF,if_pos rfl,h]
theorem res_some (t:List UInt8) (r k:Nat)(h:refAt t=some (r,k)):res (38 :: t)=er r++res (t.drop k):=by
 unfold res
 rw[List.length_cons,resF,if_pos rfl,h]
 simp only
 rw[resF_more t.length (t.drop k).length (t.drop k) (by rw[List.length_drop];omega) (Nat.le_refl _)]
def refOf (q:Bool) (r:Nat):List UInt8 :=
 if r=38 then [38,97,109,112,59] else if r=60 then [38,108,116,59] else if r=62 then [38,103,116,59] else if r=160 then [38,110,98,115,112,59]
 else if r=34/\q=true then [38,113,117,111,116,59] else []
def esc1 (q:Bool) (l:List UInt8):List UInt8:=if refOf q (dl l).1=[] then l.take (dl l).2 else refOf q (dl l).1
def escF (q:Bool):Nat->List UInt8->List UInt8
 | 0,_=>[]
 | n+1,l=>if l=[] then [] else esc1 q l++escF q n (l.drop (dl l).2)
def esc (q:Bool) (l:List UInt8):List UInt8:=escF q l.length l
theorem escF_more (q:Bool):∀ (n m:Nat) (l:List UInt8),l.length<=n->l.length<=m->escF q n l=escF q m l
 | 0,m,l,hn,_=>by
  have:l=[]:=List.length_eq_zero_iff.1 (by omega)
  subst this
  cases m <;> rfl
 | n+1,0,l,_,hm=>by
  have:l=[]:=List.length_eq_zero_iff.1 (by omega)
  subst this
  rfl
 | n+1,m+1,l,hn,hm=>by
  unfold escF
  by_cases hl:l=[]
  ·rw[if_pos hl,if_pos hl]
  ·have hw:=dl_width l hl
   rw[if_neg hl,if_neg hl,escF_more q n m _ (by rw[List.length_drop];omega) (by rw[List.length_drop];omega)]
theorem esc_nil (q:Bool):esc q []=[]:=rfl
theorem esc_step (q:Bool) (l:List UInt8)(hl:l≠[]):esc q l=esc1 q l++esc q (l.drop (dl l).2):=by
 have hw:=dl_width l hl
 unfold esc
 obtain⟨k,hk⟩:∃ k,l.length=k+1:=⟨l.length - 1,by omega⟩
 rw[hk,escF,if_neg hl,escF_more q k (l.drop (dl l).2).length _ (by rw[List.length_drop];omega) (Nat.le_refl _)]
theorem refOf_width (q:Bool) (l:List UInt8)(hl:l≠[])(h:refOf q (dl l).1≠[]):(dl l).2=(er (dl l).1).length/\l=er (dl l).1++l.drop (dl l).2:=by
 rcases dl_cases l hl with⟨_,hd⟩ | ⟨r,t,hr,he,hd,_⟩
 ·rw[hd] at h
  exact absurd (by cases q <;> rfl) h
 ·rw[hd]
  refine⟨rfl,?_⟩
  simp only
  rw[he,List.drop_left]
end Utf1
namespace Utf1
open Go
theorem refAt_at (t:List UInt8) (i:Nat)(hi:i < t.length)(h8:i<=8)(hno:∀ j (hj:j < i),t[j]'(by omega)≠59)(h:t[i]=59):refAt t=(sf (t.take i)).map fun r=>(r,i+1):=by
 have e:t.findIdx (·==59)=i:=by
  rw[List.findIdx_eq hi]
  refine⟨by rw[h];rfl,fun j hj=>?_⟩
  have:=hno j hj
  simpa using this
 unfold refAt
 rw[e,if_pos ⟨hi,h8⟩]
theorem res_app (a b:List UInt8)(h:∀ c∈a,c≠38):res (a++b)=a++res b:=by
 induction a with
 | nil=>rfl
 | cons c a ih =>
  rw[List.cons_append,res_plain c _ (h c (List.mem_cons_self ..)),ih (fun x hx=>h x (List.mem_cons_of_mem _ hx))]
  rfl
theorem res_len (l:List UInt8):(res l).length<=l.length:=by
 induction h:l.length using Nat.strongRecOn generalizing l with
 | ind n ih =>
  cases l with
  | nil=>rw[res_nil];simp
  | cons c t =>
   simp only[List.length_cons] at h
   by_cases hc:c=38
   ·subst hc
    cases hr:refAt t with
    | none =>
     rw[res_none t hr]
     have:=ih t.length (by omega) t rfl
     simp only[List.length_cons]
     omega
    | some p =>
     obtain⟨r,k⟩:=p
     have hf:=refAt_facts hr
     have:=ih (t.drop k).length (by rw[List.length_drop];omega) (t.drop k) rfl
     rw[List.length_drop] at this
     have he:=er_len r
     rw[res_some t r k hr,List.length_append]
     omega
   ·rw[res_plain c t hc]
    have:=ih t.length (by omega) t rfl
    simp only[List.length_cons]
    omega
theorem res_body (b:List UInt8) (n:Nat) (x:List UInt8)(hb:b.length<=8)(hno:∀ c∈b,c≠59)(hs:sf b=some n):res (38 :: (b++59 :: x))=er n++res x:=by
 have hr:refAt (b++59 :: x)=some (n,b.length+1):=by
  rw[refAt_at (b++59 :: x) b.length (by simp) hb (fun j hj=>?_) (by simp)]
  ·rw[List.take_left,hs]
   rfl
  ·rw[List.getElem_append_left hj]
   exact hno _ (List.getElem_mem ..)
 rw[res_some _ _ _ hr]
 have hd:(b++59 :: x).drop (b.length+1)=x:=by
  rw[show b++59 :: x=(b++[59])++x by simp,List.drop_left' (by simp)]
 rw[hd]
theorem res_ref (q:Bool) (r:Nat)(h:refOf q r≠[]) (x:List UInt8):res (refOf q r++x)=er r++res x:=by
 unfold refOf at h ⊢
 have key:∀ (b:List UInt8) (n:Nat),b.length<=8->(∀ c∈b,c≠59)->sf b=some n->res (38 :: (b++59 :: x))=er n++res x:=fun b n hb hno hs=>res_body b n x hb hno hs
 split at h <;> rename_i h1
 ·subst h1;rw[if_pos rfl];exact key [97,109,112] 38 (by decide) (by decide) (by decide)
 ·rw[if_neg h1]
  split at h <;> rename_i h2
  ·subst h2;rw[if_pos rfl];exact key [108,116] 60 (by decide) (by decide) (by decide)
  ·rw[if_neg h2]
   split at h <;> rename_i h3
   ·subst h3;rw[if_pos rfl];exact key [103,116] 62 (by decide) (by decide) (by decide)
   ·rw[if_neg h3]
    split at h <;> rename_i h4
    ·subst h4;rw[if_pos rfl];exact key [110,98,115,112] 160 (by decide) (by decide) (by decide)
    ·rw[if_neg h4]
     split at h <;> rename_i h5
     ·rw[if_pos h5]
      obtain⟨rfl,_⟩:=h5
      exact key [113,117,111,116] 34 (by decide) (by decide) (by decide)
     ·exact absurd rfl h
theorem refOf_bytes (q:Bool) (r:Nat):∀ x∈refOf q r,x≠60/\x≠62/\x≠34:=by
 unfold refOf
 split
 ·decide
 ·split
  ·decide
  ·split
   ·decide
   ·split
    ·decide
    ·split
     ·decide
     ·decide
theorem refOf_lens (q:Bool) (r:Nat)(h:refOf q r≠[]):4<=(refOf q r).length/\(refOf q r).length<=6:=by
 unfold refOf at h ⊢
 split at h <;> rename_i h1
 ·rw[if_pos h1];decide
 ·rw[if_neg h1]
  split at h <;> rename_i h2
  ·rw[if_pos h2];decide
  ·rw[if_neg h2]
   split at h <;> rename_i h3
   ·rw[if_pos h3];decide
   ·rw[if_neg h3]
    split at h <;> rename_i h4
    ·rw[if_pos h4];decide
    ·rw[if_neg h4]
     split at h <;> rename_i h5
     ·rw[if_pos h5];decide
     ·exact absurd rfl h
theorem refOf_nil (q:Bool) (r:Nat)(h:refOf q r=[]):r≠38/\r≠60/\r≠62/\(q=true->r≠34):=by
 refine⟨?_,?_,?_,?_⟩
 ·rintro rfl;cases q <;> exact absurd h (by decide)
 ·rintro rfl;cases q <;> exact absurd h (by decide)
 ·rintro rfl;cases q <;> exact absurd h (by decide)
 ·rintro rfl rfl;exact absurd h (by decide)
theorem rt_head (l:List UInt8)(hl:l≠[])(h:rt l=0):128<=atN l 0:=by
 unfold rt rtN at h
 have:l.length≠0:=by simpa using hl
 rw[if_neg this] at h
 by_cases h1:atN l 0 < 128
 ·rw[if_pos h1] at h;cases h
 ·omega
theorem esc_piece (q:Bool) (l:List UInt8)(hl:l≠[]):∃ u t,l=u++t/\u≠[]/\esc q l=esc1 q l++esc q t/\t=l.drop (dl l).2/\u.length<=4 /\
  ((refOf q (dl l).1=[]/\esc1 q l=u/\∀ x∈u,x≠38/\x≠60/\x≠62/\(q=true->x≠34))\/(refOf q (dl l).1≠[]/\esc1 q l=refOf q (dl l).1/\u=er (dl l).1)):=by
 have hst:=esc_step q l hl
 have hb8:∀ (x:UInt8),128<=x.toNat->x≠38/\x≠60/\x≠62/\(q=true->x≠34):=by
  intro x hx
  refine⟨?_,?_,?_,fun _=>?_⟩ <;> (rintro rfl;revert hx;decide)
 rcases dl_cases l hl with⟨h0,hd⟩ | ⟨r,t,hr,he,hd,_⟩
 ·cases l with
  | nil=>exact absurd rfl hl
  | cons c t =>
   have hh:=rt_head _ hl h0
   have hh:128<=c.toNat:=hh
   refine⟨[c],t,rfl,by simp,?_,by rw[hd];rfl,by simp,.inl ⟨by rw[hd];cases q <;> rfl,?_,?_⟩⟩
   ·rw[hst,hd];rfl
   ·unfold esc1
    rw[hd]
    simp only
    rw[if_pos (by cases q <;> rfl)]
    rfl
   ·intro x hx
    have:x=c:=by simpa using hx
    subst this
    exact hb8 _ hh
 ·have hel:=er_len r
  have hdr:l.drop (dl l).2=t:=by
   rw[hd]
   simp only
   rw[he,List.drop_left]
  refine⟨er r,t,he,?_,by rw[hst,hdr],hdr.symm,hel.2,?_⟩
  ·intro e
   rw[e] at hel
   simp at hel
  ·by_cases hn:refOf q r=[]
   ·left
    refine⟨by rw[hd];exact hn,?_,?_⟩
    ·unfold esc1
     rw[hd]
     simp only
     rw[if_pos hn,he,List.take_left]
    ·intro x hx
     have hf:=refOf_nil q r hn
     rcases er_bytes r hr with⟨h8,e⟩ | ⟨_,e⟩
     ·rw[e] at hx
      have hxe:x=UInt8.ofNat r:=by simpa using hx
      have hxn:x.toNat=r:=by rw[hxe];exact toNat_ofNat (by omega)
      have ne:∀ (k:UInt8),r≠k.toNat->x≠k:=by
       intro k hk e2
       rw[e2] at hxn
       exact hk hxn.symm
      exact⟨ne 38 hf.1,ne 60 hf.2.1,ne 62 hf.2.2.1,fun hq=>ne 34 (hf.2.2.2 hq)⟩
     ·exact hb8 x (e x hx)
   ·right
    refine⟨by rw[hd];exact hn,?_,by rw[hd]⟩
    unfold esc1
    rw[hd]
    simp only
    rw[if_neg hn]
theorem shorter {l u t:List UInt8}(h:l=u++t)(hu:u≠[]):t.length < l.length:=by
 have:u.length≠0:=by simpa using hu
 rw[h,List.length_append]
 omega
theorem res_esc (q:Bool) (l:List UInt8):res (esc q l)=l:=by
 induction h:l.length using Nat.strongRecOn generalizing l with
 | ind n ih =>
  by_cases hl:l=[]
  ·subst hl;rfl
  ·obtain⟨u,t,he,hu,hs,_,_,hp⟩:=esc_piece q l hl
   have hi:=ih t.length (by rw[<-h];exact shorter he hu) t rfl
   rw[hs]
   rcases hp with⟨_,e1,e2⟩ | ⟨e0,e1,e2⟩
   ·rw[e1,res_app _ _ (fun c hc=>(e2 c hc).1),hi,<-he]
   ·rw[e1,res_ref q _ e0,hi,<-e2,<-he]
theorem esc_bytes (q:Bool) (l:List UInt8):∀ x∈esc q l,x≠60/\x≠62/\(q=true->x≠34):=by
 induction h:l.length using Nat.strongRecOn generalizing l with
 | ind n ih =>
  by_cases hl:l=[]
  ·subst hl
   intro x hx
   rw[esc_nil] at hx
   cases hx
  ·obtain⟨u,t,he,hu,hs,_,_,hp⟩:=esc_piece q l hl
   have hi:=ih t.length (by rw[<-h];exact shorter he hu) t rfl
   intro x hx
   rw[hs] at hx
   rcases List.mem_append.1 hx with hx | hx
   ·rcases hp with⟨_,e1,e2⟩ | ⟨_,e1,_⟩
    ·rw[e1] at hx
     exact (e2 x hx).2
    ·rw[e1] at hx
     have:=refOf_bytes q _ x hx
     exact⟨this.1,this.2.1,fun _=>this.2.2⟩
   ·exact hi x hx
theorem esc_lens (q:Bool) (l:List UInt8):l.length<=(esc q l).length/\(esc q l).length<=6*l.length:=by
 induction h:l.length using Nat.strongRecOn generalizing l with
 | ind n ih =>
  by_cases hl:l=[]
  ·subst hl
   simp only[List.length_nil] at h
   subst h
   rw[esc_nil]
   simp
  ·obtain⟨u,t,he,hu,hs,_,h4,hp⟩:=esc_piece q l hl
   have hi:=ih t.length (by rw[<-h];exact shorter he hu) t rfl
   have hlen:l.length=u.length+t.length:=by
    have:=congrArg List.length he
    rwa [List.length_append] at this
   have hu0:u.length≠0:=by simpa using hu
   rw[hs,List.length_append]
   rcases hp with⟨_,e1,_⟩ | ⟨e0,e1,_⟩
   ·rw[e1];omega
   ·have:=refOf_lens q _ e0
    rw[e1];omega
end Utf1
