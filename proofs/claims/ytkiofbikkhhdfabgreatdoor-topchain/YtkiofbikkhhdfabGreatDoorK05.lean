import Derived.Test.YtkiofbikkhhdfabGreatDoorK03
import Derived.Lib.IndexMore
namespace Utf1
open Go
structure Tk where
 kind:Nat
 name:List UInt8
 attrs:List (List UInt8 × List UInt8)
 closed:Bool
 text:List UInt8
def isLet (c:UInt8):Bool:=(97<=c && c<=122) || (65<=c && c<=90)
def isBl (c:UInt8):Bool:=c==9 || c==10 || c==12 || c==13 || c==32
def isGap (c:UInt8):Bool:=isBl c || c==47
def isNm (c:UInt8):Bool:=isBl c || c==47 || c==62
def isAt (c:UInt8):Bool:=isBl c || c==47 || c==62 || c==61
def isVa (c:UInt8):Bool:=isBl c || c==62
def beg2:List UInt8->Nat
 | []=>0
 | d :: _=>if isLet d then 3 else 2
def beg1:List UInt8->Nat
 | []=>0
 | c :: u=>if [33,45,45].isPrefixOf (c :: u) then 1 else if c=33\/c=63 then 2 else if isLet c then 3 else if c≠47 then 0 else beg2 u
def beg:List UInt8->Nat
 | []=>0
 | c :: t=>if c=60 then beg1 t else 0
theorem beg_ne {c:UInt8}(t:List UInt8)(h:c≠60):beg (c :: t)=0:=by
 show (if c=60 then beg1 t else 0)=0
 rw[if_neg h]
theorem beg_lt (t:List UInt8):beg (60 :: t)=beg1 t:=by
 show (if (60:UInt8)=60 then beg1 t else 0)=_
 rw[if_pos rfl]
def stop:List UInt8->Nat
 | []=>0
 | c :: t=>if beg (c :: t)=0 then stop t+1 else 0
theorem stop_le:∀ l:List UInt8,stop l<=l.length
 | []=>Nat.le_refl _
 | c :: t=>by
  unfold stop
  split
  ·have:=stop_le t
   simp only[List.length_cons]
   omega
  ·exact Nat.zero_le _
def raws:List (List UInt8 × Bool):=[([115,99,114,105,112,116],false),([115,116,121,108,101],false),([120,109,112],false),([105,102,114,97,109,101],false),([110,111,101,109,98,101,100],false),([110,111,102,114,97,109,101,115],false),([112,108,97,105,110,116,101,120,116],false),([116,101,120,116,97,114,101,97],true),([116,105,116,108,101],true)]
def lookR:List (List UInt8 × Bool)->List UInt8->Option Bool
 | [],_=>none
 | p :: r,l=>if p.1=l then some p.2 else lookR r l
def rawOf (l:List UInt8):Option Bool:=lookR raws l
def plainText:List UInt8:=[112,108,97,105,110,116,101,120,116]
def rawEnds (name l:List UInt8):Bool:=[60,47].isPrefixOf l && decide (2+name.length < l.length) && decide (lower ((l.drop 2).take name.length)=name) && isNm (l.getD (2+name.length) 0)
def rawStop (name:List UInt8):List UInt8->Nat
 | []=>0
 | c :: t=>if rawEnds name (c :: t) then 0 else rawStop name t+1
def rawLen (name l:List UInt8):Nat:=if name=plainText then l.length else rawStop name l
theorem rawStop_le (name:List UInt8):∀ l:List UInt8,rawStop name l<=l.length
 | []=>Nat.le_refl _
 | c :: t=>by
  unfold rawStop
  split
  ·exact Nat.zero_le _
  ·have:=rawStop_le name t
   simp only[List.length_cons]
   omega
theorem rawLen_le (name l:List UInt8):rawLen name l<=l.length:=by
 unfold rawLen
 split
 ·exact Nat.le_refl _
 ·exact rawStop_le name l
def addAt (acc:List (List UInt8 × List UInt8)) (n v:List UInt8):List (List UInt8 × List UInt8):=if n∈acc.map Prod.fst then acc else acc++[(n,v)]
def oneAt (c:UInt8) (t:List UInt8):Option (List UInt8 × List UInt8 × List UInt8) :=
 match (t.dropWhile (fun x=>!isAt x)).dropWhile isBl with
 | 61 :: u =>
  match u.dropWhile isBl with
  | q :: v=>if q=34\/q=39 then
    (match v.dropWhile (fun x=>x != q) with
    | []=>none
    | _ :: r=>some (c :: t.takeWhile (fun x=>!isAt x),v.takeWhile (fun x=>x != q),r))
   else some (c :: t.takeWhile (fun x=>!isAt x),(q :: v).takeWhile (fun x=>!isVa x),(q :: v).dropWhile (fun x=>!isVa x))
  | []=>some (c :: t.takeWhile (fun x=>!isAt x),[],[])
 | s2=>some (c :: t.takeWhile (fun x=>!isAt x),[],s2)
def attrsF:Nat->List (List UInt8 × List UInt8)->List UInt8->Option (List (List UInt8 × List UInt8) × Bool × List UInt8)
 | 0,_,_=>none
 | n+1,acc,s =>
  match s.dropWhile isGap with
  | []=>none
  | c :: t=>if c=62 then some (acc,[47].isSuffixOf (s.takeWhile isGap),t) else
   match oneAt c t with
   | none=>none
   | some (nm,v,r)=>attrsF n (addAt acc (lower nm) (res v)) r
def attrsOf (acc:List (List UInt8 × List UInt8)) (s:List UInt8):Option (List (List UInt8 × List UInt8) × Bool × List UInt8):=attrsF (s.length+1) acc s
theorem drop_le {α:Type}(p:α->Bool) (l:List α):(l.dropWhile p).length<=l.length:=by
 have:=congrArg List.length (List.takeWhile_append_dropWhile (p:=p) (l:=l))
 rw[List.length_append] at this
 omega
theorem oneAt_len {c:UInt8}{t nm v r:List UInt8}(h:oneAt c t=some (nm,v,r)):r.length<=t.length/\nm.length<=t.length+1/\v.length<=t.length:=by
 have h1:=drop_le (fun x=>!isAt x) t
 have h2:=drop_le isBl (t.dropWhile (fun x=>!isAt x))
 have h3:(t.takeWhile (fun x=>!isAt x)).length<=t.length:=by
  have:=congrArg List.length (List.takeWhile_append_dropWhile (p:=fun x=>!isAt x) (l:=t))
  rw[List.length_append] at this
  omega
 unfold oneAt at h
 split at h
 ·rename_i u he
  rw[he] at h2
  have h4:=drop_le isBl u
  split at h
  ·rename_i q y he2
   rw[he2] at h4
   simp only[List.length_cons] at h2 h4
   split at h
   ·split at h
    ·cases h
    ·rename_i z r' he3
     cases h
     have h5:=drop_le (fun x=>x != q) y
     rw[he3] at h5
     have h6:(y.takeWhile (fun x=>x != q)).length<=y.length:=by
      have:=congrArg List.length (List.takeWhile_append_dropWhile (p:=fun x=>x != q) (l:=y))
      rw[List.length_append] at this
      omega
     simp only[List.length_cons] at h5 ⊢
     omega
   ·cases h
    have h5:=drop_le (fun x=>!isVa x) (q :: y)
    have h6:((q :: y).takeWhile (fun x=>!isVa x)).length<=(q :: y).length:=by
     have:=congrArg List.length (List.takeWhile_append_dropWhile (p:=fun x=>!isVa x) (l:=q :: y))
     rw[List.length_append] at this
     omega
    simp only[List.length_cons] at h5 h6 ⊢
    omega
  ·cases h
   simp
   omega
 ·cases h
  simp only[List.length_cons,List.length_nil]
  omega
theorem attrsF_more:∀ (n m:Nat) (acc:List (List UInt8 × List UInt8)) (s:List UInt8),s.length < n->s.length < m->attrsF n acc s=attrsF m acc s
 | 0,_,_,_,h,_=>by omega
 | _+1,0,_,_,_,h=>by omega
 | n+1,m+1,acc,s,hn,hm=>by
  unfold attrsF
  have h1:=drop_le isGap s
  split
  ·rfl
  ·rename_i c t he
   rw[he] at h1
   simp only[List.length_cons] at h1
   split
   ·rfl
   ·split
    ·rfl
    ·rename_i nm v r h1a
     have:=oneAt_len h1a
     exact attrsF_more n m _ _ (by omega) (by omega)
theorem attrsOf_nil (acc:List (List UInt8 × List UInt8)) (s:List UInt8)(h:s.dropWhile isGap=[]):attrsOf acc s=none:=by
 unfold attrsOf attrsF
 rw[h]
theorem attrsOf_end (acc:List (List UInt8 × List UInt8)) (s t:List UInt8)(h:s.dropWhile isGap=62 :: t):attrsOf acc s=some (acc,[47].isSuffixOf (s.takeWhile isGap),t):=by
 unfold attrsOf attrsF
 rw[h]
 simp
theorem attrsOf_none (acc:List (List UInt8 × List UInt8)) (s t:List UInt8) (c:UInt8)(h:s.dropWhile isGap=c :: t)(hc:c≠62)(h1:oneAt c t=none):attrsOf acc s=none:=by
 unfold attrsOf attrsF
 rw[h]
 simp only
 rw[if_neg hc,h1]
theorem attrsOf_one (acc:List (List UInt8 × List UInt8)) (s t:List UInt8) (c:UInt8) (nm v r:List UInt8)(h:s.dropWhile isGap=c :: t)(hc:c≠62)(h1:oneAt c t=some (nm,v,r)):attrsOf acc s=attrsOf (addAt acc (lower nm) (res v)) r:=by
 show attrsF (s.length+1) acc s=_
 rw[attrsF,h]
 simp only
 rw[if_neg hc,h1]
 have hd:=drop_le isGap s
 rw[h] at hd
 simp only[List.length_cons] at hd
 have:=oneAt_len h1
 exact attrsF_more _ _ _ _ (by omega) (by omega)
def tagBody (l:List UInt8):List UInt8:=if l.getD 1 0=47 then l.drop 2 else l.drop 1
def tagOf (l:List UInt8):Option (Tk × List UInt8) :=
 match attrsOf [] ((tagBody l).dropWhile (fun x=>!isNm x)) with
 | none=>none
 | some (a,cl,r)=>some (if l.getD 1 0=47 then ⟨3,lower ((tagBody l).takeWhile (fun x=>!isNm x)),[],false,[]⟩ else ⟨2,lower ((tagBody l).takeWhile (fun x=>!isNm x)),a,cl,[]⟩,r)
theorem attrsF_len:∀ (n:Nat) (acc:List (List UInt8 × List UInt8)) (s:List UInt8) (a:List (List UInt8 × List UInt8)) (cl:Bool) (r:List UInt8),attrsF n acc s=some (a,cl,r)->r.length < s.length
 | 0,_,_,_,_,_,h=>by cases h
 | n+1,acc,s,a,cl,r,h=>by
  unfold attrsF at h
  have h1:=drop_le isGap s
  split at h
  ·cases h
  ·rename_i c t he
   rw[he] at h1
   simp only[List.length_cons] at h1
   split at h
   ·cases h
    omega
   ·split at h
    ·cases h
    ·rename_i nm v q h1a
     have:=oneAt_len h1a
     have:=attrsF_len n _ _ _ _ _ h
     omega
theorem tagOf_len {l r:List UInt8}{t:Tk}(h:tagOf l=some (t,r)):r.length < l.length:=by
 unfold tagOf at h
 split at h
 ·cases h
 ·rename_i a cl q he
  cases h
  have h1:=attrsF_len _ _ _ _ _ _ he
  have h2:=drop_le (fun x=>!isNm x) (tagBody l)
  have h3:(tagBody l).length<=l.length:=by
   unfold tagBody
   split <;> (rw[List.length_drop];omega)
  omega
def withRaw (t:Tk) (r:List UInt8):List Tk × List UInt8 :=
 if t.kind=2 then
  match rawOf t.name with
  | none=>([],r)
  | some b=>if rawLen t.name r=0 then ([],r) else ([⟨1,[],[],false,if b then res (r.take (rawLen t.name r)) else r.take (rawLen t.name r)⟩],r.drop (rawLen t.name r))
 else ([],r)
theorem withRaw_len (t:Tk) (r:List UInt8):(withRaw t r).2.length<=r.length:=by
 unfold withRaw
 split
 ·split
  ·exact Nat.le_refl _
  ·split
   ·exact Nat.le_refl _
   ·simp
 ·exact Nat.le_refl _
def toksF:Nat->List UInt8->List Tk
 | 0,_=>[]
 | _+1,[]=>[]
 | n+1,c :: t =>
  if beg (c :: t)=1 then ⟨4,[],[],false,(Lib.cut ((c :: t).drop 4) [45,45,62]).1⟩ :: toksF n (Lib.cut ((c :: t).drop 4) [45,45,62]).2.1
  else if beg (c :: t)=2 then toksF n (Lib.cut (c :: t) [62]).2.1
  else if beg (c :: t)=3 then
   (match tagOf (c :: t) with
   | none=>[]
   | some (k,r)=>k :: ((withRaw k r).1++toksF n (withRaw k r).2))
  else ⟨1,[],[],false,res ((c :: t).take (stop (c :: t)))⟩ :: toksF n ((c :: t).drop (stop (c :: t)))
def toks (l:List UInt8):List Tk:=toksF l.length l
theorem cut_len (s sep:List UInt8)(h:1<=sep.length):(Lib.cut s sep).2.1.length<=s.length - 1:=by
 unfold Lib.cut
 split
 ·simp only[List.length_drop]
  omega
 ·simp
theorem cut_len1 (s sep:List UInt8):(Lib.cut s sep).1.length<=s.length:=by
 unfold Lib.cut
 split
 ·simp only[List.length_take]
  omega
 ·exact Nat.le_refl _
theorem stop_pos (c:UInt8) (t:List UInt8)(h:beg (c :: t)=0):1<=stop (c :: t):=by
 unfold stop
 rw[if_pos h]
 omega
theorem beg_le (l:List UInt8):beg l<=3:=by
 unfold beg
 split
 ·omega
 ·split
  ·unfold beg1
   split
   ·omega
   ·repeat' (split;· omega)
    unfold beg2
    split
    ·omega
    ·split <;> omega
  ·omega
theorem toksF_more:∀ (n m:Nat) (l:List UInt8),l.length<=n->l.length<=m->toksF n l=toksF m l
 | 0,m,l,hn,_=>by
  have:l=[]:=List.length_eq_zero_iff.1 (by omega)
  subst this
  cases m <;> rfl
 | n+1,0,l,_,hm=>by
  have:l=[]:=List.length_eq_zero_iff.1 (by omega)
  subst this
  rfl
 | n+1,m+1,[],_,_=>rfl
 | n+1,m+1,c :: t,hn,hm=>by
  simp only[List.length_cons] at hn hm
  unfold toksF
  by_cases h1:beg (c :: t)=1
  ·rw[if_pos h1,if_pos h1]
   have:=cut_len ((c :: t).drop 4) [45,45,62] (by decide)
   rw[List.length_drop,List.length_cons] at this
   rw[toksF_more n m _ (by omega) (by omega)]
  ·rw[if_neg h1,if_neg h1]
   by_cases h2:beg (c :: t)=2
   ·rw[if_pos h2,if_pos h2]
    have:=cut_len (c :: t) [62] (by decide)
    rw[List.length_cons] at this
    exact toksF_more n m _ (by omega) (by omega)
   ·rw[if_neg h2,if_neg h2]
    by_cases h3:beg (c :: t)=3
    ·rw[if_pos h3,if_pos h3]
     cases hk:tagOf (c :: t) with
     | none=>rfl
     | some p =>
      obtain⟨k,r⟩:=p
      have h4:=tagOf_len hk
      have h5:=withRaw_len k r
      simp only[List.length_cons] at h4
      simp only
      rw[toksF_more n m _ (by omega) (by omega)]
    ·rw[if_neg h3,if_neg h3]
     have h0:beg (c :: t)=0:=by have:=beg_le (c :: t);omega
     have h6:=stop_pos c t h0
     have h7:((c :: t).drop (stop (c :: t))).length<=t.length:=by
      rw[List.length_drop,List.length_cons]
      omega
     rw[toksF_more n m _ (by omega) (by omega)]
theorem toks_nil:toks []=[]:=rfl
theorem toks_note (l:List UInt8)(h:beg l=1):toks l=⟨4,[],[],false,(Lib.cut (l.drop 4) [45,45,62]).1⟩ :: toks (Lib.cut (l.drop 4) [45,45,62]).2.1:=by
 cases l with
 | nil=>cases h
 | cons c t =>
  show toksF (t.length+1) (c :: t)=_
  unfold toksF
  rw[if_pos h]
  have:=cut_len ((c :: t).drop 4) [45,45,62] (by decide)
  rw[List.length_drop,List.length_cons] at this
  rw[toksF_more _ _ _ (by omega) (Nat.le_refl _)]
  rfl
theorem toks_none (l:List UInt8)(h:beg l=2):toks l=toks (Lib.cut l [62]).2.1:=by
 cases l with
 | nil=>cases h
 | cons c t =>
  show toksF (t.length+1) (c :: t)=_
  unfold toksF
  rw[if_neg (by omega),if_pos h]
  have:=cut_len (c :: t) [62] (by decide)
  rw[List.length_cons] at this
  exact toksF_more _ _ _ (by omega) (Nat.le_refl _)
theorem toks_tag (l r:List UInt8) (k:Tk)(h:beg l=3)(hk:tagOf l=some (k,r)):toks l=k :: ((withRaw k r).1++toks (withRaw k r).2):=by
 cases l with
 | nil=>cases h
 | cons c t =>
  show toksF (t.length+1) (c :: t)=_
  unfold toksF
  rw[if_neg (by omega),if_neg (by omega),if_pos h,hk]
  have h4:=tagOf_len hk
  have h5:=withRaw_len k r
  simp only[List.length_cons] at h4
  simp only
  rw[toksF_more _ _ _ (by omega) (Nat.le_refl _)]
  rfl
theorem toks_cutoff (l:List UInt8)(h:beg l=3)(hk:tagOf l=none):toks l=[]:=by
 cases l with
 | nil=>cases h
 | cons c t =>
  show toksF (t.length+1) (c :: t)=_
  unfold toksF
  rw[if_neg (by omega),if_neg (by omega),if_pos h,hk]
theorem toks_text (l:List UInt8)(hl:l≠[])(h:beg l=0):toks l=⟨1,[],[],false,res (l.take (stop l))⟩ :: toks (l.drop (stop l)):=by
 cases l with
 | nil=>exact absurd rfl hl
 | cons c t =>
  show toksF (t.length+1) (c :: t)=_
  unfold toksF
  rw[if_neg (by omega),if_neg (by omega),if_neg (by omega)]
  have h6:=stop_pos c t h
  have h7:((c :: t).drop (stop (c :: t))).length<=t.length:=by
   rw[List.length_drop,List.length_cons]
   omega
  rw[toksF_more _ _ _ h7 (Nat.le_refl _)]
  rfl
end Utf1
namespace Utf1
open Go
theorem stop_all:∀ l:List UInt8,(∀ c∈l,c≠60)->stop l=l.length
 | [],_=>rfl
 | c :: t,h=>by
  unfold stop
  rw[if_pos (beg_ne t (h c (List.mem_cons_self ..))),stop_all t (fun x hx=>h x (List.mem_cons_of_mem _ hx))]
  rfl
theorem beg_plain:∀ l:List UInt8,(∀ c∈l,c≠60)->beg l=0
 | [],_=>rfl
 | c :: t,h=>beg_ne t (h c (List.mem_cons_self ..))
theorem toks_plain (l:List UInt8)(hl:l≠[])(h:∀ c∈l,c≠60):toks l=[⟨1,[],[],false,res l⟩]:=by
 rw[toks_text l hl (beg_plain l h),stop_all l h,List.take_length,List.drop_length,toks_nil]
theorem esc_ne (q:Bool) (l:List UInt8)(hl:l≠[]):esc q l≠[]:=by
 intro h
 have:=(esc_lens q l).1
 rw[h] at this
 cases l with
 | nil=>exact hl rfl
 | cons=>simp at this
theorem toks_esc (l:List UInt8)(hl:l≠[]):toks (esc false l)=[⟨1,[],[],false,l⟩]:=by
 rw[toks_plain _ (esc_ne _ _ hl) (fun c hc=>(esc_bytes false l c hc).1),res_esc]
theorem stop_app (r:List UInt8)(hr:beg r≠0):∀ a:List UInt8,(∀ c∈a,c≠60)->stop (a++r)=a.length
 | [],_=>by
  cases r with
  | nil=>exact absurd rfl hr
  | cons c t =>
   show stop (c :: t)=0
   unfold stop
   rw[if_neg hr]
 | c :: t,h=>by
  show stop (c :: (t++r))=_
  unfold stop
  rw[if_pos (beg_ne _ (h c (List.mem_cons_self ..))),stop_app r hr t (fun x hx=>h x (List.mem_cons_of_mem _ hx))]
  rfl
theorem toks_ahead (a r:List UInt8)(hr:beg r≠0)(ha:a≠[])(h:∀ c∈a,c≠60):toks (a++r)=⟨1,[],[],false,res a⟩ :: toks r:=by
 have hb:beg (a++r)=0:=by
  cases a with
  | nil=>exact absurd rfl ha
  | cons c t=>exact beg_ne _ (h c (List.mem_cons_self ..))
 rw[toks_text _ (by simp[ha]) hb,stop_app r hr a h,List.take_left,List.drop_left]
def SmallB (c:UInt8):Prop:=(97<=c.toNat/\c.toNat<=122)\/(48<=c.toNat/\c.toNat<=57)
theorem small_ne {c:UInt8}(h:SmallB c) (k:UInt8)(hk:k.toNat < 48\/(57 < k.toNat/\k.toNat < 97)):(c==k)=false:=by
 refine beq_eq_false_iff_ne.2 ?_
 rintro rfl
 rcases h with h | h <;> omega
theorem small_facts {c:UInt8}(h:SmallB c):isNm c=false/\isAt c=false/\isGap c=false/\low8 c=c/\c≠60/\c≠62:=by
 have k1:=small_ne h 9 (by decide)
 have k2:=small_ne h 10 (by decide)
 have k3:=small_ne h 12 (by decide)
 have k4:=small_ne h 13 (by decide)
 have k5:=small_ne h 32 (by decide)
 have k6:=small_ne h 47 (by decide)
 have k7:=small_ne h 62 (by decide)
 have k8:=small_ne h 61 (by decide)
 have k9:=small_ne h 60 (by decide)
 refine⟨?_,?_,?_,?_,?_,?_⟩
 ·unfold isNm isBl
  rw[k1,k2,k3,k4,k5,k6,k7]
  rfl
 ·unfold isAt isBl
  rw[k1,k2,k3,k4,k5,k6,k7,k8]
  rfl
 ·unfold isGap isBl
  rw[k1,k2,k3,k4,k5,k6]
  rfl
 ·unfold low8
  rw[if_neg (by rcases h with h | h <;> omega)]
 ·exact beq_eq_false_iff_ne.1 k9
 ·exact beq_eq_false_iff_ne.1 k7
theorem take_until {p:UInt8->Bool}{d:UInt8}(hd:p d=false) (r:List UInt8):∀ n:List UInt8,(∀ c∈n,p c=true)->(n++d :: r).takeWhile p=n/\(n++d :: r).dropWhile p=d :: r
 | [],_=>by simp[hd]
 | c :: t,h=>by
  have hc:=h c (List.mem_cons_self ..)
  have ih:=take_until hd r t (fun x hx=>h x (List.mem_cons_of_mem _ hx))
  simp only[List.cons_append,List.takeWhile_cons,List.dropWhile_cons,hc,if_true]
  rw[ih.1,ih.2]
  exact⟨rfl,rfl⟩
theorem isLet_small {c:UInt8}(h1:97<=c.toNat)(h2:c.toNat<=122):isLet c=true:=by
 unfold isLet
 have e1:(97:UInt8)<=c:=UInt8.le_iff_toNat_le.2 h1
 have e2:c<=(122:UInt8):=UInt8.le_iff_toNat_le.2 h2
 rw[decide_eq_true e1,decide_eq_true e2]
 rfl
theorem withRaw_none (a:List (List UInt8 × List UInt8)) (cl:Bool) (x n r:List UInt8)(h:rawOf n=none):withRaw ⟨2,n,a,cl,x⟩ r=([],r):=by
 unfold withRaw
 rw[if_pos rfl,h]
end Utf1
