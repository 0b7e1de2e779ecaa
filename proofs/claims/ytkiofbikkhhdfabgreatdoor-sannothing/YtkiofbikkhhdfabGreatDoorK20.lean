import Derived.Test.YtkiofbikkhhdfabGreatDoorK17
import Derived.Test.YtkiofbikkhhdfabGreatDoorN2
import Derived.Test.YtkiofbikkhhdfabGreatDoorK04
namespace San
open Utf1 Pol8 Saf
/-! Names. -/
theorem wc_nm {c:UInt8}(o:L)(ho:(45:UInt8)∈o)(h:wc c=true):nmB o c=true:=by
 have h:=of_decide_eq_true h
 unfold nmB isSm
 rcases h with h | h | h
 ·rw[decide_eq_true h]
  rfl
 ·rw[decide_eq_true h,Bool.or_true,Bool.true_or]
 ·have e:c=45:=UInt8.toNat_inj.1 h
  rw[e,decide_eq_true ho,Bool.or_true]
theorem word_nm {n:L}(h:isWord n=true) (o:L)(ho:(45:UInt8)∈o):isNmL o n=true:=by
 unfold isWord at h
 rw[Bool.and_eq_true,Bool.and_eq_true,List.all_eq_true] at h
 cases n with
 | nil=>simp at h
 | cons c t =>
  rw[isNmL,Bool.and_eq_true,List.all_eq_true]
  exact⟨by simpa [isSm,sm] using h.2.2,fun b hb=>wc_nm o ho (h.2.1 b hb)⟩
theorem raw_is (n:L):(rawOf n).isSome=isRaw n:=by
 by_cases h:n∈rawL++rcL
 ·have:∀ x∈rawL++rcL,(rawOf x).isSome=isRaw x:=by decide
  exact this n h
 ·have h1:isRaw n=false:=by
   unfold isRaw
   rw[Bool.or_eq_false_iff]
   exact⟨decide_eq_false (fun e=>h (List.mem_append.2 (.inl e))),decide_eq_false (fun e=>h (List.mem_append.2 (.inr e)))⟩
  rw[h1]
  have h2:∀ (t:List (L × Bool)),(∀ x∈t,x.1∈rawL++rcL)->(lookR t n).isSome=false:=by
   intro t
   induction t with
   | nil=>intro _;rfl
   | cons x r ih =>
    intro hx
    rw[lookR,if_neg (fun e=>h (by rw[<-e];exact hx x (List.mem_cons_self ..)))]
    exact ih (fun y hy=>hx y (List.mem_cons_of_mem _ hy))
  exact h2 raws (by decide)
theorem may_elem {p:Pol}(hp:Right p) {n:L}(h:n∈p.el):mayE n=true/\dropB n=false/\n≠[]:=by
 have hw:=words_all hp.el n h
 have hn:=hp.nv n h
 unfold never at hn
 rw[Bool.or_eq_false_iff] at hn
 refine⟨?_,?_,(word_cs hw).1⟩
 ·unfold mayE
  rw[raw_is,hn.1,word_nm hw _ (by decide)]
  rfl
 ·unfold dropB
  rw[raw_is,hn.1,Bool.false_or]
  refine decide_eq_false (fun e=>?_)
  have hs:∀ x∈dropL,x∈neverL:=by decide
  have:=hs n e
  rw[decide_eq_true this] at hn
  cases hn.2
theorem may_attr {p:Pol}(hp:Right p) {e n:L}(he:e∈p.el)(h:attrB p e n=true):isNmL [45,95,58] n=true:=by
 unfold attrB at h
 rw[Bool.and_eq_true,decide_eq_true_eq,decide_eq_true_eq] at h
 have key:∀ x:L,(46:UInt8) ∉ x->x++46 :: n∈p.at_->isNmL [45,95,58] n=true:=by
  intro x hx hm
  have:=hp.ao _ hm
  unfold attrOk at this
  rw[dot_some x n hx] at this
  simp only[Bool.and_eq_true] at this
  have hm:=this.2
  unfold may at hm
  rw[Bool.and_eq_true] at hm
  exact word_nm hm.1 _ (by decide)
 rcases h.2 with h | h
 ·exact key [42] (by decide) h
 ·exact key e (word_46 (words_all hp.el e he)) h
theorem value_name {p:Pol}(hp:Right p) {e n v:L}(h:valueB p e n v=true):isNmL [45,95,58] n=true:=by
 unfold valueB at h
 rw[Bool.and_eq_true,decide_eq_true_eq] at h
 obtain⟨he,h⟩:=h
 by_cases h1:n=relN
 ·rw[h1]
  decide
 ·rw[if_neg h1] at h
  by_cases h2:n=styN
  ·rw[h2]
   decide
  ·rw[if_neg h2,Bool.and_eq_true] at h
   exact may_attr hp he h.1
/-! Attributes. -/
theorem atO_some {p:Pol}{e:L}{kv x:L × L}(h:atO p e kv=some x):kv.1≠relN/\x=(kv.1,valO p kv.1 kv.2)/\valueB p e x.1 x.2=true:=by
 unfold atO at h
 split at h
 ·cases h
 ·rename_i h1
  split at h
  ·rename_i h2
   cases h
   exact⟨h1,rfl,h2⟩
  ·cases h
theorem atsK_mem {p:Pol}{e:L}{a:At}{x:L × L}(h:x∈atsK p e a):x.1≠relN/\valueB p e x.1 x.2=true/\x.1∈a.map Prod.fst:=by
 unfold atsK at h
 rw[List.mem_filterMap] at h
 obtain⟨kv,h1,h2⟩:=h
 obtain⟨h3,h4,h5⟩:=atO_some h2
 have h6:x.1=kv.1:=by rw[h4]
 exact⟨by rw[h6];exact h3,h5,by rw[h6];exact List.mem_map_of_mem h1⟩
theorem atsK_nodup {p:Pol}{e:L}:∀ a:At,(a.map Prod.fst).Nodup->((atsK p e a).map Prod.fst).Nodup
 | [],_=>by simp[atsK]
 | kv :: r,h=>by
  rw[List.map_cons,List.nodup_cons] at h
  have ih:=atsK_nodup (p:=p) (e:=e) r h.2
  unfold atsK at ih ⊢
  rw[List.filterMap_cons]
  cases ho:atO p e kv with
  | none=>exact ih
  | some x =>
   obtain⟨-,h4,-⟩:=atO_some ho
   simp only
   rw[List.map_cons,List.nodup_cons]
   refine⟨fun hm=>h.1 ?_,ih⟩
   obtain⟨y,hy,e⟩:=List.mem_map.1 hm
   have:=(atsK_mem (a:=r) hy).2.2
   rw[e,h4] at this
   exact this
theorem mem_attrsO {p:Pol}{e:L}{a:At}{x:L × L}(h:x∈attrsO p e a):x∈atsK p e a\/(x=(relN,forced)/\e=aN):=by
 unfold attrsO at h
 split at h
 ·rename_i hc
  rcases List.mem_append.1 h with h | h
  ·exact .inl h
  ·exact .inr ⟨by simpa using h,hc.1⟩
 ·exact .inl h
theorem attrsO_value {p:Pol}{e:L}(he:e∈p.el) {a:At}{x:L × L}(h:x∈attrsO p e a):valueB p e x.1 x.2=true:=by
 rcases mem_attrsO h with h | ⟨rfl,ha⟩
 ·exact (atsK_mem h).2.1
 ·unfold valueB
  rw[decide_eq_true he,if_pos rfl,decide_eq_true ha,decide_eq_true rfl]
  rfl
theorem attrsO_may {p:Pol}(hp:Right p) {e:L}(he:e∈p.el) (a:At)(h:(a.map Prod.fst).Nodup):mayA (attrsO p e a)=true:=by
 unfold mayA
 rw[Bool.and_eq_true,List.all_eq_true,decide_eq_true_eq]
 refine⟨fun x hx=>value_name hp (attrsO_value he hx),?_⟩
 unfold attrsO
 split
 ·rw[List.map_append,List.nodup_append]
  refine⟨atsK_nodup a h,by simp,?_⟩
  intro x hx y hy e
  obtain⟨z,hz,e2⟩:=List.mem_map.1 hx
  have hy:y=relN:=by simpa using hy
  exact (atsK_mem hz).1 (by rw[e2,e,hy])
 ·exact atsK_nodup a h
theorem hasB_mem {a:At}{n:L}:hasB a n=true ↔ ∃ x∈a,x.1=n:=by
 unfold hasB
 rw[List.any_eq_true]
 constructor
 ·rintro ⟨x,h1,h2⟩
  exact⟨x,h1,of_decide_eq_true h2⟩
 ·rintro ⟨x,h1,h2⟩
  exact⟨x,h1,decide_eq_true h2⟩
theorem hasB_not {a:At}{n:L}(h:∀ x∈a,x.1≠n):hasB a n=false:=by
 cases e:hasB a n with
 | false=>rfl
 | true =>
  obtain⟨x,h1,h2⟩:=hasB_mem.1 e
  exact absurd h2 (h x h1)
theorem attrsO_linked {p:Pol}{e:L}(ha:e=aN) (a:At):linkedB (attrsO p e a)=true:=by
 have hno:hasB (atsK p e a) relN=false:=hasB_not (fun x hx=>(atsK_mem hx).1)
 unfold linkedB
 by_cases hh:hasB (atsK p e a) href=true
 ·have ea:attrsO p e a=atsK p e a++[(relN,forced)]:=if_pos ⟨ha,hh⟩
  have h2:hasB (atsK p e a++[(relN,forced)]) href=true:=by
   obtain⟨x,h1,h2⟩:=hasB_mem.1 hh
   exact hasB_mem.2 ⟨x,List.mem_append.2 (.inl h1),h2⟩
  rw[ea,if_pos h2]
  unfold lastB
  rw[List.getLast?_append]
  rfl
 ·have ea:attrsO p e a=atsK p e a:=if_neg (fun h=>hh h.2)
  rw[ea,if_neg hh,hno]
  rfl
/-! A tree that was built,whatever its names. -/
mutual
def nakN (p i:Bool):Nd->Prop
 | .mk n a _ k=>n≠[]->(a.map Prod.fst).Nodup/\((p && decide (n∈blocks)) || (i && decide (n=[108,105])))=false/\(n∈voids->k=[])/\nakL (p || decide (n=[112])) (itm i n) k
def nakL (p i:Bool):List Nd->Prop
 | []=>True
 | x :: r=>nakN p i x/\nakL p i r
end
def okX (p i:Bool) (x:Nd):Prop:=(x.name=[]->x=txt x.text)/\(x.name≠[]->stN p i false x=true)
theorem stN_b {p i b b':Bool}{x:Nd}(hn:x.name≠[])(h:stN p i b x=true):stN p i b' x=true:=by
 cases x with
 | mk n a t k =>
  have hn:n≠[]:=hn
  rw[stN,if_neg hn] at h ⊢
  exact h
theorem ok_ahead {p i:Bool}{t:L}{l:List Nd}(h:∀ x∈l,okX p i x):∀ x∈textAhead t l,okX p i x:=by
 have hk:∀ s,okX p i (txt s):=fun s=>⟨fun _=>rfl,fun e=>absurd rfl e⟩
 unfold textAhead
 split
 ·exact h
 ·split
  ·intro x hx
   have:x=txt t:=by simpa using hx
   rw[this]
   exact hk t
  ·rename_i y q
   split
   ·intro x hx
    rcases List.mem_cons.1 hx with e | hx
    ·rw[e]
     exact hk _
    ·exact h x (List.mem_cons_of_mem _ hx)
   ·intro x hx
    rcases List.mem_cons.1 hx with e | hx
    ·rw[e]
     exact hk _
    ·exact h x hx
theorem ok_join {p i:Bool}:∀ l:List Nd,(∀ x∈l,okX p i x)->∀ x∈joinR l,okX p i x
 | [],_=>by rw[joinR];simp
 | x :: r,h=>by
  rw[joinR_cons]
  have ih:=ok_join r (fun y hy=>h y (List.mem_cons_of_mem _ hy))
  split
  ·exact ok_ahead ih
  ·intro y hy
   rcases List.mem_cons.1 hy with e | hy
   ·rw[e]
    exact h x (List.mem_cons_self ..)
   ·exact ih y hy
theorem st_joined {p i:Bool}:∀ (l:List Nd) (b:Bool),Joined l->(∀ x∈l,okX p i x)->(b=true->∀ y q,l=y :: q->y.name≠[])->stL p i b l=true
 | [],_,_,_,_=>by rw[stL]
 | x :: r,b,hj,hx,hb=>by
  rw[stL,Bool.and_eq_true]
  have h0:=hx x (List.mem_cons_self ..)
  refine⟨?_,st_joined r _ hj.2 (fun y hy=>hx y (List.mem_cons_of_mem _ hy)) (fun e y q er=>?_)⟩
  ·by_cases hn:x.name=[]
   ·obtain⟨h1,h2,-⟩:=hj.1 hn
    rw[h1]
    unfold txt
    rw[stN,if_pos rfl]
    have hbf:b=false:=by
     cases b with
     | false=>rfl
     | true=>exact absurd hn (hb rfl x r rfl)
    rw[hbf]
    cases ht:x.text with
    | nil=>exact absurd ht h2
    | cons c t=>rfl
   ·exact stN_b hn (h0.2 hn)
  ·exact (hj.1 (of_decide_eq_true e)).2.2 y q er
theorem st_join {p i:Bool}(l:List Nd)(h:∀ x∈l,okX p i x):stL p i false (joinR l)=true :=
 st_joined (joinR l) false (join_joined l) (ok_join l h) (fun e=>by cases e)
theorem itm_le {i i':Bool}{el:List L}(hl:([108,105]:L)∈el->([117,108]:L)∈el/\([111,108]:L)∈el)(h:(i'=true->i=true)\/([108,105]:L) ∉ el) (n:L):((itm i' n=true->itm i n=true)\/([108,105]:L) ∉ el)/\(n ∉ el->(i'=true->itm i n=true)\/([108,105]:L) ∉ el):=by
 refine⟨h.imp (fun h=>itm_mono h n) id,fun hn=>?_⟩
 unfold itm
 by_cases h1:n=[108,105]
 ·rw[if_pos h1]
  exact .inl (fun _=>rfl)
 ·rw[if_neg h1]
  by_cases h2:n=[117,108]\/n=[111,108]
  ·rw[if_pos h2]
   refine .inr (fun hli=>?_)
   rcases h2 with e | e
   ·exact hn (by rw[e];exact (hl hli).1)
   ·exact hn (by rw[e];exact (hl hli).2)
  ·rw[if_neg h2]
   exact h
mutual
theorem ok_allN {pl:Pol}(hp:Right pl):∀ (x:Nd) {p i p' i':Bool},nakN p i x->(p'=true->p=true)->((i'=true->i=true)\/([108,105]:L) ∉ pl.el)->∀ y∈allN pl x,okX p' i' y
 | .mk n a t k,p,i,p',i',h,hpp,hii=>by
  rw[nakN] at h
  rw[allN]
  by_cases hn:n=[]
  ·rw[if_pos hn]
   intro y hy
   have:y=txt t:=by simpa using hy
   rw[this]
   exact⟨fun _=>rfl,fun e=>absurd rfl e⟩
  ·rw[if_neg hn]
   obtain⟨h1,h2,h3,h4⟩:=h hn
   obtain⟨hi1,hi2⟩:=itm_le hp.ll hii n
   by_cases hd:dropB n=true
   ·rw[if_pos hd]
    simp
   ·rw[if_neg hd]
    by_cases he:n∈pl.el
    ·rw[if_pos he]
     intro y hy
     have:y=.mk n (attrsO pl n a) [] (joinR (allL pl k)):=by simpa using hy
     rw[this]
     refine⟨fun e=>absurd e hn,fun _=>?_⟩
     rw[stN,if_neg hn,(may_elem hp he).1,attrsO_may hp he a h1]
     have hc:((p' && decide (n∈blocks)) || (i' && decide (n=[108,105])))=false:=by
      rw[Bool.or_eq_false_iff] at h2 ⊢
      constructor
      ·cases p' with
       | false=>rfl
       | true =>
        have:=h2.1
        rw[hpp rfl] at this
        exact this
      ·cases i' with
       | false=>rfl
       | true =>
        rcases hii with hi | hi
        ·have:=h2.2
         rw[hi rfl] at this
         exact this
        ·rw[decide_eq_false (fun e=>hi (by rw[<-e];exact he))]
         rfl
     rw[hc]
     by_cases hv:n∈voids
     ·rw[if_pos hv,h3 hv,allL,joinR]
      rfl
     ·rw[if_neg hv,st_join _ (ok_allL hp k h4 (fun e=>?_) hi1)]
      ·rfl
      ·rw[Bool.or_eq_true] at e ⊢
       exact e.imp hpp id
    ·rw[if_neg he]
     exact ok_allL hp k h4 (fun e=>by rw[hpp e];rfl) (hi2 he)
theorem ok_allL {pl:Pol}(hp:Right pl):∀ (l:List Nd) {p i p' i':Bool},nakL p i l->(p'=true->p=true)->((i'=true->i=true)\/([108,105]:L) ∉ pl.el)->∀ y∈allL pl l,okX p' i' y
 | [],_,_,_,_,_,_,_=>by rw[allL];simp
 | x :: r,p,i,p',i',h,hpp,hii=>by
  rw[nakL] at h
  rw[allL]
  intro y hy
  rcases List.mem_append.1 hy with hy | hy
  ·exact ok_allN hp x h.1 hpp hii y hy
  ·exact ok_allL hp r h.2 hpp hii y hy
end
theorem tree_st {p:Pol}(hp:Right p) {ns:List Nd}(h:nakL false false ns):stL false false false (treeL p ns)=true :=
 st_join _ (ok_allL hp ns h id (.inl id))
/-! Each element is as the policy has it. -/
theorem inner_txt (p:Pol) (t:L):innerN p (txt t)=true:=by
 unfold txt
 rw[innerN,if_pos rfl]
theorem inner_ahead {p:Pol}{t:L}{l:List Nd}(h:innerL p l=true):innerL p (textAhead t l)=true:=by
 unfold textAhead
 split
 ·exact h
 ·split
  ·rw[innerL,inner_txt,innerL]
   rfl
  ·rename_i y q
   rw[innerL,Bool.and_eq_true] at h
   split
   ·rw[innerL,inner_txt,h.2]
    rfl
   ·rw[innerL,inner_txt,innerL,h.1,h.2]
    rfl
theorem inner_join {p:Pol}:∀ l:List Nd,innerL p l=true->innerL p (joinR l)=true
 | [],_=>by rw[joinR,innerL]
 | x :: r,h=>by
  rw[innerL,Bool.and_eq_true] at h
  rw[joinR_cons]
  split
  ·exact inner_ahead (inner_join r h.2)
  ·rw[innerL,h.1,inner_join r h.2]
   rfl
mutual
theorem inner_allN {p:Pol}:∀ x:Nd,innerL p (allN p x)=true
 | .mk n a t k=>by
  rw[allN]
  by_cases hn:n=[]
  ·rw[if_pos hn,innerL,inner_txt,innerL]
   rfl
  ·rw[if_neg hn]
   by_cases hd:dropB n=true
   ·rw[if_pos hd,innerL]
   ·rw[if_neg hd]
    by_cases he:n∈p.el
    ·rw[if_pos he,innerL,innerN,if_neg hn,innerL,Bool.and_true,decide_eq_true he,inner_join _ (inner_allL k)]
     rw[Bool.and_eq_true,List.all_eq_true]
     refine⟨fun x hx=>attrsO_value he hx,?_⟩
     by_cases ha:n=aN
     ·rw[attrsO_linked ha]
      simp
     ·rw[decide_eq_false ha]
      rfl
    ·rw[if_neg he]
     exact inner_allL k
theorem inner_allL {p:Pol}:∀ l:List Nd,innerL p (allL p l)=true
 | []=>by rw[allL,innerL]
 | x :: r=>by rw[allL,inner_app,inner_allN x,inner_allL r];rfl
end
theorem tree_inner (p:Pol) (ns:List Nd):innerL p (treeL p ns)=true:=inner_join _ (inner_allL ns)
theorem tree_safe {p:Pol}(hp:Right p) {ns:List Nd}(h:nakL false false ns)(h1:(ncL (treeL p ns):Int)<=p.nd)(h2:(dpL (treeL p ns):Int)<=p.dp):safeB p (treeL p ns)=true:=by
 have hc:=hp.c
 exact (safe_iff _ _).2 ⟨by omega,by omega,tree_st hp h,h1,h2,tree_inner p ns⟩
end San
namespace San
open Utf1 Pol8 Saf
/-! Classes. -/
theorem joinB_segs:∀ v:L,joinB (Pol8.segs 32 v)=v
 | []=>rfl
 | b :: l=>by
  have ih:=joinB_segs l
  have hne:=segs_ne 32 l
  rw[Pol8.segs]
  by_cases h:b=32
  ·rw[if_pos h]
   cases hs:Pol8.segs 32 l with
   | nil=>exact absurd hs hne
   | cons x r =>
    rw[hs] at ih
    rw[joinB,ih,List.nil_append,h]
  ·rw[if_neg h]
   cases hs:Pol8.segs 32 l with
   | nil=>exact absurd hs hne
   | cons x r =>
    rw[hs] at ih
    simp only
    cases r with
    | nil=>rw[joinB] at ih ⊢;rw[ih]
    | cons y q =>
     rw[joinB] at ih ⊢
     rw[List.cons_append,ih]
theorem fold_all (cl:List L):∀ (l acc:List L),clsFrom cl acc l=true->l.foldl (clsStep cl) acc=acc++l
 | [],acc,_=>by simp
 | x :: r,acc,h=>by
  rw[clsFrom,Bool.and_eq_true,Bool.and_eq_true,decide_eq_true_eq,Bool.not_eq_true',decide_eq_false_iff_not] at h
  rw[List.foldl_cons,show clsStep cl acc x=acc++[x] from if_pos h.1,fold_all cl r _ h.2,List.append_assoc]
  rfl
theorem cls_id {cl:List L}{v:L}(h:classesB cl v=true):clsO cl v=v:=by
 unfold clsO clsK
 rw[fold_all cl _ [] h,List.nil_append,joinB_segs]
theorem val_id {p:Pol}{e n v:L}(h1:n≠relN)(h:valueB p e n v=true):valO p n v=v:=by
 unfold valueB at h
 rw[Bool.and_eq_true,if_neg h1] at h
 unfold valO
 have h:=h.2
 by_cases h2:n=styN
 ·rw[if_pos h2,Bool.and_eq_true,decide_eq_true_eq,decide_eq_true_eq] at h
  rw[if_pos h2]
  exact h.2
 ·rw[if_neg h2,Bool.and_eq_true] at h
  rw[if_neg h2]
  by_cases h3:n=clsN
  ·have h:=h.2
   rw[if_pos h3,Bool.and_eq_true] at h
   rw[if_pos h3]
   exact cls_id h.2
  ·rw[if_neg h3]
theorem atO_id {p:Pol}{e:L}{kv:L × L}(h1:kv.1≠relN)(h:valueB p e kv.1 kv.2=true):atO p e kv=some kv:=by
 unfold atO
 rw[if_neg h1,val_id h1 h,if_pos h]
theorem atsK_id {p:Pol}{e:L}:∀ a:At,(∀ x∈a,x.1≠relN)->(∀ x∈a,valueB p e x.1 x.2=true)->atsK p e a=a
 | [],_,_=>rfl
 | x :: r,h1,h2=>by
  unfold atsK
  rw[List.filterMap_cons,atO_id (h1 x (List.mem_cons_self ..)) (h2 x (List.mem_cons_self ..))]
  simp only
  rw[show r.filterMap (atO p e)=r from atsK_id r (fun y hy=>h1 y (List.mem_cons_of_mem _ hy)) (fun y hy=>h2 y (List.mem_cons_of_mem _ hy))]
theorem atsK_app (p:Pol) (e:L) (a b:At):atsK p e (a++b)=atsK p e a++atsK p e b:=by
 unfold atsK
 rw[List.filterMap_append]
theorem rel_value {p:Pol}{e v:L}(h:valueB p e relN v=true):e=aN/\v=forced:=by
 unfold valueB at h
 rw[if_pos rfl,Bool.and_eq_true,Bool.and_eq_true,decide_eq_true_eq,decide_eq_true_eq,decide_eq_true_eq] at h
 exact h.2
theorem attrs_id {p:Pol}{e:L}{a:At}(hd:(a.map Prod.fst).Nodup)(hv:∀ x∈a,valueB p e x.1 x.2=true)(hl:e=aN->linkedB a=true):attrsO p e a=a:=by
 by_cases hr:hasB a relN=true
 ·obtain⟨x,hx,ex⟩:=hasB_mem.1 hr
  have h1:=hv x hx
  rw[ex] at h1
  obtain⟨ha,hf⟩:=rel_value h1
  have h2:=hl ha
  unfold linkedB at h2
  have hh:hasB a href=true:=by
   cases h:hasB a href with
   | true=>rfl
   | false=>rw[h,hr] at h2;cases h2
  rw[if_pos hh] at h2
  unfold lastB at h2
  have h2:=of_decide_eq_true h2
  cases hg:a.getLast? with
  | none=>rw[hg] at h2;cases h2
  | some y =>
   rw[hg] at h2
   have ey:y.1=relN:=Option.some.inj h2
   have hya:=List.mem_of_getLast? hg
   have hy:=hv y hya
   rw[ey] at hy
   have ey2:=(rel_value hy).2
   have hs:a=a.dropLast++[y]:=by
    have hne:a≠[]:=fun e=>by rw[e] at hg;cases hg
    rw[List.getLast?_eq_some_getLast hne] at hg
    have:=List.dropLast_concat_getLast hne
    rw[Option.some.inj hg] at this
    exact this.symm
   have hyy:y=(relN,forced):=by rw[<-ey,<-ey2]
   rw[hyy] at hs
   generalize a.dropLast=b at hs
   subst hs
   rw[List.map_append,List.nodup_append] at hd
   have hb:∀ z∈b,z.1≠relN:=fun z hz e=>hd.2.2 z.1 (List.mem_map_of_mem hz) relN (by simp) e
   have hk:atsK p e (b++[(relN,forced)])=b:=by
    rw[atsK_app,atsK_id b hb (fun z hz=>hv z (List.mem_append.2 (.inl hz)))]
    have:atsK p e [(relN,forced)]=[]:=by
     unfold atsK
     rw[List.filterMap_cons]
     have:atO p e (relN,forced)=none:=if_pos rfl
     rw[this]
     rfl
    rw[this,List.append_nil]
   have hbh:hasB b href=true:=by
    obtain⟨z,hz,ez⟩:=hasB_mem.1 hh
    rcases List.mem_append.1 hz with hz | hz
    ·exact hasB_mem.2 ⟨z,hz,ez⟩
    ·have:z=(relN,forced):=by simpa using hz
     rw[this] at ez
     exact absurd ez (by decide)
   unfold attrsO
   rw[hk,if_pos ⟨ha,hbh⟩]
 ·have hn:∀ x∈a,x.1≠relN:=fun x hx e=>hr (hasB_mem.2 ⟨x,hx,e⟩)
  unfold attrsO
  rw[atsK_id a hn hv]
  refine if_neg (fun h=>?_)
  have h2:=hl h.1
  unfold linkedB at h2
  rw[if_pos h.2] at h2
  unfold lastB at h2
  have h2:=of_decide_eq_true h2
  cases hg:a.getLast? with
  | none=>rw[hg] at h2;cases h2
  | some y =>
   rw[hg] at h2
   exact hn y (List.mem_of_getLast? hg) (Option.some.inj h2)
/-! The tree. -/
theorem st_isJoined {p i:Bool}:∀ (l:List Nd) (b:Bool),stL p i b l=true->Joined l/\(b=true->∀ y q,l=y :: q->y.name≠[])
 | [],b,_=>⟨trivial,fun _ y q e=>by cases e⟩
 | x :: r,b,h=>by
  rw[stL,Bool.and_eq_true] at h
  obtain⟨h1,h2⟩:=st_isJoined r _ h.2
  have key:x.name=[]->x=txt x.text/\x.text≠[]/\b=false:=by
   intro hn
   cases x with
   | mk n a t k =>
    obtain⟨k1,k2,k3,k4⟩:=stN_text hn h.1
    have hn:n=[]:=hn
    subst hn
    subst k3
    subst k4
    exact⟨rfl,k1,k2⟩
  refine⟨⟨fun hn=>⟨(key hn).1,(key hn).2.1,fun y q e=>h2 (decide_eq_true hn) y q e⟩,h1⟩,fun hb y q e hy=>?_⟩
  cases e
  have:=(key hy).2.2
  rw[hb] at this
  cases this
mutual
theorem all_idN {pl:Pol}(hp:Right pl):∀ (x:Nd) {p i b:Bool},stN p i b x=true->innerN pl x=true->allN pl x=[x]
 | .mk n a t k,p,i,b,hs,hi=>by
  rw[allN]
  by_cases hn:n=[]
  ·obtain⟨-,-,k3,k4⟩:=stN_text hn hs
   rw[if_pos hn,hn,k3,k4]
   rfl
  ·obtain⟨k1,-,k3,-,k5,k6⟩:=stN_elem hn hs
   rw[innerN,if_neg hn,Bool.and_eq_true,Bool.and_eq_true,Bool.and_eq_true,List.all_eq_true,decide_eq_true_eq] at hi
   obtain⟨i1,i2,i3,i4⟩:=hi
   have hd:=(may_elem hp i2).2.1
   unfold mayA at k3
   rw[Bool.and_eq_true,decide_eq_true_eq] at k3
   have hl:n=aN->linkedB a=true:=fun e=>by
    rw[decide_eq_true e] at i3
    simpa using i3
   rw[if_neg hn,if_neg (by rw[hd];decide),if_pos i2,attrs_id k3.2 i1 hl]
   have hk:joinR (allL pl k)=k:=by
    by_cases hv:n∈voids
    ·rw[k5 hv,allL,joinR]
    ·have hst:=k6 hv
     rw[all_idL hp k hst i4,join_id _ (st_isJoined k _ hst).1]
   rw[hk,k1]
theorem all_idL {pl:Pol}(hp:Right pl):∀ (l:List Nd) {p i b:Bool},stL p i b l=true->innerL pl l=true->allL pl l=l
 | [],_,_,_,_,_=>by rw[allL]
 | x :: r,p,i,b,hs,hi=>by
  rw[stL,Bool.and_eq_true] at hs
  rw[innerL,Bool.and_eq_true] at hi
  rw[allL,all_idN hp x hs.1 hi.1,all_idL hp r hs.2 hi.2]
  rfl
end
theorem tree_id {p:Pol}(hp:Right p) {ns:List Nd}(h:safeB p ns=true):treeL p ns=ns:=by
 have h:=(safe_iff _ _).1 h
 unfold treeL
 rw[all_idL hp ns h.s h.i,join_id _ (st_isJoined ns _ h.s).1]
/-! Text. -/
mutual
def plainN:Nd->Prop
 | .mk n _ t k=>(n=[]->k=[])/\(n≠[]->t=[])/\plainL k
def plainL:List Nd->Prop
 | []=>True
 | x :: r=>plainN x/\plainL r
end
end San
namespace San
open Utf1 Pol8 Saf
theorem wc_not {b:UInt8}(h:wc b=true):Sty.cutset.contains b=false/\¬ (65<=b.toNat/\b.toNat<=90)/\b≠58/\b≠59/\b≠32:=by
 have h:=of_decide_eq_true h
 refine⟨Sty.set_not b (by omega) (by omega) (by omega) (by omega) (by omega),by omega,?_,?_,?_⟩ <;>
 ·rintro rfl
  revert h
  decide
theorem word_pl {n:L}(h:isWord n=true) (a z:L)(ha:∀ b∈a,Sty.cutset.contains b=true)(hz:∀ b∈z,Sty.cutset.contains b=true):Sty.pl (a++n++z)=n:=by
 obtain⟨h0,h1⟩:=word_cs h
 have h2:∀ b,n.head?=some b->Sty.cutset.contains b=false:=fun b hb=>(wc_not (h1 b (List.mem_of_mem_head? hb))).1
 have h3:∀ b,n.getLast?=some b->Sty.cutset.contains b=false:=fun b hb=>(wc_not (h1 b (List.mem_of_mem_getLast? hb))).1
 unfold Sty.pl
 rw[Sty.trim_around a n z h0 ha hz (Sty.trim_id n h2 h3) h2 h3]
 exact Sty.lower_id n fun b hb=>(wc_not (h1 b hb)).2.1
theorem good_word {n v:L}(hn:isWord n=true)(hv:Sty.okv v=true):Sty.Good (n,v):=by
 have c32:∀ b∈([32]:L),Sty.cutset.contains b=true:=by decide
 have c0:∀ b∈([]:L),Sty.cutset.contains b=true:=by simp
 obtain⟨h0,h1⟩:=word_cs hn
 obtain⟨_,v1,_,_⟩:=Sty.okv_ends hv
 refine⟨fun e=>?_,fun e=>?_,fun e=>?_,?_,?_,?_⟩
 ·have:=h1 _ e;revert this;decide
 ·have:=h1 _ e;revert this;decide
 ·have:=v1 _ e;revert this;decide
 ·have:=word_pl hn [] [] c0 c0;simpa using this
 ·have:=word_pl hn [32] [] c32 c0;simpa using this
 ·have:=Sty.okv_pl hv [32] [] c32 c0;simpa using this
theorem filt_word {props:List L}(hp:∀ n∈props,isWord n=true) (s:L):Sty.filt props (Sty.filt props s)=Sty.filt props s:=by
 have h:Sty.prts (Sty.filt props s)=Sty.lastOnly (Sty.stay props s):=Sty.prts_all _ fun x hx=>good_word (hp x.1 (Sty.stay_keep hx).1) (Sty.stay_keep hx).2
 have e:Sty.stay props (Sty.filt props s)=Sty.lastOnly (Sty.stay props s):=by
  show (Sty.prts (Sty.filt props s)).filter (Sty.keep props)=_
  rw[h]
  refine List.filter_eq_self.2 fun x hx=>?_
  unfold Sty.keep
  rw[(Sty.stay_keep hx).2,decide_eq_true (Sty.stay_keep hx).1]
  rfl
 show (Sty.lastOnly (Sty.stay props (Sty.filt props s))).foldl Sty.emit []=(Sty.lastOnly (Sty.stay props s)).foldl Sty.emit []
 rw[e,Sty.last_last]
/-! Classes. -/
theorem segs_joinB:∀ l:List L,l≠[]->(∀ x∈l,(32:UInt8) ∉ x)->Pol8.segs 32 (joinB l)=l
 | [],h,_=>absurd rfl h
 | [x],_,h=>by
  rw[joinB]
  exact Pol8.segs_end 32 _ (h x (List.mem_cons_self ..))
 | x :: y :: r,_,h=>by
  rw[joinB,Pol8.segs_semi 32 _ _ (h x (List.mem_cons_self ..)),segs_joinB (y :: r) (by simp) fun z hz=>h z (List.mem_cons_of_mem _ hz)]
theorem clsFrom_of {cl:List L}:∀ (l seen:List L),(∀ x∈l,x∈cl)->(seen++l).Nodup->clsFrom cl seen l=true
 | [],_,_,_=>rfl
 | x :: r,seen,h,hn=>by
  rw[clsFrom,decide_eq_true (h x (List.mem_cons_self ..)),decide_eq_false (fun hx=>?_),clsFrom_of r (seen++[x]) (fun z hz=>h z (List.mem_cons_of_mem _ hz)) (by rw[List.append_assoc];exact hn)]
  ·rfl
  ·exact (List.nodup_append.1 hn).2.2 x hx x (List.mem_cons_self ..) rfl
theorem fold_cls (cl:List L):∀ (l acc:List L),(∀ x∈acc,x∈cl)->acc.Nodup->(∀ x∈l.foldl (clsStep cl) acc,x∈cl)/\(l.foldl (clsStep cl) acc).Nodup
 | [],_,h1,h2=>⟨h1,h2⟩
 | x :: r,acc,h1,h2=>by
  rw[List.foldl_cons]
  refine fold_cls cl r _ ?_ ?_
  ·unfold clsStep
   split
   ·intro z hz
    rcases List.mem_append.1 hz with hz | hz
    ·exact h1 z hz
    ·rw[List.mem_singleton.1 hz]
     exact (by assumption:x∈cl/\x ∉ acc).1
   ·exact h1
  ·unfold clsStep
   split
   ·rename_i hx
    rw[List.nodup_append]
    refine⟨h2,by simp,fun a ha b hb e=>?_⟩
    rw[List.mem_singleton.1 hb] at e
    exact hx.2 (e ▸ ha)
   ·exact h2
theorem cls_may {cl:List L}(hc:∀ x∈cl,isWord x=true) (v:L):(decide (clsO cl v≠[]) && classesB cl (clsO cl v))=decide (clsK cl v≠[]):=by
 obtain⟨h1,h2⟩:=fold_cls cl (Pol8.segs 32 v) [] (by simp) List.nodup_nil
 have h1:∀ x∈clsK cl v,x∈cl:=h1
 have h2:(clsK cl v).Nodup:=h2
 unfold clsO
 cases hk:clsK cl v with
 | nil=>rfl
 | cons x r =>
  rw[hk] at h1 h2
  have hw:∀ z∈x :: r,(32:UInt8) ∉ z:=fun z hz e=>(wc_not ((word_cs (hc z (h1 z hz))).2 _ e)).2.2.2.2 rfl
  have hne:joinB (x :: r)≠[]:=by
   have hx:=(word_cs (hc x (h1 x (List.mem_cons_self ..)))).1
   cases r with
   | nil=>exact hx
   | cons y r=>rw[joinB];simp
  rw[decide_eq_true hne,decide_eq_true (by simp)]
  unfold classesB
  rw[segs_joinB _ (by simp) hw,clsFrom_of (x :: r) [] h1 (by simpa using h2)]
  rfl
def atP (p:Pol) (e:L) (kv:L × L):Option (L × L):=if kv.1=relN then none else if kv.1=styN then (if Sty.filt p.pr kv.2=[] then none else some (kv.1,Sty.filt p.pr kv.2))
 else if kv.1=clsN then (if attrB p e kv.1=true/\clsK p.cl kv.2≠[] then some (kv.1,clsO p.cl kv.2) else none) else if valueB p e kv.1 kv.2=true then some kv else none
theorem atP_is {p:Pol}(hp:Right p) {e:L}(he:e∈p.el) (kv:L × L):atP p e kv=atO p e kv:=by
 unfold atP atO
 by_cases h1:kv.1=relN
 ·rw[if_pos h1,if_pos h1]
 rw[if_neg h1,if_neg h1]
 unfold valO
 by_cases h2:kv.1=styN
 ·rw[if_pos h2,if_pos h2]
  unfold valueB
  rw[if_neg h1,if_pos h2,filt_word (words_all hp.pr),decide_eq_true he,decide_eq_true rfl,Bool.and_true,Bool.true_and]
  by_cases h3:Sty.filt p.pr kv.2=[]
  ·rw[if_pos h3,decide_eq_false (fun h=>h h3)]
   rfl
  ·rw[if_neg h3,decide_eq_true h3]
   rfl
 rw[if_neg h2,if_neg h2]
 by_cases h3:kv.1=clsN
 ·rw[if_pos h3,if_pos h3]
  unfold valueB
  rw[if_neg h1,if_neg h2,if_pos h3,cls_may (words_all hp.cl),decide_eq_true he,Bool.true_and]
  cases ha:attrB p e kv.1 with
  | false=>rw[if_neg (fun h=>by cases h.1)];rfl
  | true =>
   by_cases h4:clsK p.cl kv.2=[]
   ·rw[if_neg (fun h=>h.2 h4),decide_eq_false (fun h=>h h4)]
    rfl
   ·rw[if_pos ⟨rfl,h4⟩,decide_eq_true h4]
    rfl
 ·rw[if_neg h3,if_neg h3]
def atsP (p:Pol) (e:L) (a:At):At:=a.filterMap (atP p e)
def attrsP (p:Pol) (e:L) (a:At):At:=if e=aN/\hasB (atsP p e a) href=true then atsP p e a++[(relN,forced)] else atsP p e a
theorem attrsP_is {p:Pol}(hp:Right p) {e:L}(he:e∈p.el) (a:At):attrsP p e a=attrsO p e a:=by
 have h:atsP p e a=atsK p e a:=by
  unfold atsP atsK
  rw[show atP p e=atO p e from funext fun x=>atP_is hp he x]
 unfold attrsP attrsO
 rw[h]
theorem atsP_next {p:Pol}{e:L}{l:At}{i:Nat}{kv:L × L}(h:l[i]?=some kv):atsP p e (l.take (i+1))=atsP p e (l.take i)++(atP p e kv).toList:=by
 unfold atsP
 rw[List.take_add_one,h,List.filterMap_append]
 congr 1
theorem has_snoc (a:At) (x:L × L) (n:L):hasB (a++[x]) n=(hasB a n || decide (x.1=n)):=by
 unfold hasB
 rw[List.any_append,List.any_cons,List.any_nil,Bool.or_false]
/-! Texts. -/
def endT (t:L):List Nd:=if t=[] then [] else [txt t]
def push (s:List Nd × L) (x:Nd):List Nd × L:=if x.name=[] then (s.1,s.2++x.text) else (s.1++endT s.2++[x],[])
theorem push_all:∀ (l:List Nd) (s:List Nd × L),(l.foldl push s).1++endT (l.foldl push s).2=s.1++textAhead s.2 (joinR l)
 | [],s=>by
  rw[List.foldl_nil,joinR]
  rfl
 | x :: r,s=>by
  rw[List.foldl_cons,push_all r,joinR_cons]
  unfold push
  by_cases hx:x.name=[]
  ·rw[if_pos hx,if_pos hx,ahead_ahead]
  ·rw[if_neg hx,if_neg hx]
   have e1:textAhead ([]:L) (joinR r)=joinR r:=by unfold textAhead;rw[if_pos rfl]
   rw[e1]
   unfold textAhead endT
   by_cases ht:s.2=[]
   ·rw[if_pos ht,if_pos ht]
    simp
   ·rw[if_neg ht,if_neg ht]
    simp only
    rw[if_neg hx]
    simp
theorem push_tree (p:Pol) (ns:List Nd):((allL p ns).foldl push ([],[])).1++endT ((allL p ns).foldl push ([],[])).2=treeL p ns:=by
 rw[push_all]
 unfold treeL textAhead
 rw[if_pos rfl,List.nil_append]
end San
namespace Go.Proofs.YtkiofbikkhhdfabGreatDoor.Dm
open Go.RowKit
open Utf1
theorem meth_text (w:World) (a b c d:Value):(method 334 161 (.agg #[a,b,c,d]) "verso/ser.write").run Tryz.prog w=.ok (207,.agg #[a,b,c,d]) w:=by kernel_rfl
theorem meth_elem (w:World) (a b c d:Value):(method 334 162 (.agg #[a,b,c,d]) "verso/ser.write").run Tryz.prog w=.ok (209,.agg #[a,b,c,d]) w:=by kernel_rfl
set_option maxRecDepth 100000 in
set_option maxHeartbeats 8000000 in
theorem writeAll_nst (w0:World):∀ (D:Nat) (w:World) (v:Value) (ns:List Nd) (acc:List UInt8),NAtD w0 D v ns->Below w0.heap.size w0 w->PB w0 w acc->acc.length+(htL ns).length<=1000000000 ->
  Calls Tryz.prog 66 #[.pointer (some ⟨w0.heap.size,0,none⟩),v] w (WPost w0 w acc (htL ns)):=by
 intro D
 induction D with
 | zero=>intro w v ns acc h;exact h.elim
 | succ D0 ih =>
 intro w v ns acc hk hb hu hlen
 obtain⟨p,c,rfl,hNm,hnode⟩:=hk
 have HNODE:=hide hnode
 have HBW:=hide hb
 have HBU:=hide hu
 have HIH:=hide ih
 have HLEN:=hide hlen
 obtain⟨N,hN⟩:∃ N,N=ns.length:=⟨_,rfl⟩
 rw[<-hN] at hNm ⊢
 have HN:=hide hN
 clear hnode hb ih hN hu hlen
 go_enter Tryz.func66,Tryz.ntmps66
 go_wp2_with fail
 go_loopg [8] N (fun k v8 wr=>∃ (j:Nat) (d rest:List Nd),rest.length=k/\d.length=j/\j+k=N/\v8=.int .i64 (j:Int)/\Hid (ns=d++rest)/\Hid (PB w0 wr (acc++htL d)/\Below w0.heap.size w wr/\Lib.OthersKept 5 (some w0.heap.size) w wr))
 case atStart=>exact⟨0,[],ns,HN.out.symm,rfl,by omega,rfl,hide rfl,hide ⟨by rw[show htL []=[] from rfl,List.append_nil];exact HBU.out,Below.refl _ _,Lib.OthersKept.refl _ _ _⟩⟩
 case round =>
  obtain⟨j,d,rest,rfl,hdj,hjk,rfl,HD,HS⟩:=hrel
  clear HBU
  match rest,hjk,HD with
  | [],hjk,HD =>
   have e1:d=ns:=by
    have:=HD.out
    rw[List.append_nil] at this
    exact this.symm
   simp only[List.length_nil,Nat.add_zero] at hjk
   subst hjk
   subst e1
   clear HD hdj
   go_wp2_with fail
   go_end0
   exact⟨rfl,HS.out⟩
  | nd :: rest,hjk,HD =>
   have hjN:j < N:=by simp only[List.length_cons] at hjk;omega
   have hge:ns[j]?=some nd:=by
    rw[HD.out,List.getElem?_append_right (by omega),hdj,Nat.sub_self]
    rfl
   obtain⟨g,off,ap,am,ac,kp,km,kc,hp,x0,x1,x2,x3,hsz,har,hkk⟩:=HNODE.out j nd hge
   subst hp
   have hbr:=HBW.out.trans HS.out.2.1
   have x0:=cell_keep x0 hbr
   have x1:=cell_keep x1 hbr
   have x2:=cell_keep x2 hbr
   have x3:=cell_keep x3 hbr
   have hct:(htL ns).length=(htL d).length+((htN nd).length+(htL rest).length):=by
    rw[HD.out,htL_app,List.length_append,htL,List.length_append]
   have hlen:=HLEN.out
   obtain⟨XN,hXN⟩:∃ X:ByteArray,X=⟨nd.name.toArray⟩:=⟨_,rfl⟩
   obtain⟨XT,hXT⟩:∃ X:ByteArray,X=⟨nd.text.toArray⟩:=⟨_,rfl⟩
   rw[<-hXN] at x0
   rw[<-hXT] at x2
   have q0:XN.toList.isEmpty=decide (nd.name=[]):=by rw[hXN];exact nm_empty _
   have hT1:bl XT=nd.text:=by rw[hXT]
   obtain⟨w2,hw2⟩:∃ w2,w2=wr.alloc (.cells #[.string XN,.slice ap am ac,.string XT,.slice kp km kc] 80):=⟨_,rfl⟩
   have hb2:Below wr.heap.size wr w2:=by rw[hw2];exact (Below.refl _ _).alloc (Nat.le_refl _) _
   have y0:w2.cell? ⟨wr.heap.size,0,none⟩=some (.string XN):=by rw[hw2,new_cell];rfl
   have y1:w2.cell? ⟨wr.heap.size,1,none⟩=some (.slice ap am ac):=by rw[hw2,new_cell];rfl
   have y2:w2.cell? ⟨wr.heap.size,2,none⟩=some (.string XT):=by rw[hw2,new_cell];rfl
   have y3:w2.cell? ⟨wr.heap.size,3,none⟩=some (.slice kp km kc):=by rw[hw2,new_cell];rfl
   have HD2:Hid (ns=(d++[nd])++rest):=hide (by rw[HD.out];simp)
   have HT2:Hid (acc++htL (d++[nd])=acc++htL d++htN nd):=hide (by rw[htL_app];show acc++(_++(htN nd++[]))=_;rw[List.append_nil,List.append_assoc])
   have hjk2:j+(rest.length+1)=N:=hjk
   have hdj2:(d++[nd]).length=j+1:=by simp[hdj]
   have HWC:Hid (∀ wx,Below w2.heap.size w2 wx->Calls Tryz.prog (if nd.name=[] then 207 else 209) #[.agg #[.string XN,.slice ap am ac,.string XT,.slice kp km kc],.pointer (some ⟨w0.heap.size,0,none⟩)] wx fun e w'=>e=.returned (.tuple #[])/\Hid (PB w0 w' (acc++htL (d++[nd]))/\Below w0.heap.size w w'/\Lib.OthersKept 5 (some w0.heap.size) w w')):=hide (by
    intro wx hx
    have hbx:=bel2 hb2 hx
    have hend:∀ x,x=htN nd->∀ e w',WPost w0 wx (acc++htL d) x e w'->e=.returned (.tuple #[])/\Hid (PB w0 w' (acc++htL (d++[nd]))/\Below w0.heap.size w w'/\Lib.OthersKept 5 (some w0.heap.size) w w'):=by
     intro x hx e w' ⟨h1,h2,h3,h4⟩
     subst hx
     exact⟨h1,by rw[HT2.out];exact h2,HS.out.2.1.trans ((hbx.mono hbr.size).trans h3),HS.out.2.2.trans ((kept_bel hbx).trans h4)⟩
    by_cases hn:nd.name=[]
    ·rw[if_pos hn]
     have hh:=htN_kids nd
     rw[if_pos hn,<-hT1] at hh
     refine (text_write w0 wx ap am ac XN XT kp km kc (acc++htL d) (hbr.trans (hbx.mono hbr.size)) (HS.out.1.keep hbx) ?_).mono (hend _ hh.symm)
     rw[List.length_append,<-hh]
     omega
    ·rw[if_neg hn]
     refine (elem_write w0 wx nd ap am ac XN XT kp km kc (acc++htL d) hXN hn (hbr.trans (hbx.mono hbr.size)) (HS.out.1.keep hbx) har ?_ ?_).mono (hend _ rfl)
     ·intro wy ac2 h1 h2 h3
      exact HIH.out wy _ _ ac2 hkk h1 h2 h3
     ·rw[List.length_append]
      omega)
   clear hge hkk har hbr HD hXT hXN hjk hct hlen hT1 HS hdj HIH HNODE HT2 hsz
   have HB2:=hide hb2
   clear hb2
   go_upto_region 3 with fail
   rw[<-hw2]
   clear hw2 x0 x1 x2 x3
   by_cases hnm:nd.name=[]
   ·rw[decide_eq_true hnm] at q0
    rw[if_pos hnm] at HWC
    have hm:=fun w=>meth_text w (.string XN) (.slice ap am ac) (.string XT) (.slice kp km kc)
    go_wp2_with fail
    refine (partOf_text _ ap am ac XN XT kp km kc q0).mono ?_
    rintro e w3 ⟨rfl,hb3⟩
    have HW3:=hide (HWC.out w3 hb3)
    clear hb3 HWC
    go_wp2_with fail
    refine HW3.out.mono ?_
    rintro e w4 ⟨rfl,HS4⟩
    clear HW3 hm
    go_wp2_with fail
    go_roundg rest.length
    case measure=>simp only[List.length_cons];omega
    case rel=>exact⟨j+1,d++[nd],rest,rfl,hdj2,by omega,by first | rfl | simp,HD2,HS4⟩
   ·rw[decide_eq_false hnm] at q0
    rw[if_neg hnm] at HWC
    have hm:=fun w=>meth_elem w (.string XN) (.slice ap am ac) (.string XT) (.slice kp km kc)
    go_wp2_with fail
    refine (partOf_elem _ ap am ac XN XT kp km kc q0).mono ?_
    rintro e w3 ⟨rfl,hb3⟩
    have HW3:=hide (HWC.out w3 hb3)
    clear hb3 HWC
    go_wp2_with fail
    refine HW3.out.mono ?_
    rintro e w4 ⟨rfl,HS4⟩
    clear HW3 hm
    go_wp2_with fail
    go_roundg rest.length
    case measure=>simp only[List.length_cons];omega
    case rel=>exact⟨j+1,d++[nd],rest,rfl,hdj2,by omega,by first | rfl | simp,HD2,HS4⟩
set_option maxRecDepth 100000 in
set_option maxHeartbeats 8000000 in
theorem html_nst (w:World) (v:Value) (ns:List Nd)(hk:NAt w v ns)(hl:(htL ns).length<=1000000000) :
  Calls Tryz.prog 22 #[v] w fun e w'=>(∃ O,e=.returned (.string O)/\bl O=htL ns)/\Below w.heap.size w w':=by
 obtain⟨D,hk⟩:=hk
 have hb1:Below w.heap.size w (w.alloc (.cells #[.pointer none,.slice none 0 0] 71)):=(Below.refl _ _).alloc (Nat.le_refl _) _
 have hu1:PB w (w.alloc (.cells #[.pointer none,.slice none 0 0] 71)) []:=Lib.IsBuilderF.of (Lib.fresh_isBuilder 71 5 w)
 have HW:=hide (writeAll_nst w D _ v ns [] hk hb1 hu1 (by simpa using hl))
 have HB1:=hide hb1
 clear hk hb1 hu1
 go_enter Tryz.func22,Tryz.ntmps22
 go_wp2_with fail
 refine HW.out.mono ?_
 rintro e w2 ⟨rfl,m1,m2,-⟩
 have HS:=hide (Tryz.Builder_String_any_k w.heap.size w.heap.size _ w2 m1 (HB1.out.trans m2).size)
 have HB2:=hide (HB1.out.trans m2)
 clear m1 m2 HW HB1
 go_wp2_with fail
 refine HS.out.mono ?_
 rintro e w3 ⟨rfl,_,m2,_⟩
 have HB3:=hide (HB2.out.trans m2)
 clear m2 HS HB2
 go_wp2_with fail
 go_ret
 exact⟨⟨_,rfl,rfl⟩,HB3.out⟩
end Go.Proofs.YtkiofbikkhhdfabGreatDoor.Dm
namespace Go.Proofs.YtkiofbikkhhdfabGreatDoor
open Go.RowKit
open Utf1 Pol8
end Go.Proofs.YtkiofbikkhhdfabGreatDoor
