import Derived.Test.YtkiofbikkhhdfaaGreatDoorK21
import Derived.Test.YtkiofbikkhhdfaaGreatDoorK02
namespace San
open Utf1 Pol8 Saf
/-! Names. -/
theorem wc_nm {c:UInt8}(o:L)(ho:(45:UInt8)∈o)(h:wc c=true):nmB o c=true:=by
 have h:=of_decide_eq_true h
 unfold nmB isSm
 rcases h with h | h | h
 ·rw[decide_eq_true h]
  rfl
 ·rw[decide_eq_true h,Bool.or_true,Bool.true_or]
 ·have e:c=45:=UInt8.toNat_inj.1 h
  rw[e,decide_eq_true ho,Bool.or_true]
theorem word_nm {n:L}(h:isWord n=true) (o:L)(ho:(45:UInt8)∈o):isNmL o n=true:=by
 unfold isWord at h
 rw[Bool.and_eq_true,Bool.and_eq_true,List.all_eq_true] at h
 cases n with
 | nil=>simp at h
 | cons c t =>
  rw[isNmL,Bool.and_eq_true,List.all_eq_true]
  exact⟨by simpa [isSm,sm] using h.2.2,fun b hb=>wc_nm o ho (h.2.1 b hb)⟩
theorem raw_is (n:L):(rawOf n).isSome=isRaw n:=by
 by_cases h:n∈rawL++rcL
 ·have:∀ x∈rawL++rcL,(rawOf x).isSome=isRaw x:=by decide
  exact this n h
 ·have h1:isRaw n=false:=by
   unfold isRaw
   rw[Bool.or_eq_false_iff]
   exact⟨decide_eq_false (fun e=>h (List.mem_append.2 (.inl e))),decide_eq_false (fun e=>h (List.mem_append.2 (.inr e)))⟩
  rw[h1]
  have h2:∀ (t:List (L × Bool)),(∀ x∈t,x.1∈rawL++rcL)->(lookR t n).isSome=false:=by
   intro t
   induction t with
   | nil=>intro _;rfl
   | cons x r ih =>
    intro hx
    rw[lookR,if_neg (fun e=>h (by rw[<-e];exact hx x (List.mem_cons_self ..)))]
    exact ih (fun y hy=>hx y (List.mem_cons_of_mem _ hy))
  exact h2 raws (by decide)
theorem may_elem {p:Pol}(hp:Right p) {n:L}(h:n∈p.el):mayE n=true/\dropB n=false/\n≠[]:=by
 have hw:=words_all hp.el n h
 have hn:=hp.nv n h
 unfold never at hn
 rw[Bool.or_eq_false_iff] at hn
 refine⟨?_,?_,(word_cs hw).1⟩
 ·unfold mayE
  rw[raw_is,hn.1,word_nm hw _ (by decide)]
  rfl
 ·unfold dropB
  rw[raw_is,hn.1,Bool.false_or]
  refine decide_eq_false (fun e=>?_)
  have hs:∀ x∈dropL,x∈neverL:=by decide
  have:=hs n e
  rw[decide_eq_true this] at hn
  cases hn.2
theorem may_attr {p:Pol}(hp:Right p) {e n:L}(he:e∈p.el)(h:attrB p e n=true):isNmL [45,95,58] n=true:=by
 unfold attrB at h
 rw[Bool.and_eq_true,decide_eq_true_eq,decide_eq_true_eq] at h
 have key:∀ x:L,(46:UInt8) ∉ x->x++46 :: n∈p.at_->isNmL [45,95,58] n=true:=by
  intro x hx hm
  have:=hp.ao _ hm
  unfold attrOk at this
  rw[dot_some x n hx] at this
  simp only[Bool.and_eq_true] at this
  have hm:=this.2
  unfold may at hm
  rw[Bool.and_eq_true] at hm
  exact word_nm hm.1 _ (by decide)
 rcases h.2 with h | h
 ·exact key [42] (by decide) h
 ·exact key e (word_46 (words_all hp.el e he)) h
theorem value_name {p:Pol}(hp:Right p) {e n v:L}(h:valueB p e n v=true):isNmL [45,95,58] n=true:=by
 unfold valueB at h
 rw[Bool.and_eq_true,decide_eq_true_eq] at h
 obtain⟨he,h⟩:=h
 by_cases h1:n=relN
 ·rw[h1]
  decide
 ·rw[if_neg h1] at h
  by_cases h2:n=styN
  ·rw[h2]
   decide
  ·rw[if_neg h2,Bool.and_eq_true] at h
   exact may_attr hp he h.1
/-! Attributes. -/
theorem atO_some {p:Pol}{e:L}{kv x:L × L}(h:atO p e kv=some x):kv.1≠relN/\x=(kv.1,valO p kv.1 kv.2)/\valueB p e x.1 x.2=true:=by
 unfold atO at h
 split at h
 ·cases h
 ·rename_i h1
  split at h
  ·rename_i h2
   cases h
   exact⟨h1,rfl,h2⟩
  ·cases h
theorem atsK_mem {p:Pol}{e:L}{a:At}{x:L × L}(h:x∈atsK p e a):x.1≠relN/\valueB p e x.1 x.2=true/\x.1∈a.map Prod.fst:=by
 unfold atsK at h
 rw[List.mem_filterMap] at h
 obtain⟨kv,h1,h2⟩:=h
 obtain⟨h3,h4,h5⟩:=atO_some h2
 have h6:x.1=kv.1:=by rw[h4]
 exact⟨by rw[h6];exact h3,h5,by rw[h6];exact List.mem_map_of_mem h1⟩
theorem atsK_nodup {p:Pol}{e:L}:∀ a:At,(a.map Prod.fst).Nodup->((atsK p e a).map Prod.fst).Nodup
 | [],_=>by simp[atsK]
 | kv :: r,h=>by
  rw[List.map_cons,List.nodup_cons] at h
  have ih:=atsK_nodup (p:=p) (e:=e) r h.2
  unfold atsK at ih ⊢
  rw[List.filterMap_cons]
  cases ho:atO p e kv with
  | none=>exact ih
  | some x =>
   obtain⟨-,h4,-⟩:=atO_some ho
   simp only
   rw[List.map_cons,List.nodup_cons]
   refine⟨fun hm=>h.1 ?_,ih⟩
   obtain⟨y,hy,e⟩:=List.mem_map.1 hm
   have:=(atsK_mem (a:=r) hy).2.2
   rw[e,h4] at this
   exact this
theorem mem_attrsO {p:Pol}{e:L}{a:At}{x:L × L}(h:x∈attrsO p e a):x∈atsK p e a\/(x=(relN,forced)/\e=aN):=by
 unfold attrsO at h
 split at h
 ·rename_i hc
  rcases List.mem_append.1 h with h | h
  ·exact .inl h
  ·exact .inr ⟨by simpa using h,hc.1⟩
 ·exact .inl h
theorem attrsO_value {p:Pol}{e:L}(he:e∈p.el) {a:At}{x:L × L}(h:x∈attrsO p e a):valueB p e x.1 x.2=true:=by
 rcases mem_attrsO h with h | ⟨rfl,ha⟩
 ·exact (atsK_mem h).2.1
 ·unfold valueB
  rw[decide_eq_true he,if_pos rfl,decide_eq_true ha,decide_eq_true rfl]
  rfl
theorem attrsO_may {p:Pol}(hp:Right p) {e:L}(he:e∈p.el) (a:At)(h:(a.map Prod.fst).Nodup):mayA (attrsO p e a)=true:=by
 unfold mayA
 rw[Bool.and_eq_true,List.all_eq_true,decide_eq_true_eq]
 refine⟨fun x hx=>value_name hp (attrsO_value he hx),?_⟩
 unfold attrsO
 split
 ·rw[List.map_append,List.nodup_append]
  refine⟨atsK_nodup a h,by simp,?_⟩
  intro x hx y hy e
  obtain⟨z,hz,e2⟩:=List.mem_map.1 hx
  have hy:y=relN:=by simpa using hy
  exact (atsK_mem hz).1 (by rw[e2,e,hy])
 ·exact atsK_nodup a h
theorem hasB_mem {a:At}{n:L}:hasB a n=true ↔ ∃ x∈a,x.1=n:=by
 unfold hasB
 rw[List.any_eq_true]
 constructor
 ·rintro ⟨x,h1,h2⟩
  exact⟨x,h1,of_decide_eq_true h2⟩
 ·rintro ⟨x,h1,h2⟩
  exact⟨x,h1,decide_eq_true h2⟩
theorem hasB_not {a:At}{n:L}(h:∀ x∈a,x.1≠n):hasB a n=false:=by
 cases e:hasB a n with
 | false=>rfl
 | true =>
  obtain⟨x,h1,h2⟩:=hasB_mem.1 e
  exact absurd h2 (h x h1)
theorem attrsO_linked {p:Pol}{e:L}(ha:e=aN) (a:At):linkedB (attrsO p e a)=true:=by
 have hno:hasB (atsK p e a) relN=false:=hasB_not (fun x hx=>(atsK_mem hx).1)
 unfold linkedB
 by_cases hh:hasB (atsK p e a) href=true
 ·have ea:attrsO p e a=atsK p e a++[(relN,forced)]:=if_pos ⟨ha,hh⟩
  have h2:hasB (atsK p e a++[(relN,forced)]) href=true:=by
   obtain⟨x,h1,h2⟩:=hasB_mem.1 hh
   exact hasB_mem.2 ⟨x,List.mem_append.2 (.inl h1),h2⟩
  rw[ea,if_pos h2]
  unfold lastB
  rw[List.getLast?_append]
  rfl
 ·have ea:attrsO p e a=atsK p e a:=if_neg (fun h=>hh h.2)
  rw[ea,if_neg hh,hno]
  rfl
/-! A tree that was built,whatever its names. -/
mutual
def nakN (p i:Bool):Nd->Prop
 | .mk n a _ k=>n≠[]->(a.map Prod.fst).Nodup/\((p && decide (n∈blocks)) || (i && decide (n=[108,105])))=false/\(n∈voids->k=[])/\nakL (p || decide (n=[112])) (itm i n) k
def nakL (p i:Bool):List Nd->Prop
 | []=>True
 | x :: r=>nakN p i x/\nakL p i r
end
def okX (p i:Bool) (x:Nd):Prop:=(x.name=[]->x=txt x.text)/\(x.name≠[]->stN p i false x=true)
theorem stN_b {p i b b':Bool}{x:Nd}(hn:x.name≠[])(h:stN p i b x=true):stN p i b' x=true:=by
 cases x with
 | mk n a t k =>
  have hn:n≠[]:=hn
  rw[stN,if_neg hn] at h ⊢
  exact h
theorem ok_ahead {p i:Bool}{t:L}{l:List Nd}(h:∀ x∈l,okX p i x):∀ x∈textAhead t l,okX p i x:=by
 have hk:∀ s,okX p i (txt s):=fun s=>⟨fun _=>rfl,fun e=>absurd rfl e⟩
 unfold textAhead
 split
 ·exact h
 ·split
  ·intro x hx
   have:x=txt t:=by simpa using hx
   rw[this]
   exact hk t
  ·rename_i y q
   split
   ·intro x hx
    rcases List.mem_cons.1 hx with e | hx
    ·rw[e]
     exact hk _
    ·exact h x (List.mem_cons_of_mem _ hx)
   ·intro x hx
    rcases List.mem_cons.1 hx with e | hx
    ·rw[e]
     exact hk _
    ·exact h x hx
theorem ok_join {p i:Bool}:∀ l:List Nd,(∀ x∈l,okX p i x)->∀ x∈joinR l,okX p i x
 | [],_=>by rw[joinR];simp
 | x :: r,h=>by
  rw[joinR_cons]
  have ih:=ok_join r (fun y hy=>h y (List.mem_cons_of_mem _ hy))
  split
  ·exact ok_ahead ih
  ·intro y hy
   rcases List.mem_cons.1 hy with e | hy
   ·rw[e]
    exact h x (List.mem_cons_self ..)
   ·exact ih y hy
theorem st_joined {p i:Bool}:∀ (l:List Nd) (b:Bool),Joined l->(∀ x∈l,okX p i x)->(b=true->∀ y q,l=y :: q->y.name≠[])->stL p i b l=true
 | [],_,_,_,_=>by rw[stL]
 | x :: r,b,hj,hx,hb=>by
  rw[stL,Bool.and_eq_true]
  have h0:=hx x (List.mem_cons_self ..)
  refine⟨?_,st_joined r _ hj.2 (fun y hy=>hx y (List.mem_cons_of_mem _ hy)) (fun e y q er=>?_)⟩
  ·by_cases hn:x.name=[]
   ·obtain⟨h1,h2,-⟩:=hj.1 hn
    rw[h1]
    unfold txt
    rw[stN,if_pos rfl]
    have hbf:b=false:=by
     cases b with
     | false=>rfl
     | true=>exact absurd hn (hb rfl x r rfl)
    rw[hbf]
    cases ht:x.text with
    | nil=>exact absurd ht h2
    | cons c t=>rfl
   ·exact stN_b hn (h0.2 hn)
  ·exact (hj.1 (of_decide_eq_true e)).2.2 y q er
theorem st_join {p i:Bool}(l:List Nd)(h:∀ x∈l,okX p i x):stL p i false (joinR l)=true :=
 st_joined (joinR l) false (join_joined l) (ok_join l h) (fun e=>by cases e)
theorem itm_le {i i':Bool}{el:List L}(hl:([108,105]:L)∈el->([117,108]:L)∈el/\([111,108]:L)∈el)(h:(i'=true->i=true)\/([108,105]:L) ∉ el) (n:L):((itm i' n=true->itm i n=true)\/([108,105]:L) ∉ el)/\(n ∉ el->(i'=true->itm i n=true)\/([108,105]:L) ∉ el):=by
 refine⟨h.imp (fun h=>itm_mono h n) id,fun hn=>?_⟩
 unfold itm
 by_cases h1:n=[108,105]
 ·rw[if_pos h1]
  exact .inl (fun _=>rfl)
 ·rw[if_neg h1]
  by_cases h2:n=[117,108]\/n=[111,108]
  ·rw[if_pos h2]
   refine .inr (fun hli=>?_)
   rcases h2 with e | e
   ·exact hn (by rw[e];exact (hl hli).1)
   ·exact hn (by rw[e];exact (hl hli).2)
  ·rw[if_neg h2]
   exact h
mutual
theorem ok_allN {pl:Pol}(hp:Right pl):∀ (x:Nd) {p i p' i':Bool},nakN p i x->(p'=true->p=true)->((i'=true->i=true)\/([108,105]:L) ∉ pl.el)->∀ y∈allN pl x,okX p' i' y
 | .mk n a t k,p,i,p',i',h,hpp,hii=>by
  rw[nakN] at h
  rw[allN]
  by_cases hn:n=[]
  ·rw[if_pos hn]
   intro y hy
   have:y=txt t:=by simpa using hy
   rw[this]
   exact⟨fun _=>rfl,fun e=>absurd rfl e⟩
  ·rw[if_neg hn]
   obtain⟨h1,h2,h3,h4⟩:=h hn
   obtain⟨hi1,hi2⟩:=itm_le hp.ll hii n
   by_cases hd:dropB n=true
   ·rw[if_pos hd]
    simp
   ·rw[if_neg hd]
    by_cases he:n∈pl.el
    ·rw[if_pos he]
     intro y hy
     have:y=.mk n (attrsO pl n a) [] (joinR (allL pl k)):=by simpa using hy
     rw[this]
     refine⟨fun e=>absurd e hn,fun _=>?_⟩
     rw[stN,if_neg hn,(may_elem hp he).1,attrsO_may hp he a h1]
     have hc:((p' && decide (n∈blocks)) || (i' && decide (n=[108,105])))=false:=by
      rw[Bool.or_eq_false_iff] at h2 ⊢
      constructor
      ·cases p' with
       | false=>rfl
       | true =>
        have:=h2.1
        rw[hpp rfl] at this
        exact this
      ·cases i' with
       | false=>rfl
       | true =>
        rcases hii with hi | hi
        ·have:=h2.2
         rw[hi rfl] at this
         exact this
        ·rw[decide_eq_false (fun e=>hi (by rw[<-e];exact he))]
         rfl
     rw[hc]
     by_cases hv:n∈voids
     ·rw[if_pos hv,h3 hv,allL,joinR]
      rfl
     ·rw[if_neg hv,st_join _ (ok_allL hp k h4 (fun e=>?_) hi1)]
      ·rfl
      ·rw[Bool.or_eq_true] at e ⊢
       exact e.imp hpp id
    ·rw[if_neg he]
     exact ok_allL hp k h4 (fun e=>by rw[hpp e];rfl) (hi2 he)
theorem ok_allL {pl:Pol}(hp:Right pl):∀ (l:List Nd) {p i p' i':Bool},nakL p i l->(p'=true->p=true)->((i'=true->i=true)\/([108,105]:L) ∉ pl.el)->∀ y∈allL pl l,okX p' i' y
 | [],_,_,_,_,_,_,_=>by rw[allL];simp
 | x :: r,p,i,p',i',h,hpp,hii=>by
  rw[nakL] at h
  rw[allL]
  intro y hy
  rcases List.mem_append.1 hy with hy | hy
  ·exact ok_allN hp x h.1 hpp hii y hy
  ·exact ok_allL hp r h.2 hpp hii y hy
end
theorem tree_st {p:Pol}(hp:Right p) {ns:List Nd}(h:nakL false false ns):stL false false false (treeL p ns)=true :=
 st_join _ (ok_allL hp ns h id (.inl id))
/-! Each element is as the policy has it. -/
theorem inner_txt (p:Pol) (t:L):innerN p (txt t)=true:=by
 unfold txt
 rw[innerN,if_pos rfl]
theorem inner_ahead {p:Pol}{t:L}{l:List Nd}(h:innerL p l=true):innerL p (textAhead t l)=true:=by
 unfold textAhead
 split
 ·exact h
 ·split
  ·rw[innerL,inner_txt,innerL]
   rfl
  ·rename_i y q
   rw[innerL,Bool.and_eq_true] at h
   split
   ·rw[innerL,inner_txt,h.2]
    rfl
   ·rw[innerL,inner_txt,innerL,h.1,h.2]
    rfl
theorem inner_join {p:Pol}:∀ l:List Nd,innerL p l=true->innerL p (joinR l)=true
 | [],_=>by rw[joinR,innerL]
 | x :: r,h=>by
  rw[innerL,Bool.and_eq_true] at h
  rw[joinR_cons]
  split
  ·exact inner_ahead (inner_join r h.2)
  ·rw[innerL,h.1,inner_join r h.2]
   rfl
mutual
theorem inner_allN {p:Pol}:∀ x:Nd,innerL p (allN p x)=true
 | .mk n a t k=>by
  rw[allN]
  by_cases hn:n=[]
  ·rw[if_pos hn,innerL,inner_txt,innerL]
   rfl
  ·rw[if_neg hn]
   by_cases hd:dropB n=true
   ·rw[if_pos hd,innerL]
   ·rw[if_neg hd]
    by_cases he:n∈p.el
    ·rw[if_pos he,innerL,innerN,if_neg hn,innerL,Bool.and_true,decide_eq_true he,inner_join _ (inner_allL k)]
     rw[Bool.and_eq_true,List.all_eq_true]
     refine⟨fun x hx=>attrsO_value he hx,?_⟩
     by_cases ha:n=aN
     ·rw[attrsO_linked ha]
      simp
     ·rw[decide_eq_false ha]
      rfl
    ·rw[if_neg he]
     exact inner_allL k
theorem inner_allL {p:Pol}:∀ l:List Nd,innerL p (allL p l)=true
 | []=>by rw[allL,innerL]
 | x :: r=>by rw[allL,inner_app,inner_allN x,inner_allL r];rfl
end
theorem tree_inner (p:Pol) (ns:List Nd):innerL p (treeL p ns)=true:=inner_join _ (inner_allL ns)
theorem tree_safe {p:Pol}(hp:Right p) {ns:List Nd}(h:nakL false false ns)(h1:(ncL (treeL p ns):Int)<=p.nd)(h2:(dpL (treeL p ns):Int)<=p.dp):safeB p (treeL p ns)=true:=by
 have hc:=hp.c
 exact (safe_iff _ _).2 ⟨by omega,by omega,tree_st hp h,h1,h2,tree_inner p ns⟩
end San
namespace San
open Utf1 Pol8 Saf
/-! Classes. -/
theorem joinB_segs:∀ v:L,joinB (Pol8.segs 32 v)=v
 | []=>rfl
 | b :: l=>by
  have ih:=joinB_segs l
  have hne:=segs_ne 32 l
  rw[Pol8.segs]
  by_cases h:b=32
  ·rw[if_pos h]
   cases hs:Pol8.segs 32 l with
   | nil=>exact absurd hs hne
   | cons x r =>
    rw[hs] at ih
    rw[joinB,ih,List.nil_append,h]
  ·rw[if_neg h]
   cases hs:Pol8.segs 32 l with
   | nil=>exact absurd hs hne
   | cons x r =>
    rw[hs] at ih
    simp only
    cases r with
    | nil=>rw[joinB] at ih ⊢;rw[ih]
    | cons y q =>
     rw[joinB] at ih ⊢
     rw[List.cons_append,ih]
theorem fold_all (cl:List L):∀ (l acc:List L),clsFrom cl acc l=true->l.foldl (clsStep cl) acc=acc++l
 | [],acc,_=>by simp
 | x :: r,acc,h=>by
  rw[clsFrom,Bool.and_eq_true,Bool.and_eq_true,decide_eq_true_eq,Bool.not_eq_true',decide_eq_false_iff_not] at h
  rw[List.foldl_cons,show clsStep cl acc x=acc++[x] from if_pos h.1,fold_all cl r _ h.2,List.append_assoc]
  rfl
theorem cls_id {cl:List L}{v:L}(h:classesB cl v=true):clsO cl v=v:=by
 unfold clsO clsK
 rw[fold_all cl _ [] h,List.nil_append,joinB_segs]
theorem val_id {p:Pol}{e n v:L}(h1:n≠relN)(h:valueB p e n v=true):valO p n v=v:=by
 unfold valueB at h
 rw[Bool.and_eq_true,if_neg h1] at h
 unfold valO
 have h:=h.2
 by_cases h2:n=styN
 ·rw[if_pos h2,Bool.and_eq_true,decide_eq_true_eq,decide_eq_true_eq] at h
  rw[if_pos h2]
  exact h.2
 ·rw[if_neg h2,Bool.and_eq_true] at h
  rw[if_neg h2]
  by_cases h3:n=clsN
  ·have h:=h.2
   rw[if_pos h3,Bool.and_eq_true] at h
   rw[if_pos h3]
   exact cls_id h.2
  ·rw[if_neg h3]
theorem atO_id {p:Pol}{e:L}{kv:L × L}(h1:kv.1≠relN)(h:valueB p e kv.1 kv.2=true):atO p e kv=some kv:=by
 unfold atO
 rw[if_neg h1,val_id h1 h,if_pos h]
theorem atsK_id {p:Pol}{e:L}:∀ a:At,(∀ x∈a,x.1≠relN)->(∀ x∈a,valueB p e x.1 x.2=true)->atsK p e a=a
 | [],_,_=>rfl
 | x :: r,h1,h2=>by
  unfold atsK
  rw[List.filterMap_cons,atO_id (h1 x (List.mem_cons_self ..)) (h2 x (List.mem_cons_self ..))]
  simp only
  rw[show r.filterMap (atO p e)=r from atsK_id r (fun y hy=>h1 y (List.mem_cons_of_mem _ hy)) (fun y hy=>h2 y (List.mem_cons_of_mem _ hy))]
theorem atsK_app (p:Pol) (e:L) (a b:At):atsK p e (a++b)=atsK p e a++atsK p e b:=by
 unfold atsK
 rw[List.filterMap_append]
theorem rel_value {p:Pol}{e v:L}(h:valueB p e relN v=true):e=aN/\v=forced:=by
 unfold valueB at h
 rw[if_pos rfl,Bool.and_eq_true,Bool.and_eq_true,decide_eq_true_eq,decide_eq_true_eq,decide_eq_true_eq] at h
 exact h.2
theorem attrs_id {p:Pol}{e:L}{a:At}(hd:(a.map Prod.fst).Nodup)(hv:∀ x∈a,valueB p e x.1 x.2=true)(hl:e=aN->linkedB a=true):attrsO p e a=a:=by
 by_cases hr:hasB a relN=true
 ·obtain⟨x,hx,ex⟩:=hasB_mem.1 hr
  have h1:=hv x hx
  rw[ex] at h1
  obtain⟨ha,hf⟩:=rel_value h1
  have h2:=hl ha
  unfold linkedB at h2
  have hh:hasB a href=true:=by
   cases h:hasB a href with
   | true=>rfl
   | false=>rw[h,hr] at h2;cases h2
  rw[if_pos hh] at h2
  unfold lastB at h2
  have h2:=of_decide_eq_true h2
  cases hg:a.getLast? with
  | none=>rw[hg] at h2;cases h2
  | some y =>
   rw[hg] at h2
   have ey:y.1=relN:=Option.some.inj h2
   have hya:=List.mem_of_getLast? hg
   have hy:=hv y hya
   rw[ey] at hy
   have ey2:=(rel_value hy).2
   have hs:a=a.dropLast++[y]:=by
    have hne:a≠[]:=fun e=>by rw[e] at hg;cases hg
    rw[List.getLast?_eq_some_getLast hne] at hg
    have:=List.dropLast_concat_getLast hne
    rw[Option.some.inj hg] at this
    exact this.symm
   have hyy:y=(relN,forced):=by rw[<-ey,<-ey2]
   rw[hyy] at hs
   generalize a.dropLast=b at hs
   subst hs
   rw[List.map_append,List.nodup_append] at hd
   have hb:∀ z∈b,z.1≠relN:=fun z hz e=>hd.2.2 z.1 (List.mem_map_of_mem hz) relN (by simp) e
   have hk:atsK p e (b++[(relN,forced)])=b:=by
    rw[atsK_app,atsK_id b hb (fun z hz=>hv z (List.mem_append.2 (.inl hz)))]
    have:atsK p e [(relN,forced)]=[]:=by
     unfold atsK
     rw[List.filterMap_cons]
     have:atO p e (relN,forced)=none:=if_pos rfl
     rw[this]
     rfl
    rw[this,List.append_nil]
   have hbh:hasB b href=true:=by
    obtain⟨z,hz,ez⟩:=hasB_mem.1 hh
    rcases List.mem_append.1 hz with hz | hz
    ·exact hasB_mem.2 ⟨z,hz,ez⟩
    ·have:z=(relN,forced):=by simpa using hz
     rw[this] at ez
     exact absurd ez (by decide)
   unfold attrsO
   rw[hk,if_pos ⟨ha,hbh⟩]
 ·have hn:∀ x∈a,x.1≠relN:=fun x hx e=>hr (hasB_mem.2 ⟨x,hx,e⟩)
  unfold attrsO
  rw[atsK_id a hn hv]
  refine if_neg (fun h=>?_)
  have h2:=hl h.1
  unfold linkedB at h2
  rw[if_pos h.2] at h2
  unfold lastB at h2
  have h2:=of_decide_eq_true h2
  cases hg:a.getLast? with
  | none=>rw[hg] at h2;cases h2
  | some y =>
   rw[hg] at h2
   exact hn y (List.mem_of_getLast? hg) (Option.some.inj h2)
/-! The tree. -/
theorem st_isJoined {p i:Bool}:∀ (l:List Nd) (b:Bool),stL p i b l=true->Joined l/\(b=true->∀ y q,l=y :: q->y.name≠[])
 | [],b,_=>⟨trivial,fun _ y q e=>by cases e⟩
 | x :: r,b,h=>by
  rw[stL,Bool.and_eq_true] at h
  obtain⟨h1,h2⟩:=st_isJoined r _ h.2
  have key:x.name=[]->x=txt x.text/\x.text≠[]/\b=false:=by
   intro hn
   cases x with
   | mk n a t k =>
    obtain⟨k1,k2,k3,k4⟩:=stN_text hn h.1
    have hn:n=[]:=hn
    subst hn
    subst k3
    subst k4
    exact⟨rfl,k1,k2⟩
  refine⟨⟨fun hn=>⟨(key hn).1,(key hn).2.1,fun y q e=>h2 (decide_eq_true hn) y q e⟩,h1⟩,fun hb y q e hy=>?_⟩
  cases e
  have:=(key hy).2.2
  rw[hb] at this
  cases this
mutual
theorem all_idN {pl:Pol}(hp:Right pl):∀ (x:Nd) {p i b:Bool},stN p i b x=true->innerN pl x=true->allN pl x=[x]
 | .mk n a t k,p,i,b,hs,hi=>by
  rw[allN]
  by_cases hn:n=[]
  ·obtain⟨-,-,k3,k4⟩:=stN_text hn hs
   rw[if_pos hn,hn,k3,k4]
   rfl
  ·obtain⟨k1,-,k3,-,k5,k6⟩:=stN_elem hn hs
   rw[innerN,if_neg hn,Bool.and_eq_true,Bool.and_eq_true,Bool.and_eq_true,List.all_eq_true,decide_eq_true_eq] at hi
   obtain⟨i1,i2,i3,i4⟩:=hi
   have hd:=(may_elem hp i2).2.1
   unfold mayA at k3
   rw[Bool.and_eq_true,decide_eq_true_eq] at k3
   have hl:n=aN->linkedB a=true:=fun e=>by
    rw[decide_eq_true e] at i3
    simpa using i3
   rw[if_neg hn,if_neg (by rw[hd];decide),if_pos i2,attrs_id k3.2 i1 hl]
   have hk:joinR (allL pl k)=k:=by
    by_cases hv:n∈voids
    ·rw[k5 hv,allL,joinR]
    ·have hst:=k6 hv
     rw[all_idL hp k hst i4,join_id _ (st_isJoined k _ hst).1]
   rw[hk,k1]
theorem all_idL {pl:Pol}(hp:Right pl):∀ (l:List Nd) {p i b:Bool},stL p i b l=true->innerL pl l=true->allL pl l=l
 | [],_,_,_,_,_=>by rw[allL]
 | x :: r,p,i,b,hs,hi=>by
  rw[stL,Bool.and_eq_true] at hs
  rw[innerL,Bool.and_eq_true] at hi
  rw[allL,all_idN hp x hs.1 hi.1,all_idL hp r hs.2 hi.2]
  rfl
end
theorem tree_id {p:Pol}(hp:Right p) {ns:List Nd}(h:safeB p ns=true):treeL p ns=ns:=by
 have h:=(safe_iff _ _).1 h
 unfold treeL
 rw[all_idL hp ns h.s h.i,join_id _ (st_isJoined ns _ h.s).1]
/-! Text. -/
theorem tx_ahead (t:L) (l:List Nd):txL (textAhead t l)=t++txL l\/∃ y q,l=y :: q/\y.name=[]/\y.kids≠[]:=by
 unfold textAhead
 by_cases ht:t=[]
 ·rw[if_pos ht,ht]
  exact .inl rfl
 ·rw[if_neg ht]
  cases l with
  | nil =>
   left
   show txL [txt t]=t++txL []
   simp only[txL,txN_txt]
  | cons y q =>
   simp only
   by_cases hy:y.name=[]
   ·by_cases hk:y.kids=[]
    ·left
     rw[if_pos hy,txL,txL,txN_txt,txN_kids,hk,txL,List.append_nil,List.append_assoc]
    ·exact .inr ⟨y,q,rfl,hy,hk⟩
   ·left
    rw[if_neg hy,txL,txN_txt]
theorem tx_join:∀ l:List Nd,(∀ x∈l,x.name=[]->x.kids=[])->txL (joinR l)=txL l
 | [],_=>by rw[joinR]
 | x :: r,h=>by
  have ih:=tx_join r (fun y hy=>h y (List.mem_cons_of_mem _ hy))
  rw[joinR_cons]
  by_cases hx:x.name=[]
  ·rw[if_pos hx,txL,txN_kids,h x (List.mem_cons_self ..) hx,txL,List.append_nil,<-ih]
   rcases tx_ahead x.text (joinR r) with e | ⟨y,q,e,hy,hk⟩
   ·exact e
   ·have hj:=join_joined r
    rw[e] at hj
    have:=(hj.1 hy).1
    rw[this] at hk
    exact absurd rfl hk
  ·rw[if_neg hx,txL,txL,ih]
mutual
def plainN:Nd->Prop
 | .mk n _ t k=>(n=[]->k=[])/\(n≠[]->t=[])/\plainL k
def plainL:List Nd->Prop
 | []=>True
 | x :: r=>plainN x/\plainL r
end
mutual
theorem all_flatN (p:Pol):∀ x:Nd,∀ y∈allN p x,y.name=[]->y.kids=[]
 | .mk n a t k=>by
  rw[allN]
  split
  ·intro y hy _
   have:y=txt t:=by simpa using hy
   rw[this]
   rfl
  ·rename_i hn
   split
   ·simp
   ·split
    ·intro y hy e
     have:y=.mk n (attrsO p n a) [] (joinR (allL p k)):=by simpa using hy
     rw[this] at e
     exact absurd e hn
    ·exact all_flatL p k
theorem all_flatL (p:Pol):∀ l:List Nd,∀ y∈allL p l,y.name=[]->y.kids=[]
 | []=>by rw[allL];simp
 | x :: r=>by
  rw[allL]
  intro y hy
  rcases List.mem_append.1 hy with hy | hy
  ·exact all_flatN p x y hy
  ·exact all_flatL p r y hy
end
mutual
theorem tx_allN (p:Pol)(hp:Right p):∀ x:Nd,plainN x->txL (allN p x)=allT x
 | .mk n a t k,h=>by
  rw[plainN] at h
  rw[allN,allT]
  by_cases hn:n=[]
  ·have h0:dropB n=false:=by rw[hn];decide
   rw[if_pos hn,if_neg (by rw[h0];decide),h.1 hn,txL,txN_txt,txL,allTL]
  ·rw[if_neg hn]
   by_cases hd:dropB n=true
   ·rw[if_pos hd,if_pos hd,txL]
   ·rw[if_neg hd,if_neg hd,h.2.1 hn,List.nil_append]
    by_cases he:n∈p.el
    ·rw[if_pos he,txL,txL,List.append_nil,txN,List.nil_append,tx_join _ (all_flatL p k),tx_allL p hp k h.2.2]
    ·rw[if_neg he,tx_allL p hp k h.2.2]
theorem tx_allL (p:Pol)(hp:Right p):∀ l:List Nd,plainL l->txL (allL p l)=allTL l
 | [],_=>by rw[allL,txL,allTL]
 | x :: r,h=>by
  rw[plainL] at h
  rw[allL,txL_app,allTL,tx_allN p hp x h.1,tx_allL p hp r h.2]
end
theorem tree_text (p:Pol)(hp:Right p) (ns:List Nd)(h:plainL ns):txL (treeL p ns)=allTL ns:=by
 unfold treeL
 rw[tx_join _ (all_flatL p ns),tx_allL p hp ns h]
end San
namespace San
open Utf1
abbrev L:=List UInt8
def Gd (l:L):Prop:=∃ rs:List Nat,(∀ r∈rs,Scalar r/\r≠0/\r≠13)/\l=enc rs
theorem gd_nil:Gd []:=⟨[],by simp,rfl⟩
theorem gd_app {a b:L}(ha:Gd a)(hb:Gd b):Gd (a++b):=by
 obtain⟨r,h1,rfl⟩:=ha
 obtain⟨s,h2,rfl⟩:=hb
 exact⟨r++s,fun x hx=>(List.mem_append.1 hx).elim (h1 x) (h2 x),(enc_append r s).symm⟩
theorem gd_er {r:Nat}(h:Scalar r/\r≠0/\r≠13):Gd (er r):=⟨[r],by simpa using h,by rw[enc_cons,enc_nil,List.append_nil]⟩
theorem gd_one {c:UInt8}(h:c.toNat < 128)(h0:c.toNat≠0)(h1:c.toNat≠13):Gd [c]:=by
 have:=gd_er (r:=c.toNat) ⟨.inl (by omega),h0,h1⟩
 rw[er1 (by omega)] at this
 simpa using this
theorem gd_ascii:∀ {l:L},(∀ c∈l,c.toNat < 128/\c.toNat≠0/\c.toNat≠13)->Gd l
 | [],_=>gd_nil
 | c :: t,h=>by
  have h0:=h c (List.mem_cons_self ..)
  exact gd_app (a:=[c]) (gd_one h0.1 h0.2.1 h0.2.2) (gd_ascii (fun x hx=>h x (List.mem_cons_of_mem _ hx)))
theorem gd_fix (l:L):Gd (fix l):=⟨_,fix_scalar l,rfl⟩
theorem fix_gd {l:L}(h:Gd l):fix l=l:=by
 obtain⟨rs,h1,rfl⟩:=h
 unfold fix
 have:=runes_enc rs (fun r hr=>(h1 r hr).1) []
 rw[List.append_nil,runes_nil,List.append_nil] at this
 rw[this,fixR_same rs 0 (by decide) (fun r hr=>(h1 r hr).2)]
theorem gd_step {l:L}(h:Gd l)(hl:l≠[]):∃ r t,l=er r++t/\(Scalar r/\r≠0/\r≠13)/\Gd t:=by
 obtain⟨rs,h1,rfl⟩:=h
 cases rs with
 | nil=>exact absurd rfl hl
 | cons r rs=>exact⟨r,enc rs,rfl,h1 r (List.mem_cons_self ..),rs,fun x hx=>h1 x (List.mem_cons_of_mem _ hx),rfl⟩
theorem gd_cut:∀ (n:Nat) (a b:L),a.length<=n->Gd (a++b)->(∀ c,a.getLast?=some c->∀ d,b.head?=some d->c.toNat < 128\/d.toNat < 128)->Gd a/\Gd b
 | n,[],b,_,h,_=>⟨gd_nil,h⟩
 | 0,c :: a,b,hn,_,_=>by simp at hn
 | n+1,c :: a,b,hn,h,hc=>by
  obtain⟨r,t,e,hr,ht⟩:=gd_step h (by simp)
  have hlen:=er_len r
  rcases er_bytes r hr.1 with⟨h1,h2⟩ | ⟨h1,h2⟩
  ·rw[h2] at e
   rw[List.cons_append,List.cons_append,List.nil_append] at e
   injection e with e1 e2
   subst e1
   subst e2
   obtain⟨ha,hb⟩:=gd_cut n a b (by simpa using hn) ht (fun x hx d hd=>hc x (by
    cases a with
    | nil=>cases hx
    | cons y q=>rw[List.getLast?_cons_cons];exact hx) d hd)
   refine⟨?_,hb⟩
   have hg:=gd_er hr
   rw[h2] at hg
   exact gd_app (a:=[UInt8.ofNat r]) hg ha
  ·have hle:(er r).length<=(c :: a).length\/b=[]\/(c :: a).length < (er r).length/\b≠[]:=by
    by_cases hb:b=[]
    ·exact .inr (.inl hb)
    ·rcases Nat.lt_or_ge (c :: a).length (er r).length with h | h
     ·exact .inr (.inr ⟨h,hb⟩)
     ·exact .inl h
   rcases hle with hle | hle | ⟨hlt,hb⟩
   ·have ea:(c :: a)=er r++(c :: a).drop (er r).length:=by
     have h3:(c :: a).take (er r).length=er r:=by
      have:=congrArg (List.take (er r).length) e
      rw[List.take_append_of_le_length hle,List.take_left'] at this
      ·exact this
      ·rfl
     conv=>lhs;rw[<-List.take_append_drop (er r).length (c :: a),h3]
    have et:t=(c :: a).drop (er r).length++b:=by
     rw[ea,List.append_assoc] at e
     exact (List.append_cancel_left e).symm
    rw[et] at ht
    have hdl:((c :: a).drop (er r).length).length<=n:=by
     rw[List.length_drop]
     simp only[List.length_cons] at hn ⊢
     omega
    obtain⟨k1,k2⟩:=gd_cut n _ b hdl ht (fun x hx d hd=>hc x (by
     rw[ea,List.getLast?_append,hx]
     rfl) d hd)
    refine⟨?_,k2⟩
    rw[ea]
    exact gd_app (gd_er hr) k1
   ·subst hle
    rw[List.append_nil] at h
    exact⟨h,gd_nil⟩
   ·-- the cut lies within a character
    exfalso
    obtain⟨d,q,rfl⟩:=List.exists_cons_of_ne_nil hb
    obtain⟨x,hx⟩:∃ x,(c :: a).getLast?=some x:=⟨_,List.getLast?_eq_some_getLast (by simp)⟩
    have hxe:x∈er r:=by
     have h3:c :: a=(er r).take (c :: a).length:=by
      have:=congrArg (List.take (c :: a).length) e
      rw[List.take_left' rfl,List.take_append_of_le_length (by omega)] at this
      exact this
     have hm:=List.mem_of_getLast? hx
     rw[h3] at hm
     exact List.mem_of_mem_take hm
    have hde:d∈er r:=by
     have h3:(er r)[(c :: a).length]?=some d:=by
      have e2:(c :: a++d :: q)[(c :: a).length]?=(er r++t)[(c :: a).length]?:=by rw[e]
      rw[List.getElem?_append_right (Nat.le_refl _),Nat.sub_self,List.getElem?_append_left hlt] at e2
      exact e2.symm
     exact List.mem_of_getElem? h3
    have k1:=h2 x hxe
    have k2:=h2 d hde
    rcases hc x hx d rfl with k | k
    ·omega
    ·omega
theorem gd_cut' {a b:L}(h:Gd (a++b))(hc:∀ c,a.getLast?=some c->∀ d,b.head?=some d->c.toNat < 128\/d.toNat < 128):Gd a/\Gd b:=gd_cut a.length a b (Nat.le_refl _) h hc
theorem gd_at {a b:L}{c:UInt8}(h:Gd (a++c :: b))(hc:c.toNat < 128):Gd a/\Gd b/\c.toNat≠0/\c.toNat≠13:=by
 obtain⟨h1,h2⟩:=gd_cut' h (fun _ _ d hd=>by cases hd;exact .inr hc)
 have h3:Gd ([c]++b):=h2
 obtain⟨h4,h5⟩:=gd_cut' h3 (fun d hd _ _=>by
  have:d=c:=by simpa using hd.symm
  rw[this]
  exact .inl hc)
 obtain⟨r,t,e,hr,-⟩:=gd_step h4 (by simp)
 refine⟨h1,h5,?_⟩
 have hm:c∈er r:=by
  have hl:=er_len r
  cases he:er r with
  | nil=>rw[he] at hl;simp at hl
  | cons x q =>
   rw[he,List.cons_append] at e
   injection e with e1
   rw[e1]
   exact List.mem_cons_self ..
 exact⟨er_no r hr.1 0 (by decide) hr.2.1 c hm,er_no r hr.1 13 (by decide) hr.2.2 c hm⟩
theorem gd_tail {c:UInt8}{t:L}(h:Gd (c :: t))(hc:c.toNat < 128):Gd t:=(gd_at (a:=[]) h hc).2.1
theorem gd_while {p:UInt8->Bool}(hp:∀ c:UInt8,p c=false->c.toNat < 128) (a l:L)(h:Gd (a++l)):Gd (a++l.takeWhile p)/\Gd (l.dropWhile p):=by
 have e:a++l=(a++l.takeWhile p)++l.dropWhile p:=by rw[List.append_assoc,List.takeWhile_append_dropWhile]
 rw[e] at h
 refine gd_cut' h (fun _ _ d hd=>.inr (hp d ?_))
 cases hl:l.dropWhile p with
 | nil=>rw[hl] at hd;cases hd
 | cons x q =>
  rw[hl] at hd
  have:x=d:=by simpa using hd
  subst this
  have:=List.head_dropWhile_not p (l:=l) (by rw[hl];simp)
  simpa [hl] using this
theorem takeWhile_in {p:UInt8->Bool}:∀ (l:L),∀ c∈l.takeWhile p,p c=true
 | [],c,h=>by cases h
 | a :: t,c,h=>by
  rw[List.takeWhile_cons] at h
  split at h
  ·rename_i ha
   rcases List.mem_cons.1 h with rfl | h
   ·exact ha
   ·exact takeWhile_in t c h
  ·cases h
theorem gd_skip {p:UInt8->Bool}(hp:∀ c:UInt8,p c=true->c.toNat < 128) (l:L)(h:Gd l):Gd (l.dropWhile p):=by
 have e:l=l.takeWhile p++l.dropWhile p:=List.takeWhile_append_dropWhile.symm
 rw[e] at h
 exact (gd_cut' h (fun c hc _ _=>.inl (hp c (takeWhile_in l c (List.mem_of_getLast? hc))))).2
theorem gd_lower {l:L}(h:Gd l):Gd (lower l):=by
 obtain⟨rs,h1,rfl⟩:=h
 induction rs with
 | nil=>exact gd_nil
 | cons r rs ih =>
  have hr:=h1 r (List.mem_cons_self ..)
  rw[enc_cons,show lower (er r++enc rs)=lower (er r)++lower (enc rs) from List.map_append ..,lower_er r hr.1]
  refine gd_app (gd_er ⟨lowN_scalar r hr.1,?_,?_⟩) (ih (fun x hx=>h1 x (List.mem_cons_of_mem _ hx)))
  ·unfold lowN
   split
   ·omega
   ·exact hr.2.1
  ·unfold lowN
   split
   ·omega
   ·exact hr.2.2
/-! References. -/
theorem chN_ne (n:Nat):chN n≠0/\chN n≠13:=by
 unfold chN
 split
 ·omega
 ·omega
theorem numS_nz {b:Nat}{l:L}{r:Nat}(h:numS b l=some r):r≠0/\r≠13:=by
 unfold numS at h
 split at h
 ·cases h
 ·cases hn:num b 0 l with
  | none=>rw[hn] at h;cases h
  | some m =>
   rw[hn] at h
   have h:chN m=r:=by simpa using h
   rw[<-h]
   exact chN_ne m
theorem sf_nz {l:L}{r:Nat}(h:sf l=some r):r≠0/\r≠13:=by
 cases l with
 | nil=>cases h
 | cons c t =>
  unfold sf at h
  simp only at h
  split at h
  ·cases t with
   | nil=>cases h
   | cons x d =>
    unfold sfN at h
    simp only at h
    split at h
    ·split at h
     ·cases h
     ·exact numS_nz h
    ·split at h
     ·cases h
     ·exact numS_nz h
  ·have:=names_facts _ (lookN_mem _ _ _ h)
   exact⟨this.2.2.2.1,this.2.2.2.2⟩
theorem refAt_nz {t:L}{r k:Nat}(h:refAt t=some (r,k)):(Scalar r/\r≠0/\r≠13)/\∃ a b,t=a++59 :: b/\t.drop k=b:=by
 have hf:=refAt_facts h
 unfold refAt at h
 split at h
 ·rename_i hc
  cases hs:sf (t.take (t.findIdx (·==59))) with
  | none=>rw[hs] at h;cases h
  | some q =>
   rw[hs] at h
   cases h
   refine⟨⟨hf.2.2.2,sf_nz hs⟩,t.take (t.findIdx (·==59)),t.drop (t.findIdx (·==59)+1),?_,rfl⟩
   have h1:t[t.findIdx (·==59)]'hc.1=59:=by
    have:=List.findIdx_getElem (w:=hc.1) (p:=(·==59)) (xs:=t)
    simpa using this
   conv=>lhs;rw[<-List.take_append_drop (t.findIdx (·==59)) t,List.drop_eq_getElem_cons hc.1,h1]
 ·cases h
theorem gd_res:∀ (n:Nat) (l:L),l.length<=n->Gd l->Gd (res l)
 | n,[],_,_=>by rw[res_nil];exact gd_nil
 | 0,c :: l,h,_=>by simp at h
 | n+1,c :: l,hn,h=>by
  obtain⟨r,t,e,hr,ht⟩:=gd_step h (by simp)
  have hlen:=er_len r
  have hl:=congrArg List.length e
  rw[List.length_append] at hl
  by_cases h38:r=38
  ·have e38:er r=[38]:=by rw[h38];exact er1 (by decide)
   rw[e,e38]
   show Gd (res (38 :: t))
   cases ha:refAt t with
   | none =>
    rw[res_none t ha]
    exact gd_app (a:=[38]) (gd_one (by decide) (by decide) (by decide)) (gd_res n t (by omega) ht)
   | some x =>
    obtain⟨r2,k⟩:=x
    obtain⟨h1,a,b,h2,h3⟩:=refAt_nz ha
    rw[res_some t r2 k ha,h3]
    rw[h2] at ht
    have hb:=(gd_at ht (by decide)).2.1
    refine gd_app (gd_er h1) (gd_res n b ?_ hb)
    have:t.length=a.length+(b.length+1):=by rw[h2];simp
    omega
  ·rw[e,res_app (er r) t (fun c hc e2=>er_no r hr.1 38 (by decide) h38 c hc (by rw[e2];decide))]
   exact gd_app (gd_er hr) (gd_res n t (by omega) ht)
theorem refOf_ascii (q:Bool) (r:Nat):∀ x∈refOf q r,x.toNat < 128/\x.toNat≠0/\x.toNat≠13:=by
 unfold refOf
 repeat' split
 all_goals decide
theorem gd_esc (q:Bool):∀ (n:Nat) (l:L),l.length<=n->Gd l->Gd (esc q l)
 | n,[],_,_=>by rw[esc_nil];exact gd_nil
 | 0,c :: l,h,_=>by simp at h
 | n+1,c :: l,hn,h=>by
  obtain⟨r,t,e,hr,ht⟩:=gd_step h (by simp)
  have hlen:=er_len r
  have hl:=congrArg List.length e
  rw[List.length_append] at hl
  rw[esc_step q _ (by simp),e,dl_er r hr.1 t]
  simp only
  rw[List.drop_left' rfl]
  refine gd_app ?_ (gd_esc q n t (by omega) ht)
  unfold esc1
  rw[dl_er r hr.1 t]
  simp only
  split
  ·rw[List.take_left' rfl]
   exact gd_er hr
  ·exact gd_ascii (refOf_ascii q r)
theorem gd_res' {l:L}(h:Gd l):Gd (res l):=gd_res _ l (Nat.le_refl _) h
theorem gd_esc' (q:Bool) {l:L}(h:Gd l):Gd (esc q l):=gd_esc q _ l (Nat.le_refl _) h
end San
namespace San
open Utf1 Go
def GdA (a:List (L × L)):Prop:=∀ kv∈a,Gd kv.1/\Gd kv.2
structure GdT (k:Tk):Prop where
 n:Gd k.name
 a:GdA k.attrs
 t:Gd k.text
theorem bl_low {c:UInt8}(h:isBl c=true):c.toNat < 128:=by
 unfold isBl at h
 simp only[Bool.or_eq_true,beq_iff_eq] at h
 rcases h with (((h | h) | h) | h) | h <;> (rw[h];decide)
theorem gap_low {c:UInt8}(h:isGap c=true):c.toNat < 128:=by
 unfold isGap at h
 rw[Bool.or_eq_true,beq_iff_eq] at h
 rcases h with h | h
 ·exact bl_low h
 ·rw[h];decide
theorem nm_low {c:UInt8}(h:isNm c=true):c.toNat < 128:=by
 unfold isNm at h
 simp only[Bool.or_eq_true,beq_iff_eq] at h
 rcases h with (h | h) | h
 ·exact bl_low h
 ·rw[h];decide
 ·rw[h];decide
theorem at_low {c:UInt8}(h:isAt c=true):c.toNat < 128:=by
 unfold isAt at h
 simp only[Bool.or_eq_true,beq_iff_eq] at h
 rcases h with ((h | h) | h) | h
 ·exact bl_low h
 ·rw[h];decide
 ·rw[h];decide
 ·rw[h];decide
theorem va_low {c:UInt8}(h:isVa c=true):c.toNat < 128:=by
 unfold isVa at h
 simp only[Bool.or_eq_true,beq_iff_eq] at h
 rcases h with h | h
 ·exact bl_low h
 ·rw[h];decide
theorem not_of {p:UInt8->Bool}(h:∀ c,p c=true->c.toNat < 128):∀ c:UInt8,(!p c)=false->c.toNat < 128:=fun c hc=>h c (by simpa using hc)
theorem gd_oneAt {c:UInt8}{t nm v r:L}(h:Gd (c :: t)) (e:oneAt c t=some (nm,v,r)):Gd nm/\Gd v/\Gd r:=by
 obtain⟨h1,h2⟩:=gd_while (not_of (fun c=>at_low)) [c] t h
 have h3:=gd_skip (fun c=>bl_low) _ h2
 have h1:Gd (c :: t.takeWhile (fun x=>!isAt x)):=h1
 unfold oneAt at e
 split at e
 ·rename_i u he
  rw[he] at h3
  have h4:=gd_skip (fun c=>bl_low) _ (gd_tail h3 (by decide))
  split at e
  ·rename_i q y he2
   rw[he2] at h4
   split at e
   ·rename_i hq
    have hql:q.toNat < 128:=by rcases hq with e | e <;> (rw[e];decide)
    have h5:=gd_tail h4 hql
    have hpq:∀ x:UInt8,(x != q)=false->x.toNat < 128:=fun x hx=>by
     have:x=q:=by simpa using hx
     rw[this]
     exact hql
    obtain⟨h6,h7⟩:=gd_while hpq [] y h5
    split at e
    ·cases e
    ·rename_i z r' he3
     cases e
     rw[he3] at h7
     refine⟨h1,h6,gd_tail h7 ?_⟩
     have:=List.head_dropWhile_not (fun x=>x != q) (l:=y) (by rw[he3];simp)
     simp only[he3,List.head_cons] at this
     exact hpq z this
   ·cases e
    obtain⟨h6,h7⟩:=gd_while (not_of (fun c=>va_low)) [] (q :: y) h4
    exact⟨h1,h6,h7⟩
  ·cases e
   exact⟨h1,gd_nil,gd_nil⟩
 ·cases e
  exact⟨h1,gd_nil,h3⟩
theorem gd_addAt {acc:List (L × L)}{n v:L}(h:GdA acc)(hn:Gd n)(hv:Gd v):GdA (addAt acc n v):=by
 unfold addAt
 split
 ·exact h
 ·intro kv hkv
  rcases List.mem_append.1 hkv with hkv | hkv
  ·exact h kv hkv
  ·have:kv=(n,v):=by simpa using hkv
   rw[this]
   exact⟨hn,hv⟩
theorem gd_attrsF:∀ (n:Nat) (acc:List (L × L)) (s:L) (a:List (L × L)) (cl:Bool) (r:L),GdA acc->Gd s->attrsF n acc s=some (a,cl,r)->GdA a/\Gd r
 | 0,_,_,_,_,_,_,_,e=>by cases e
 | n+1,acc,s,a,cl,r,ha,hs,e=>by
  unfold attrsF at e
  have h1:=gd_skip (fun c=>gap_low) s hs
  split at e
  ·cases e
  ·rename_i c t he
   rw[he] at h1
   split at e
   ·rename_i hc
    cases e
    exact⟨ha,gd_tail h1 (by rw[hc];decide)⟩
   ·split at e
    ·cases e
    ·rename_i nm v q h1a
     obtain⟨k1,k2,k3⟩:=gd_oneAt h1 h1a
     exact gd_attrsF n _ q a cl r (gd_addAt ha (gd_lower k1) (gd_res' k2)) k3 e
theorem gd_body {l:L}(h:Gd l)(hb:beg l=3):Gd (tagBody l):=by
 cases l with
 | nil=>cases hb
 | cons c t =>
  by_cases hc:c=60
  ·subst hc
   have h1:=gd_tail h (by decide)
   unfold tagBody
   split
   ·rename_i h47
    cases t with
    | nil=>exact gd_nil
    | cons d u =>
     have h47:d=47:=h47
     subst h47
     exact gd_tail h1 (by decide)
   ·exact h1
  ·rw[beg_ne t hc] at hb
   cases hb
theorem gd_tagOf {l r:L}{k:Tk}(h:Gd l)(hb:beg l=3) (e:tagOf l=some (k,r)):GdT k/\Gd r:=by
 obtain⟨h1,h2⟩:=gd_while (not_of (fun c=>nm_low)) [] (tagBody l) (gd_body h hb)
 unfold tagOf at e
 split at e
 ·cases e
 ·rename_i a cl q he
  obtain⟨h3,h4⟩:=gd_attrsF _ _ _ _ _ _ (fun kv hkv=>by cases hkv) h2 he
  cases e
  refine⟨?_,h4⟩
  split
  ·exact⟨gd_lower h1,(fun kv hkv=>by cases hkv),gd_nil⟩
  ·exact⟨gd_lower h1,h3,gd_nil⟩
theorem stop_next:∀ l:L,l.drop (stop l)=[]\/∃ q,l.drop (stop l)=60 :: q
 | []=>.inl rfl
 | c :: t=>by
  unfold stop
  split
  ·rw[List.drop_succ_cons]
   exact stop_next t
  ·rename_i h
   right
   by_cases hc:c=60
   ·exact⟨t,by rw[hc];rfl⟩
   ·exact absurd (beg_ne t hc) h
theorem rawStop_next (n:L):∀ l:L,l.drop (rawStop n l)=[]\/∃ q,l.drop (rawStop n l)=60 :: q
 | []=>.inl rfl
 | c :: t=>by
  unfold rawStop
  split
  ·rename_i h
   right
   refine⟨t,?_⟩
   unfold rawEnds at h
   rw[Bool.and_eq_true,Bool.and_eq_true,Bool.and_eq_true] at h
   have h1:=h.1.1.1
   simp only[List.isPrefixOf,Bool.and_eq_true,beq_iff_eq] at h1
   rw[<-h1.1]
   rfl
  ·rw[List.drop_succ_cons]
   exact rawStop_next n t
theorem gd_part {l:L}(k:Nat)(h:Gd l)(hk:l.drop k=[]\/∃ q,l.drop k=60 :: q):Gd (l.take k)/\Gd (l.drop k):=by
 have e:l=l.take k++l.drop k:=(List.take_append_drop k l).symm
 rw[e] at h
 refine gd_cut' h (fun c _ d hd=>?_)
 rcases hk with hk | ⟨q,hk⟩
 ·rw[hk] at hd
  cases hd
 ·rw[hk] at hd
  have:d=60:=by simpa using hd.symm
  rw[this]
  exact .inr (by decide)
theorem gd_withRaw {k:Tk}{r:L}(h:Gd r):(∀ x∈(withRaw k r).1,GdT x)/\Gd (withRaw k r).2:=by
 unfold withRaw
 split
 ·split
  ·exact⟨(fun x hx=>by cases hx),h⟩
  ·split
   ·exact⟨(fun x hx=>by cases hx),h⟩
   ·rename_i b _ _
    have hp:Gd (r.take (rawLen k.name r))/\Gd (r.drop (rawLen k.name r)):=by
     refine gd_part _ h ?_
     unfold rawLen
     split
     ·exact .inl (List.drop_eq_nil_of_le (Nat.le_refl _))
     ·exact rawStop_next _ r
    refine⟨fun x hx=>?_,hp.2⟩
    rw[List.mem_singleton.1 hx]
    refine⟨gd_nil,fun kv hkv=>(by cases hkv),?_⟩
    show Gd (if b=true then _ else _)
    split
    ·exact gd_res' hp.1
    ·exact hp.1
 ·exact⟨(fun x hx=>by cases hx),h⟩
theorem gd_cutL {s sep:L}(h:Gd s)(hs:sep≠[])(ha:∀ c∈sep,c.toNat < 128):Gd (Lib.cut s sep).1/\Gd (Lib.cut s sep).2.1:=by
 unfold Lib.cut
 split
 ·rename_i h0
  rcases Lib.index_spec s sep with⟨h1,-⟩ | ⟨i,h1,h2,h3,-⟩
  ·rw[h1] at h0
   exact absurd h0 (by decide)
  ·rw[h1]
   have h3:sep.isPrefixOf (s.drop i)=true:=h3
   rw[List.isPrefixOf_iff_prefix] at h3
   obtain⟨q,hq⟩:=h3
   have e:s=s.take i++(sep++q):=by rw[hq,List.take_append_drop]
   have h4:Gd (s.take i++(sep++q)):=by rw[<-e];exact h
   obtain⟨x,y,rfl⟩:=List.exists_cons_of_ne_nil hs
   obtain⟨k1,k2⟩:=gd_cut' h4 (fun _ _ d hd=>.inr (ha d (by
    have:x=d:=by simpa using hd
    rw[this]
    exact List.mem_cons_self ..)))
   obtain⟨-,k3⟩:=gd_cut' k2 (fun c hc _ _=>.inl (ha c (List.mem_of_getLast? hc)))
   simp only[Int.toNat_natCast]
   refine⟨k1,?_⟩
   rw[<-List.drop_drop,<-hq,List.drop_left' rfl]
   exact k3
 ·exact⟨h,gd_nil⟩
theorem gd_toksF:∀ (n:Nat) (l:L),Gd l->∀ t∈toksF n l,GdT t
 | 0,_,_,t,h=>by cases h
 | _+1,[],_,t,h=>by cases h
 | n+1,c :: u,hl,t,h=>by
  unfold toksF at h
  have txt:∀ (k:Nat) (x:L),Gd x->GdT ⟨k,[],[],false,x⟩:=fun k x hx=>⟨gd_nil,(fun kv hkv=>by cases hkv),hx⟩
  split at h
  ·rename_i h1
   have hd:Gd ((c :: u).drop 4):=by
    by_cases hc:c=60
    ·subst hc
     rw[beg_lt] at h1
     cases u with
     | nil=>cases h1
     | cons d v =>
      unfold beg1 at h1
      simp only at h1
      split at h1
      ·rename_i hp
       rw[List.isPrefixOf_iff_prefix] at hp
       obtain⟨q,hq⟩:=hp
       have hq:[33,45,45]++q=d :: v:=hq
       rw[<-hq] at hl ⊢
       exact gd_tail (gd_tail (gd_tail (gd_tail hl (by decide)) (by decide)) (by decide)) (by decide)
      ·split at h1
       ·cases h1
       ·split at h1
        ·cases h1
        ·split at h1
         ·cases h1
         ·unfold beg2 at h1
          split at h1
          ·cases h1
          ·split at h1 <;> cases h1
    ·rw[beg_ne u hc] at h1
     cases h1
   obtain⟨k1,k2⟩:=gd_cutL (sep:=[45,45,62]) hd (by simp) (by decide)
   rcases List.mem_cons.1 h with rfl | h
   ·exact txt _ _ k1
   ·exact gd_toksF n _ k2 t h
  ·split at h
   ·exact gd_toksF n _ (gd_cutL (sep:=[62]) hl (by simp) (by decide)).2 t h
   ·split at h
    ·rename_i h3
     split at h
     ·cases h
     ·rename_i k r hk
      obtain⟨k1,k2⟩:=gd_tagOf hl h3 hk
      obtain⟨k3,k4⟩:=gd_withRaw (k:=k) k2
      rcases List.mem_cons.1 h with rfl | h
      ·exact k1
      ·rcases List.mem_append.1 h with h | h
       ·exact k3 t h
       ·exact gd_toksF n _ k4 t h
    ·obtain⟨k1,k2⟩:=gd_part (stop (c :: u)) hl (stop_next _)
     rcases List.mem_cons.1 h with rfl | h
     ·exact txt _ _ (gd_res' k1)
     ·exact gd_toksF n _ k2 t h
theorem gd_toks {l:L}(h:Gd l):∀ t∈toks l,GdT t:=gd_toksF _ l h
end San
namespace San
open Utf1 Pol8 Saf
mutual
def gdN:Nd->Prop
 | .mk _ a t k=>Gd t/\(∀ kv∈a,Gd kv.2)/\gdL k
def gdL:List Nd->Prop
 | []=>True
 | x :: r=>gdN x/\gdL r
end
theorem gdN_kids (x:Nd):gdN x ↔ Gd x.text/\(∀ kv∈x.attrs,Gd kv.2)/\gdL x.kids:=by
 cases x
 rw[gdN]
 rfl
theorem gdL_app:∀ a b:List Nd,gdL (a++b) ↔ gdL a/\gdL b
 | [],b=>by simp[gdL]
 | x :: a,b=>by rw[List.cons_append,gdL,gdL,gdL_app a b,and_assoc]
theorem gd_txt {t:L}(h:Gd t):gdN (txt t):=by
 unfold txt
 rw[gdN]
 exact⟨h,(fun kv hkv=>by cases hkv),trivial⟩
theorem gd_ahead {t:L}{l:List Nd}(ht:Gd t)(h:gdL l):gdL (textAhead t l):=by
 unfold textAhead
 split
 ·exact h
 ·split
  ·exact⟨gd_txt ht,trivial⟩
  ·rename_i y q
   rw[gdL] at h
   split
   ·exact⟨gd_txt (gd_app ht ((gdN_kids y).1 h.1).1),h.2⟩
   ·exact⟨gd_txt ht,h⟩
theorem gd_join:∀ l:List Nd,gdL l->gdL (joinR l)
 | [],_=>by rw[joinR];exact trivial
 | x :: r,h=>by
  rw[gdL] at h
  rw[joinR_cons]
  split
  ·exact gd_ahead ((gdN_kids x).1 h.1).1 (gd_join r h.2)
  ·exact⟨h.1,gd_join r h.2⟩
theorem word_low {n:L}(h:isWord n=true):∀ c∈n,c.toNat < 128/\c.toNat≠0/\c.toNat≠13:=by
 intro c hc
 have:=of_decide_eq_true ((word_cs h).2 c hc)
 omega
theorem okv_low {v:L}(h:Sty.okv v=true):∀ c∈v,c.toNat < 128/\c.toNat≠0/\c.toNat≠13:=by
 unfold Sty.okv at h
 rw[Bool.and_eq_true,List.all_eq_true] at h
 intro c hc
 have:=of_decide_eq_true (h.2 c hc)
 omega
theorem emit_low:∀ (l:List Sty.NV) (acc:L),(∀ x∈l,(∀ c∈x.1,c.toNat < 128/\c.toNat≠0/\c.toNat≠13)/\∀ c∈x.2,c.toNat < 128/\c.toNat≠0/\c.toNat≠13)->(∀ c∈acc,c.toNat < 128/\c.toNat≠0/\c.toNat≠13)->∀ c∈l.foldl Sty.emit acc,c.toNat < 128/\c.toNat≠0/\c.toNat≠13
 | [],acc,_,h=>h
 | x :: r,acc,h1,h2=>by
  rw[List.foldl_cons]
  refine emit_low r _ (fun y hy=>h1 y (List.mem_cons_of_mem _ hy)) ?_
  obtain⟨k1,k2⟩:=h1 x (List.mem_cons_self ..)
  have sep1:∀ c∈([59,32]:L),c.toNat < 128/\c.toNat≠0/\c.toNat≠13:=by decide
  have sep2:∀ c∈([58,32]:L),c.toNat < 128/\c.toNat≠0/\c.toNat≠13:=by decide
  intro c hc
  unfold Sty.emit at hc
  rcases List.mem_append.1 hc with hc | hc
  ·rcases List.mem_append.1 hc with hc | hc
   ·rcases List.mem_append.1 hc with hc | hc
    ·split at hc
     ·cases hc
     ·rcases List.mem_append.1 hc with hc | hc
      ·exact h2 c hc
      ·exact sep1 c hc
    ·exact k1 c hc
   ·exact sep2 c hc
  ·exact k2 c hc
theorem filt_low {props:List L}(hp:∀ n∈props,isWord n=true) (v:L):Gd (Sty.filt props v):=by
 refine gd_ascii ?_
 unfold Sty.filt
 exact emit_low _ [] (fun x hx=>⟨word_low (hp x.1 (Sty.stay_keep hx).1),okv_low (Sty.stay_keep hx).2⟩) (fun c hc=>by cases hc)
theorem clsK_in (cl:List L):∀ (l acc:List L),(∀ x∈acc,x∈cl)->∀ x∈l.foldl (clsStep cl) acc,x∈cl
 | [],acc,h=>h
 | y :: r,acc,h=>by
  rw[List.foldl_cons]
  refine clsK_in cl r _ ?_
  unfold clsStep
  split
  ·rename_i hy
   intro x hx
   rcases List.mem_append.1 hx with hx | hx
   ·exact h x hx
   ·rw[List.mem_singleton.1 hx]
    exact hy.1
  ·exact h
theorem joinB_low:∀ l:List L,(∀ x∈l,∀ c∈x,c.toNat < 128/\c.toNat≠0/\c.toNat≠13)->∀ c∈joinB l,c.toNat < 128/\c.toNat≠0/\c.toNat≠13
 | [],_=>by simp[joinB]
 | [x],h=>h x (List.mem_cons_self ..)
 | x :: y :: r,h=>by
  rw[joinB]
  intro c hc
  rcases List.mem_append.1 hc with hc | hc
  ·exact h x (List.mem_cons_self ..) c hc
  ·rcases List.mem_cons.1 hc with e | hc
   ·rw[e]
    decide
   ·exact joinB_low (y :: r) (fun z hz=>h z (List.mem_cons_of_mem _ hz)) c hc
theorem gd_attrs {p:Pol}(hp:Right p) (e:L) {a:At}(h:∀ kv∈a,Gd kv.2):∀ kv∈attrsO p e a,Gd kv.2:=by
 intro kv hkv
 rcases mem_attrsO hkv with hkv | ⟨rfl,-⟩
 ·unfold atsK at hkv
  rw[List.mem_filterMap] at hkv
  obtain⟨x,hx,ho⟩:=hkv
  obtain⟨-,h4,-⟩:=atO_some ho
  rw[h4]
  show Gd (valO p x.1 x.2)
  unfold valO
  split
  ·exact filt_low (words_all hp.pr) _
  ·split
   ·refine gd_ascii (joinB_low _ (fun y hy=>word_low (words_all hp.cl y ?_)))
    exact clsK_in p.cl _ [] (fun z hz=>by cases hz) y hy
   ·exact h x hx
 ·exact gd_ascii (by decide)
mutual
theorem gd_allN {p:Pol}(hp:Right p):∀ x:Nd,gdN x->gdL (allN p x)
 | .mk n a t k,h=>by
  rw[gdN] at h
  rw[allN]
  split
  ·exact⟨gd_txt h.1,trivial⟩
  ·split
   ·exact trivial
   ·split
    ·rw[gdL,gdN]
     exact⟨⟨gd_nil,gd_attrs hp n h.2.1,gd_join _ (gd_allL hp k h.2.2)⟩,trivial⟩
    ·exact gd_allL hp k h.2.2
theorem gd_allL {p:Pol}(hp:Right p):∀ l:List Nd,gdL l->gdL (allL p l)
 | [],_=>by rw[allL];exact trivial
 | x :: r,h=>by
  rw[gdL] at h
  rw[allL,gdL_app]
  exact⟨gd_allN hp x h.1,gd_allL hp r h.2⟩
end
theorem gd_tree {p:Pol}(hp:Right p) {ns:List Nd}(h:gdL ns):gdL (treeL p ns):=gd_join _ (gd_allL hp ns h)
/-! The page. -/
theorem nm_gd {o n:L}(ho:∀ c∈o,c.toNat < 128/\c.toNat≠0/\c.toNat≠13)(h:isNmL o n=true):Gd n:=by
 refine gd_ascii (fun c hc=>?_)
 cases n with
 | nil=>cases hc
 | cons d t =>
  rw[isNmL,Bool.and_eq_true,List.all_eq_true] at h
  have h1:=h.2 c hc
  unfold nmB isSm at h1
  rw[Bool.or_eq_true,Bool.or_eq_true,decide_eq_true_eq,decide_eq_true_eq,decide_eq_true_eq] at h1
  rcases h1 with (h1 | h1) | h1
  ·omega
  ·omega
  ·exact ho c h1
theorem gd_atsH:∀ {a:At},(∀ kv∈a,isNmL [45,95,58] kv.1=true)->(∀ kv∈a,Gd kv.2)->Gd (atsH a)
 | [],_,_=>gd_nil
 | kv :: r,h1,h2=>by
  rw[atsH]
  refine gd_app ?_ (gd_atsH (fun x hx=>h1 x (List.mem_cons_of_mem _ hx)) (fun x hx=>h2 x (List.mem_cons_of_mem _ hx)))
  have k1:=nm_gd (by decide) (h1 kv (List.mem_cons_self ..))
  have k2:=gd_esc' true (h2 kv (List.mem_cons_self ..))
  unfold atH
  have g:∀ l:L,(∀ c∈l,c.toNat < 128/\c.toNat≠0/\c.toNat≠13)->Gd l:=fun l h=>gd_ascii h
  exact gd_app (gd_app (gd_app (gd_app (g [32] (by decide)) k1) (g [61,34] (by decide))) k2) (g [34] (by decide))
mutual
theorem gd_htN:∀ (x:Nd) {p i b:Bool},stN p i b x=true->gdN x->Gd (htN x)
 | .mk n a t k,p,i,b,hs,h=>by
  rw[gdN] at h
  rw[htN]
  by_cases hn:n=[]
  ·rw[if_pos hn]
   exact gd_esc' false h.1
  ·rw[if_neg hn]
   obtain⟨-,k2,k3,-,-,k6⟩:=stN_elem hn hs
   unfold mayE at k2
   rw[Bool.and_eq_true] at k2
   unfold mayA at k3
   rw[Bool.and_eq_true,List.all_eq_true] at k3
   have hname:=nm_gd (by decide) k2.2
   refine gd_app (gd_app (gd_app (gd_app (gd_ascii (by decide)) hname) (gd_atsH k3.1 h.2.1)) (gd_ascii (by decide))) ?_
   by_cases hv:n∈voids
   ·rw[if_pos hv]
    exact gd_nil
   ·rw[if_neg hv]
    exact gd_app (gd_htL k (k6 hv) h.2.2) (gd_app (gd_app (gd_ascii (by decide)) hname) (gd_ascii (by decide)))
theorem gd_htL:∀ (l:List Nd) {p i b:Bool},stL p i b l=true->gdL l->Gd (htL l)
 | [],_,_,_,_,_=>by rw[htL];exact gd_nil
 | x :: r,p,i,b,hs,h=>by
  rw[stL,Bool.and_eq_true] at hs
  rw[gdL] at h
  rw[htL]
  exact gd_app (gd_htN x hs.1 h.1) (gd_htL r hs.2 h.2)
end
end San
namespace San
open Utf1 Pol8 Saf
structure BuildOk (B:List Tk->Option (List Nd)):Prop where
 nak:∀ s ns,B (toks s)=some ns->nakL false false ns/\plainL ns
 gd:∀ s ns,Gd s->B (toks s)=some ns->gdL ns
 page:∀ ns,stable ns=true->B (toks (htL ns))=some ns
def fitsT (p:Pol) (ns:List Nd):Bool:=decide ((ncL ns:Int)<=p.nd) && decide ((dpL ns:Int)<=p.dp)
def cleanF (B:List Tk->Option (List Nd)) (p:Pol) (s:L):L:=match B (toks s) with
 | none=>esc false s
 | some ns=>if fitsT p (treeL p ns)=true then htL (treeL p ns) else esc false s
theorem safe_stable {p:Pol}{ns:List Nd}(h:safeB p ns=true):stable ns=true/\fitsT p ns=true:=by
 unfold safeB at h
 rw[Bool.and_eq_true,Bool.and_eq_true,Bool.and_eq_true] at h
 refine⟨h.1,?_⟩
 unfold fitsT
 rw[h.2.1,h.2.2.1]
 rfl
theorem ht_txt (s:L):htL [txt s]=esc false s:=by
 rw[htL,htL,List.append_nil]
 unfold txt
 rw[htN,if_pos rfl]
def sole (s:L):List Nd:=if s=[] then [] else [txt s]
theorem ht_sole (s:L):htL (sole s)=esc false s:=by
 unfold sole
 split
 ·rename_i h
  rw[h,htL,esc_nil]
 ·exact ht_txt s
theorem safe_sole {p:Pol}(hp:Right p) (s:L):safeB p (sole s)=true:=by
 unfold sole
 split
 ·exact safe_nil hp
 ·rename_i h
  have:=safe_text hp s
  rw[decide_eq_true h] at this
  exact this
theorem clean_is {B:List Tk->Option (List Nd)}(hB:BuildOk B) {p:Pol}(hp:Right p) (s:L):∃ t,safeB p t=true/\cleanF B p s=htL t/\B (toks (cleanF B p s))=some t/\(Gd s->gdL t):=by
 have esc':∃ t,safeB p t=true/\esc false s=htL t/\B (toks (esc false s))=some t/\(Gd s->gdL t):=by
  have h:=safe_sole hp s
  refine⟨sole s,h,(ht_sole s).symm,?_,fun hs=>?_⟩
  ·rw[<-ht_sole]
   exact hB.page _ (safe_stable h).1
  ·unfold sole
   split
   ·exact trivial
   ·exact⟨gd_txt hs,trivial⟩
 unfold cleanF
 cases hb:B (toks s) with
 | none=>exact esc'
 | some ns =>
  simp only
  split
  ·rename_i hf
   have hf2:=hf
   unfold fitsT at hf2
   rw[Bool.and_eq_true,decide_eq_true_eq,decide_eq_true_eq] at hf2
   have h:=tree_safe hp (hB.nak s ns hb).1 hf2.1 hf2.2
   exact⟨treeL p ns,h,rfl,hB.page _ (safe_stable h).1,fun hs=>gd_tree hp (hB.gd s ns hs hb)⟩
  ·exact esc'
theorem clean_keeps {B:List Tk->Option (List Nd)}(hB:BuildOk B) {p:Pol}(hp:Right p) {t:List Nd}(h:safeB p t=true):cleanF B p (htL t)=htL t:=by
 obtain⟨h1,h2⟩:=safe_stable h
 unfold cleanF
 rw[hB.page t h1]
 simp only
 rw[tree_id hp h,if_pos h2]
theorem clean_again {B:List Tk->Option (List Nd)}(hB:BuildOk B) {p:Pol}(hp:Right p) (raw:L):fix (cleanF B p (fix raw))=cleanF B p (fix raw)/\cleanF B p (cleanF B p (fix raw))=cleanF B p (fix raw):=by
 obtain⟨t,h1,h2,-,h4⟩:=clean_is hB hp (fix raw)
 have hg:=h4 (gd_fix raw)
 rw[h2]
 refine⟨fix_gd (gd_htL t ((safe_iff _ _).1 h1).s hg),clean_keeps hB hp h1⟩
/-! Without elements. -/
end San
namespace San
open Utf1 Pol8 Saf
theorem wc_not {b:UInt8}(h:wc b=true):Sty.cutset.contains b=false/\¬ (65<=b.toNat/\b.toNat<=90)/\b≠58/\b≠59/\b≠32:=by
 have h:=of_decide_eq_true h
 refine⟨Sty.set_not b (by omega) (by omega) (by omega) (by omega) (by omega),by omega,?_,?_,?_⟩ <;>
 ·rintro rfl
  revert h
  decide
theorem word_pl {n:L}(h:isWord n=true) (a z:L)(ha:∀ b∈a,Sty.cutset.contains b=true)(hz:∀ b∈z,Sty.cutset.contains b=true):Sty.pl (a++n++z)=n:=by
 obtain⟨h0,h1⟩:=word_cs h
 have h2:∀ b,n.head?=some b->Sty.cutset.contains b=false:=fun b hb=>(wc_not (h1 b (List.mem_of_mem_head? hb))).1
 have h3:∀ b,n.getLast?=some b->Sty.cutset.contains b=false:=fun b hb=>(wc_not (h1 b (List.mem_of_mem_getLast? hb))).1
 unfold Sty.pl
 rw[Sty.trim_around a n z h0 ha hz (Sty.trim_id n h2 h3) h2 h3]
 exact Sty.lower_id n fun b hb=>(wc_not (h1 b hb)).2.1
theorem good_word {n v:L}(hn:isWord n=true)(hv:Sty.okv v=true):Sty.Good (n,v):=by
 have c32:∀ b∈([32]:L),Sty.cutset.contains b=true:=by decide
 have c0:∀ b∈([]:L),Sty.cutset.contains b=true:=by simp
 obtain⟨h0,h1⟩:=word_cs hn
 obtain⟨_,v1,_,_⟩:=Sty.okv_ends hv
 refine⟨fun e=>?_,fun e=>?_,fun e=>?_,?_,?_,?_⟩
 ·have:=h1 _ e;revert this;decide
 ·have:=h1 _ e;revert this;decide
 ·have:=v1 _ e;revert this;decide
 ·have:=word_pl hn [] [] c0 c0;simpa using this
 ·have:=word_pl hn [32] [] c32 c0;simpa using this
 ·have:=Sty.okv_pl hv [32] [] c32 c0;simpa using this
theorem filt_word {props:List L}(hp:∀ n∈props,isWord n=true) (s:L):Sty.filt props (Sty.filt props s)=Sty.filt props s:=by
 have h:Sty.prts (Sty.filt props s)=Sty.lastOnly (Sty.stay props s):=Sty.prts_all _ fun x hx=>good_word (hp x.1 (Sty.stay_keep hx).1) (Sty.stay_keep hx).2
 have e:Sty.stay props (Sty.filt props s)=Sty.lastOnly (Sty.stay props s):=by
  show (Sty.prts (Sty.filt props s)).filter (Sty.keep props)=_
  rw[h]
  refine List.filter_eq_self.2 fun x hx=>?_
  unfold Sty.keep
  rw[(Sty.stay_keep hx).2,decide_eq_true (Sty.stay_keep hx).1]
  rfl
 show (Sty.lastOnly (Sty.stay props (Sty.filt props s))).foldl Sty.emit []=(Sty.lastOnly (Sty.stay props s)).foldl Sty.emit []
 rw[e,Sty.last_last]
/-! Classes. -/
theorem segs_joinB:∀ l:List L,l≠[]->(∀ x∈l,(32:UInt8) ∉ x)->Pol8.segs 32 (joinB l)=l
 | [],h,_=>absurd rfl h
 | [x],_,h=>by
  rw[joinB]
  exact Pol8.segs_end 32 _ (h x (List.mem_cons_self ..))
 | x :: y :: r,_,h=>by
  rw[joinB,Pol8.segs_semi 32 _ _ (h x (List.mem_cons_self ..)),segs_joinB (y :: r) (by simp) fun z hz=>h z (List.mem_cons_of_mem _ hz)]
theorem clsFrom_of {cl:List L}:∀ (l seen:List L),(∀ x∈l,x∈cl)->(seen++l).Nodup->clsFrom cl seen l=true
 | [],_,_,_=>rfl
 | x :: r,seen,h,hn=>by
  rw[clsFrom,decide_eq_true (h x (List.mem_cons_self ..)),decide_eq_false (fun hx=>?_),clsFrom_of r (seen++[x]) (fun z hz=>h z (List.mem_cons_of_mem _ hz)) (by rw[List.append_assoc];exact hn)]
  ·rfl
  ·exact (List.nodup_append.1 hn).2.2 x hx x (List.mem_cons_self ..) rfl
theorem fold_cls (cl:List L):∀ (l acc:List L),(∀ x∈acc,x∈cl)->acc.Nodup->(∀ x∈l.foldl (clsStep cl) acc,x∈cl)/\(l.foldl (clsStep cl) acc).Nodup
 | [],_,h1,h2=>⟨h1,h2⟩
 | x :: r,acc,h1,h2=>by
  rw[List.foldl_cons]
  refine fold_cls cl r _ ?_ ?_
  ·unfold clsStep
   split
   ·intro z hz
    rcases List.mem_append.1 hz with hz | hz
    ·exact h1 z hz
    ·rw[List.mem_singleton.1 hz]
     exact (by assumption:x∈cl/\x ∉ acc).1
   ·exact h1
  ·unfold clsStep
   split
   ·rename_i hx
    rw[List.nodup_append]
    refine⟨h2,by simp,fun a ha b hb e=>?_⟩
    rw[List.mem_singleton.1 hb] at e
    exact hx.2 (e ▸ ha)
   ·exact h2
theorem cls_may {cl:List L}(hc:∀ x∈cl,isWord x=true) (v:L):(decide (clsO cl v≠[]) && classesB cl (clsO cl v))=decide (clsK cl v≠[]):=by
 obtain⟨h1,h2⟩:=fold_cls cl (Pol8.segs 32 v) [] (by simp) List.nodup_nil
 have h1:∀ x∈clsK cl v,x∈cl:=h1
 have h2:(clsK cl v).Nodup:=h2
 unfold clsO
 cases hk:clsK cl v with
 | nil=>rfl
 | cons x r =>
  rw[hk] at h1 h2
  have hw:∀ z∈x :: r,(32:UInt8) ∉ z:=fun z hz e=>(wc_not ((word_cs (hc z (h1 z hz))).2 _ e)).2.2.2.2 rfl
  have hne:joinB (x :: r)≠[]:=by
   have hx:=(word_cs (hc x (h1 x (List.mem_cons_self ..)))).1
   cases r with
   | nil=>exact hx
   | cons y r=>rw[joinB];simp
  rw[decide_eq_true hne,decide_eq_true (by simp)]
  unfold classesB
  rw[segs_joinB _ (by simp) hw,clsFrom_of (x :: r) [] h1 (by simpa using h2)]
  rfl
def atP (p:Pol) (e:L) (kv:L × L):Option (L × L):=if kv.1=relN then none else if kv.1=styN then (if Sty.filt p.pr kv.2=[] then none else some (kv.1,Sty.filt p.pr kv.2))
 else if kv.1=clsN then (if attrB p e kv.1=true/\clsK p.cl kv.2≠[] then some (kv.1,clsO p.cl kv.2) else none) else if valueB p e kv.1 kv.2=true then some kv else none
theorem atP_is {p:Pol}(hp:Right p) {e:L}(he:e∈p.el) (kv:L × L):atP p e kv=atO p e kv:=by
 unfold atP atO
 by_cases h1:kv.1=relN
 ·rw[if_pos h1,if_pos h1]
 rw[if_neg h1,if_neg h1]
 unfold valO
 by_cases h2:kv.1=styN
 ·rw[if_pos h2,if_pos h2]
  unfold valueB
  rw[if_neg h1,if_pos h2,filt_word (words_all hp.pr),decide_eq_true he,decide_eq_true rfl,Bool.and_true,Bool.true_and]
  by_cases h3:Sty.filt p.pr kv.2=[]
  ·rw[if_pos h3,decide_eq_false (fun h=>h h3)]
   rfl
  ·rw[if_neg h3,decide_eq_true h3]
   rfl
 rw[if_neg h2,if_neg h2]
 by_cases h3:kv.1=clsN
 ·rw[if_pos h3,if_pos h3]
  unfold valueB
  rw[if_neg h1,if_neg h2,if_pos h3,cls_may (words_all hp.cl),decide_eq_true he,Bool.true_and]
  cases ha:attrB p e kv.1 with
  | false=>rw[if_neg (fun h=>by cases h.1)];rfl
  | true =>
   by_cases h4:clsK p.cl kv.2=[]
   ·rw[if_neg (fun h=>h.2 h4),decide_eq_false (fun h=>h h4)]
    rfl
   ·rw[if_pos ⟨rfl,h4⟩,decide_eq_true h4]
    rfl
 ·rw[if_neg h3,if_neg h3]
def atsP (p:Pol) (e:L) (a:At):At:=a.filterMap (atP p e)
def attrsP (p:Pol) (e:L) (a:At):At:=if e=aN/\hasB (atsP p e a) href=true then atsP p e a++[(relN,forced)] else atsP p e a
theorem attrsP_is {p:Pol}(hp:Right p) {e:L}(he:e∈p.el) (a:At):attrsP p e a=attrsO p e a:=by
 have h:atsP p e a=atsK p e a:=by
  unfold atsP atsK
  rw[show atP p e=atO p e from funext fun x=>atP_is hp he x]
 unfold attrsP attrsO
 rw[h]
theorem atsP_next {p:Pol}{e:L}{l:At}{i:Nat}{kv:L × L}(h:l[i]?=some kv):atsP p e (l.take (i+1))=atsP p e (l.take i)++(atP p e kv).toList:=by
 unfold atsP
 rw[List.take_add_one,h,List.filterMap_append]
 congr 1
theorem has_snoc (a:At) (x:L × L) (n:L):hasB (a++[x]) n=(hasB a n || decide (x.1=n)):=by
 unfold hasB
 rw[List.any_append,List.any_cons,List.any_nil,Bool.or_false]
/-! Texts. -/
def endT (t:L):List Nd:=if t=[] then [] else [txt t]
def push (s:List Nd × L) (x:Nd):List Nd × L:=if x.name=[] then (s.1,s.2++x.text) else (s.1++endT s.2++[x],[])
theorem push_all:∀ (l:List Nd) (s:List Nd × L),(l.foldl push s).1++endT (l.foldl push s).2=s.1++textAhead s.2 (joinR l)
 | [],s=>by
  rw[List.foldl_nil,joinR]
  rfl
 | x :: r,s=>by
  rw[List.foldl_cons,push_all r,joinR_cons]
  unfold push
  by_cases hx:x.name=[]
  ·rw[if_pos hx,if_pos hx,ahead_ahead]
  ·rw[if_neg hx,if_neg hx]
   have e1:textAhead ([]:L) (joinR r)=joinR r:=by unfold textAhead;rw[if_pos rfl]
   rw[e1]
   unfold textAhead endT
   by_cases ht:s.2=[]
   ·rw[if_pos ht,if_pos ht]
    simp
   ·rw[if_neg ht,if_neg ht]
    simp only
    rw[if_neg hx]
    simp
theorem push_tree (p:Pol) (ns:List Nd):((allL p ns).foldl push ([],[])).1++endT ((allL p ns).foldl push ([],[])).2=treeL p ns:=by
 rw[push_all]
 unfold treeL textAhead
 rw[if_pos rfl,List.nil_append]
end San
