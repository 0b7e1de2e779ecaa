import Derived.Test.YtkiofbikkhhdfabGreatDoorK05
import Derived.Test.YtkiofbikkhhdfabGreatDoorY1
import Derived.Shelf.Strings.SlTrimAscii
import Derived.Shelf.RegionOpenPlain
import Derived.Deep.CutBlock
import Derived.KernelRfl
import Derived.Maps.Own
import Derived.Maps.OwnOps
import Derived.Maps.Views
import Derived.OneCell
import Derived.Laws.OwnMore
import Derived.Lib.SlicesS
import Derived.OwnWalk
import Derived.Deep.LoopGhost
set_option maxRecDepth 100000
set_option maxHeartbeats 8000000
namespace San
open Utf1
abbrev L:=List UInt8
def Gd (l:L):Prop:=∃ rs:List Nat,(∀ r∈rs,Scalar r/\r≠0/\r≠13)/\l=enc rs
theorem gd_nil:Gd []:=⟨[],by simp,rfl⟩
theorem gd_app {a b:L}(ha:Gd a)(hb:Gd b):Gd (a++b):=by
 obtain⟨r,h1,rfl⟩:=ha
 obtain⟨s,h2,rfl⟩:=hb
 exact⟨r++s,fun x hx=>(List.mem_append.1 hx).elim (h1 x) (h2 x),(enc_append r s).symm⟩
theorem gd_er {r:Nat}(h:Scalar r/\r≠0/\r≠13):Gd (er r):=⟨[r],by simpa using h,by rw[enc_cons,enc_nil,List.append_nil]⟩
theorem gd_one {c:UInt8}(h:c.toNat < 128)(h0:c.toNat≠0)(h1:c.toNat≠13):Gd [c]:=by
 have:=gd_er (r:=c.toNat) ⟨.inl (by omega),h0,h1⟩
 rw[er1 (by omega)] at this
 simpa using this
theorem gd_ascii:∀ {l:L},(∀ c∈l,c.toNat < 128/\c.toNat≠0/\c.toNat≠13)->Gd l
 | [],_=>gd_nil
 | c :: t,h=>by
  have h0:=h c (List.mem_cons_self ..)
  exact gd_app (a:=[c]) (gd_one h0.1 h0.2.1 h0.2.2) (gd_ascii (fun x hx=>h x (List.mem_cons_of_mem _ hx)))
theorem gd_fix (l:L):Gd (fix l):=⟨_,fix_scalar l,rfl⟩
theorem fix_gd {l:L}(h:Gd l):fix l=l:=by
 obtain⟨rs,h1,rfl⟩:=h
 unfold fix
 have:=runes_enc rs (fun r hr=>(h1 r hr).1) []
 rw[List.append_nil,runes_nil,List.append_nil] at this
 rw[this,fixR_same rs 0 (by decide) (fun r hr=>(h1 r hr).2)]
theorem gd_step {l:L}(h:Gd l)(hl:l≠[]):∃ r t,l=er r++t/\(Scalar r/\r≠0/\r≠13)/\Gd t:=by
 obtain⟨rs,h1,rfl⟩:=h
 cases rs with
 | nil=>exact absurd rfl hl
 | cons r rs=>exact⟨r,enc rs,rfl,h1 r (List.mem_cons_self ..),rs,fun x hx=>h1 x (List.mem_cons_of_mem _ hx),rfl⟩
theorem gd_cut:∀ (n:Nat) (a b:L),a.length<=n->Gd (a++b)->(∀ c,a.getLast?=some c->∀ d,b.head?=some d->c.toNat < 128\/d.toNat < 128)->Gd a/\Gd b
 | n,[],b,_,h,_=>⟨gd_nil,h⟩
 | 0,c :: a,b,hn,_,_=>by simp at hn
 | n+1,c :: a,b,hn,h,hc=>by
  obtain⟨r,t,e,hr,ht⟩:=gd_step h (by simp)
  have hlen:=er_len r
  rcases er_bytes r hr.1 with⟨h1,h2⟩ | ⟨h1,h2⟩
  ·rw[h2] at e
   rw[List.cons_append,List.cons_append,List.nil_append] at e
   injection e with e1 e2
   subst e1
   subst e2
   obtain⟨ha,hb⟩:=gd_cut n a b (by simpa using hn) ht (fun x hx d hd=>hc x (by
    cases a with
    | nil=>cases hx
    | cons y q=>rw[List.getLast?_cons_cons];exact hx) d hd)
   refine⟨?_,hb⟩
   have hg:=gd_er hr
   rw[h2] at hg
   exact gd_app (a:=[UInt8.ofNat r]) hg ha
  ·have hle:(er r).length<=(c :: a).length\/b=[]\/(c :: a).length < (er r).length/\b≠[]:=by
    by_cases hb:b=[]
    ·exact .inr (.inl hb)
    ·rcases Nat.lt_or_ge (c :: a).length (er r).length with h | h
     ·exact .inr (.inr ⟨h,hb⟩)
     ·exact .inl h
   rcases hle with hle | hle | ⟨hlt,hb⟩
   ·have ea:(c :: a)=er r++(c :: a).drop (er r).length:=by
     have h3:(c :: a).take (er r).length=er r:=by
      have:=congrArg (List.take (er r).length) e
      rw[List.take_append_of_le_length hle,List.take_left'] at this
      ·exact this
      ·rfl
     conv=>lhs;rw[<-List.take_append_drop (er r).length (c :: a),h3]
    have et:t=(c :: a).drop (er r).length++b:=by
     rw[ea,List.append_assoc] at e
     exact (List.append_cancel_left e).symm
    rw[et] at ht
    have hdl:((c :: a).drop (er r).length).length<=n:=by
     rw[List.length_drop]
     simp only[List.length_cons] at hn ⊢
     omega
    obtain⟨k1,k2⟩:=gd_cut n _ b hdl ht (fun x hx d hd=>hc x (by
     rw[ea,List.getLast?_append,hx]
     rfl) d hd)
    refine⟨?_,k2⟩
    rw[ea]
    exact gd_app (gd_er hr) k1
   ·subst hle
    rw[List.append_nil] at h
    exact⟨h,gd_nil⟩
   ·-- the cut lies within a character
    exfalso
    obtain⟨d,q,rfl⟩:=List.exists_cons_of_ne_nil hb
    obtain⟨x,hx⟩:∃ x,(c :: a).getLast?=some x:=⟨_,List.getLast?_eq_some_getLast (by simp)⟩
    have hxe:x∈er r:=by
     have h3:c :: a=(er r).take (c :: a).length:=by
      have:=congrArg (List.take (c :: a).length) e
      rw[List.take_left' rfl,List.take_append_of_le_length (by omega)] at this
      exact this
     have hm:=List.mem_of_getLast? hx
     rw[h3] at hm
     exact List.mem_of_mem_take hm
    have hde:d∈er r:=by
     have h3:(er r)[(c :: a).length]?=some d:=by
      have e2:(c :: a++d :: q)[(c :: a).length]?=(er r++t)[(c :: a).length]?:=by rw[e]
      rw[List.getElem?_append_right (Nat.le_refl _),Nat.sub_self,List.getElem?_append_left hlt] at e2
      exact e2.symm
     exact List.mem_of_getElem? h3
    have k1:=h2 x hxe
    have k2:=h2 d hde
    rcases hc x hx d rfl with k | k
    ·omega
    ·omega
theorem gd_cut' {a b:L}(h:Gd (a++b))(hc:∀ c,a.getLast?=some c->∀ d,b.head?=some d->c.toNat < 128\/d.toNat < 128):Gd a/\Gd b:=gd_cut a.length a b (Nat.le_refl _) h hc
theorem gd_at {a b:L}{c:UInt8}(h:Gd (a++c :: b))(hc:c.toNat < 128):Gd a/\Gd b/\c.toNat≠0/\c.toNat≠13:=by
 obtain⟨h1,h2⟩:=gd_cut' h (fun _ _ d hd=>by cases hd;exact .inr hc)
 have h3:Gd ([c]++b):=h2
 obtain⟨h4,h5⟩:=gd_cut' h3 (fun d hd _ _=>by
  have:d=c:=by simpa using hd.symm
  rw[this]
  exact .inl hc)
 obtain⟨r,t,e,hr,-⟩:=gd_step h4 (by simp)
 refine⟨h1,h5,?_⟩
 have hm:c∈er r:=by
  have hl:=er_len r
  cases he:er r with
  | nil=>rw[he] at hl;simp at hl
  | cons x q =>
   rw[he,List.cons_append] at e
   injection e with e1
   rw[e1]
   exact List.mem_cons_self ..
 exact⟨er_no r hr.1 0 (by decide) hr.2.1 c hm,er_no r hr.1 13 (by decide) hr.2.2 c hm⟩
theorem gd_tail {c:UInt8}{t:L}(h:Gd (c :: t))(hc:c.toNat < 128):Gd t:=(gd_at (a:=[]) h hc).2.1
theorem gd_while {p:UInt8->Bool}(hp:∀ c:UInt8,p c=false->c.toNat < 128) (a l:L)(h:Gd (a++l)):Gd (a++l.takeWhile p)/\Gd (l.dropWhile p):=by
 have e:a++l=(a++l.takeWhile p)++l.dropWhile p:=by rw[List.append_assoc,List.takeWhile_append_dropWhile]
 rw[e] at h
 refine gd_cut' h (fun _ _ d hd=>.inr (hp d ?_))
 cases hl:l.dropWhile p with
 | nil=>rw[hl] at hd;cases hd
 | cons x q =>
  rw[hl] at hd
  have:x=d:=by simpa using hd
  subst this
  have:=List.head_dropWhile_not p (l:=l) (by rw[hl];simp)
  simpa [hl] using this
theorem takeWhile_in {p:UInt8->Bool}:∀ (l:L),∀ c∈l.takeWhile p,p c=true
 | [],c,h=>by cases h
 | a :: t,c,h=>by
  rw[List.takeWhile_cons] at h
  split at h
  ·rename_i ha
   rcases List.mem_cons.1 h with rfl | h
   ·exact ha
   ·exact takeWhile_in t c h
  ·cases h
theorem gd_skip {p:UInt8->Bool}(hp:∀ c:UInt8,p c=true->c.toNat < 128) (l:L)(h:Gd l):Gd (l.dropWhile p):=by
 have e:l=l.takeWhile p++l.dropWhile p:=List.takeWhile_append_dropWhile.symm
 rw[e] at h
 exact (gd_cut' h (fun c hc _ _=>.inl (hp c (takeWhile_in l c (List.mem_of_getLast? hc))))).2
theorem gd_lower {l:L}(h:Gd l):Gd (lower l):=by
 obtain⟨rs,h1,rfl⟩:=h
 induction rs with
 | nil=>exact gd_nil
 | cons r rs ih =>
  have hr:=h1 r (List.mem_cons_self ..)
  rw[enc_cons,show lower (er r++enc rs)=lower (er r)++lower (enc rs) from List.map_append ..,lower_er r hr.1]
  refine gd_app (gd_er ⟨lowN_scalar r hr.1,?_,?_⟩) (ih (fun x hx=>h1 x (List.mem_cons_of_mem _ hx)))
  ·unfold lowN
   split
   ·omega
   ·exact hr.2.1
  ·unfold lowN
   split
   ·omega
   ·exact hr.2.2
theorem chN_ne (n:Nat):chN n≠0/\chN n≠13:=by
 unfold chN
 split
 ·omega
 ·omega
theorem numS_nz {b:Nat}{l:L}{r:Nat}(h:numS b l=some r):r≠0/\r≠13:=by
 unfold numS at h
 split at h
 ·cases h
 ·cases hn:num b 0 l with
  | none=>rw[hn] at h;cases h
  | some m =>
   rw[hn] at h
   have h:chN m=r:=by simpa using h
   rw[<-h]
   exact chN_ne m
theorem sf_nz {l:L}{r:Nat}(h:sf l=some r):r≠0/\r≠13:=by
 cases l with
 | nil=>cases h
 | cons c t =>
  unfold sf at h
  simp only at h
  split at h
  ·cases t with
   | nil=>cases h
   | cons x d =>
    unfold sfN at h
    simp only at h
    split at h
    ·split at h
     ·cases h
     ·exact numS_nz h
    ·split at h
     ·cases h
     ·exact numS_nz h
  ·have:=names_facts _ (lookN_mem _ _ _ h)
   exact⟨this.2.2.2.1,this.2.2.2.2⟩
theorem refAt_nz {t:L}{r k:Nat}(h:refAt t=some (r,k)):(Scalar r/\r≠0/\r≠13)/\∃ a b,t=a++59 :: b/\t.drop k=b:=by
 have hf:=refAt_facts h
 unfold refAt at h
 split at h
 ·rename_i hc
  cases hs:sf (t.take (t.findIdx (·==59))) with
  | none=>rw[hs] at h;cases h
  | some q =>
   rw[hs] at h
   cases h
   refine⟨⟨hf.2.2.2,sf_nz hs⟩,t.take (t.findIdx (·==59)),t.drop (t.findIdx (·==59)+1),?_,rfl⟩
   have h1:t[t.findIdx (·==59)]'hc.1=59:=by
    have:=List.findIdx_getElem (w:=hc.1) (p:=(·==59)) (xs:=t)
    simpa using this
   conv=>lhs;rw[<-List.take_append_drop (t.findIdx (·==59)) t,List.drop_eq_getElem_cons hc.1,h1]
 ·cases h
theorem gd_res:∀ (n:Nat) (l:L),l.length<=n->Gd l->Gd (res l)
 | n,[],_,_=>by rw[res_nil];exact gd_nil
 | 0,c :: l,h,_=>by simp at h
 | n+1,c :: l,hn,h=>by
  obtain⟨r,t,e,hr,ht⟩:=gd_step h (by simp)
  have hlen:=er_len r
  have hl:=congrArg List.length e
  rw[List.length_append] at hl
  by_cases h38:r=38
  ·have e38:er r=[38]:=by rw[h38];exact er1 (by decide)
   rw[e,e38]
   show Gd (res (38 :: t))
   cases ha:refAt t with
   | none =>
    rw[res_none t ha]
    exact gd_app (a:=[38]) (gd_one (by decide) (by decide) (by decide)) (gd_res n t (by omega) ht)
   | some x =>
    obtain⟨r2,k⟩:=x
    obtain⟨h1,a,b,h2,h3⟩:=refAt_nz ha
    rw[res_some t r2 k ha,h3]
    rw[h2] at ht
    have hb:=(gd_at ht (by decide)).2.1
    refine gd_app (gd_er h1) (gd_res n b ?_ hb)
    have:t.length=a.length+(b.length+1):=by rw[h2];simp
    omega
  ·rw[e,res_app (er r) t (fun c hc e2=>er_no r hr.1 38 (by decide) h38 c hc (by rw[e2];decide))]
   exact gd_app (gd_er hr) (gd_res n t (by omega) ht)
theorem refOf_ascii (q:Bool) (r:Nat):∀ x∈refOf q r,x.toNat < 128/\x.toNat≠0/\x.toNat≠13:=by
 unfold refOf
 repeat' split
 all_goals decide
theorem gd_esc (q:Bool):∀ (n:Nat) (l:L),l.length<=n->Gd l->Gd (esc q l)
 | n,[],_,_=>by rw[esc_nil];exact gd_nil
 | 0,c :: l,h,_=>by simp at h
 | n+1,c :: l,hn,h=>by
  obtain⟨r,t,e,hr,ht⟩:=gd_step h (by simp)
  have hlen:=er_len r
  have hl:=congrArg List.length e
  rw[List.length_append] at hl
  rw[esc_step q _ (by simp),e,dl_er r hr.1 t]
  simp only
  rw[List.drop_left' rfl]
  refine gd_app ?_ (gd_esc q n t (by omega) ht)
  unfold esc1
  rw[dl_er r hr.1 t]
  simp only
  split
  ·rw[List.take_left' rfl]
   exact gd_er hr
  ·exact gd_ascii (refOf_ascii q r)
theorem gd_res' {l:L}(h:Gd l):Gd (res l):=gd_res _ l (Nat.le_refl _) h
theorem gd_esc' (q:Bool) {l:L}(h:Gd l):Gd (esc q l):=gd_esc q _ l (Nat.le_refl _) h
end San
namespace San
open Utf1 Go
def GdA (a:List (L × L)):Prop:=∀ kv∈a,Gd kv.1/\Gd kv.2
structure GdT (k:Tk):Prop where
 n:Gd k.name
 a:GdA k.attrs
 t:Gd k.text
theorem bl_low {c:UInt8}(h:isBl c=true):c.toNat < 128:=by
 unfold isBl at h
 simp only[Bool.or_eq_true,beq_iff_eq] at h
 rcases h with (((h | h) | h) | h) | h <;> (rw[h];decide)
theorem gap_low {c:UInt8}(h:isGap c=true):c.toNat < 128:=by
 unfold isGap at h
 rw[Bool.or_eq_true,beq_iff_eq] at h
 rcases h with h | h
 ·exact bl_low h
 ·rw[h];decide
theorem nm_low {c:UInt8}(h:isNm c=true):c.toNat < 128:=by
 unfold isNm at h
 simp only[Bool.or_eq_true,beq_iff_eq] at h
 rcases h with (h | h) | h
 ·exact bl_low h
 ·rw[h];decide
 ·rw[h];decide
theorem at_low {c:UInt8}(h:isAt c=true):c.toNat < 128:=by
 unfold isAt at h
 simp only[Bool.or_eq_true,beq_iff_eq] at h
 rcases h with ((h | h) | h) | h
 ·exact bl_low h
 ·rw[h];decide
 ·rw[h];decide
 ·rw[h];decide
theorem va_low {c:UInt8}(h:isVa c=true):c.toNat < 128:=by
 unfold isVa at h
 simp only[Bool.or_eq_true,beq_iff_eq] at h
 rcases h with h | h
 ·exact bl_low h
 ·rw[h];decide
theorem not_of {p:UInt8->Bool}(h:∀ c,p c=true->c.toNat < 128):∀ c:UInt8,(!p c)=false->c.toNat < 128:=fun c hc=>h c (by simpa using hc)
theorem gd_oneAt {c:UInt8}{t nm v r:L}(h:Gd (c :: t)) (e:oneAt c t=some (nm,v,r)):Gd nm/\Gd v/\Gd r:=by
 obtain⟨h1,h2⟩:=gd_while (not_of (fun c=>at_low)) [c] t h
 have h3:=gd_skip (fun c=>bl_low) _ h2
 have h1:Gd (c :: t.takeWhile (fun x=>!isAt x)):=h1
 unfold oneAt at e
 split at e
 ·rename_i u he
  rw[he] at h3
  have h4:=gd_skip (fun c=>bl_low) _ (gd_tail h3 (by decide))
  split at e
  ·rename_i q y he2
   rw[he2] at h4
   split at e
   ·rename_i hq
    have hql:q.toNat < 128:=by rcases hq with e | e <;> (rw[e];decide)
    have h5:=gd_tail h4 hql
    have hpq:∀ x:UInt8,(x != q)=false->x.toNat < 128:=fun x hx=>by
     have:x=q:=by simpa using hx
     rw[this]
     exact hql
    obtain⟨h6,h7⟩:=gd_while hpq [] y h5
    split at e
    ·cases e
    ·rename_i z r' he3
     cases e
     rw[he3] at h7
     refine⟨h1,h6,gd_tail h7 ?_⟩
     have:=List.head_dropWhile_not (fun x=>x != q) (l:=y) (by rw[he3];simp)
     simp only[he3,List.head_cons] at this
     exact hpq z this
   ·cases e
    obtain⟨h6,h7⟩:=gd_while (not_of (fun c=>va_low)) [] (q :: y) h4
    exact⟨h1,h6,h7⟩
  ·cases e
   exact⟨h1,gd_nil,gd_nil⟩
 ·cases e
  exact⟨h1,gd_nil,h3⟩
theorem gd_addAt {acc:List (L × L)}{n v:L}(h:GdA acc)(hn:Gd n)(hv:Gd v):GdA (addAt acc n v):=by
 unfold addAt
 split
 ·exact h
 ·intro kv hkv
  rcases List.mem_append.1 hkv with hkv | hkv
  ·exact h kv hkv
  ·have:kv=(n,v):=by simpa using hkv
   rw[this]
   exact⟨hn,hv⟩
theorem gd_attrsF:∀ (n:Nat) (acc:List (L × L)) (s:L) (a:List (L × L)) (cl:Bool) (r:L),GdA acc->Gd s->attrsF n acc s=some (a,cl,r)->GdA a/\Gd r
 | 0,_,_,_,_,_,_,_,e=>by cases e
 | n+1,acc,s,a,cl,r,ha,hs,e=>by
  unfold attrsF at e
  have h1:=gd_skip (fun c=>gap_low) s hs
  split at e
  ·cases e
  ·rename_i c t he
   rw[he] at h1
   split at e
   ·rename_i hc
    cases e
    exact⟨ha,gd_tail h1 (by rw[hc];decide)⟩
   ·split at e
    ·cases e
    ·rename_i nm v q h1a
     obtain⟨k1,k2,k3⟩:=gd_oneAt h1 h1a
     exact gd_attrsF n _ q a cl r (gd_addAt ha (gd_lower k1) (gd_res' k2)) k3 e
theorem gd_body {l:L}(h:Gd l)(hb:beg l=3):Gd (tagBody l):=by
 cases l with
 | nil=>cases hb
 | cons c t =>
  by_cases hc:c=60
  ·subst hc
   have h1:=gd_tail h (by decide)
   unfold tagBody
   split
   ·rename_i h47
    cases t with
    | nil=>exact gd_nil
    | cons d u =>
     have h47:d=47:=h47
     subst h47
     exact gd_tail h1 (by decide)
   ·exact h1
  ·rw[beg_ne t hc] at hb
   cases hb
theorem gd_tagOf {l r:L}{k:Tk}(h:Gd l)(hb:beg l=3) (e:tagOf l=some (k,r)):GdT k/\Gd r:=by
 obtain⟨h1,h2⟩:=gd_while (not_of (fun c=>nm_low)) [] (tagBody l) (gd_body h hb)
 unfold tagOf at e
 split at e
 ·cases e
 ·rename_i a cl q he
  obtain⟨h3,h4⟩:=gd_attrsF _ _ _ _ _ _ (fun kv hkv=>by cases hkv) h2 he
  cases e
  refine⟨?_,h4⟩
  split
  ·exact⟨gd_lower h1,(fun kv hkv=>by cases hkv),gd_nil⟩
  ·exact⟨gd_lower h1,h3,gd_nil⟩
theorem stop_next:∀ l:L,l.drop (stop l)=[]\/∃ q,l.drop (stop l)=60 :: q
 | []=>.inl rfl
 | c :: t=>by
  unfold stop
  split
  ·rw[List.drop_succ_cons]
   exact stop_next t
  ·rename_i h
   right
   by_cases hc:c=60
   ·exact⟨t,by rw[hc];rfl⟩
   ·exact absurd (beg_ne t hc) h
theorem rawStop_next (n:L):∀ l:L,l.drop (rawStop n l)=[]\/∃ q,l.drop (rawStop n l)=60 :: q
 | []=>.inl rfl
 | c :: t=>by
  unfold rawStop
  split
  ·rename_i h
   right
   refine⟨t,?_⟩
   unfold rawEnds at h
   rw[Bool.and_eq_true,Bool.and_eq_true,Bool.and_eq_true] at h
   have h1:=h.1.1.1
   simp only[List.isPrefixOf,Bool.and_eq_true,beq_iff_eq] at h1
   rw[<-h1.1]
   rfl
  ·rw[List.drop_succ_cons]
   exact rawStop_next n t
theorem gd_part {l:L}(k:Nat)(h:Gd l)(hk:l.drop k=[]\/∃ q,l.drop k=60 :: q):Gd (l.take k)/\Gd (l.drop k):=by
 have e:l=l.take k++l.drop k:=(List.take_append_drop k l).symm
 rw[e] at h
 refine gd_cut' h (fun c _ d hd=>?_)
 rcases hk with hk | ⟨q,hk⟩
 ·rw[hk] at hd
  cases hd
 ·rw[hk] at hd
  have:d=60:=by simpa using hd.symm
  rw[this]
  exact .inr (by decide)
theorem gd_withRaw {k:Tk}{r:L}(h:Gd r):(∀ x∈(withRaw k r).1,GdT x)/\Gd (withRaw k r).2:=by
 unfold withRaw
 split
 ·split
  ·exact⟨(fun x hx=>by cases hx),h⟩
  ·split
   ·exact⟨(fun x hx=>by cases hx),h⟩
   ·rename_i b _ _
    have hp:Gd (r.take (rawLen k.name r))/\Gd (r.drop (rawLen k.name r)):=by
     refine gd_part _ h ?_
     unfold rawLen
     split
     ·exact .inl (List.drop_eq_nil_of_le (Nat.le_refl _))
     ·exact rawStop_next _ r
    refine⟨fun x hx=>?_,hp.2⟩
    rw[List.mem_singleton.1 hx]
    refine⟨gd_nil,fun kv hkv=>(by cases hkv),?_⟩
    show Gd (if b=true then _ else _)
    split
    ·exact gd_res' hp.1
    ·exact hp.1
 ·exact⟨(fun x hx=>by cases hx),h⟩
theorem gd_cutL {s sep:L}(h:Gd s)(hs:sep≠[])(ha:∀ c∈sep,c.toNat < 128):Gd (Lib.cut s sep).1/\Gd (Lib.cut s sep).2.1:=by
 unfold Lib.cut
 split
 ·rename_i h0
  rcases Lib.index_spec s sep with⟨h1,-⟩ | ⟨i,h1,h2,h3,-⟩
  ·rw[h1] at h0
   exact absurd h0 (by decide)
  ·rw[h1]
   have h3:sep.isPrefixOf (s.drop i)=true:=h3
   rw[List.isPrefixOf_iff_prefix] at h3
   obtain⟨q,hq⟩:=h3
   have e:s=s.take i++(sep++q):=by rw[hq,List.take_append_drop]
   have h4:Gd (s.take i++(sep++q)):=by rw[<-e];exact h
   obtain⟨x,y,rfl⟩:=List.exists_cons_of_ne_nil hs
   obtain⟨k1,k2⟩:=gd_cut' h4 (fun _ _ d hd=>.inr (ha d (by
    have:x=d:=by simpa using hd
    rw[this]
    exact List.mem_cons_self ..)))
   obtain⟨-,k3⟩:=gd_cut' k2 (fun c hc _ _=>.inl (ha c (List.mem_of_getLast? hc)))
   simp only[Int.toNat_natCast]
   refine⟨k1,?_⟩
   rw[<-List.drop_drop,<-hq,List.drop_left' rfl]
   exact k3
 ·exact⟨h,gd_nil⟩
theorem gd_toksF:∀ (n:Nat) (l:L),Gd l->∀ t∈toksF n l,GdT t
 | 0,_,_,t,h=>by cases h
 | _+1,[],_,t,h=>by cases h
 | n+1,c :: u,hl,t,h=>by
  unfold toksF at h
  have txt:∀ (k:Nat) (x:L),Gd x->GdT ⟨k,[],[],false,x⟩:=fun k x hx=>⟨gd_nil,(fun kv hkv=>by cases hkv),hx⟩
  split at h
  ·rename_i h1
   have hd:Gd ((c :: u).drop 4):=by
    by_cases hc:c=60
    ·subst hc
     rw[beg_lt] at h1
     cases u with
     | nil=>cases h1
     | cons d v =>
      unfold beg1 at h1
      simp only at h1
      split at h1
      ·rename_i hp
       rw[List.isPrefixOf_iff_prefix] at hp
       obtain⟨q,hq⟩:=hp
       have hq:[33,45,45]++q=d :: v:=hq
       rw[<-hq] at hl ⊢
       exact gd_tail (gd_tail (gd_tail (gd_tail hl (by decide)) (by decide)) (by decide)) (by decide)
      ·split at h1
       ·cases h1
       ·split at h1
        ·cases h1
        ·split at h1
         ·cases h1
         ·unfold beg2 at h1
          split at h1
          ·cases h1
          ·split at h1 <;> cases h1
    ·rw[beg_ne u hc] at h1
     cases h1
   obtain⟨k1,k2⟩:=gd_cutL (sep:=[45,45,62]) hd (by simp) (by decide)
   rcases List.mem_cons.1 h with rfl | h
   ·exact txt _ _ k1
   ·exact gd_toksF n _ k2 t h
  ·split at h
   ·exact gd_toksF n _ (gd_cutL (sep:=[62]) hl (by simp) (by decide)).2 t h
   ·split at h
    ·rename_i h3
     split at h
     ·cases h
     ·rename_i k r hk
      obtain⟨k1,k2⟩:=gd_tagOf hl h3 hk
      obtain⟨k3,k4⟩:=gd_withRaw (k:=k) k2
      rcases List.mem_cons.1 h with rfl | h
      ·exact k1
      ·rcases List.mem_append.1 h with h | h
       ·exact k3 t h
       ·exact gd_toksF n _ k4 t h
    ·obtain⟨k1,k2⟩:=gd_part (stop (c :: u)) hl (stop_next _)
     rcases List.mem_cons.1 h with rfl | h
     ·exact txt _ _ (gd_res' k1)
     ·exact gd_toksF n _ k2 t h
theorem gd_toks {l:L}(h:Gd l):∀ t∈toks l,GdT t:=gd_toksF _ l h
end San
namespace Go.Proofs.YtkiofbikkhhdfabGreatDoor.Sy
open Go.RowKit
open Utf1 Sty
theorem trim_any (s:ByteArray)(hs:s.size<=9223372036854775807) (w:World) :
  Calls Tryz.prog 158 #[.string s,.string ⟨#[9,10,12,13,32]⟩] w fun e w'=>e=.returned (.string ⟨(Lib.trimS (bl s) cutset).toArray⟩)/\Below w.heap.size w w' :=
 Any.strings_Trim_laid Tryz.lays160 (by kernel_rfl) s ⟨#[9,10,12,13,32]⟩ w hs (by decide) (ascii_of_all (by decide))
theorem plain_any (s:ByteArray)(hs:s.size<=9223372036854775807) (w:World) :
  Calls Tryz.prog 147 #[.string s] w fun e w'=>e=.returned (.string ⟨(pl (bl s)).toArray⟩)/\Below w.heap.size w w':=by
 have c1:=fun w=>trim_any s hs w
 have c2:=fun w=>lower_any ⟨(Lib.trimS (bl s) cutset).toArray⟩ w
 have HE:Hid (pl (bl s)=lower (bl ⟨(Lib.trimS (bl s) cutset).toArray⟩)):=hide rfl
 rw[HE.out]
 generalize (⟨(lower (bl ⟨(Lib.trimS (bl s) cutset).toArray⟩)).toArray⟩:ByteArray)=B at c2
 generalize (⟨(Lib.trimS (bl s) cutset).toArray⟩:ByteArray)=A at c1 c2
 clear HE
 go_enter Tryz.func147,Tryz.ntmps147
 go_wp2_with fail
 refine (c1 _).mono ?_
 rintro e w1 ⟨rfl,hb1⟩
 go_wp2_with fail
 refine (c2 _).mono ?_
 rintro e w2 ⟨rfl,hb2⟩
 go_wp2_with fail
 go_ret
 exact⟨rfl,hb1.trans (hb2.mono hb1.size)⟩
theorem ib_some:∀ (a b:L) (c:UInt8),c ∉ a->Lib.indexByte (a++c :: b) c=(a.length:Int)
 | [],b,c,_=>by simp[Lib.indexByte]
 | x :: a,b,c,h=>by
  have hx:(x==c)=false:=beq_eq_false_iff_ne.2 (fun e=>h (by simp[e]))
  have ih:=ib_some a b c (fun e=>h (by simp[e]))
  rw[List.cons_append,Lib.indexByte,hx,ih]
  have:((a.length:Int)==-1)=false:=beq_eq_false_iff_ne.2 (by omega)
  rw[this]
  simp
theorem ib_none:∀ (a:L) (c:UInt8),c ∉ a->Lib.indexByte a c=-1
 | [],c,_=>rfl
 | x :: a,c,h=>by
  have hx:(x==c)=false:=beq_eq_false_iff_ne.2 (fun e=>h (by simp[e]))
  have ih:=ib_none a c (fun e=>h (by simp[e]))
  rw[Lib.indexByte,hx,ih]
  rfl
theorem lcut_none (s:ByteArray) (c:UInt8)(h:c ∉ bl s) (w:World) :
  Calls Tryz.prog 70 #[.string s,.string ⟨#[c]⟩] w fun e w'=>e=.returned (.tuple #[.string s,.string ⟨#[]⟩,.bool false])/\w'=w:=by
 have c1:=fun w=>Tryz.stringslite_Index_one s c w
 rw[ib_none _ c h] at c1
 clear h
 go_enter Tryz.func70,Tryz.ntmps70
 go_wp2_with fail
 refine (c1 _).mono ?_
 rintro e w1 ⟨rfl,rfl⟩
 go_wp2_with fail
 go_ret3
 exact⟨rfl,rfl⟩
theorem lcut_some (s:ByteArray) (c:UInt8) (A B:ByteArray)(h:bl s=bl A++c :: bl B)(hc:c ∉ bl A)(hs:s.size<=100000) (w:World) :
  Calls Tryz.prog 70 #[.string s,.string ⟨#[c]⟩] w fun e w'=>e=.returned (.tuple #[.string A,.string B,.bool true])/\Below w.heap.size w w':=by
 have c1:=fun w=>Tryz.stringslite_Index_one s c w
 rw[show s.data.toList=_ from h,ib_some _ _ c hc,bl_len] at c1
 have hsz:s.size=A.size+1+B.size:=by
  have:=congrArg List.length h
  rw[bl_len,List.length_append,List.length_cons,bl_len,bl_len] at this
  omega
 have HA:Hid (s.extract 0 A.size=A):=hide (by
  apply ba_ext
  rw[extract_bl,h]
  have:A.size=(bl A).length:=(bl_len A).symm
  rw[this]
  simp)
 have HB:Hid (s.extract (A.size+1) s.size=B):=hide (by
  apply ba_ext
  rw[extract_bl,h,List.drop_append,bl_len]
  rw[List.drop_eq_nil_of_le (by rw[bl_len];omega)]
  rw[show A.size+1 - A.size=1 by omega]
  simp
  rw[List.take_of_length_le (by rw[bl_len];omega)])
 have k0:(0:Int)<=(A.size:Int):=by omega
 have k1:(A.size:Int)<=(s.size:Int):=by omega
 have k2:(0:Int)<=(A.size:Int)+1:=by omega
 have k3:(A.size:Int)+1<=(s.size:Int):=by omega
 have hAs:A.size<=100000:=by omega
 have HS:=hide hsz
 clear h hc hsz
 have hA:=HA.out
 have hB:=HB.out
 go_enter Tryz.func70,Tryz.ntmps70
 go_wp2_with fail
 refine (c1 _).mono ?_
 rintro e w1 ⟨rfl,rfl⟩
 go_wp2_with fail
 go_region
 go_wp2
 go_ret3
 exact⟨rfl,(Below.refl _ _).drew⟩
theorem cut_none (s:ByteArray) (c:UInt8)(h:c ∉ bl s) (w:World) :
  Calls Tryz.prog 28 #[.string s,.string ⟨#[c]⟩] w fun e w'=>e=.returned (.tuple #[.string s,.string ⟨#[]⟩,.bool false])/\Below w.heap.size w w':=by
 have c1:=fun w=>lcut_none s c h w
 clear h
 go_enter Tryz.func28,Tryz.ntmps28
 go_wp2_with fail
 refine (c1 _).mono ?_
 rintro e w1 ⟨rfl,rfl⟩
 go_wp2_with fail
 go_ret3
 exact⟨rfl,Below.refl _ _⟩
theorem cut_some (s:ByteArray) (c:UInt8) (A B:ByteArray)(h:bl s=bl A++c :: bl B)(hc:c ∉ bl A)(hs:s.size<=100000) (w:World) :
  Calls Tryz.prog 28 #[.string s,.string ⟨#[c]⟩] w fun e w'=>e=.returned (.tuple #[.string A,.string B,.bool true])/\Below w.heap.size w w':=by
 have c1:=fun w=>lcut_some s c A B h hc hs w
 clear h hc
 go_enter Tryz.func28,Tryz.ntmps28
 go_wp2_with fail
 refine (c1 _).mono ?_
 rintro e w1 ⟨rfl,hb⟩
 go_wp2_with fail
 go_ret3
 exact⟨rfl,hb⟩
theorem split_at:∀ (l:L) (c:UInt8),c∈l->∃ a b,l=a++c :: b/\c ∉ a
 | [],c,h=>by simp at h
 | x :: l,c,h=>by
  by_cases e:x=c
  ·exact⟨[],l,by simp[e],by simp⟩
  ·rcases List.mem_cons.1 h with h | h
   ·exact absurd h.symm e
   ·obtain⟨a,b,rfl,hn⟩:=split_at l c h
    exact⟨x :: a,b,by simp,by simp[hn,Ne.symm e]⟩
theorem split_ba (s:ByteArray) (c:UInt8)(h:c∈bl s):∃ A B:ByteArray,bl s=bl A++c :: bl B/\c ∉ bl A:=by
 obtain⟨a,b,e,hn⟩:=split_at (bl s) c h
 exact⟨⟨a.toArray⟩,⟨b.toArray⟩,by simpa using e,by simpa using hn⟩
end Go.Proofs.YtkiofbikkhhdfabGreatDoor.Sy
namespace Go.Proofs.YtkiofbikkhhdfabGreatDoor.Sy
open Go.RowKit Go.WideMaps
open Utf1 Sty
theorem contains_any (X:ByteArray) (v:Value) (ss:List ByteArray)(hl:ss.length<=100000) (w:World)(hv:StrArg w v ss) :
  Calls Tryz.prog 71 #[v,.string X] w fun e w'=>e=.returned (.bool (decide (bl X∈ss.map bl)))/\w'=w:=by
 obtain⟨p,cap,rfl,-,hc⟩:=hv
 cases ss with
 | nil =>
  refine (Tryz.slices_Contains_string_empty p cap X w).mono ?_
  rintro e w' ⟨rfl,rfl⟩
  exact⟨by simp,rfl⟩
 | cons y r =>
  obtain⟨b,off,rfl,_⟩:=hc 0 y rfl
  have hcell:∀ j,j < (y :: r).length->w.cell? ⟨b,off+j,none⟩=some (.string ((y :: r).getD j ByteArray.empty)):=by
   intro j hj
   obtain⟨b',off',e,h⟩:=hc j ((y :: r)[j]) (List.getElem?_eq_getElem hj)
   injection e with e
   injection e with e1 e2
   subst e1
   subst e2
   rw[h,List.getD_eq_getElem?_getD,List.getElem?_eq_getElem hj]
   rfl
  refine (Tryz.slices_Contains_string b off (y :: r).length cap (y :: r) X w (Nat.le_refl _) (by omega) hcell).mono ?_
  rintro e w' ⟨rfl,rfl⟩
  refine⟨?_,rfl⟩
  congr 2
  rw[List.take_length]
  have h1:=Lib.containsS_iff (y :: r) X
  by_cases hm:X∈y :: r
  ·rw[h1.2 hm,decide_eq_true (List.mem_map_of_mem hm)]
  ·have:Lib.containsS (y :: r) X=false:=by
    cases h:Lib.containsS (y :: r) X
    ·rfl
    ·exact absurd (h1.1 h) hm
   rw[this,decide_eq_false]
   intro hx
   obtain⟨z,hz,e⟩:=List.mem_map.1 hx
   exact hm (by rw[<-ba_ext e];exact hz)
def rowV:List NV->List Value
 | []=>[]
 | x :: r=>.string ⟨x.1.toArray⟩ :: .string ⟨x.2.toArray⟩ :: rowV r
theorem rowV_app:∀ a b:List NV,rowV (a++b)=rowV a++rowV b
 | [],b=>rfl
 | x :: a,b=>by rw[List.cons_append,rowV,rowV,rowV_app a b];rfl
theorem rowV_at:∀ (a:List NV) (i:Nat) (x:NV),a[i]?=some x->(rowV a)[2*i]?=some (.string ⟨x.1.toArray⟩)/\(rowV a)[2*i+1]?=some (.string ⟨x.2.toArray⟩)
 | [],i,x,h=>by simp at h
 | y :: a,0,x,h=>by
  have:y=x:=by simpa using h
  subst this
  exact⟨rfl,rfl⟩
 | y :: a,i+1,x,h=>by
  have h':a[i]?=some x:=by simpa using h
  obtain⟨h1,h2⟩:=rowV_at a i x h'
  rw[rowV]
  refine⟨?_,?_⟩
  ·rw[show 2*(i+1)=2*i+1+1 by omega,List.getElem?_cons_succ,List.getElem?_cons_succ]
   exact h1
  ·rw[show 2*(i+1)+1=2*i+1+1+1 by omega,List.getElem?_cons_succ,List.getElem?_cons_succ]
   exact h2
def DOk (D:DataW Unit) (st:List NV):Prop:=∀ (i:Nat) (x:NV),st[i]?=some x->∃ j:Nat,D.atKey (.string x.1) (.lit (.int .i64 0))=.lit (.int .i64 (j:Int))/\i<=j/\∃ y,st[j]?=some y/\y.1=x.1
theorem DOk.nil (D:DataW Unit):DOk D []:=fun i x h=>by simp at h
theorem DOk.put {D:DataW Unit}{st:List NV}(h:DOk D st)(hD:Maps.IsMap D) (x:NV):DOk (D.put (.string x.1) (.lit (.int .i64 (st.length:Int)))) (st++[x]):=by
 have hx:(st++[x])[st.length]?=some x:=by simp
 intro i y hy
 by_cases e:y.1=x.1
 ·refine⟨st.length,?_,?_,x,hx,e.symm⟩
  ·rw[e]
   exact Maps.atKey_put_same hD (by simp[WideAt.IsKeyLit]) _ _
  ·have:=(List.getElem?_eq_some_iff.1 hy).1
   simp at this
   omega
 ·have hi:i < st.length:=by
   have:=(List.getElem?_eq_some_iff.1 hy).1
   simp at this
   rcases Nat.lt_or_ge i st.length with h1 | h1
   ·exact h1
   ·have:i=st.length:=by omega
    subst this
    rw[hx] at hy
    cases hy
    exact absurd rfl e
  rw[List.getElem?_append_left hi] at hy
  obtain⟨j,h1,h2,z,h3,h4⟩:=h i y hy
  refine⟨j,?_,h2,z,?_,h4⟩
  ·rw[Maps.atKey_put_other (fun e'=>e (by injection e')) _ _]
   exact h1
  ·rw[List.getElem?_append_left (List.getElem?_eq_some_iff.1 h3).1]
   exact h3
structure Inv (Hb:Nat) (v:Value) (st:List NV) (w:World):Prop where
 pb:w.heap[Hb]?=some (.cells #[v] 22 (0,0))
 sb:∃ u,w.heap[Hb+1]?=some (.cells #[u] 166 (0,0))/\w.ownsRow (Hb+4) 169 2 u st.length (rowV st)
 mb:w.heap[Hb+3]?=some (.cells #[.map (some (Hb+2))] 118 (0,0))
 mp:∃ D:DataW Unit,w.ownsMap Tryz.prog 9 (plainElem Tryz.prog 3) (Hb+2) st.length D/\Maps.IsMap D/\DOk D st
theorem Inv.lt {Hb:Nat}{v:Value}{st:List NV}{w:World}(h:Inv Hb v st w):Hb+4<=w.heap.size:=by have:=lt_of_block h.mb;omega
theorem Inv.keep {Hb:Nat}{v:Value}{st:List NV}{w w':World}(h:Inv Hb v st w)(hb:Below w.heap.size w w'):Inv Hb v st w':=by
 obtain⟨h1,⟨u,h2,h3⟩,h4,D,h5,h6⟩:=h
 exact⟨(hb.block _ (lt_of_block h1)).trans h1,⟨u,(hb.block _ (lt_of_block h2)).trans h2,h3.kept (row:=none) (below_grown hb) (Classical.em _)⟩,(hb.block _ (lt_of_block h4)).trans h4,D,h5.kept (below_grown hb) (by simp),h6⟩
theorem ownsMap_setCell_other {H:Type}{w:World}{P:Program}{k:TypeId}{R:Value->Option (DataW H × List MemPlace)}{b n:Nat}{D:DataW H}(h:w.ownsMap P k R b n D) {a:Addr}(ha:b≠a.block) (u:Value):(w.setCell a u).ownsMap P k R b n D:=by
 obtain⟨es,clock,hb,r⟩:=h
 exact⟨es,clock,by rw[Below.heap_setCell _ _ _ _ ha];exact hb,r⟩
end Go.Proofs.YtkiofbikkhhdfabGreatDoor.Sy
namespace Go.Proofs.YtkiofbikkhhdfabGreatDoor.Sy
open Go.RowKit Go.WideMaps
open Utf1 Sty
theorem infoSet:(Tryz.prog.info? 169).map (fun i=>(i.zero,i.size,i.bytes))=some (some (.agg #[.string ⟨#[]⟩,.string ⟨#[]⟩]),2,32):=by kernel_rfl
theorem two_new (w:World) (a b:Value) (t:TypeId):∀ j u,[a,b][j]?=some u->(w.alloc (.cells #[a,b] t)).cell? ((⟨w.heap.size,0,none⟩:Addr).add j)=some u:=by
 intro j u h
 rw[add_plain,Nat.zero_add]
 match j,h with
 | 0,h=>simp at h;subst h;simp
 | 1,h=>simp at h;subst h;simp
 | j+2,h=>simp at h
theorem inv_push {Hb:Nat}{v u u':Value}{st:List NV}{D:DataW Unit}{w w1 w2:World}(x:NV) (tmp:Obj)
  (hpb:w.heap[Hb]?=some (.cells #[v] 22 (0,0)))(hmb:w.heap[Hb+3]?=some (.cells #[.map (some (Hb+2))] 118 (0,0)))
  (hsb:w.heap[Hb+1]?=some (.cells #[u] 166 (0,0)))(hown:w.ownsRow (Hb+4) 169 2 u st.length (rowV st))
  (hD:Maps.IsMap D)(hok:DOk D st)
  (hmap1:w1.ownsMap Tryz.prog 9 (plainElem Tryz.prog 3) (Hb+2) (st.length+1) (D.put (.string x.1) (.lit (.int .i64 (st.length:Int)))))(hg1:w.grownBy w1 (some (Hb+2)))
  (hown2:w2.ownsRow (Hb+4) 169 2 u' (st.length+1) (rowV st++[.string ⟨x.1.toArray⟩,.string ⟨x.2.toArray⟩]))(hg2:(w1.alloc tmp).grownBy w2 u.ownBlock) :
  (∃ g c,u'=.slice (some ⟨g,0,none⟩) (st.length+1) c)/\w2.cell? ⟨Hb+1,0,none⟩=some u/\w2.frozen? ⟨Hb+1,0,none⟩=false/\Inv Hb v (st++[x]) (w2.setCell ⟨Hb+1,0,none⟩ u')/\Below Hb w (w2.setCell ⟨Hb+1,0,none⟩ u'):=by
 have hlt:=lt_of_block hmb
 have hne:∀ k,k < Hb+4->some k≠u.ownBlock:=fun k hk e=>by
  rcases hown.2 with⟨rfl,_⟩ | ⟨g,cap,cur,rfl,hg,hh,_⟩
  ·simp[Value.ownBlock] at e
  ·simp only[Value.ownBlock,Option.some.injEq] at e
   omega
 have keep1:∀ k,k < w.heap.size->k≠Hb+2->w1.heap[k]?=w.heap[k]?:=fun k hk h=>hg1.block k hk (by intro e;injection e with e;exact h e)
 have hs1:=hg1.size
 have keep2:∀ k,k < Hb+4->k < w1.heap.size->w2.heap[k]?=w1.heap[k]?:=fun k hk hk' =>
  (hg2.block k (by simp;omega) (hne k hk)).trans (Below.heap_alloc _ _ _ hk')
 have hpb2:w2.heap[Hb]?=some (.cells #[v] 22 (0,0)):=(keep2 Hb (by omega) (by omega)).trans ((keep1 Hb (by omega) (by omega)).trans hpb)
 have hsb2:w2.heap[Hb+1]?=some (.cells #[u] 166 (0,0)):=(keep2 (Hb+1) (by omega) (by omega)).trans ((keep1 (Hb+1) (by omega) (by omega)).trans hsb)
 have hmb2:w2.heap[Hb+3]?=some (.cells #[.map (some (Hb+2))] 118 (0,0)):=(keep2 (Hb+3) (by omega) (by omega)).trans ((keep1 (Hb+3) (by omega) (by omega)).trans hmb)
 have hne':u'.ownBlock≠some (Hb+1):=fun e=>by
  rcases hown2.2 with⟨rfl,_⟩ | ⟨g,cap,cur,rfl,hg,hh,_⟩
  ·simp[Value.ownBlock] at e
  ·simp only[Value.ownBlock,Option.some.injEq] at e
   omega
 have hex:∃ g c,u'=.slice (some ⟨g,0,none⟩) (st.length+1) c:=by
  rcases hown2.2 with⟨_,h0⟩ | ⟨g',cap',_,h,_⟩
  ·omega
  ·exact⟨g',cap',h⟩
 refine⟨hex,cell_of_one hsb2,free_of_one hsb2,⟨?_,⟨u',one_setCell hsb2,?_⟩,?_,?_⟩,?_⟩
 ·exact (Below.heap_setCell _ _ _ _ (by show Hb≠Hb+1;omega)).trans hpb2
 ·have:=ownsRow_setCell_other hown2 (a:=⟨Hb+1,0,none⟩) hne' u'
  rw[rowV_app,List.length_append]
  exact this
 ·exact (Below.heap_setCell _ _ _ _ (by show Hb+3≠Hb+1;omega)).trans hmb2
 ·refine⟨_,?_,hD.put _ _,hok.put hD x⟩
  rw[List.length_append]
  exact ownsMap_setCell_other ((hmap1.alloc tmp).kept hg2 (hne (Hb+2) (by omega))) (by show Hb+2≠Hb+1;omega) _
 ·have b1:Below Hb w w1:=(Below.refl Hb w).grown hg1 (by omega) (fun j hj=>by injection hj with hj;omega)
  exact ((b1.alloc (by omega) tmp).grown hg2 (by simp;omega) (fun k hk=>by
   rcases Nat.lt_or_ge k (Hb+4) with h | h
   ·exact absurd hk.symm (hne k h)
   ·omega)).setCell (by show Hb<=Hb+1;omega) _
theorem tell_any (Hb:Nat) (v:Value) (ss:List ByteArray) (st:List NV) (N V:ByteArray) (w:World)(hi:Inv Hb v st w)(hv:StrArg w v ss)(hN:N.size<=100000)(hV:V.size<=100000)(hst:st.length<=100000)(hl:ss.length<=100000) :
  Calls Tryz.prog 137 #[.string N,.string V,.pointer (some ⟨Hb,0,none⟩),.pointer (some ⟨Hb+1,0,none⟩),.pointer (some ⟨Hb+3,0,none⟩)] w fun e w'=>e=.returned (.tuple #[])/\Inv Hb v (st++[(bl N,bl V)].filter (keep (ss.map bl))) w'/\Below Hb w w':=by
 have c1:=fun w=>value_any V (by omega) w
 have c2:∀ wx,wx=w->Calls Tryz.prog 71 #[v,.string N] wx fun e w'=>e=.returned (.bool (decide (bl N∈ss.map bl)))/\w'=wx:=fun wx hx=>by subst hx;exact contains_any N v ss hl _ hv
 obtain⟨R1,hR1⟩:∃ R,R=okv (bl V):=⟨_,rfl⟩
 obtain⟨R2,hR2⟩:∃ R,R=decide (bl N∈ss.map bl):=⟨_,rfl⟩
 rw[<-hR1] at c1
 rw[<-hR2] at c2
 have HK:Hid (keep (ss.map bl) (bl N,bl V)=(R2 && R1)):=hide (by unfold keep;rw[hR1,hR2])
 clear hR1 hR2
 have HC2:=hide c2
 clear c2
 have hi0:=hi
 obtain⟨hpb,⟨u,hsb,hown⟩,hmb,D,hmap,hD,hok⟩:=hi
 have cP:=cell_of_one hpb
 have cS:=cell_of_one hsb
 have cM:=cell_of_one hmb
 have HI:=hide hi0
 clear hi0
 cases R1 with
 | false =>
  have HF:Hid (st++[(bl N,bl V)].filter (keep (ss.map bl))=st):=hide (by rw[List.filter_cons,HK.out];simp)
  clear HK HC2 hpb hsb hmb hmap hD hok hown
  rw[HF.out]
  go_enter Tryz.func137,Tryz.ntmps137
  go_wp2_with fail
  refine (c1 _).mono ?_
  rintro e w1 ⟨rfl,rfl⟩
  go_wp2_with fail
  go_end0
  exact⟨rfl,HI.out,Below.refl _ _⟩
 | true =>
  cases R2 with
  | false =>
   have HF:Hid (st++[(bl N,bl V)].filter (keep (ss.map bl))=st):=hide (by rw[List.filter_cons,HK.out];simp)
   clear HK hpb hsb hmb hmap hD hok hown
   rw[HF.out]
   go_enter Tryz.func137,Tryz.ntmps137
   go_wp2_with fail
   refine (c1 _).mono ?_
   rintro e w1 ⟨rfl,rfl⟩
   go_wp2_with fail
   refine (HC2.out _ rfl).mono ?_
   rintro e w1 ⟨rfl,rfl⟩
   go_wp2_with fail
   go_end0
   exact⟨rfl,HI.out,Below.refl _ _⟩
  | true =>
   have HF:Hid (st++[(bl N,bl V)].filter (keep (ss.map bl))=st++[(bl N,bl V)]):=hide (by rw[List.filter_cons,HK.out];simp)
   rw[HF.out]
   clear HF HK HI
   have hkey:keyOf Tryz.prog 9 (.string N)=some (.string (bl N)):=keyOf_string_mk Tryz.underlying9 (by unfold maxLen;omega)
   obtain⟨i0,hi,hz0,hz1,hz2⟩:=info_parts infoSet
   obtain⟨sp,sc,rfl⟩:∃ sp sc,u=.slice sp st.length sc:=by
    rcases hown.2 with⟨rfl,h0⟩ | ⟨g,cap,cur,rfl,_⟩
    ·exact⟨none,0,by rw[h0]⟩
    ·exact⟨_,_,rfl⟩
   have HPB:=hide hpb
   have HSB:=hide hsb
   have HMB:=hide hmb
   have HOW:=hide hown
   have HD:=hide hD
   have HOK:=hide hok
   obtain⟨n,hn⟩:∃ n,n=st.length:=⟨_,rfl⟩
   have HN:=hide hn
   rw[<-hn] at hst cS hmap
   have HMAP:=hide hmap
   clear hpb hsb hmb hown hD hok hn hmap
   go_enter Tryz.func137,Tryz.ntmps137
   go_wp2_with fail
   refine (c1 _).mono ?_
   rintro e w1 ⟨rfl,rfl⟩
   go_wp2_with fail
   refine (HC2.out _ rfl).mono ?_
   rintro e w1 ⟨rfl,rfl⟩
   clear HC2 c1
   go_wp2_with (at_mapUpdate;refine wpList_mapUpdate_own _ rfl _ _ _ 118 rfl 9 3 (Maps.string_keyed Tryz.underlying9) Tryz.underlying118 _ (Hb+2) n _ rfl HMAP.out (by unfold maxLen;omega) _ _ _ rfl rfl hkey _ [] (plainElem_int Tryz.underlying3 (WalkArith.wf_i64 (by omega))) ?_)
   intro w2 hmap1 hg1
   have HM1:=hide hmap1
   have HG1:=hide hg1
   have cS1:w2.cell? ⟨Hb+1,0,none⟩=some (.slice sp n sc):=by
    rw[HN.out]
    exact cell_of_one ((hg1.block (Hb+1) (lt_of_block HSB.out) (fun e=>by have:=Option.some.inj e;omega)).trans HSB.out)
   clear hmap1 hg1 cS cM cP hkey HMAP
   have HOW1:Hid ((w2.alloc (.cells #[.string N,.string V] 169)).ownsRow (Hb+4) 169 2 (.slice sp n sc) n (rowV st)):=hide (by
    rw[HN.out]
    refine (HOW.out.kept HG1.out ?_).alloc _
    rcases HOW.out.2 with⟨e,_⟩ | ⟨g,cap,cur,e,hg,_⟩
    ·left;rw[e];rfl
    ·right;rw[e];intro h;simp only[Value.ownBlock,Option.some.injEq] at h;omega)
   have HSZ:Hid (Hb+4<=(w2.alloc (.cells #[.string N,.string V] 169)).heap.size):=hide (by
    have h1:=lt_of_block HMB.out
    have h2:=HG1.out.size
    simp
    omega)
   go_wp2_with (at_builtin;refine wpList_append_own _ rfl _ _ 166 rfl (Hb+4) 169 i0 _ 2 32 Tryz.underlying166 hi hz0 hz1 hz2 rfl (by decide) (.slice sp n sc) n (rowV st) rfl HOW1.out ⟨w2.heap.size,0,none⟩ 1 1 [.string N,.string V] rfl rfl (two_new _ _ _ _) (by simp[Value.oneCell']) (by unfold maxLen;omega) (by omega) HSZ.out ?_)
   intro u' w3 hown3 hg3 _
   have HP:=hide (inv_push (v:=v) (bl N,bl V) _ HPB.out HMB.out HSB.out HOW.out HD.out HOK.out (by rw[<-HN.out];exact HM1.out) HG1.out (u':=u') (w2:=w3) (by rw[<-HN.out];exact hown3) (by rw[<-HN.out];exact hg3))
   clear hown3 hg3
   obtain⟨⟨g,c,hu⟩,cS3,fS3,-⟩:=HP.out
   rw[<-HN.out] at hu cS3
   subst hu
   go_wp2_with fail
   go_end0
   exact⟨rfl,HP.out.2.2.2⟩
end Go.Proofs.YtkiofbikkhhdfabGreatDoor.Sy
namespace Go.Proofs.YtkiofbikkhhdfabGreatDoor.Sy
open Go.RowKit Go.WideMaps
open Utf1 Sty
def tellV (Hb:Nat):Value:=.func (.func 137) #[] #[.pointer (some ⟨Hb,0,none⟩),.pointer (some ⟨Hb+1,0,none⟩),.pointer (some ⟨Hb+3,0,none⟩)]
theorem stay_semi (props:List L) (p r:L)(h:(59:UInt8) ∉ p):stay props (p++59 :: r)=(pp p).toList.filter (keep props)++stay props r:=by
 unfold stay prts
 rw[segs_semi p r h]
 cases hp:pp p with
 | none=>rw[List.filterMap_cons_none hp];simp
 | some x=>rw[List.filterMap_cons_some hp,List.filter_cons];simp[List.filter_cons];split <;> simp
theorem stay_end (props:List L) (p:L)(h:(59:UInt8) ∉ p):stay props p=(pp p).toList.filter (keep props):=by
 unfold stay prts
 rw[segs_end p h]
 cases hp:pp p with
 | none=>rw[List.filterMap_cons_none hp];simp
 | some x=>rw[List.filterMap_cons_some hp];simp
theorem pp_none (p:L)(h:(58:UInt8) ∉ p):(pp p).toList=[]:=by
 unfold pp
 rw[part_none p h]
 rfl
theorem pp_some (a b:L)(h:(58:UInt8) ∉ a):(pp (a++58 :: b)).toList=[(pl a,pl b)]:=by
 unfold pp
 rw[part_some a b h]
 rfl
theorem filter_len (f:NV->Bool) (x:NV):([x].filter f).length<=1:=by
 rw[List.filter_cons]
 split <;> simp
theorem part_told (Hb:Nat) (v:Value) (ss:List ByteArray) (st:List NV) (A B:ByteArray) (w0 w:World)(h0:w0.heap.size=Hb)(hi:Inv Hb v st w)(hv:StrArg w0 v ss)(hb:Below Hb w0 w)(hA:A.size<=100000)(hB:B.size<=100000)(hst:st.length<=100000)(hl:ss.length<=100000) :
  Calls Tryz.prog 137 #[.string ⟨(pl (bl A)).toArray⟩,.string ⟨(pl (bl B)).toArray⟩,.pointer (some ⟨Hb,0,none⟩),.pointer (some ⟨Hb+1,0,none⟩),.pointer (some ⟨Hb+3,0,none⟩)] w fun e w'=>e=.returned (.tuple #[])/\Inv Hb v (st++[(pl (bl A),pl (bl B))].filter (keep (ss.map bl))) w'/\Below Hb w w':=by
 have h1:=pl_len (bl A)
 have h2:=pl_len (bl B)
 rw[bl_len] at h1 h2
 exact tell_any Hb v ss st ⟨(pl (bl A)).toArray⟩ ⟨(pl (bl B)).toArray⟩ w hi (hv.below (by rw[h0];exact hb)) (by rw[size_mk];omega) (by rw[size_mk];omega) hst hl
theorem each_any (Hb:Nat) (v:Value) (ss:List ByteArray) (s:ByteArray) (w0 w:World)(h0:w0.heap.size=Hb)(hi:Inv Hb v [] w)(hv:StrArg w0 v ss)(hb:Below Hb w0 w)(hs:s.size<=90000)(hl:ss.length<=100000) :
  Calls Tryz.prog 136 #[.string s,tellV Hb] w fun e w'=>e=.returned (.tuple #[])/\Inv Hb v (stay (ss.map bl) (bl s)) w'/\Below Hb w w':=by
 unfold tellV
 have HV:=hide hv
 have HB:=hide hb
 have HI:=hide hi
 clear hv hb hi
 go_enter Tryz.func136,Tryz.ntmps136
 go_wp2_with fail
 go_loopg [0,4] (s.size+1) (fun g v0 v4 wr=>∃ (S:ByteArray) (m:Bool) (st:List NV),v0=.string S/\v4=.bool m/\S.size<=s.size/\st.length+S.size<=s.size+1/\(m=true->S.size+1<=g/\st.length+S.size<=s.size)/\Hid (Inv Hb v st wr/\Below Hb w wr/\stay (ss.map bl) (bl s)=st++(if m=true then stay (ss.map bl) (bl S) else [])))
 case atStart=>exact⟨s,true,[],rfl,rfl,Nat.le_refl _,by simp,fun _=>⟨Nat.le_refl _,by simp⟩,hide ⟨HI.out,Below.refl _ _,rfl⟩⟩
 case round =>
  obtain⟨S,m,st,rfl,rfl,hS,hlen,hm,HR⟩:=hrel
  clear HI
  cases m with
  | false =>
   clear hm
   have HE:Hid (stay (ss.map bl) (bl s)=st):=hide (by have:=HR.out.2.2;simpa using this)
   go_wp2_with fail
   go_end0
   rw[HE.out]
   exact⟨rfl,HR.out.1,HR.out.2.1⟩
  | true =>
   obtain⟨hg,hlen2⟩:=hm rfl
   clear hm
   have HST:Hid (stay (ss.map bl) (bl s)=st++stay (ss.map bl) (bl S)):=hide (by have:=HR.out.2.2;simpa using this)
   by_cases hsemi:(59:UInt8)∈bl S
   ·obtain⟨A,B,hAB,hnA⟩:=split_ba S 59 hsemi
    have hsz:S.size=A.size+1+B.size:=by
     have:=congrArg List.length hAB
     rw[bl_len,List.length_append,List.length_cons,bl_len,bl_len] at this
     omega
    have cc:=fun w=>cut_some S 59 A B hAB hnA (by omega) w
    have HST2:Hid (stay (ss.map bl) (bl s)=st++((pp (bl A)).toList.filter (keep (ss.map bl))++stay (ss.map bl) (bl B))):=hide (by rw[HST.out,hAB,stay_semi _ _ _ hnA])
    have HSZ:=hide hsz
    clear hAB hnA hsemi HST hsz
    by_cases hcol:(58:UInt8)∈bl A
    ·obtain⟨N,V,hNV,hnN⟩:=split_ba A 58 hcol
     have hszA:A.size=N.size+1+V.size:=by
      have:=congrArg List.length hNV
      rw[bl_len,List.length_append,List.length_cons,bl_len,bl_len] at this
      omega
     have cd:=fun w=>cut_some A 58 N V hNV hnN (by have:=HSZ.out;omega) w
     have cn:=fun w=>plain_any N (by have:=HSZ.out;omega) w
     have cv:=fun w=>plain_any V (by have:=HSZ.out;omega) w
     have HST3:Hid (stay (ss.map bl) (bl s)=(st++[(pl (bl N),pl (bl V))].filter (keep (ss.map bl)))++stay (ss.map bl) (bl B)):=hide (by rw[HST2.out,hNV,pp_some _ _ hnN,List.append_assoc])
     have HT:Hid (∀ wx,Below wr.heap.size wr wx->Calls Tryz.prog 137 #[.string ⟨(pl (bl N)).toArray⟩,.string ⟨(pl (bl V)).toArray⟩,.pointer (some ⟨Hb,0,none⟩),.pointer (some ⟨Hb+1,0,none⟩),.pointer (some ⟨Hb+3,0,none⟩)] wx fun e w'=>e=.returned (.tuple #[])/\Hid (Inv Hb v (st++[(pl (bl N),pl (bl V))].filter (keep (ss.map bl))) w'/\Below Hb w w')):=hide (by
      intro wx hx
      have hwx:Below Hb w wx:=HR.out.2.1.trans (hx.mono (by have:=HR.out.1.lt;omega))
      refine (part_told Hb v ss st N V w0 wx h0 (HR.out.1.keep hx) HV.out (HB.out.trans hwx) (by have:=HSZ.out;omega) (by have:=HSZ.out;omega) (by omega) hl).mono ?_
      rintro e w' ⟨h1,h2,h3⟩
      exact⟨h1,hide ⟨h2,hwx.trans h3⟩⟩)
     have HLN:Hid ((st++[(pl (bl N),pl (bl V))].filter (keep (ss.map bl))).length+B.size<=s.size):=hide (by
      have h1:=filter_len (keep (ss.map bl)) (pl (bl N),pl (bl V))
      have h2:=HSZ.out
      rw[List.length_append]
      omega)
     have hBs:B.size+1<=gk - 1:=by have:=HSZ.out;omega
     have hBS:B.size<=s.size:=by have:=HSZ.out;omega
     clear hNV hnN hcol HST2 HR hszA HSZ
     generalize (⟨(pl (bl N)).toArray⟩:ByteArray)=PN at cn HT
     generalize (⟨(pl (bl V)).toArray⟩:ByteArray)=PV at cv HT
     go_wp2_with fail
     refine (cc _).mono ?_
     rintro e w1 ⟨rfl,hb1⟩
     go_wp2_with fail
     refine (cd _).mono ?_
     rintro e w2 ⟨rfl,hb2⟩
     go_wp2_with fail
     refine (cn _).mono ?_
     rintro e w3 ⟨rfl,hb3⟩
     go_wp2_with fail
     refine (cv _).mono ?_
     rintro e w4 ⟨rfl,hb4⟩
     have HT4:=hide (HT.out w4 (bel2 (bel2 (bel2 hb1 hb2) hb3) hb4))
     clear hb1 hb2 hb3 hb4 HT cc cd cn cv
     go_wp2_with fail
     refine HT4.out.mono ?_
     rintro e w5 ⟨rfl,HR5⟩
     clear HT4
     go_wp2_with fail
     go_roundg (gk - 1)
     case measure=>omega
     case rel=>exact⟨B,true,st++[(pl (bl N),pl (bl V))].filter (keep (ss.map bl)),rfl,rfl,hBS,by have:=HLN.out;omega,fun _=>⟨hBs,HLN.out⟩,hide ⟨HR5.out.1,HR5.out.2,by rw[if_pos rfl];exact HST3.out⟩⟩
    ·have cd:=fun w=>cut_none A 58 hcol w
     have HST3:Hid (stay (ss.map bl) (bl s)=st++stay (ss.map bl) (bl B)):=hide (by rw[HST2.out,pp_none _ hcol];rfl)
     have hBs:B.size+1<=gk - 1:=by have:=HSZ.out;omega
     have hBS:B.size<=s.size:=by have:=HSZ.out;omega
     have hLN:st.length+B.size<=s.size:=by have:=HSZ.out;omega
     clear hcol HST2 HSZ
     go_wp2_with fail
     refine (cc _).mono ?_
     rintro e w1 ⟨rfl,hb1⟩
     go_wp2_with fail
     refine (cd _).mono ?_
     rintro e w2 ⟨rfl,hb2⟩
     have HR2:=hide (And.intro (HR.out.1.keep (bel2 hb1 hb2)) (HR.out.2.1.trans ((bel2 hb1 hb2).mono (by have:=HR.out.1.lt;omega))))
     clear hb1 hb2 HR cc cd
     go_wp2_with fail
     go_roundg (gk - 1)
     case measure=>omega
     case rel=>exact⟨B,true,st,rfl,rfl,hBS,by omega,fun _=>⟨hBs,hLN⟩,hide ⟨HR2.out.1,HR2.out.2,by rw[if_pos rfl];exact HST3.out⟩⟩
   ·have cc:=fun w=>cut_none S 59 hsemi w
    have HST2:Hid (stay (ss.map bl) (bl s)=st++(pp (bl S)).toList.filter (keep (ss.map bl))):=hide (by rw[HST.out,stay_end _ _ hsemi])
    clear hsemi HST
    by_cases hcol:(58:UInt8)∈bl S
    ·obtain⟨N,V,hNV,hnN⟩:=split_ba S 58 hcol
     have hszA:S.size=N.size+1+V.size:=by
      have:=congrArg List.length hNV
      rw[bl_len,List.length_append,List.length_cons,bl_len,bl_len] at this
      omega
     have cd:=fun w=>cut_some S 58 N V hNV hnN (by omega) w
     have cn:=fun w=>plain_any N (by omega) w
     have cv:=fun w=>plain_any V (by omega) w
     have HST3:Hid (stay (ss.map bl) (bl s)=(st++[(pl (bl N),pl (bl V))].filter (keep (ss.map bl)))++[]):=hide (by rw[HST2.out,hNV,pp_some _ _ hnN,List.append_nil])
     have HT:Hid (∀ wx,Below wr.heap.size wr wx->Calls Tryz.prog 137 #[.string ⟨(pl (bl N)).toArray⟩,.string ⟨(pl (bl V)).toArray⟩,.pointer (some ⟨Hb,0,none⟩),.pointer (some ⟨Hb+1,0,none⟩),.pointer (some ⟨Hb+3,0,none⟩)] wx fun e w'=>e=.returned (.tuple #[])/\Hid (Inv Hb v (st++[(pl (bl N),pl (bl V))].filter (keep (ss.map bl))) w'/\Below Hb w w')):=hide (by
      intro wx hx
      have hwx:Below Hb w wx:=HR.out.2.1.trans (hx.mono (by have:=HR.out.1.lt;omega))
      refine (part_told Hb v ss st N V w0 wx h0 (HR.out.1.keep hx) HV.out (HB.out.trans hwx) (by omega) (by omega) (by omega) hl).mono ?_
      rintro e w' ⟨h1,h2,h3⟩
      exact⟨h1,hide ⟨h2,hwx.trans h3⟩⟩)
     have HLN:Hid ((st++[(pl (bl N),pl (bl V))].filter (keep (ss.map bl))).length<=s.size+1):=hide (by
      have h1:=filter_len (keep (ss.map bl)) (pl (bl N),pl (bl V))
      rw[List.length_append]
      omega)
     have hgp:1<=gk:=by omega
     clear hNV hnN hcol HST2 HR hszA
     generalize (⟨(pl (bl N)).toArray⟩:ByteArray)=PN at cn HT
     generalize (⟨(pl (bl V)).toArray⟩:ByteArray)=PV at cv HT
     go_wp2_with fail
     refine (cc _).mono ?_
     rintro e w1 ⟨rfl,hb1⟩
     go_wp2_with fail
     refine (cd _).mono ?_
     rintro e w2 ⟨rfl,hb2⟩
     go_wp2_with fail
     refine (cn _).mono ?_
     rintro e w3 ⟨rfl,hb3⟩
     go_wp2_with fail
     refine (cv _).mono ?_
     rintro e w4 ⟨rfl,hb4⟩
     have HT4:=hide (HT.out w4 (bel2 (bel2 (bel2 hb1 hb2) hb3) hb4))
     clear hb1 hb2 hb3 hb4 HT cc cd cn cv
     go_wp2_with fail
     refine HT4.out.mono ?_
     rintro e w5 ⟨rfl,HR5⟩
     clear HT4
     go_wp2_with fail
     go_roundg (gk - 1)
     case measure=>omega
     case rel=>exact⟨⟨#[]⟩,false,st++[(pl (bl N),pl (bl V))].filter (keep (ss.map bl)),rfl,rfl,Nat.zero_le _,(show _+0<=_ from HLN.out),(fun h=>by cases h),hide ⟨HR5.out.1,HR5.out.2,by rw[if_neg (by decide)];exact HST3.out⟩⟩
    ·have cd:=fun w=>cut_none S 58 hcol w
     have HST3:Hid (stay (ss.map bl) (bl s)=st++[]):=hide (by rw[HST2.out,pp_none _ hcol];rfl)
     have hgp:1<=gk:=by omega
     have hLN:st.length<=s.size+1:=by omega
     clear hcol HST2
     go_wp2_with fail
     refine (cc _).mono ?_
     rintro e w1 ⟨rfl,hb1⟩
     go_wp2_with fail
     refine (cd _).mono ?_
     rintro e w2 ⟨rfl,hb2⟩
     have HR2:=hide (And.intro (HR.out.1.keep (bel2 hb1 hb2)) (HR.out.2.1.trans ((bel2 hb1 hb2).mono (by have:=HR.out.1.lt;omega))))
     clear hb1 hb2 HR cc cd
     go_wp2_with fail
     go_roundg (gk - 1)
     case measure=>omega
     case rel=>exact⟨⟨#[]⟩,false,st,rfl,rfl,Nat.zero_le _,(show _+0<=_ from hLN),(fun h=>by cases h),hide ⟨HR2.out.1,HR2.out.2,by rw[if_neg (by decide)];exact HST3.out⟩⟩
end Go.Proofs.YtkiofbikkhhdfabGreatDoor.Sy
