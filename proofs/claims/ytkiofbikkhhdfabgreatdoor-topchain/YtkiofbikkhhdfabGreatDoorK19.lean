import Derived.Test.YtkiofbikkhhdfabGreatDoorK11
import Derived.Test.YtkiofbikkhhdfabGreatDoorK18
import Derived.Test.YtkiofbikkhhdfabGreatDoorK14
import Derived.Test.YtkiofbikkhhdfabGreatDoorK12
import Derived.Test.YtkiofbikkhhdfabGreatDoorK16
import Derived.SliceStrings
import Derived.OpenShut
import Derived.ShutString
import Derived.ProofKit
import Derived.ChangeOld
set_option maxRecDepth 100000
set_option maxHeartbeats 16000000
namespace Go.Proofs.YtkiofbikkhhdfabGreatDoor.To
open Go.RowKit
open Utf1
theorem zeroInt (w:World):(zeroValue 3).run Tryz.prog w=.ok (.int .i64 0) w:=by kernel_rfl
theorem law9:Maps.Keyed Tryz.prog 9:=Maps.string_keyed Tryz.underlying9
theorem own_not_map {w:World}{P:Program}{base:Nat}{e k:TypeId}{size:Nat}{v:Value}{n m b:Nat}{xs:List Value}{R:Value->Option (DataW Unit × List MemPlace)}{D:DataW Unit}(h:w.ownsRow base e size v n xs)(hm:w.ownsMap P k R b m D):v.ownBlock≠some b:=by
 obtain⟨es,cl,hb,_⟩:=hm
 obtain⟨_,⟨rfl,_⟩ | ⟨g,cap,cur,rfl,_,hg,_⟩⟩:=h
 ·simp[Value.ownBlock]
 ·intro e1
  have:g=b:=by simpa [Value.ownBlock] using e1
  subst this
  rw[hg] at hb
  simp at hb
def TagMid (w0 wr:World) (start:Bool) (nm:ByteArray) (acc acc':List (List UInt8 × List UInt8)) (k:Nat) (av:Value):Prop :=
 wr.heap[w0.heap.size]?=some (.cells #[.int .i64 0,.string ⟨#[]⟩,.slice none 0 0,.bool false,.string ⟨#[]⟩] 45 (0,0)) /\
 wr.heap[w0.heap.size+1]?=some (.cells #[.int .i64 (if start then 2 else 3),.string nm,av,.bool false,.string ⟨#[]⟩] 45 (0,0)) /\
 wr.ownsRow w0.heap.size 108 2 av (atts start acc).length (attrCells (atts start acc)) /\
 (∃ D:DataW Unit,wr.ownsMap Tryz.prog 9 (plainElem Tryz.prog 3) (w0.heap.size+2) (k+1) D/\Maps.IsMap D/\Met D (acc'.map Prod.fst) (k+1)) /\
 acc.length<=k/\Below w0.heap.size w0 wr
theorem names_add (acc:List (List UInt8 × List UInt8)) (n v m:List UInt8):m∈(addAt acc n v).map Prod.fst ↔ m=n\/m∈acc.map Prod.fst:=by
 unfold addAt
 split
 ·rename_i h
  constructor
  ·exact fun h=>.inr h
  ·rintro (rfl | h)
   ·assumption
   ·exact h
 ·rw[List.map_append,List.mem_append]
  constructor
  ·rintro (h | h)
   ·exact .inr h
   ·simp at h
    exact .inl h
  ·rintro (rfl | h)
   ·right
    simp
   ·exact .inl h
theorem keep_map {w0 w1:World}{start:Bool}{nm:ByteArray}{acc:List (List UInt8 × List UInt8)}{k:Nat}{av:Value}(hst:TagSt w0 w1 start nm acc k av) (L:ByteArray)(hL:L.size<=4294967296)(hk:k<=4294967296) :
  ∃ (c:Int) (w2:World),0<=c/\c<=4294967296/\(c=0 ↔ bl L ∉ acc.map Prod.fst) /\
   (Instr.lookup 118 (.map (some (w0.heap.size+2))) (.string L) false).run Tryz.prog w1=.ok (.int .i64 c) w1 /\
   (Instr.mapUpdate 118 (.map (some (w0.heap.size+2))) (.string L) (.int .i64 (c+1))).run Tryz.prog w1=.ok () w2 /\
   (Instr.lookup 118 (.map (some (w0.heap.size+2))) (.string L) false).run Tryz.prog w2=.ok (.int .i64 (c+1)) w2 /\
   ∀ v,TagMid w0 w2 start nm acc (addAt acc (bl L) v) k av:=by
 obtain⟨h1,h2,h3,⟨D,h4,hD,hm⟩,h6,h7⟩:=hst
 have hkey:keyOf Tryz.prog 9 (.string L)=some (.string L.data.toList):=WideMaps.keyOf_string_mk Tryz.underlying9 (by unfold maxLen;omega)
 obtain⟨c,hlk,hat,_⟩:=h4.lookup_int law9 Tryz.underlying118 Tryz.underlying3 (zeroInt _) hkey
 obtain⟨c',hat',hc0,hck,hcz⟩:=hm (bl L)
 have hcc:c'=c:=by
  rw[hat] at hat'
  cases hat'
  rfl
 subst hcc
 have hwf:(Lit.int .i64 (c'+1)).wf=true:=WalkArith.wf_i64 (by omega)
 obtain⟨w2,hup,hown2,hgr⟩:=h4.update law9 Tryz.underlying118 (by unfold maxLen;omega) hkey (plainElem_int (H:=Unit) Tryz.underlying3 hwf)
 obtain⟨c2,hlk2,hat2,_⟩:=hown2.lookup_int law9 Tryz.underlying118 Tryz.underlying3 (zeroInt _) hkey
 have hc2:c2=c'+1:=by
  rw[Maps.atKey_put_same hD (show WideAt.IsKeyLit (.string L.data.toList) from trivial)] at hat2
  cases hat2
  rfl
 subst hc2
 refine⟨c',w2,hc0,by omega,hcz,hlk,hup,hlk2,fun v=>⟨?_,?_,?_,⟨_,hown2,hD.put _ _,?_⟩,h6,?_⟩⟩
 ·exact (hgr.block _ (lt_of_block h1) (by simp)).trans h1
 ·exact (hgr.block _ (lt_of_block h2) (by simp)).trans h2
 ·exact h3.kept hgr (.inr (own_not_map h3 h4))
 ·intro n
  by_cases hn:n=bl L
  ·subst hn
   refine⟨c'+1,Maps.atKey_put_same hD (show WideAt.IsKeyLit (.string L.data.toList) from trivial) _ _,by omega,by omega,?_⟩
   constructor
   ·intro h
    omega
   ·intro h
    exact absurd ((names_add acc (bl L) v (bl L)).2 (.inl rfl)) h
  ·obtain⟨d,hd1,hd2,hd3,hd4⟩:=hm n
   refine⟨d,?_,hd2,by omega,?_⟩
   ·rw[Maps.atKey_put_other (by intro e;cases e;exact hn rfl)]
    exact hd1
   ·rw[hd4,names_add]
    simp[hn]
 ·exact h7.grown hgr h7.size (fun j hj=>by cases hj;omega)
theorem TagMid.same {w0 wr:World}{start:Bool}{nm:ByteArray}{acc:List (List UInt8 × List UInt8)}{k:Nat}{av:Value}{n v:List UInt8}(h:TagMid w0 wr start nm acc (addAt acc n v) k av)(hc:start=false\/n∈acc.map Prod.fst):TagSt w0 wr start nm (addAt acc n v) (k+1) av:=by
 obtain⟨h1,h2,h3,h4,h5,h6⟩:=h
 have e:atts start (addAt acc n v)=atts start acc:=by
  rcases hc with rfl | hc
  ·rfl
  ·unfold addAt
   rw[if_pos hc]
 have e2:(addAt acc n v).length<=acc.length+1:=by
  unfold addAt
  split
  ·omega
  ·simp
 refine⟨h1,h2,?_,h4,by omega,h6⟩
 rw[e]
 exact h3
theorem bl_eta (L:ByteArray):(⟨(bl L).toArray⟩:ByteArray)=L:=by
 cases L
 simp
theorem TagMid.below {w0 wr w1:World}{start:Bool}{nm:ByteArray}{acc acc':List (List UInt8 × List UInt8)}{k:Nat}{av:Value}(h:TagMid w0 wr start nm acc acc' k av)(hb:Below wr.heap.size wr w1):TagMid w0 w1 start nm acc acc' k av:=by
 obtain⟨h1,h2,h3,⟨D,h4,h5⟩,h6,h7⟩:=h
 refine⟨(hb.block _ (lt_of_block h1)).trans h1,(hb.block _ (lt_of_block h2)).trans h2,h3.kept (below_grown hb) ?_,⟨D,h4.kept (below_grown hb) (by simp),h5⟩,h6,h7.trans (hb.mono h7.size)⟩
 cases v:av.ownBlock with
 | none=>exact .inl rfl
 | some g=>exact .inr (by simp)
theorem keep_append {w0 w3 w5:World}{nm L RV:ByteArray}{acc:List (List UInt8 × List UInt8)}{k:Nat}{av v':Value}{o:Obj}(h:TagMid w0 w3 true nm acc (addAt acc (bl L) (bl RV)) k av)(hni:bl L ∉ acc.map Prod.fst)
  (hown5:w5.ownsRow w0.heap.size 108 2 v' (acc.length+1) (attrCells acc++[.string L,.string RV]))(hgr:(w3.alloc o).grownBy w5 av.ownBlock) :
  w5.cell? ⟨w0.heap.size+1,2,none⟩=some av/\w5.frozen? ⟨w0.heap.size+1,2,none⟩=false/\TagSt w0 (w5.setCell ⟨w0.heap.size+1,2,none⟩ v') true nm (addAt acc (bl L) (bl RV)) (k+1) v':=by
 obtain⟨h1,h2,h3,⟨D,h4,h5⟩,h6,h7⟩:=h
 have a1:(w3.alloc o).heap[w0.heap.size]?=_:=(Below.heap_alloc _ _ _ (lt_of_block h1)).trans h1
 have a2:(w3.alloc o).heap[w0.heap.size+1]?=_:=(Below.heap_alloc _ _ _ (lt_of_block h2)).trans h2
 have b1:=(hgr.block _ (lt_of_block a1) (fun e=>own_apart (h3.alloc o) a1 (by decide) e.symm)).trans a1
 have b2:=(hgr.block _ (lt_of_block a2) (fun e=>own_apart (h3.alloc o) a2 (by decide) e.symm)).trans a2
 have b4:=(h4.alloc o).kept hgr (fun e=>own_not_map (h3.alloc o) (h4.alloc o) e.symm)
 have hb3:Below w0.heap.size w0 (w3.alloc o):=h7.alloc h7.size o
 have hlt:=(h3.alloc o).lt
 have hb5:Below w0.heap.size w0 w5:=hb3.grown hgr hb3.size (fun j hj=>(hlt j hj).1)
 have e2:addAt acc (bl L) (bl RV)=acc++[(bl L,bl RV)]:=by
  unfold addAt
  rw[if_neg hni]
 refine⟨tag_cell b2 2 _ rfl,tag_free b2 2,?_,?_,?_,⟨D,?_,h5⟩,?_,?_⟩
 ·exact (Below.heap_setCell _ _ _ _ (by simp)).trans b1
 ·exact tok_set b2 2 v'
 ·have e3:atts true (addAt acc (bl L) (bl RV))=acc++[(bl L,bl RV)]:=e2
  rw[e3,attrCells_app,List.length_append]
  have e4:attrCells [(bl L,bl RV)]=[.string L,.string RV]:=by
   show [Value.string ⟨(bl L).toArray⟩,.string ⟨(bl RV).toArray⟩]=_
   rw[bl_eta,bl_eta]
  rw[e4]
  exact own_set hown5 b2 (by decide) 2 v'
 ·obtain⟨es,cl,hm,hrest⟩:=b4
  exact⟨es,cl,(Below.heap_setCell _ _ _ _ (by simp)).trans hm,hrest⟩
 ·rw[e2,List.length_append]
  simp only[List.length_cons,List.length_nil]
  omega
 ·exact hb5.setCell (p:=⟨w0.heap.size+1,2,none⟩) (Nat.le_succ _) v'
end Go.Proofs.YtkiofbikkhhdfabGreatDoor.To
namespace Go.Proofs.YtkiofbikkhhdfabGreatDoor.To
open Go.RowKit
open Utf1
def tokCells (t:Tk) (av:Value):List Value:=[.int .i64 (t.kind:Int),.string ⟨t.name.toArray⟩,av,.bool t.closed,.string ⟨t.text.toArray⟩]
def toksCells:List (Tk × Value)->List Value
 | []=>[]
 | p :: r=>tokCells p.1 p.2++toksCells r
theorem toksCells_app:∀ a b,toksCells (a++b)=toksCells a++toksCells b
 | [],_=>rfl
 | p :: r,b=>by
  simp only[toksCells,List.cons_append,toksCells_app r b,List.append_assoc]
def ToksAt (w:World) (base:Nat) (v:Value) (l:List (Tk × Value)):Prop :=
 w.ownsRow base 45 5 v l.length (toksCells l)/\∀ p∈l,w.ownsRow base 108 2 p.2 p.1.attrs.length (attrCells p.1.attrs)
theorem own_below {w w1:World}{base:Nat}{e:TypeId}{size:Nat}{v:Value}{n:Nat}{xs:List Value}(h:w.ownsRow base e size v n xs)(hb:Below w.heap.size w w1):w1.ownsRow base e size v n xs:=by
 refine h.kept (below_grown hb) ?_
 cases hv:v.ownBlock with
 | none=>exact .inl rfl
 | some g=>exact .inr (by simp)
theorem own_base {w:World}{base base':Nat}{e:TypeId}{size:Nat}{v:Value}{n:Nat}{xs:List Value}(h:w.ownsRow base e size v n xs)(hb:base'<=base):w.ownsRow base' e size v n xs:=by
 obtain⟨h1,h2 | ⟨g,cap,cur,h3,h4,h5⟩⟩:=h
 ·exact⟨h1,.inl h2⟩
 ·exact⟨h1,.inr ⟨g,cap,cur,h3,by omega,h5⟩⟩
theorem ToksAt.below {w w1:World}{base:Nat}{v:Value}{l:List (Tk × Value)}(h:ToksAt w base v l)(hb:Below w.heap.size w w1):ToksAt w1 base v l :=
 ⟨own_below h.1 hb,fun p hp=>own_below (h.2 p hp) hb⟩
theorem ToksAt.nil (w:World) (base:Nat):ToksAt w base (.slice none 0 0) []:=⟨World.ownsRow_nil _ _ _ _,fun p hp=>by cases hp⟩
theorem own_two {w:World}{base base':Nat}{e e':TypeId}{size size':Nat}{v v':Value}{n n':Nat}{xs xs':List Value}(h:w.ownsRow base e size v n xs)(h':w.ownsRow base' e' size' v' n' xs')(hne:e≠e'):v.ownBlock=none\/v.ownBlock≠v'.ownBlock:=by
 obtain⟨_,⟨rfl,_⟩ | ⟨g',cap,cur,rfl,_,hg,_⟩⟩:=h'
 ·cases hv:v.ownBlock with
  | none=>exact .inl rfl
  | some g=>exact .inr (by simp[Value.ownBlock])
 ·exact .inr (own_apart h hg hne)
theorem ToksAt.more {w w1:World}{base:Nat}{v v' av:Value}{l:List (Tk × Value)}{t:Tk}{o:Obj}(h:ToksAt w base v l)(ht:w.ownsRow base 108 2 av t.attrs.length (attrCells t.attrs))
  (hown:w1.ownsRow base 45 5 v' (l.length+1) (toksCells l++tokCells t av))(hgr:(w.alloc o).grownBy w1 v.ownBlock):ToksAt w1 base v' (l++[(t,av)]):=by
 have hk:∀ (t':Tk) (a:Value),w.ownsRow base 108 2 a t'.attrs.length (attrCells t'.attrs)->w1.ownsRow base 108 2 a t'.attrs.length (attrCells t'.attrs):=fun t' a h' =>
  (h'.alloc o).kept hgr (own_two (h'.alloc o) (h.1.alloc o) (by decide))
 refine⟨?_,?_⟩
 ·rw[toksCells_app,List.length_append]
  have e:toksCells [(t,av)]=tokCells t av:=by simp[toksCells]
  rw[e]
  exact hown
 ·intro p hp
  rcases List.mem_append.1 hp with hp | hp
  ·exact hk _ _ (h.2 p hp)
  ·have:p=(t,av):=by simpa using hp
   subst this
   exact hk _ _ ht
theorem infoTok:(Tryz.prog.info? 45).map (fun i=>(i.zero,i.size,i.bytes))=some (some (.agg #[.int .i64 0,.string ⟨#[]⟩,.slice none 0 0,.bool false,.string ⟨#[]⟩]),5,72):=by kernel_rfl
theorem five_new (w:World) (a b c d e:Value) (t:TypeId):∀ (j:Nat) (u:Value),[a,b,c,d,e][j]?=some u->(w.alloc (.cells #[a,b,c,d,e] t)).cell? ((⟨w.heap.size,0,none⟩:Addr).add j)=some u:=by
 intro j u hj
 match j,hj with
 | 0,hj=>simp at hj;subst hj;simp[Addr.add]
 | 1,hj=>simp at hj;subst hj;simp[Addr.add]
 | 2,hj=>simp at hj;subst hj;simp[Addr.add]
 | 3,hj=>simp at hj;subst hj;simp[Addr.add]
 | 4,hj=>simp at hj;subst hj;simp[Addr.add]
 | _+5,hj=>simp at hj
theorem five_one (k:Int) (a:ByteArray) (p:Option Addr) (m c:Nat) (b:Bool) (d:ByteArray):∀ u∈[Value.int .i64 k,.string a,.slice p m c,.bool b,.string d],u.oneCell'=true:=by
 intro u hu
 simp at hu
 rcases hu with rfl | rfl | rfl | rfl | rfl <;> rfl
theorem toksCells_at:∀ (l:List (Tk × Value)) (i:Nat) (p:Tk × Value),l[i]?=some p->∀ j,j < 5->(toksCells l)[i*5+j]?=(tokCells p.1 p.2)[j]?
 | [],i,p,h,_,_=>by simp at h
 | q :: r,0,p,h,j,hj=>by
  have:q=p:=by simpa using h
  subst this
  show (tokCells q.1 q.2++toksCells r)[0*5+j]?=_
  rw[show 0*5+j=j by omega,List.getElem?_append_left (by simp[tokCells];omega)]
 | q :: r,i+1,p,h,j,hj=>by
  have h':r[i]?=some p:=by simpa using h
  show (tokCells q.1 q.2++toksCells r)[(i+1)*5+j]?=_
  rw[List.getElem?_append_right (by simp[tokCells];omega),show (i+1)*5+j - (tokCells q.1 q.2).length=i*5+j by simp[tokCells];omega]
  exact toksCells_at r i p h' j hj
theorem tok_at {w:World}{base g n cap:Nat}{l:List (Tk × Value)}(h:ToksAt w base (.slice (some ⟨g,0,none⟩) n cap) l) (i:Nat) (p:Tk × Value)(hp:l[i]?=some p) (j:Nat)(hj:j < 5):w.cell? ⟨g,i*5+j,none⟩=(tokCells p.1 p.2)[j]?:=by
 have hi:i < l.length:=(List.getElem?_eq_some_iff.1 hp).1
 have hn:n=l.length:=by
  obtain⟨_,⟨e,_⟩ | ⟨g',cap',cur,e,_⟩⟩:=h.1
  ·cases e
  ·cases e
   rfl
 subst hn
 rw[h.1.cellAt (i*5+j) (by omega),toksCells_at l i p hp j hj]
theorem toks_slice {w:World}{base:Nat}{v:Value}{l:List (Tk × Value)}(h:ToksAt w base v l)(hl:l≠[]):∃ g cap,v=.slice (some ⟨g,0,none⟩) l.length cap/\base<=g:=by
 obtain⟨_,⟨_,e⟩ | ⟨g',cap',cur,e,hb,_⟩⟩:=h.1
 ·exact absurd (List.length_eq_zero_iff.1 e) hl
 ·exact⟨g',cap',e,hb⟩
end Go.Proofs.YtkiofbikkhhdfabGreatDoor.To
namespace San
open Utf1 Pol8 Saf
theorem wc_nm {c:UInt8}(o:L)(ho:(45:UInt8)∈o)(h:wc c=true):nmB o c=true:=by
 have h:=of_decide_eq_true h
 unfold nmB isSm
 rcases h with h | h | h
 ·rw[decide_eq_true h]
  rfl
 ·rw[decide_eq_true h,Bool.or_true,Bool.true_or]
 ·have e:c=45:=UInt8.toNat_inj.1 h
  rw[e,decide_eq_true ho,Bool.or_true]
theorem word_nm {n:L}(h:isWord n=true) (o:L)(ho:(45:UInt8)∈o):isNmL o n=true:=by
 unfold isWord at h
 rw[Bool.and_eq_true,Bool.and_eq_true,List.all_eq_true] at h
 cases n with
 | nil=>simp at h
 | cons c t =>
  rw[isNmL,Bool.and_eq_true,List.all_eq_true]
  exact⟨by simpa [isSm,sm] using h.2.2,fun b hb=>wc_nm o ho (h.2.1 b hb)⟩
theorem raw_is (n:L):(rawOf n).isSome=isRaw n:=by
 by_cases h:n∈rawL++rcL
 ·have:∀ x∈rawL++rcL,(rawOf x).isSome=isRaw x:=by decide
  exact this n h
 ·have h1:isRaw n=false:=by
   unfold isRaw
   rw[Bool.or_eq_false_iff]
   exact⟨decide_eq_false (fun e=>h (List.mem_append.2 (.inl e))),decide_eq_false (fun e=>h (List.mem_append.2 (.inr e)))⟩
  rw[h1]
  have h2:∀ (t:List (L × Bool)),(∀ x∈t,x.1∈rawL++rcL)->(lookR t n).isSome=false:=by
   intro t
   induction t with
   | nil=>intro _;rfl
   | cons x r ih =>
    intro hx
    rw[lookR,if_neg (fun e=>h (by rw[<-e];exact hx x (List.mem_cons_self ..)))]
    exact ih (fun y hy=>hx y (List.mem_cons_of_mem _ hy))
  exact h2 raws (by decide)
theorem may_elem {p:Pol}(hp:Right p) {n:L}(h:n∈p.el):mayE n=true/\dropB n=false/\n≠[]:=by
 have hw:=words_all hp.el n h
 have hn:=hp.nv n h
 unfold never at hn
 rw[Bool.or_eq_false_iff] at hn
 refine⟨?_,?_,(word_cs hw).1⟩
 ·unfold mayE
  rw[raw_is,hn.1,word_nm hw _ (by decide)]
  rfl
 ·unfold dropB
  rw[raw_is,hn.1,Bool.false_or]
  refine decide_eq_false (fun e=>?_)
  have hs:∀ x∈dropL,x∈neverL:=by decide
  have:=hs n e
  rw[decide_eq_true this] at hn
  cases hn.2
theorem may_attr {p:Pol}(hp:Right p) {e n:L}(he:e∈p.el)(h:attrB p e n=true):isNmL [45,95,58] n=true:=by
 unfold attrB at h
 rw[Bool.and_eq_true,decide_eq_true_eq,decide_eq_true_eq] at h
 have key:∀ x:L,(46:UInt8) ∉ x->x++46 :: n∈p.at_->isNmL [45,95,58] n=true:=by
  intro x hx hm
  have:=hp.ao _ hm
  unfold attrOk at this
  rw[dot_some x n hx] at this
  simp only[Bool.and_eq_true] at this
  have hm:=this.2
  unfold may at hm
  rw[Bool.and_eq_true] at hm
  exact word_nm hm.1 _ (by decide)
 rcases h.2 with h | h
 ·exact key [42] (by decide) h
 ·exact key e (word_46 (words_all hp.el e he)) h
theorem value_name {p:Pol}(hp:Right p) {e n v:L}(h:valueB p e n v=true):isNmL [45,95,58] n=true:=by
 unfold valueB at h
 rw[Bool.and_eq_true,decide_eq_true_eq] at h
 obtain⟨he,h⟩:=h
 by_cases h1:n=relN
 ·rw[h1]
  decide
 ·rw[if_neg h1] at h
  by_cases h2:n=styN
  ·rw[h2]
   decide
  ·rw[if_neg h2,Bool.and_eq_true] at h
   exact may_attr hp he h.1
theorem atO_some {p:Pol}{e:L}{kv x:L × L}(h:atO p e kv=some x):kv.1≠relN/\x=(kv.1,valO p kv.1 kv.2)/\valueB p e x.1 x.2=true:=by
 unfold atO at h
 split at h
 ·cases h
 ·rename_i h1
  split at h
  ·rename_i h2
   cases h
   exact⟨h1,rfl,h2⟩
  ·cases h
theorem atsK_mem {p:Pol}{e:L}{a:At}{x:L × L}(h:x∈atsK p e a):x.1≠relN/\valueB p e x.1 x.2=true/\x.1∈a.map Prod.fst:=by
 unfold atsK at h
 rw[List.mem_filterMap] at h
 obtain⟨kv,h1,h2⟩:=h
 obtain⟨h3,h4,h5⟩:=atO_some h2
 have h6:x.1=kv.1:=by rw[h4]
 exact⟨by rw[h6];exact h3,h5,by rw[h6];exact List.mem_map_of_mem h1⟩
theorem atsK_nodup {p:Pol}{e:L}:∀ a:At,(a.map Prod.fst).Nodup->((atsK p e a).map Prod.fst).Nodup
 | [],_=>by simp[atsK]
 | kv :: r,h=>by
  rw[List.map_cons,List.nodup_cons] at h
  have ih:=atsK_nodup (p:=p) (e:=e) r h.2
  unfold atsK at ih ⊢
  rw[List.filterMap_cons]
  cases ho:atO p e kv with
  | none=>exact ih
  | some x =>
   obtain⟨-,h4,-⟩:=atO_some ho
   simp only
   rw[List.map_cons,List.nodup_cons]
   refine⟨fun hm=>h.1 ?_,ih⟩
   obtain⟨y,hy,e⟩:=List.mem_map.1 hm
   have:=(atsK_mem (a:=r) hy).2.2
   rw[e,h4] at this
   exact this
theorem mem_attrsO {p:Pol}{e:L}{a:At}{x:L × L}(h:x∈attrsO p e a):x∈atsK p e a\/(x=(relN,forced)/\e=aN):=by
 unfold attrsO at h
 split at h
 ·rename_i hc
  rcases List.mem_append.1 h with h | h
  ·exact .inl h
  ·exact .inr ⟨by simpa using h,hc.1⟩
 ·exact .inl h
theorem attrsO_value {p:Pol}{e:L}(he:e∈p.el) {a:At}{x:L × L}(h:x∈attrsO p e a):valueB p e x.1 x.2=true:=by
 rcases mem_attrsO h with h | ⟨rfl,ha⟩
 ·exact (atsK_mem h).2.1
 ·unfold valueB
  rw[decide_eq_true he,if_pos rfl,decide_eq_true ha,decide_eq_true rfl]
  rfl
theorem attrsO_may {p:Pol}(hp:Right p) {e:L}(he:e∈p.el) (a:At)(h:(a.map Prod.fst).Nodup):mayA (attrsO p e a)=true:=by
 unfold mayA
 rw[Bool.and_eq_true,List.all_eq_true,decide_eq_true_eq]
 refine⟨fun x hx=>value_name hp (attrsO_value he hx),?_⟩
 unfold attrsO
 split
 ·rw[List.map_append,List.nodup_append]
  refine⟨atsK_nodup a h,by simp,?_⟩
  intro x hx y hy e
  obtain⟨z,hz,e2⟩:=List.mem_map.1 hx
  have hy:y=relN:=by simpa using hy
  exact (atsK_mem hz).1 (by rw[e2,e,hy])
 ·exact atsK_nodup a h
theorem hasB_mem {a:At}{n:L}:hasB a n=true ↔ ∃ x∈a,x.1=n:=by
 unfold hasB
 rw[List.any_eq_true]
 constructor
 ·rintro ⟨x,h1,h2⟩
  exact⟨x,h1,of_decide_eq_true h2⟩
 ·rintro ⟨x,h1,h2⟩
  exact⟨x,h1,decide_eq_true h2⟩
theorem hasB_not {a:At}{n:L}(h:∀ x∈a,x.1≠n):hasB a n=false:=by
 cases e:hasB a n with
 | false=>rfl
 | true =>
  obtain⟨x,h1,h2⟩:=hasB_mem.1 e
  exact absurd h2 (h x h1)
theorem attrsO_linked {p:Pol}{e:L}(ha:e=aN) (a:At):linkedB (attrsO p e a)=true:=by
 have hno:hasB (atsK p e a) relN=false:=hasB_not (fun x hx=>(atsK_mem hx).1)
 unfold linkedB
 by_cases hh:hasB (atsK p e a) href=true
 ·have ea:attrsO p e a=atsK p e a++[(relN,forced)]:=if_pos ⟨ha,hh⟩
  have h2:hasB (atsK p e a++[(relN,forced)]) href=true:=by
   obtain⟨x,h1,h2⟩:=hasB_mem.1 hh
   exact hasB_mem.2 ⟨x,List.mem_append.2 (.inl h1),h2⟩
  rw[ea,if_pos h2]
  unfold lastB
  rw[List.getLast?_append]
  rfl
 ·have ea:attrsO p e a=atsK p e a:=if_neg (fun h=>hh h.2)
  rw[ea,if_neg hh,hno]
  rfl
mutual
def nakN (p i:Bool):Nd->Prop
 | .mk n a _ k=>n≠[]->(a.map Prod.fst).Nodup/\((p && decide (n∈blocks)) || (i && decide (n=[108,105])))=false/\(n∈voids->k=[])/\nakL (p || decide (n=[112])) (itm i n) k
def nakL (p i:Bool):List Nd->Prop
 | []=>True
 | x :: r=>nakN p i x/\nakL p i r
end
def okX (p i:Bool) (x:Nd):Prop:=(x.name=[]->x=txt x.text)/\(x.name≠[]->stN p i false x=true)
theorem stN_b {p i b b':Bool}{x:Nd}(hn:x.name≠[])(h:stN p i b x=true):stN p i b' x=true:=by
 cases x with
 | mk n a t k =>
  have hn:n≠[]:=hn
  rw[stN,if_neg hn] at h ⊢
  exact h
theorem ok_ahead {p i:Bool}{t:L}{l:List Nd}(h:∀ x∈l,okX p i x):∀ x∈textAhead t l,okX p i x:=by
 have hk:∀ s,okX p i (txt s):=fun s=>⟨fun _=>rfl,fun e=>absurd rfl e⟩
 unfold textAhead
 split
 ·exact h
 ·split
  ·intro x hx
   have:x=txt t:=by simpa using hx
   rw[this]
   exact hk t
  ·rename_i y q
   split
   ·intro x hx
    rcases List.mem_cons.1 hx with e | hx
    ·rw[e]
     exact hk _
    ·exact h x (List.mem_cons_of_mem _ hx)
   ·intro x hx
    rcases List.mem_cons.1 hx with e | hx
    ·rw[e]
     exact hk _
    ·exact h x hx
theorem ok_join {p i:Bool}:∀ l:List Nd,(∀ x∈l,okX p i x)->∀ x∈joinR l,okX p i x
 | [],_=>by rw[joinR];simp
 | x :: r,h=>by
  rw[joinR_cons]
  have ih:=ok_join r (fun y hy=>h y (List.mem_cons_of_mem _ hy))
  split
  ·exact ok_ahead ih
  ·intro y hy
   rcases List.mem_cons.1 hy with e | hy
   ·rw[e]
    exact h x (List.mem_cons_self ..)
   ·exact ih y hy
theorem st_joined {p i:Bool}:∀ (l:List Nd) (b:Bool),Joined l->(∀ x∈l,okX p i x)->(b=true->∀ y q,l=y :: q->y.name≠[])->stL p i b l=true
 | [],_,_,_,_=>by rw[stL]
 | x :: r,b,hj,hx,hb=>by
  rw[stL,Bool.and_eq_true]
  have h0:=hx x (List.mem_cons_self ..)
  refine⟨?_,st_joined r _ hj.2 (fun y hy=>hx y (List.mem_cons_of_mem _ hy)) (fun e y q er=>?_)⟩
  ·by_cases hn:x.name=[]
   ·obtain⟨h1,h2,-⟩:=hj.1 hn
    rw[h1]
    unfold txt
    rw[stN,if_pos rfl]
    have hbf:b=false:=by
     cases b with
     | false=>rfl
     | true=>exact absurd hn (hb rfl x r rfl)
    rw[hbf]
    cases ht:x.text with
    | nil=>exact absurd ht h2
    | cons c t=>rfl
   ·exact stN_b hn (h0.2 hn)
  ·exact (hj.1 (of_decide_eq_true e)).2.2 y q er
theorem st_join {p i:Bool}(l:List Nd)(h:∀ x∈l,okX p i x):stL p i false (joinR l)=true :=
 st_joined (joinR l) false (join_joined l) (ok_join l h) (fun e=>by cases e)
theorem itm_le {i i':Bool}{el:List L}(hl:([108,105]:L)∈el->([117,108]:L)∈el/\([111,108]:L)∈el)(h:(i'=true->i=true)\/([108,105]:L) ∉ el) (n:L):((itm i' n=true->itm i n=true)\/([108,105]:L) ∉ el)/\(n ∉ el->(i'=true->itm i n=true)\/([108,105]:L) ∉ el):=by
 refine⟨h.imp (fun h=>itm_mono h n) id,fun hn=>?_⟩
 unfold itm
 by_cases h1:n=[108,105]
 ·rw[if_pos h1]
  exact .inl (fun _=>rfl)
 ·rw[if_neg h1]
  by_cases h2:n=[117,108]\/n=[111,108]
  ·rw[if_pos h2]
   refine .inr (fun hli=>?_)
   rcases h2 with e | e
   ·exact hn (by rw[e];exact (hl hli).1)
   ·exact hn (by rw[e];exact (hl hli).2)
  ·rw[if_neg h2]
   exact h
mutual
theorem ok_allN {pl:Pol}(hp:Right pl):∀ (x:Nd) {p i p' i':Bool},nakN p i x->(p'=true->p=true)->((i'=true->i=true)\/([108,105]:L) ∉ pl.el)->∀ y∈allN pl x,okX p' i' y
 | .mk n a t k,p,i,p',i',h,hpp,hii=>by
  rw[nakN] at h
  rw[allN]
  by_cases hn:n=[]
  ·rw[if_pos hn]
   intro y hy
   have:y=txt t:=by simpa using hy
   rw[this]
   exact⟨fun _=>rfl,fun e=>absurd rfl e⟩
  ·rw[if_neg hn]
   obtain⟨h1,h2,h3,h4⟩:=h hn
   obtain⟨hi1,hi2⟩:=itm_le hp.ll hii n
   by_cases hd:dropB n=true
   ·rw[if_pos hd]
    simp
   ·rw[if_neg hd]
    by_cases he:n∈pl.el
    ·rw[if_pos he]
     intro y hy
     have:y=.mk n (attrsO pl n a) [] (joinR (allL pl k)):=by simpa using hy
     rw[this]
     refine⟨fun e=>absurd e hn,fun _=>?_⟩
     rw[stN,if_neg hn,(may_elem hp he).1,attrsO_may hp he a h1]
     have hc:((p' && decide (n∈blocks)) || (i' && decide (n=[108,105])))=false:=by
      rw[Bool.or_eq_false_iff] at h2 ⊢
      constructor
      ·cases p' with
       | false=>rfl
       | true =>
        have:=h2.1
        rw[hpp rfl] at this
        exact this
      ·cases i' with
       | false=>rfl
       | true =>
        rcases hii with hi | hi
        ·have:=h2.2
         rw[hi rfl] at this
         exact this
        ·rw[decide_eq_false (fun e=>hi (by rw[<-e];exact he))]
         rfl
     rw[hc]
     by_cases hv:n∈voids
     ·rw[if_pos hv,h3 hv,allL,joinR]
      rfl
     ·rw[if_neg hv,st_join _ (ok_allL hp k h4 (fun e=>?_) hi1)]
      ·rfl
      ·rw[Bool.or_eq_true] at e ⊢
       exact e.imp hpp id
    ·rw[if_neg he]
     exact ok_allL hp k h4 (fun e=>by rw[hpp e];rfl) (hi2 he)
theorem ok_allL {pl:Pol}(hp:Right pl):∀ (l:List Nd) {p i p' i':Bool},nakL p i l->(p'=true->p=true)->((i'=true->i=true)\/([108,105]:L) ∉ pl.el)->∀ y∈allL pl l,okX p' i' y
 | [],_,_,_,_,_,_,_=>by rw[allL];simp
 | x :: r,p,i,p',i',h,hpp,hii=>by
  rw[nakL] at h
  rw[allL]
  intro y hy
  rcases List.mem_append.1 hy with hy | hy
  ·exact ok_allN hp x h.1 hpp hii y hy
  ·exact ok_allL hp r h.2 hpp hii y hy
end
theorem tree_st {p:Pol}(hp:Right p) {ns:List Nd}(h:nakL false false ns):stL false false false (treeL p ns)=true :=
 st_join _ (ok_allL hp ns h id (.inl id))
theorem inner_txt (p:Pol) (t:L):innerN p (txt t)=true:=by
 unfold txt
 rw[innerN,if_pos rfl]
theorem inner_ahead {p:Pol}{t:L}{l:List Nd}(h:innerL p l=true):innerL p (textAhead t l)=true:=by
 unfold textAhead
 split
 ·exact h
 ·split
  ·rw[innerL,inner_txt,innerL]
   rfl
  ·rename_i y q
   rw[innerL,Bool.and_eq_true] at h
   split
   ·rw[innerL,inner_txt,h.2]
    rfl
   ·rw[innerL,inner_txt,innerL,h.1,h.2]
    rfl
theorem inner_join {p:Pol}:∀ l:List Nd,innerL p l=true->innerL p (joinR l)=true
 | [],_=>by rw[joinR,innerL]
 | x :: r,h=>by
  rw[innerL,Bool.and_eq_true] at h
  rw[joinR_cons]
  split
  ·exact inner_ahead (inner_join r h.2)
  ·rw[innerL,h.1,inner_join r h.2]
   rfl
mutual
theorem inner_allN {p:Pol}:∀ x:Nd,innerL p (allN p x)=true
 | .mk n a t k=>by
  rw[allN]
  by_cases hn:n=[]
  ·rw[if_pos hn,innerL,inner_txt,innerL]
   rfl
  ·rw[if_neg hn]
   by_cases hd:dropB n=true
   ·rw[if_pos hd,innerL]
   ·rw[if_neg hd]
    by_cases he:n∈p.el
    ·rw[if_pos he,innerL,innerN,if_neg hn,innerL,Bool.and_true,decide_eq_true he,inner_join _ (inner_allL k)]
     rw[Bool.and_eq_true,List.all_eq_true]
     refine⟨fun x hx=>attrsO_value he hx,?_⟩
     by_cases ha:n=aN
     ·rw[attrsO_linked ha]
      simp
     ·rw[decide_eq_false ha]
      rfl
    ·rw[if_neg he]
     exact inner_allL k
theorem inner_allL {p:Pol}:∀ l:List Nd,innerL p (allL p l)=true
 | []=>by rw[allL,innerL]
 | x :: r=>by rw[allL,inner_app,inner_allN x,inner_allL r];rfl
end
theorem tree_inner (p:Pol) (ns:List Nd):innerL p (treeL p ns)=true:=inner_join _ (inner_allL ns)
theorem tree_safe {p:Pol}(hp:Right p) {ns:List Nd}(h:nakL false false ns)(h1:(ncL (treeL p ns):Int)<=p.nd)(h2:(dpL (treeL p ns):Int)<=p.dp):safeB p (treeL p ns)=true:=by
 have hc:=hp.c
 exact (safe_iff _ _).2 ⟨by omega,by omega,tree_st hp h,h1,h2,tree_inner p ns⟩
end San
namespace San
open Utf1 Pol8 Saf
theorem joinB_segs:∀ v:L,joinB (Pol8.segs 32 v)=v
 | []=>rfl
 | b :: l=>by
  have ih:=joinB_segs l
  have hne:=segs_ne 32 l
  rw[Pol8.segs]
  by_cases h:b=32
  ·rw[if_pos h]
   cases hs:Pol8.segs 32 l with
   | nil=>exact absurd hs hne
   | cons x r =>
    rw[hs] at ih
    rw[joinB,ih,List.nil_append,h]
  ·rw[if_neg h]
   cases hs:Pol8.segs 32 l with
   | nil=>exact absurd hs hne
   | cons x r =>
    rw[hs] at ih
    simp only
    cases r with
    | nil=>rw[joinB] at ih ⊢;rw[ih]
    | cons y q =>
     rw[joinB] at ih ⊢
     rw[List.cons_append,ih]
theorem fold_all (cl:List L):∀ (l acc:List L),clsFrom cl acc l=true->l.foldl (clsStep cl) acc=acc++l
 | [],acc,_=>by simp
 | x :: r,acc,h=>by
  rw[clsFrom,Bool.and_eq_true,Bool.and_eq_true,decide_eq_true_eq,Bool.not_eq_true',decide_eq_false_iff_not] at h
  rw[List.foldl_cons,show clsStep cl acc x=acc++[x] from if_pos h.1,fold_all cl r _ h.2,List.append_assoc]
  rfl
theorem cls_id {cl:List L}{v:L}(h:classesB cl v=true):clsO cl v=v:=by
 unfold clsO clsK
 rw[fold_all cl _ [] h,List.nil_append,joinB_segs]
theorem val_id {p:Pol}{e n v:L}(h1:n≠relN)(h:valueB p e n v=true):valO p n v=v:=by
 unfold valueB at h
 rw[Bool.and_eq_true,if_neg h1] at h
 unfold valO
 have h:=h.2
 by_cases h2:n=styN
 ·rw[if_pos h2,Bool.and_eq_true,decide_eq_true_eq,decide_eq_true_eq] at h
  rw[if_pos h2]
  exact h.2
 ·rw[if_neg h2,Bool.and_eq_true] at h
  rw[if_neg h2]
  by_cases h3:n=clsN
  ·have h:=h.2
   rw[if_pos h3,Bool.and_eq_true] at h
   rw[if_pos h3]
   exact cls_id h.2
  ·rw[if_neg h3]
theorem atO_id {p:Pol}{e:L}{kv:L × L}(h1:kv.1≠relN)(h:valueB p e kv.1 kv.2=true):atO p e kv=some kv:=by
 unfold atO
 rw[if_neg h1,val_id h1 h,if_pos h]
theorem atsK_id {p:Pol}{e:L}:∀ a:At,(∀ x∈a,x.1≠relN)->(∀ x∈a,valueB p e x.1 x.2=true)->atsK p e a=a
 | [],_,_=>rfl
 | x :: r,h1,h2=>by
  unfold atsK
  rw[List.filterMap_cons,atO_id (h1 x (List.mem_cons_self ..)) (h2 x (List.mem_cons_self ..))]
  simp only
  rw[show r.filterMap (atO p e)=r from atsK_id r (fun y hy=>h1 y (List.mem_cons_of_mem _ hy)) (fun y hy=>h2 y (List.mem_cons_of_mem _ hy))]
theorem atsK_app (p:Pol) (e:L) (a b:At):atsK p e (a++b)=atsK p e a++atsK p e b:=by
 unfold atsK
 rw[List.filterMap_append]
theorem rel_value {p:Pol}{e v:L}(h:valueB p e relN v=true):e=aN/\v=forced:=by
 unfold valueB at h
 rw[if_pos rfl,Bool.and_eq_true,Bool.and_eq_true,decide_eq_true_eq,decide_eq_true_eq,decide_eq_true_eq] at h
 exact h.2
theorem attrs_id {p:Pol}{e:L}{a:At}(hd:(a.map Prod.fst).Nodup)(hv:∀ x∈a,valueB p e x.1 x.2=true)(hl:e=aN->linkedB a=true):attrsO p e a=a:=by
 by_cases hr:hasB a relN=true
 ·obtain⟨x,hx,ex⟩:=hasB_mem.1 hr
  have h1:=hv x hx
  rw[ex] at h1
  obtain⟨ha,hf⟩:=rel_value h1
  have h2:=hl ha
  unfold linkedB at h2
  have hh:hasB a href=true:=by
   cases h:hasB a href with
   | true=>rfl
   | false=>rw[h,hr] at h2;cases h2
  rw[if_pos hh] at h2
  unfold lastB at h2
  have h2:=of_decide_eq_true h2
  cases hg:a.getLast? with
  | none=>rw[hg] at h2;cases h2
  | some y =>
   rw[hg] at h2
   have ey:y.1=relN:=Option.some.inj h2
   have hya:=List.mem_of_getLast? hg
   have hy:=hv y hya
   rw[ey] at hy
   have ey2:=(rel_value hy).2
   have hs:a=a.dropLast++[y]:=by
    have hne:a≠[]:=fun e=>by rw[e] at hg;cases hg
    rw[List.getLast?_eq_some_getLast hne] at hg
    have:=List.dropLast_concat_getLast hne
    rw[Option.some.inj hg] at this
    exact this.symm
   have hyy:y=(relN,forced):=by rw[<-ey,<-ey2]
   rw[hyy] at hs
   generalize a.dropLast=b at hs
   subst hs
   rw[List.map_append,List.nodup_append] at hd
   have hb:∀ z∈b,z.1≠relN:=fun z hz e=>hd.2.2 z.1 (List.mem_map_of_mem hz) relN (by simp) e
   have hk:atsK p e (b++[(relN,forced)])=b:=by
    rw[atsK_app,atsK_id b hb (fun z hz=>hv z (List.mem_append.2 (.inl hz)))]
    have:atsK p e [(relN,forced)]=[]:=by
     unfold atsK
     rw[List.filterMap_cons]
     have:atO p e (relN,forced)=none:=if_pos rfl
     rw[this]
     rfl
    rw[this,List.append_nil]
   have hbh:hasB b href=true:=by
    obtain⟨z,hz,ez⟩:=hasB_mem.1 hh
    rcases List.mem_append.1 hz with hz | hz
    ·exact hasB_mem.2 ⟨z,hz,ez⟩
    ·have:z=(relN,forced):=by simpa using hz
     rw[this] at ez
     exact absurd ez (by decide)
   unfold attrsO
   rw[hk,if_pos ⟨ha,hbh⟩]
 ·have hn:∀ x∈a,x.1≠relN:=fun x hx e=>hr (hasB_mem.2 ⟨x,hx,e⟩)
  unfold attrsO
  rw[atsK_id a hn hv]
  refine if_neg (fun h=>?_)
  have h2:=hl h.1
  unfold linkedB at h2
  rw[if_pos h.2] at h2
  unfold lastB at h2
  have h2:=of_decide_eq_true h2
  cases hg:a.getLast? with
  | none=>rw[hg] at h2;cases h2
  | some y =>
   rw[hg] at h2
   exact hn y (List.mem_of_getLast? hg) (Option.some.inj h2)
theorem st_isJoined {p i:Bool}:∀ (l:List Nd) (b:Bool),stL p i b l=true->Joined l/\(b=true->∀ y q,l=y :: q->y.name≠[])
 | [],b,_=>⟨trivial,fun _ y q e=>by cases e⟩
 | x :: r,b,h=>by
  rw[stL,Bool.and_eq_true] at h
  obtain⟨h1,h2⟩:=st_isJoined r _ h.2
  have key:x.name=[]->x=txt x.text/\x.text≠[]/\b=false:=by
   intro hn
   cases x with
   | mk n a t k =>
    obtain⟨k1,k2,k3,k4⟩:=stN_text hn h.1
    have hn:n=[]:=hn
    subst hn
    subst k3
    subst k4
    exact⟨rfl,k1,k2⟩
  refine⟨⟨fun hn=>⟨(key hn).1,(key hn).2.1,fun y q e=>h2 (decide_eq_true hn) y q e⟩,h1⟩,fun hb y q e hy=>?_⟩
  cases e
  have:=(key hy).2.2
  rw[hb] at this
  cases this
mutual
theorem all_idN {pl:Pol}(hp:Right pl):∀ (x:Nd) {p i b:Bool},stN p i b x=true->innerN pl x=true->allN pl x=[x]
 | .mk n a t k,p,i,b,hs,hi=>by
  rw[allN]
  by_cases hn:n=[]
  ·obtain⟨-,-,k3,k4⟩:=stN_text hn hs
   rw[if_pos hn,hn,k3,k4]
   rfl
  ·obtain⟨k1,-,k3,-,k5,k6⟩:=stN_elem hn hs
   rw[innerN,if_neg hn,Bool.and_eq_true,Bool.and_eq_true,Bool.and_eq_true,List.all_eq_true,decide_eq_true_eq] at hi
   obtain⟨i1,i2,i3,i4⟩:=hi
   have hd:=(may_elem hp i2).2.1
   unfold mayA at k3
   rw[Bool.and_eq_true,decide_eq_true_eq] at k3
   have hl:n=aN->linkedB a=true:=fun e=>by
    rw[decide_eq_true e] at i3
    simpa using i3
   rw[if_neg hn,if_neg (by rw[hd];decide),if_pos i2,attrs_id k3.2 i1 hl]
   have hk:joinR (allL pl k)=k:=by
    by_cases hv:n∈voids
    ·rw[k5 hv,allL,joinR]
    ·have hst:=k6 hv
     rw[all_idL hp k hst i4,join_id _ (st_isJoined k _ hst).1]
   rw[hk,k1]
theorem all_idL {pl:Pol}(hp:Right pl):∀ (l:List Nd) {p i b:Bool},stL p i b l=true->innerL pl l=true->allL pl l=l
 | [],_,_,_,_,_=>by rw[allL]
 | x :: r,p,i,b,hs,hi=>by
  rw[stL,Bool.and_eq_true] at hs
  rw[innerL,Bool.and_eq_true] at hi
  rw[allL,all_idN hp x hs.1 hi.1,all_idL hp r hs.2 hi.2]
  rfl
end
theorem tree_id {p:Pol}(hp:Right p) {ns:List Nd}(h:safeB p ns=true):treeL p ns=ns:=by
 have h:=(safe_iff _ _).1 h
 unfold treeL
 rw[all_idL hp ns h.s h.i,join_id _ (st_isJoined ns _ h.s).1]
mutual
def plainN:Nd->Prop
 | .mk n _ t k=>(n=[]->k=[])/\(n≠[]->t=[])/\plainL k
def plainL:List Nd->Prop
 | []=>True
 | x :: r=>plainN x/\plainL r
end
end San
namespace San
open Utf1 Pol8 Saf
theorem wc_not {b:UInt8}(h:wc b=true):Sty.cutset.contains b=false/\¬ (65<=b.toNat/\b.toNat<=90)/\b≠58/\b≠59/\b≠32:=by
 have h:=of_decide_eq_true h
 refine⟨Sty.set_not b (by omega) (by omega) (by omega) (by omega) (by omega),by omega,?_,?_,?_⟩ <;>
 ·rintro rfl
  revert h
  decide
theorem word_pl {n:L}(h:isWord n=true) (a z:L)(ha:∀ b∈a,Sty.cutset.contains b=true)(hz:∀ b∈z,Sty.cutset.contains b=true):Sty.pl (a++n++z)=n:=by
 obtain⟨h0,h1⟩:=word_cs h
 have h2:∀ b,n.head?=some b->Sty.cutset.contains b=false:=fun b hb=>(wc_not (h1 b (List.mem_of_mem_head? hb))).1
 have h3:∀ b,n.getLast?=some b->Sty.cutset.contains b=false:=fun b hb=>(wc_not (h1 b (List.mem_of_mem_getLast? hb))).1
 unfold Sty.pl
 rw[Sty.trim_around a n z h0 ha hz (Sty.trim_id n h2 h3) h2 h3]
 exact Sty.lower_id n fun b hb=>(wc_not (h1 b hb)).2.1
theorem good_word {n v:L}(hn:isWord n=true)(hv:Sty.okv v=true):Sty.Good (n,v):=by
 have c32:∀ b∈([32]:L),Sty.cutset.contains b=true:=by decide
 have c0:∀ b∈([]:L),Sty.cutset.contains b=true:=by simp
 obtain⟨h0,h1⟩:=word_cs hn
 obtain⟨_,v1,_,_⟩:=Sty.okv_ends hv
 refine⟨fun e=>?_,fun e=>?_,fun e=>?_,?_,?_,?_⟩
 ·have:=h1 _ e;revert this;decide
 ·have:=h1 _ e;revert this;decide
 ·have:=v1 _ e;revert this;decide
 ·have:=word_pl hn [] [] c0 c0;simpa using this
 ·have:=word_pl hn [32] [] c32 c0;simpa using this
 ·have:=Sty.okv_pl hv [32] [] c32 c0;simpa using this
theorem filt_word {props:List L}(hp:∀ n∈props,isWord n=true) (s:L):Sty.filt props (Sty.filt props s)=Sty.filt props s:=by
 have h:Sty.prts (Sty.filt props s)=Sty.lastOnly (Sty.stay props s):=Sty.prts_all _ fun x hx=>good_word (hp x.1 (Sty.stay_keep hx).1) (Sty.stay_keep hx).2
 have e:Sty.stay props (Sty.filt props s)=Sty.lastOnly (Sty.stay props s):=by
  show (Sty.prts (Sty.filt props s)).filter (Sty.keep props)=_
  rw[h]
  refine List.filter_eq_self.2 fun x hx=>?_
  unfold Sty.keep
  rw[(Sty.stay_keep hx).2,decide_eq_true (Sty.stay_keep hx).1]
  rfl
 show (Sty.lastOnly (Sty.stay props (Sty.filt props s))).foldl Sty.emit []=(Sty.lastOnly (Sty.stay props s)).foldl Sty.emit []
 rw[e,Sty.last_last]
theorem segs_joinB:∀ l:List L,l≠[]->(∀ x∈l,(32:UInt8) ∉ x)->Pol8.segs 32 (joinB l)=l
 | [],h,_=>absurd rfl h
 | [x],_,h=>by
  rw[joinB]
  exact Pol8.segs_end 32 _ (h x (List.mem_cons_self ..))
 | x :: y :: r,_,h=>by
  rw[joinB,Pol8.segs_semi 32 _ _ (h x (List.mem_cons_self ..)),segs_joinB (y :: r) (by simp) fun z hz=>h z (List.mem_cons_of_mem _ hz)]
theorem clsFrom_of {cl:List L}:∀ (l seen:List L),(∀ x∈l,x∈cl)->(seen++l).Nodup->clsFrom cl seen l=true
 | [],_,_,_=>rfl
 | x :: r,seen,h,hn=>by
  rw[clsFrom,decide_eq_true (h x (List.mem_cons_self ..)),decide_eq_false (fun hx=>?_),clsFrom_of r (seen++[x]) (fun z hz=>h z (List.mem_cons_of_mem _ hz)) (by rw[List.append_assoc];exact hn)]
  ·rfl
  ·exact (List.nodup_append.1 hn).2.2 x hx x (List.mem_cons_self ..) rfl
theorem fold_cls (cl:List L):∀ (l acc:List L),(∀ x∈acc,x∈cl)->acc.Nodup->(∀ x∈l.foldl (clsStep cl) acc,x∈cl)/\(l.foldl (clsStep cl) acc).Nodup
 | [],_,h1,h2=>⟨h1,h2⟩
 | x :: r,acc,h1,h2=>by
  rw[List.foldl_cons]
  refine fold_cls cl r _ ?_ ?_
  ·unfold clsStep
   split
   ·intro z hz
    rcases List.mem_append.1 hz with hz | hz
    ·exact h1 z hz
    ·rw[List.mem_singleton.1 hz]
     exact (by assumption:x∈cl/\x ∉ acc).1
   ·exact h1
  ·unfold clsStep
   split
   ·rename_i hx
    rw[List.nodup_append]
    refine⟨h2,by simp,fun a ha b hb e=>?_⟩
    rw[List.mem_singleton.1 hb] at e
    exact hx.2 (e ▸ ha)
   ·exact h2
theorem cls_may {cl:List L}(hc:∀ x∈cl,isWord x=true) (v:L):(decide (clsO cl v≠[]) && classesB cl (clsO cl v))=decide (clsK cl v≠[]):=by
 obtain⟨h1,h2⟩:=fold_cls cl (Pol8.segs 32 v) [] (by simp) List.nodup_nil
 have h1:∀ x∈clsK cl v,x∈cl:=h1
 have h2:(clsK cl v).Nodup:=h2
 unfold clsO
 cases hk:clsK cl v with
 | nil=>rfl
 | cons x r =>
  rw[hk] at h1 h2
  have hw:∀ z∈x :: r,(32:UInt8) ∉ z:=fun z hz e=>(wc_not ((word_cs (hc z (h1 z hz))).2 _ e)).2.2.2.2 rfl
  have hne:joinB (x :: r)≠[]:=by
   have hx:=(word_cs (hc x (h1 x (List.mem_cons_self ..)))).1
   cases r with
   | nil=>exact hx
   | cons y r=>rw[joinB];simp
  rw[decide_eq_true hne,decide_eq_true (by simp)]
  unfold classesB
  rw[segs_joinB _ (by simp) hw,clsFrom_of (x :: r) [] h1 (by simpa using h2)]
  rfl
def atP (p:Pol) (e:L) (kv:L × L):Option (L × L):=if kv.1=relN then none else if kv.1=styN then (if Sty.filt p.pr kv.2=[] then none else some (kv.1,Sty.filt p.pr kv.2))
 else if kv.1=clsN then (if attrB p e kv.1=true/\clsK p.cl kv.2≠[] then some (kv.1,clsO p.cl kv.2) else none) else if valueB p e kv.1 kv.2=true then some kv else none
theorem atP_is {p:Pol}(hp:Right p) {e:L}(he:e∈p.el) (kv:L × L):atP p e kv=atO p e kv:=by
 unfold atP atO
 by_cases h1:kv.1=relN
 ·rw[if_pos h1,if_pos h1]
 rw[if_neg h1,if_neg h1]
 unfold valO
 by_cases h2:kv.1=styN
 ·rw[if_pos h2,if_pos h2]
  unfold valueB
  rw[if_neg h1,if_pos h2,filt_word (words_all hp.pr),decide_eq_true he,decide_eq_true rfl,Bool.and_true,Bool.true_and]
  by_cases h3:Sty.filt p.pr kv.2=[]
  ·rw[if_pos h3,decide_eq_false (fun h=>h h3)]
   rfl
  ·rw[if_neg h3,decide_eq_true h3]
   rfl
 rw[if_neg h2,if_neg h2]
 by_cases h3:kv.1=clsN
 ·rw[if_pos h3,if_pos h3]
  unfold valueB
  rw[if_neg h1,if_neg h2,if_pos h3,cls_may (words_all hp.cl),decide_eq_true he,Bool.true_and]
  cases ha:attrB p e kv.1 with
  | false=>rw[if_neg (fun h=>by cases h.1)];rfl
  | true =>
   by_cases h4:clsK p.cl kv.2=[]
   ·rw[if_neg (fun h=>h.2 h4),decide_eq_false (fun h=>h h4)]
    rfl
   ·rw[if_pos ⟨rfl,h4⟩,decide_eq_true h4]
    rfl
 ·rw[if_neg h3,if_neg h3]
def atsP (p:Pol) (e:L) (a:At):At:=a.filterMap (atP p e)
def attrsP (p:Pol) (e:L) (a:At):At:=if e=aN/\hasB (atsP p e a) href=true then atsP p e a++[(relN,forced)] else atsP p e a
theorem attrsP_is {p:Pol}(hp:Right p) {e:L}(he:e∈p.el) (a:At):attrsP p e a=attrsO p e a:=by
 have h:atsP p e a=atsK p e a:=by
  unfold atsP atsK
  rw[show atP p e=atO p e from funext fun x=>atP_is hp he x]
 unfold attrsP attrsO
 rw[h]
theorem atsP_next {p:Pol}{e:L}{l:At}{i:Nat}{kv:L × L}(h:l[i]?=some kv):atsP p e (l.take (i+1))=atsP p e (l.take i)++(atP p e kv).toList:=by
 unfold atsP
 rw[List.take_add_one,h,List.filterMap_append]
 congr 1
theorem has_snoc (a:At) (x:L × L) (n:L):hasB (a++[x]) n=(hasB a n || decide (x.1=n)):=by
 unfold hasB
 rw[List.any_append,List.any_cons,List.any_nil,Bool.or_false]
def endT (t:L):List Nd:=if t=[] then [] else [txt t]
def push (s:List Nd × L) (x:Nd):List Nd × L:=if x.name=[] then (s.1,s.2++x.text) else (s.1++endT s.2++[x],[])
theorem push_all:∀ (l:List Nd) (s:List Nd × L),(l.foldl push s).1++endT (l.foldl push s).2=s.1++textAhead s.2 (joinR l)
 | [],s=>by
  rw[List.foldl_nil,joinR]
  rfl
 | x :: r,s=>by
  rw[List.foldl_cons,push_all r,joinR_cons]
  unfold push
  by_cases hx:x.name=[]
  ·rw[if_pos hx,if_pos hx,ahead_ahead]
  ·rw[if_neg hx,if_neg hx]
   have e1:textAhead ([]:L) (joinR r)=joinR r:=by unfold textAhead;rw[if_pos rfl]
   rw[e1]
   unfold textAhead endT
   by_cases ht:s.2=[]
   ·rw[if_pos ht,if_pos ht]
    simp
   ·rw[if_neg ht,if_neg ht]
    simp only
    rw[if_neg hx]
    simp
theorem push_tree (p:Pol) (ns:List Nd):((allL p ns).foldl push ([],[])).1++endT ((allL p ns).foldl push ([],[])).2=treeL p ns:=by
 rw[push_all]
 unfold treeL textAhead
 rw[if_pos rfl,List.nil_append]
end San
namespace Go.Proofs.YtkiofbikkhhdfabGreatDoor
open Go.RowKit
open Utf1 Pol8
theorem pelemC_any:ElemC:=by
 intro v1 v2 v3 v4 v5 p l1 l2 l3 l4 l5 x w hv hf hx
 have:=pelem_any p.ep v1 v2 v3 v4 v5 p.dp p.nd p.bt x l1 (fits_of hf (by simp) hv.e1).1 w hv.s1
 rw[hv.e1] at this
 exact this
end Go.Proofs.YtkiofbikkhhdfabGreatDoor
namespace Go.Proofs.YtkiofbikkhhdfabGreatDoor
open Go.RowKit
open Utf1 Pol8
theorem pvalue_any (v1 v2 v3 v4 v5:Value) (p:Pol) (l1 l2 l3 l4 l5:List ByteArray) (e n v:ByteArray) (w:World)(hv:PolV w v1 v2 v3 v4 v5 p l1 l2 l3 l4 l5)(hf:fits p)(he:e.size<=100000)(hn:n.size<=100000)(hz:v.size<=90000) :
  Calls Tryz.prog 95 #[pval p v1 v2 v3 v4 v5,.string e,.agg #[.string n,.string v]] w fun r w'=>r=.returned (.bool (Saf.valueB p (bl e) (bl n) (bl v)))/\Below w.heap.size w w':=by
 obtain⟨R,hR⟩:∃ R,R=Saf.valueB p (bl e) (bl n) (bl v):=⟨_,rfl⟩
 rw[<-hR]
 unfold Saf.valueB at hR
 have HR:=hide hR
 clear hR
 obtain⟨f1,-⟩:=fits_of hf (by simp) hv.e1
 obtain⟨f3,-⟩:=fits_of hf (by simp) hv.e3
 obtain⟨f4,-⟩:=fits_of hf (by simp) hv.e4
 obtain⟨f5,-⟩:=fits_of hf (by simp) hv.e5
 have HV:=hide hv
 obtain⟨o1,k1,rfl,-,-⟩:=hv.s1
 obtain⟨o2,k2,rfl,-,-⟩:=hv.s2
 obtain⟨o3,k3,rfl,-,-⟩:=hv.s3
 obtain⟨o4,k4,rfl,-,-⟩:=hv.s4
 obtain⟨o5,k5,rfl,-,-⟩:=hv.s5
 clear hv
 obtain⟨w1,hw1⟩:∃ w1,w1=(w.alloc (.cells #[.int .i64 p.ep,.slice o1 (List.length l1) k1,.slice o2 (List.length l2) k2,.slice o3 (List.length l3) k3,.slice o4 (List.length l4) k4,.slice o5 (List.length l5) k5,.int .i64 p.dp,.int .i64 p.nd,.int .i64 p.bt] 24)).alloc (.cells #[.string n,.string v] 108):=⟨_,rfl⟩
 have H1:Hid (BoxV w #[.int .i64 p.ep,.slice o1 (List.length l1) k1,.slice o2 (List.length l2) k2,.slice o3 (List.length l3) k3,.slice o4 (List.length l4) k4,.slice o5 (List.length l5) k5,.int .i64 p.dp,.int .i64 p.nd,.int .i64 p.bt] #[.string n,.string v] w1):=hide (by rw[hw1];exact BoxV.new _ _ _)
 have SK:Hid (∀ wx,BoxV w #[.int .i64 p.ep,.slice o1 (List.length l1) k1,.slice o2 (List.length l2) k2,.slice o3 (List.length l3) k3,.slice o4 (List.length l4) k4,.slice o5 (List.length l5) k5,.int .i64 p.dp,.int .i64 p.nd,.int .i64 p.bt] #[.string n,.string v] wx->wx.cell? ⟨w.heap.size,0,none⟩=some (.int .i64 p.ep)/\wx.cell? ⟨w.heap.size,1,none⟩=some (.slice o1 (List.length l1) k1)/\wx.cell? ⟨w.heap.size,2,none⟩=some (.slice o2 (List.length l2) k2)/\wx.cell? ⟨w.heap.size,3,none⟩=some (.slice o3 (List.length l3) k3)/\wx.cell? ⟨w.heap.size,4,none⟩=some (.slice o4 (List.length l4) k4)/\wx.cell? ⟨w.heap.size,5,none⟩=some (.slice o5 (List.length l5) k5)/\wx.cell? ⟨w.heap.size,6,none⟩=some (.int .i64 p.dp)/\wx.cell? ⟨w.heap.size,7,none⟩=some (.int .i64 p.nd)/\wx.cell? ⟨w.heap.size,8,none⟩=some (.int .i64 p.bt)/\wx.cell? ⟨w.heap.size+1,0,none⟩=some (.string n)/\wx.cell? ⟨w.heap.size+1,1,none⟩=some (.string v)/\Hid (BoxV w #[.int .i64 p.ep,.slice o1 (List.length l1) k1,.slice o2 (List.length l2) k2,.slice o3 (List.length l3) k3,.slice o4 (List.length l4) k4,.slice o5 (List.length l5) k5,.int .i64 p.dp,.int .i64 p.nd,.int .i64 p.bt] #[.string n,.string v] wx)):=hide (fun wx h=>⟨h.a 0 _ rfl,h.a 1 _ rfl,h.a 2 _ rfl,h.a 3 _ rfl,h.a 4 _ rfl,h.a 5 _ rfl,h.a 6 _ rfl,h.a 7 _ rfl,h.a 8 _ rfl,h.b 0 _ rfl,h.b 1 _ rfl,hide h⟩)
 have SB:Hid (∀ wx,(wx.cell? ⟨w.heap.size,0,none⟩=some (.int .i64 p.ep)/\wx.cell? ⟨w.heap.size,1,none⟩=some (.slice o1 (List.length l1) k1)/\wx.cell? ⟨w.heap.size,2,none⟩=some (.slice o2 (List.length l2) k2)/\wx.cell? ⟨w.heap.size,3,none⟩=some (.slice o3 (List.length l3) k3)/\wx.cell? ⟨w.heap.size,4,none⟩=some (.slice o4 (List.length l4) k4)/\wx.cell? ⟨w.heap.size,5,none⟩=some (.slice o5 (List.length l5) k5)/\wx.cell? ⟨w.heap.size,6,none⟩=some (.int .i64 p.dp)/\wx.cell? ⟨w.heap.size,7,none⟩=some (.int .i64 p.nd)/\wx.cell? ⟨w.heap.size,8,none⟩=some (.int .i64 p.bt)/\wx.cell? ⟨w.heap.size+1,0,none⟩=some (.string n)/\wx.cell? ⟨w.heap.size+1,1,none⟩=some (.string v)/\Hid (BoxV w #[.int .i64 p.ep,.slice o1 (List.length l1) k1,.slice o2 (List.length l2) k2,.slice o3 (List.length l3) k3,.slice o4 (List.length l4) k4,.slice o5 (List.length l5) k5,.int .i64 p.dp,.int .i64 p.nd,.int .i64 p.bt] #[.string n,.string v] wx))->BoxV w #[.int .i64 p.ep,.slice o1 (List.length l1) k1,.slice o2 (List.length l2) k2,.slice o3 (List.length l3) k3,.slice o4 (List.length l4) k4,.slice o5 (List.length l5) k5,.int .i64 p.dp,.int .i64 p.nd,.int .i64 p.bt] #[.string n,.string v] wx):=hide (fun wx h=>h.2.2.2.2.2.2.2.2.2.2.2.out)
 have C1:Hid (∀ wx,BoxV w #[.int .i64 p.ep,.slice o1 (List.length l1) k1,.slice o2 (List.length l2) k2,.slice o3 (List.length l3) k3,.slice o4 (List.length l4) k4,.slice o5 (List.length l5) k5,.int .i64 p.dp,.int .i64 p.nd,.int .i64 p.bt] #[.string n,.string v] wx->Calls Tryz.prog 29 #[.agg #[.int .i64 p.ep,.slice o1 (List.length l1) k1,.slice o2 (List.length l2) k2,.slice o3 (List.length l3) k3,.slice o4 (List.length l4) k4,.slice o5 (List.length l5) k5,.int .i64 p.dp,.int .i64 p.nd,.int .i64 p.bt],.string e] wx fun r w'=>r=.returned (.bool (decide (bl e∈p.el)))/\BoxV w #[.int .i64 p.ep,.slice o1 (List.length l1) k1,.slice o2 (List.length l2) k2,.slice o3 (List.length l3) k3,.slice o4 (List.length l4) k4,.slice o5 (List.length l5) k5,.int .i64 p.dp,.int .i64 p.nd,.int .i64 p.bt] #[.string n,.string v] w'):=hide (fun wx h=>(pelemC_any _ _ _ _ _ p _ _ _ _ _ e wx (HV.out.below h.2.2) hf he).mono fun _ w' ⟨h1,h2⟩=>⟨h1,h.keep h2⟩)
 have C2:Hid (∀ wx,BoxV w #[.int .i64 p.ep,.slice o1 (List.length l1) k1,.slice o2 (List.length l2) k2,.slice o3 (List.length l3) k3,.slice o4 (List.length l4) k4,.slice o5 (List.length l5) k5,.int .i64 p.dp,.int .i64 p.nd,.int .i64 p.bt] #[.string n,.string v] wx->Calls Tryz.prog 119 #[.string v,.slice o5 l5.length k5] wx fun r w'=>r=.returned (.string ⟨(Sty.filt p.pr (bl v)).toArray⟩)/\BoxV w #[.int .i64 p.ep,.slice o1 (List.length l1) k1,.slice o2 (List.length l2) k2,.slice o3 (List.length l3) k3,.slice o4 (List.length l4) k4,.slice o5 (List.length l5) k5,.int .i64 p.dp,.int .i64 p.nd,.int .i64 p.bt] #[.string n,.string v] w'):=hide (fun wx h=>by
  have:=Sy.filter_any v (.slice o5 l5.length k5) l5 hz f5 wx ((HV.out.below h.2.2).s5)
  rw[HV.out.e5] at this
  exact this.mono fun _ w' ⟨h1,h2⟩=>⟨h1,h.keep h2⟩)
 have C3:Hid (∀ wx,BoxV w #[.int .i64 p.ep,.slice o1 (List.length l1) k1,.slice o2 (List.length l2) k2,.slice o3 (List.length l3) k3,.slice o4 (List.length l4) k4,.slice o5 (List.length l5) k5,.int .i64 p.dp,.int .i64 p.nd,.int .i64 p.bt] #[.string n,.string v] wx->Calls Tryz.prog 120 #[.agg #[.int .i64 p.ep,.slice o1 (List.length l1) k1,.slice o2 (List.length l2) k2,.slice o3 (List.length l3) k3,.slice o4 (List.length l4) k4,.slice o5 (List.length l5) k5,.int .i64 p.dp,.int .i64 p.nd,.int .i64 p.bt],.string e,.string n] wx fun r w'=>r=.returned (.bool (attrB p (bl e) (bl n)))/\BoxV w #[.int .i64 p.ep,.slice o1 (List.length l1) k1,.slice o2 (List.length l2) k2,.slice o3 (List.length l3) k3,.slice o4 (List.length l4) k4,.slice o5 (List.length l5) k5,.int .i64 p.dp,.int .i64 p.nd,.int .i64 p.bt] #[.string n,.string v] w'):=hide (fun wx h=>(pattrB_any _ _ _ _ _ p _ _ _ _ _ e n wx (HV.out.below h.2.2) hf he hn).mono fun _ w' ⟨h1,h2⟩=>⟨h1,h.keep h2⟩)
 have C4:Hid (∀ wx,BoxV w #[.int .i64 p.ep,.slice o1 (List.length l1) k1,.slice o2 (List.length l2) k2,.slice o3 (List.length l3) k3,.slice o4 (List.length l4) k4,.slice o5 (List.length l5) k5,.int .i64 p.dp,.int .i64 p.nd,.int .i64 p.bt] #[.string n,.string v] wx->Calls Tryz.prog 121 #[.string v,.slice o4 l4.length k4] wx fun r w'=>r=.returned (.bool (decide (bl v≠[]) && Saf.classesB p.cl (bl v)))/\BoxV w #[.int .i64 p.ep,.slice o1 (List.length l1) k1,.slice o2 (List.length l2) k2,.slice o3 (List.length l3) k3,.slice o4 (List.length l4) k4,.slice o5 (List.length l5) k5,.int .i64 p.dp,.int .i64 p.nd,.int .i64 p.bt] #[.string n,.string v] w'):=hide (fun wx h=>by
  have:=pclasses_any v (.slice o4 l4.length k4) l4 hz f4 wx ((HV.out.below h.2.2).s4)
  rw[HV.out.e4] at this
  exact this.mono fun _ w' ⟨h1,h2⟩=>⟨h1,h.keep h2⟩)
 have C5:Hid (∀ wx,BoxV w #[.int .i64 p.ep,.slice o1 (List.length l1) k1,.slice o2 (List.length l2) k2,.slice o3 (List.length l3) k3,.slice o4 (List.length l4) k4,.slice o5 (List.length l5) k5,.int .i64 p.dp,.int .i64 p.nd,.int .i64 p.bt] #[.string n,.string v] wx->Calls Tryz.prog 122 #[.string n] wx fun r w'=>r=.returned (.bool (Saf.placeB (bl n)))/\BoxV w #[.int .i64 p.ep,.slice o1 (List.length l1) k1,.slice o2 (List.length l2) k2,.slice o3 (List.length l3) k3,.slice o4 (List.length l4) k4,.slice o5 (List.length l5) k5,.int .i64 p.dp,.int .i64 p.nd,.int .i64 p.bt] #[.string n,.string v] w'):=hide (fun wx h=>(pplace_any n wx).mono fun _ w' ⟨h1,h2⟩=>⟨h1,h.keep h2⟩)
 have C6:Hid (∀ wx,BoxV w #[.int .i64 p.ep,.slice o1 (List.length l1) k1,.slice o2 (List.length l2) k2,.slice o3 (List.length l3) k3,.slice o4 (List.length l4) k4,.slice o5 (List.length l5) k5,.int .i64 p.dp,.int .i64 p.nd,.int .i64 p.bt] #[.string n,.string v] wx->Calls Tryz.prog 123 #[.string v,.slice o3 l3.length k3] wx fun r w'=>r=.returned (.bool (allowed (bl v) p.sc))/\BoxV w #[.int .i64 p.ep,.slice o1 (List.length l1) k1,.slice o2 (List.length l2) k2,.slice o3 (List.length l3) k3,.slice o4 (List.length l4) k4,.slice o5 (List.length l5) k5,.int .i64 p.dp,.int .i64 p.nd,.int .i64 p.bt] #[.string n,.string v] w'):=hide (fun wx h=>by
  have:=Ul.allowed_any v (.slice o3 l3.length k3) l3 wx (by omega) f3 ((HV.out.below h.2.2).s3)
  rw[HV.out.e3] at this
  exact this.mono fun _ w' ⟨h1,h2⟩=>⟨h1,h.keep h2⟩)
 clear HV hf f1 f3 f4 f5
 generalize decide (bl e∈p.el)=r1 at C1 HR
 generalize attrB p (bl e) (bl n)=r3 at C3 HR
 generalize (decide (bl v≠[]) && Saf.classesB p.cl (bl v))=r4 at C4 HR
 generalize Saf.placeB (bl n)=r5 at C5 HR
 generalize allowed (bl v) p.sc=r6 at C6 HR
 obtain⟨F,hF⟩:∃ F:ByteArray,F=⟨(Sty.filt p.pr (bl v)).toArray⟩:=⟨_,rfl⟩
 have hFb:bl F=Sty.filt p.pr (bl v):=by rw[hF]
 rw[<-hF] at C2
 rw[<-hFb] at HR
 clear hF hFb
 have g1:=eq_lit n [114,101,108]
 have g2:=eq_lit n [115,116,121,108,101]
 have g3:=eq_lit n [99,108,97,115,115]
 have g4:=eq_lit e [97]
 have g5:=eq_lit v [110,111,102,111,108,108,111,119,32,110,111,111,112,101,110,101,114]
 have g6:=ne_empty v
 have g6':=empty_bl v
 have g7:=eq_two F v
 obtain⟨y0,y1,y2,y3,y4,y5,y6,y7,y8,z0,z1,-⟩:=SK.out w1 H1.out
 go_enter Tryz.func95,Tryz.ntmps95
 go_upto_region 1 with fail
 rw[<-hw1]
 clear hw1
 go_wp2_with fail
 refine (C1.out _ H1.out).mono ?_
 rintro r w2 ⟨rfl,h2⟩
 have H2:=hide h2
 clear h2 C1 H1 y0 y1 y2 y3 y4 y5 y6 y7 y8 z0 z1
 obtain⟨y0,y1,y2,y3,y4,y5,y6,y7,y8,z0,z1,-⟩:=SK.out w2 H2.out
 cases r1 with
 | false =>
  have HN:Hid (R=false):=hide (by rw[HR.out];rfl)
  clear HR
  go_wp2_with fail
  go_ret
  rw[HN.out]
  exact⟨rfl,H2.out.2.2⟩
 | true =>
  rw[Bool.true_and] at HR
  by_cases hrel:bl n=[114,101,108]
  ·rw[decide_eq_true hrel] at g1
   have HN:Hid (R=(decide (bl e=[97]) && decide (bl v=[110,111,102,111,108,108,111,119,32,110,111,111,112,101,110,101,114]))):=hide (by rw[HR.out,if_pos (show bl n=Saf.relN from hrel)];rfl)
   clear HR hrel
   generalize decide (bl e=[97])=t1 at g4 HN
   generalize decide (bl v=[110,111,102,111,108,108,111,119,32,110,111,111,112,101,110,101,114])=t2 at g5 HN
   cases t1 with
   | false =>
    go_wp2_with fail
    go_ret
    rw[HN.out]
    exact⟨rfl,H2.out.2.2⟩
   | true =>
    go_wp2_with fail
    go_ret
    rw[HN.out]
    exact⟨ret_bool (by simp),H2.out.2.2⟩
  ·rw[decide_eq_false hrel] at g1
   have HR2:=hide (HR.out.trans (if_neg hrel))
   clear HR hrel g4 g5
   by_cases hsty:bl n=[115,116,121,108,101]
   ·rw[decide_eq_true hsty] at g2
    have HN:Hid (R=(decide (bl v≠[]) && decide (bl F=bl v))):=hide (by rw[HR2.out,if_pos (show bl n=Saf.styN from hsty)])
    clear HR2 hsty
    by_cases hve:bl v=[]
    ·rw[decide_eq_false (fun h=>h hve)] at g6 HN
     rw[decide_eq_true hve] at g6'
     go_wp2_with fail
     clear y0 y1 y2 y3 y4 y5 y6 y7 y8 z0 z1
     refine wp_region_held_drew (S:=(fun wx=>wx.cell? ⟨w.heap.size,0,none⟩=some (.int .i64 p.ep)/\wx.cell? ⟨w.heap.size,1,none⟩=some (.slice o1 (List.length l1) k1)/\wx.cell? ⟨w.heap.size,2,none⟩=some (.slice o2 (List.length l2) k2)/\wx.cell? ⟨w.heap.size,3,none⟩=some (.slice o3 (List.length l3) k3)/\wx.cell? ⟨w.heap.size,4,none⟩=some (.slice o4 (List.length l4) k4)/\wx.cell? ⟨w.heap.size,5,none⟩=some (.slice o5 (List.length l5) k5)/\wx.cell? ⟨w.heap.size,6,none⟩=some (.int .i64 p.dp)/\wx.cell? ⟨w.heap.size,7,none⟩=some (.int .i64 p.nd)/\wx.cell? ⟨w.heap.size,8,none⟩=some (.int .i64 p.bt)/\wx.cell? ⟨w.heap.size+1,0,none⟩=some (.string n)/\wx.cell? ⟨w.heap.size+1,1,none⟩=some (.string v)/\Hid (BoxV w #[.int .i64 p.ep,.slice o1 (List.length l1) k1,.slice o2 (List.length l2) k2,.slice o3 (List.length l3) k3,.slice o4 (List.length l4) k4,.slice o5 (List.length l5) k5,.int .i64 p.dp,.int .i64 p.nd,.int .i64 p.bt] #[.string n,.string v] wx))) (by kernel_rfl) (SK.out _ (H2.out.keep ((Below.refl _ _).drew))) (fun hHeld=>?_)
     refine wpAnyH_atp 0 rfl ?_
     refine wpAnyH_atp 1 rfl ?_
     refine wpAnyH_atp 2 rfl ?_
     refine wpAnyH_atp 3 rfl ?_
     refine wpAnyH_atn 4 rfl ?_
     refine wpAnyH_atn 5 rfl ?_
     refine wpAnyH_atn 6 rfl ?_
     refine wpAnyH_atn 7 rfl ?_
     refine wpAnyH_atn 8 rfl ?_
     refine wpAnyH_atn 9 rfl ?_
     refine wpAnyH_atn 10 rfl ?_
     refine wpAnyH_atn 11 rfl ?_
     refine wpAnyH_atp 12 rfl ?_
     refine wpAnyH_atp 13 rfl ?_
     refine wpAnyH_done (by kernel_rfl) ?_ _
     have H7:=hide (SB.out _ (by assumption))
     go_wp2_with fail
     go_ret
     rw[HN.out]
     exact⟨rfl,H7.out.2.2⟩
    ·rw[decide_eq_true hve] at g6 HN
     rw[decide_eq_false hve] at g6'
     generalize decide (bl F=bl v)=t2 at g7 HN
     go_wp2_with fail
     clear y0 y1 y2 y3 y4 y5 y6 y7 y8 z0 z1
     refine wp_region_held_drew (S:=(fun wx=>wx.cell? ⟨w.heap.size,0,none⟩=some (.int .i64 p.ep)/\wx.cell? ⟨w.heap.size,1,none⟩=some (.slice o1 (List.length l1) k1)/\wx.cell? ⟨w.heap.size,2,none⟩=some (.slice o2 (List.length l2) k2)/\wx.cell? ⟨w.heap.size,3,none⟩=some (.slice o3 (List.length l3) k3)/\wx.cell? ⟨w.heap.size,4,none⟩=some (.slice o4 (List.length l4) k4)/\wx.cell? ⟨w.heap.size,5,none⟩=some (.slice o5 (List.length l5) k5)/\wx.cell? ⟨w.heap.size,6,none⟩=some (.int .i64 p.dp)/\wx.cell? ⟨w.heap.size,7,none⟩=some (.int .i64 p.nd)/\wx.cell? ⟨w.heap.size,8,none⟩=some (.int .i64 p.bt)/\wx.cell? ⟨w.heap.size+1,0,none⟩=some (.string n)/\wx.cell? ⟨w.heap.size+1,1,none⟩=some (.string v)/\Hid (BoxV w #[.int .i64 p.ep,.slice o1 (List.length l1) k1,.slice o2 (List.length l2) k2,.slice o3 (List.length l3) k3,.slice o4 (List.length l4) k4,.slice o5 (List.length l5) k5,.int .i64 p.dp,.int .i64 p.nd,.int .i64 p.bt] #[.string n,.string v] wx))) (by kernel_rfl) (SK.out _ (H2.out.keep ((Below.refl _ _).drew))) (fun hHeld=>?_)
     refine wpAnyH_atp 0 rfl ?_
     refine wpAnyH_atp 1 rfl ?_
     refine wpAnyH_atp 2 rfl ?_
     refine wpAnyH_atp 3 rfl ?_
     refine wpAnyH_atp 4 rfl ?_
     refine wpAnyH_atp 5 rfl ?_
     refine wpAnyH_atp 6 rfl ?_
     refine wpAnyH_atp 7 rfl ?_
     refine wpAnyH_atp 9 rfl ?_
     refine wpAnyH_atp 10 rfl ?_
     refine wpAnyH_ready (rs:=[8]) (by kernel_rfl) (by simp) ?_
     refine AllReadyH.cons rfl (fun K hK=>?_) AllReadyH.nil
     go_simp
     refine (C2.out _ (SB.out _ (by assumption))).mono ?_
     rintro r w6 ⟨rfl,h6⟩
     try go_wp2_with fail
     refine hK.out _ _ (SK.out _ (by assumption)) (fun hHeld2=>?_)
     clear hK K hHeld
     have hHeld:=hHeld2
     clear hHeld2
     refine wpAnyH_atp 11 rfl ?_
     refine wpAnyH_atp 12 rfl ?_
     refine wpAnyH_atp 13 rfl ?_
     refine wpAnyH_done (by kernel_rfl) ?_ _
     have H7:=hide (SB.out _ (by assumption))
     go_wp2_with fail
     go_ret
     rw[HN.out]
     exact⟨ret_bool (by simp),H7.out.2.2⟩
   ·rw[decide_eq_false hsty] at g2
    have HR3:=hide (HR2.out.trans (if_neg hsty))
    clear HR2 hsty C2 g7 g6 g6'
    go_wp2_with fail
    refine (C3.out _ H2.out).mono ?_
    rintro r w3 ⟨rfl,h3⟩
    have H3:=hide h3
    clear h3 C3 H2 y0 y1 y2 y3 y4 y5 y6 y7 y8 z0 z1
    obtain⟨y0,y1,y2,y3,y4,y5,y6,y7,y8,z0,z1,-⟩:=SK.out w3 H3.out
    cases r3 with
    | false =>
     have HN:Hid (R=false):=hide (by rw[HR3.out];rfl)
     clear HR3
     go_wp2_with fail
     go_ret
     rw[HN.out]
     exact⟨rfl,H3.out.2.2⟩
    | true =>
     rw[Bool.true_and] at HR3
     by_cases hcl:bl n=[99,108,97,115,115]
     ·rw[decide_eq_true hcl] at g3
      have HN:Hid (R=r4):=hide (by rw[HR3.out,if_pos (show bl n=Saf.clsN from hcl)])
      clear HR3 hcl
      go_wp2_with fail
      refine (C4.out _ H3.out).mono ?_
      rintro r w4 ⟨rfl,h4⟩
      have H4:=hide h4
      clear h4 C4 H3 y0 y1 y2 y3 y4 y5 y6 y7 y8 z0 z1
      go_wp2_with fail
      go_ret
      rw[HN.out]
      exact⟨rfl,H4.out.2.2⟩
     ·rw[decide_eq_false hcl] at g3
      have HN:Hid (R=(!r5 || r6)):=hide (HR3.out.trans (if_neg hcl))
      clear HR3 hcl
      go_wp2_with fail
      refine (C5.out _ H3.out).mono ?_
      rintro r w4 ⟨rfl,h4⟩
      have H4:=hide h4
      clear h4 C5 H3 y0 y1 y2 y3 y4 y5 y6 y7 y8 z0 z1
      obtain⟨y0,y1,y2,y3,y4,y5,y6,y7,y8,z0,z1,-⟩:=SK.out w4 H4.out
      cases r5 with
      | false =>
       go_wp2_with fail
       go_ret
       rw[HN.out]
       exact⟨rfl,H4.out.2.2⟩
      | true =>
       go_wp2_with fail
       refine (C6.out _ H4.out).mono ?_
       rintro r w5 ⟨rfl,h5⟩
       have H5:=hide h5
       clear h5 C6 H4 y0 y1 y2 y3 y4 y5 y6 y7 y8 z0 z1
       go_wp2_with fail
       go_ret
       rw[HN.out]
       exact⟨ret_bool (by simp),H5.out.2.2⟩
end Go.Proofs.YtkiofbikkhhdfabGreatDoor
namespace Go.Proofs.YtkiofbikkhhdfabGreatDoor
open Go.ChangeShapes Go.WideShapes Go.ChangeAt Go.RowKit
open Utf1 Pol8
theorem cons_of {α:Type}{l:List α}{n:Nat}(h:l.length=n+1):∃ a r,l=a :: r/\r.length=n:=by
 cases l with
 | nil=>simp at h
 | cons a r=>exact⟨a,r,rfl,by simpa using h⟩
theorem list9 {α:Type}{l:List α}(h:l.length=9):∃ a0 a1 a2 a3 a4 a5 a6 a7 a8,l=[a0,a1,a2,a3,a4,a5,a6,a7,a8]:=by
 obtain⟨a0,r0,rfl,h0⟩:=cons_of h
 obtain⟨a1,r1,rfl,h1⟩:=cons_of h0
 obtain⟨a2,r2,rfl,h2⟩:=cons_of h1
 obtain⟨a3,r3,rfl,h3⟩:=cons_of h2
 obtain⟨a4,r4,rfl,h4⟩:=cons_of h3
 obtain⟨a5,r5,rfl,h5⟩:=cons_of h4
 obtain⟨a6,r6,rfl,h6⟩:=cons_of h5
 obtain⟨a7,r7,rfl,h7⟩:=cons_of h6
 obtain⟨a8,r8,rfl,h8⟩:=cons_of h7
 have:=List.eq_nil_of_length_eq_zero h8
 subst this
 exact⟨a0,a1,a2,a3,a4,a5,a6,a7,a8,rfl⟩
theorem cellsStr:Tryz.prog.cellsOf 9=1:=by kernel_rfl
theorem cellsPol:Tryz.prog.cellsOf 24=9:=by kernel_rfl
section
variable {H:Type}{enc:TypeId × Value->H}{W:World}
theorem strs_cells {n:Nat}{c:Value}{x:DataW H × List MemPlace}(h:DataW.trod enc Tryz.prog W 0 (fun _=>true) true n 22 [c]=some x):∃ ss,StrArg W c ss:=by
 rcases open_strings Tryz.underlying22 Tryz.underlying9 cellsStr h with⟨hcs,_⟩ | ⟨x,len,cap,ss,hcs,_,hl,hm,hz,_,hcell,hsz⟩
 ·simp at hcs
  subst hcs
  exact⟨[],none,0,rfl,fun _=>rfl,fun i s h=>by simp at h⟩
 ·simp at hcs
  subst hcs
  have hz:ss.length=cap:=by simpa using hz
  refine⟨ss.take len,some x,cap,?_,fun h=>(by cases h),?_⟩
  ·rw[List.length_take,Nat.min_eq_left (by omega)]
  ·intro i s hi
   have hil:i < ss.length:=by
    have:=(List.getElem?_eq_some_iff.1 hi).1
    rw[List.length_take] at this
    omega
   have hilen:i < len:=by
    have:=(List.getElem?_eq_some_iff.1 hi).1
    rw[List.length_take] at this
    omega
   rw[List.getElem?_take,if_pos hilen] at hi
   have hc:=hcell i hil
   have hg:ss.getD i ByteArray.empty=s:=by rw[List.getD_eq_getElem?_getD,hi];rfl
   rw[hg] at hc
   obtain⟨b,off,spot⟩:=x
   have hspot:spot=none:=by simpa [Addr.add] using World.cell?_spot (hcell 0 (by omega))
   subst hspot
   exact⟨b,off,rfl,by rw[<-add_plain];exact hc⟩
theorem pol_cells {n:Nat}{cs:List Value}{x:DataW H × List MemPlace}(hg:Glob W)(h:DataW.trod enc Tryz.prog W 0 (fun _=>true) true n 24 cs=some x) :
  ∃ (p:Pol) (v1 v2 v3 v4 v5:Value) (l1 l2 l3 l4 l5:List ByteArray),cs=[.int .i64 p.ep,v1,v2,v3,v4,v5,.int .i64 p.dp,.int .i64 p.nd,.int .i64 p.bt]/\PolV W v1 v2 v3 v4 v5 p l1 l2 l3 l4 l5:=by
 obtain⟨xs,m,_,rfl,hl,hlen,hf⟩:=DataW.trod_struct Tryz.underlying24 h
 rw[cellsPol] at hl
 obtain⟨c0,c1,c2,c3,c4,c5,c6,c7,c8,rfl⟩:=list9 hl
 obtain⟨y0,y1,y2,y3,y4,y5,y6,y7,y8,rfl⟩:=list9 (show xs.length=9 from hlen)
 have h0:=hf 0 _ rfl
 have h1:=hf 1 _ rfl
 have h2:=hf 2 _ rfl
 have h3:=hf 3 _ rfl
 have h4:=hf 4 _ rfl
 have h5:=hf 5 _ rfl
 have h6:=hf 6 _ rfl
 have h7:=hf 7 _ rfl
 have h8:=hf 8 _ rfl
 simp only[List.getElem?_cons_zero,List.getElem?_cons_succ] at h0 h1 h2 h3 h4 h5 h6 h7 h8
 obtain⟨k0,e0,rfl,-⟩:=DataW.trod_int Tryz.underlying3 h0
 obtain⟨k6,e6,rfl,-⟩:=DataW.trod_int Tryz.underlying3 h6
 obtain⟨k7,e7,rfl,-⟩:=DataW.trod_int Tryz.underlying3 h7
 obtain⟨k8,e8,rfl,-⟩:=DataW.trod_int Tryz.underlying3 h8
 obtain⟨l1,s1⟩:=strs_cells h1
 obtain⟨l2,s2⟩:=strs_cells h2
 obtain⟨l3,s3⟩:=strs_cells h3
 obtain⟨l4,s4⟩:=strs_cells h4
 obtain⟨l5,s5⟩:=strs_cells h5
 cases e0
 cases e6
 cases e7
 cases e8
 exact⟨⟨k0,l1.map bl,l2.map bl,l3.map bl,l4.map bl,l5.map bl,k6,k7,k8⟩,c1,c2,c3,c4,c5,l1,l2,l3,l4,l5,rfl,s1,s2,s3,s4,s5,rfl,rfl,rfl,rfl,rfl,hg⟩
theorem open_pol {r:Reach}{b0:Nat}{v:Value}{d:DataW H}{ps:List MemPlace}(hg:Glob W)(hval:Value.okWide Tryz.prog W r b0 24 v)(hd:DataW.Trod enc Tryz.prog W 0 (fun _=>true) true 24 v d ps) :
  ∃ (p:Pol) (v1 v2 v3 v4 v5:Value) (l1 l2 l3 l4 l5:List ByteArray),v=pval p v1 v2 v3 v4 v5/\PolV W v1 v2 v3 v4 v5 p l1 l2 l3 l4 l5:=by
 simp only[Value.okWide,Tryz.underlying24] at hval
 obtain⟨cs,rfl,-⟩:=hval
 obtain⟨fuel,hf⟩:=hd
 obtain⟨p,v1,v2,v3,v4,v5,l1,l2,l3,l4,l5,e,hp⟩:=pol_cells hg (show DataW.trod enc Tryz.prog W 0 (fun _=>true) true fuel 24 cs.toList=_ from hf)
 refine⟨p,v1,v2,v3,v4,v5,l1,l2,l3,l4,l5,?_,hp⟩
 obtain⟨l⟩:=cs
 have e:l=_:=e
 subst e
 rfl
end
end Go.Proofs.YtkiofbikkhhdfabGreatDoor
