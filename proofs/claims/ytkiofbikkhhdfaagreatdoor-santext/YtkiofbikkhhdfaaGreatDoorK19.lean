import Derived.Test.YtkiofbikkhhdfaaGreatDoorK11
import Derived.Test.YtkiofbikkhhdfaaGreatDoorK15
import Derived.Test.YtkiofbikkhhdfaaGreatDoorK18
import Derived.SliceStrings
import Derived.OpenShut
import Derived.ShutString
import Derived.ProofKit
import Derived.ChangeOld
namespace Go.Proofs.YtkiofbikkhhdfaaGreatDoor.To
open Go.RowKit
open Utf1
theorem zeroInt (w:World):(zeroValue 3).run Tryz.prog w=.ok (.int .i64 0) w:=by kernel_rfl
theorem law9:Maps.Keyed Tryz.prog 9:=Maps.string_keyed Tryz.underlying9
theorem own_not_map {w:World}{P:Program}{base:Nat}{e k:TypeId}{size:Nat}{v:Value}{n m b:Nat}{xs:List Value}{R:Value->Option (DataW Unit × List MemPlace)}{D:DataW Unit}(h:w.ownsRow base e size v n xs)(hm:w.ownsMap P k R b m D):v.ownBlock≠some b:=by
 obtain⟨es,cl,hb,_⟩:=hm
 obtain⟨_,⟨rfl,_⟩ | ⟨g,cap,cur,rfl,_,hg,_⟩⟩:=h
 ·simp[Value.ownBlock]
 ·intro e1
  have:g=b:=by simpa [Value.ownBlock] using e1
  subst this
  rw[hg] at hb
  simp at hb
def TagMid (w0 wr:World) (start:Bool) (nm:ByteArray) (acc acc':List (List UInt8 × List UInt8)) (k:Nat) (av:Value):Prop :=
 wr.heap[w0.heap.size]?=some (.cells #[.int .i64 0,.string ⟨#[]⟩,.slice none 0 0,.bool false,.string ⟨#[]⟩] 81 (0,0)) /\
 wr.heap[w0.heap.size+1]?=some (.cells #[.int .i64 (if start then 2 else 3),.string nm,av,.bool false,.string ⟨#[]⟩] 81 (0,0)) /\
 wr.ownsRow w0.heap.size 117 2 av (atts start acc).length (attrCells (atts start acc)) /\
 (∃ D:DataW Unit,wr.ownsMap Tryz.prog 9 (plainElem Tryz.prog 3) (w0.heap.size+2) (k+1) D/\Maps.IsMap D/\Met D (acc'.map Prod.fst) (k+1)) /\
 acc.length<=k/\Below w0.heap.size w0 wr
theorem names_add (acc:List (List UInt8 × List UInt8)) (n v m:List UInt8):m∈(addAt acc n v).map Prod.fst ↔ m=n\/m∈acc.map Prod.fst:=by
 unfold addAt
 split
 ·rename_i h
  constructor
  ·exact fun h=>.inr h
  ·rintro (rfl | h)
   ·assumption
   ·exact h
 ·rw[List.map_append,List.mem_append]
  constructor
  ·rintro (h | h)
   ·exact .inr h
   ·simp at h
    exact .inl h
  ·rintro (rfl | h)
   ·right
    simp
   ·exact .inl h
theorem keep_map {w0 w1:World}{start:Bool}{nm:ByteArray}{acc:List (List UInt8 × List UInt8)}{k:Nat}{av:Value}(hst:TagSt w0 w1 start nm acc k av) (L:ByteArray)(hL:L.size<=4294967296)(hk:k<=4294967296) :
  ∃ (c:Int) (w2:World),0<=c/\c<=4294967296/\(c=0 ↔ bl L ∉ acc.map Prod.fst) /\
   (Instr.lookup 129 (.map (some (w0.heap.size+2))) (.string L) false).run Tryz.prog w1=.ok (.int .i64 c) w1 /\
   (Instr.mapUpdate 129 (.map (some (w0.heap.size+2))) (.string L) (.int .i64 (c+1))).run Tryz.prog w1=.ok () w2 /\
   (Instr.lookup 129 (.map (some (w0.heap.size+2))) (.string L) false).run Tryz.prog w2=.ok (.int .i64 (c+1)) w2 /\
   ∀ v,TagMid w0 w2 start nm acc (addAt acc (bl L) v) k av:=by
 obtain⟨h1,h2,h3,⟨D,h4,hD,hm⟩,h6,h7⟩:=hst
 have hkey:keyOf Tryz.prog 9 (.string L)=some (.string L.data.toList):=WideMaps.keyOf_string_mk Tryz.underlying9 (by unfold maxLen;omega)
 obtain⟨c,hlk,hat,_⟩:=h4.lookup_int law9 Tryz.underlying129 Tryz.underlying3 (zeroInt _) hkey
 obtain⟨c',hat',hc0,hck,hcz⟩:=hm (bl L)
 have hcc:c'=c:=by
  rw[hat] at hat'
  cases hat'
  rfl
 subst hcc
 have hwf:(Lit.int .i64 (c'+1)).wf=true:=WalkArith.wf_i64 (by omega)
 obtain⟨w2,hup,hown2,hgr⟩:=h4.update law9 Tryz.underlying129 (by unfold maxLen;omega) hkey (plainElem_int (H:=Unit) Tryz.underlying3 hwf)
 obtain⟨c2,hlk2,hat2,_⟩:=hown2.lookup_int law9 Tryz.underlying129 Tryz.underlying3 (zeroInt _) hkey
 have hc2:c2=c'+1:=by
  rw[Maps.atKey_put_same hD (show WideAt.IsKeyLit (.string L.data.toList) from trivial)] at hat2
  cases hat2
  rfl
 subst hc2
 refine⟨c',w2,hc0,by omega,hcz,hlk,hup,hlk2,fun v=>⟨?_,?_,?_,⟨_,hown2,hD.put _ _,?_⟩,h6,?_⟩⟩
 ·exact (hgr.block _ (lt_of_block h1) (by simp)).trans h1
 ·exact (hgr.block _ (lt_of_block h2) (by simp)).trans h2
 ·exact h3.kept hgr (.inr (own_not_map h3 h4))
 ·intro n
  by_cases hn:n=bl L
  ·subst hn
   refine⟨c'+1,Maps.atKey_put_same hD (show WideAt.IsKeyLit (.string L.data.toList) from trivial) _ _,by omega,by omega,?_⟩
   constructor
   ·intro h
    omega
   ·intro h
    exact absurd ((names_add acc (bl L) v (bl L)).2 (.inl rfl)) h
  ·obtain⟨d,hd1,hd2,hd3,hd4⟩:=hm n
   refine⟨d,?_,hd2,by omega,?_⟩
   ·rw[Maps.atKey_put_other (by intro e;cases e;exact hn rfl)]
    exact hd1
   ·rw[hd4,names_add]
    simp[hn]
 ·exact h7.grown hgr h7.size (fun j hj=>by cases hj;omega)
theorem TagMid.same {w0 wr:World}{start:Bool}{nm:ByteArray}{acc:List (List UInt8 × List UInt8)}{k:Nat}{av:Value}{n v:List UInt8}(h:TagMid w0 wr start nm acc (addAt acc n v) k av)(hc:start=false\/n∈acc.map Prod.fst):TagSt w0 wr start nm (addAt acc n v) (k+1) av:=by
 obtain⟨h1,h2,h3,h4,h5,h6⟩:=h
 have e:atts start (addAt acc n v)=atts start acc:=by
  rcases hc with rfl | hc
  ·rfl
  ·unfold addAt
   rw[if_pos hc]
 have e2:(addAt acc n v).length<=acc.length+1:=by
  unfold addAt
  split
  ·omega
  ·simp
 refine⟨h1,h2,?_,h4,by omega,h6⟩
 rw[e]
 exact h3
theorem bl_eta (L:ByteArray):(⟨(bl L).toArray⟩:ByteArray)=L:=by
 cases L
 simp
theorem TagMid.below {w0 wr w1:World}{start:Bool}{nm:ByteArray}{acc acc':List (List UInt8 × List UInt8)}{k:Nat}{av:Value}(h:TagMid w0 wr start nm acc acc' k av)(hb:Below wr.heap.size wr w1):TagMid w0 w1 start nm acc acc' k av:=by
 obtain⟨h1,h2,h3,⟨D,h4,h5⟩,h6,h7⟩:=h
 refine⟨(hb.block _ (lt_of_block h1)).trans h1,(hb.block _ (lt_of_block h2)).trans h2,h3.kept (below_grown hb) ?_,⟨D,h4.kept (below_grown hb) (by simp),h5⟩,h6,h7.trans (hb.mono h7.size)⟩
 cases v:av.ownBlock with
 | none=>exact .inl rfl
 | some g=>exact .inr (by simp)
theorem keep_append {w0 w3 w5:World}{nm L RV:ByteArray}{acc:List (List UInt8 × List UInt8)}{k:Nat}{av v':Value}{o:Obj}(h:TagMid w0 w3 true nm acc (addAt acc (bl L) (bl RV)) k av)(hni:bl L ∉ acc.map Prod.fst)
  (hown5:w5.ownsRow w0.heap.size 117 2 v' (acc.length+1) (attrCells acc++[.string L,.string RV]))(hgr:(w3.alloc o).grownBy w5 av.ownBlock) :
  w5.cell? ⟨w0.heap.size+1,2,none⟩=some av/\w5.frozen? ⟨w0.heap.size+1,2,none⟩=false/\TagSt w0 (w5.setCell ⟨w0.heap.size+1,2,none⟩ v') true nm (addAt acc (bl L) (bl RV)) (k+1) v':=by
 obtain⟨h1,h2,h3,⟨D,h4,h5⟩,h6,h7⟩:=h
 have a1:(w3.alloc o).heap[w0.heap.size]?=_:=(Below.heap_alloc _ _ _ (lt_of_block h1)).trans h1
 have a2:(w3.alloc o).heap[w0.heap.size+1]?=_:=(Below.heap_alloc _ _ _ (lt_of_block h2)).trans h2
 have b1:=(hgr.block _ (lt_of_block a1) (fun e=>own_apart (h3.alloc o) a1 (by decide) e.symm)).trans a1
 have b2:=(hgr.block _ (lt_of_block a2) (fun e=>own_apart (h3.alloc o) a2 (by decide) e.symm)).trans a2
 have b4:=(h4.alloc o).kept hgr (fun e=>own_not_map (h3.alloc o) (h4.alloc o) e.symm)
 have hb3:Below w0.heap.size w0 (w3.alloc o):=h7.alloc h7.size o
 have hlt:=(h3.alloc o).lt
 have hb5:Below w0.heap.size w0 w5:=hb3.grown hgr hb3.size (fun j hj=>(hlt j hj).1)
 have e2:addAt acc (bl L) (bl RV)=acc++[(bl L,bl RV)]:=by
  unfold addAt
  rw[if_neg hni]
 refine⟨tag_cell b2 2 _ rfl,tag_free b2 2,?_,?_,?_,⟨D,?_,h5⟩,?_,?_⟩
 ·exact (Below.heap_setCell _ _ _ _ (by simp)).trans b1
 ·exact tok_set b2 2 v'
 ·have e3:atts true (addAt acc (bl L) (bl RV))=acc++[(bl L,bl RV)]:=e2
  rw[e3,attrCells_app,List.length_append]
  have e4:attrCells [(bl L,bl RV)]=[.string L,.string RV]:=by
   show [Value.string ⟨(bl L).toArray⟩,.string ⟨(bl RV).toArray⟩]=_
   rw[bl_eta,bl_eta]
  rw[e4]
  exact own_set hown5 b2 (by decide) 2 v'
 ·obtain⟨es,cl,hm,hrest⟩:=b4
  exact⟨es,cl,(Below.heap_setCell _ _ _ _ (by simp)).trans hm,hrest⟩
 ·rw[e2,List.length_append]
  simp only[List.length_cons,List.length_nil]
  omega
 ·exact hb5.setCell (p:=⟨w0.heap.size+1,2,none⟩) (Nat.le_succ _) v'
end Go.Proofs.YtkiofbikkhhdfaaGreatDoor.To
namespace Go.Proofs.YtkiofbikkhhdfaaGreatDoor.To
open Go.RowKit
open Utf1
def tokCells (t:Tk) (av:Value):List Value:=[.int .i64 (t.kind:Int),.string ⟨t.name.toArray⟩,av,.bool t.closed,.string ⟨t.text.toArray⟩]
def toksCells:List (Tk × Value)->List Value
 | []=>[]
 | p :: r=>tokCells p.1 p.2++toksCells r
theorem toksCells_app:∀ a b,toksCells (a++b)=toksCells a++toksCells b
 | [],_=>rfl
 | p :: r,b=>by
  simp only[toksCells,List.cons_append,toksCells_app r b,List.append_assoc]
def ToksAt (w:World) (base:Nat) (v:Value) (l:List (Tk × Value)):Prop :=
 w.ownsRow base 81 5 v l.length (toksCells l)/\∀ p∈l,w.ownsRow base 117 2 p.2 p.1.attrs.length (attrCells p.1.attrs)
theorem own_below {w w1:World}{base:Nat}{e:TypeId}{size:Nat}{v:Value}{n:Nat}{xs:List Value}(h:w.ownsRow base e size v n xs)(hb:Below w.heap.size w w1):w1.ownsRow base e size v n xs:=by
 refine h.kept (below_grown hb) ?_
 cases hv:v.ownBlock with
 | none=>exact .inl rfl
 | some g=>exact .inr (by simp)
theorem own_base {w:World}{base base':Nat}{e:TypeId}{size:Nat}{v:Value}{n:Nat}{xs:List Value}(h:w.ownsRow base e size v n xs)(hb:base'<=base):w.ownsRow base' e size v n xs:=by
 obtain⟨h1,h2 | ⟨g,cap,cur,h3,h4,h5⟩⟩:=h
 ·exact⟨h1,.inl h2⟩
 ·exact⟨h1,.inr ⟨g,cap,cur,h3,by omega,h5⟩⟩
theorem ToksAt.below {w w1:World}{base:Nat}{v:Value}{l:List (Tk × Value)}(h:ToksAt w base v l)(hb:Below w.heap.size w w1):ToksAt w1 base v l :=
 ⟨own_below h.1 hb,fun p hp=>own_below (h.2 p hp) hb⟩
theorem ToksAt.nil (w:World) (base:Nat):ToksAt w base (.slice none 0 0) []:=⟨World.ownsRow_nil _ _ _ _,fun p hp=>by cases hp⟩
theorem own_two {w:World}{base base':Nat}{e e':TypeId}{size size':Nat}{v v':Value}{n n':Nat}{xs xs':List Value}(h:w.ownsRow base e size v n xs)(h':w.ownsRow base' e' size' v' n' xs')(hne:e≠e'):v.ownBlock=none\/v.ownBlock≠v'.ownBlock:=by
 obtain⟨_,⟨rfl,_⟩ | ⟨g',cap,cur,rfl,_,hg,_⟩⟩:=h'
 ·cases hv:v.ownBlock with
  | none=>exact .inl rfl
  | some g=>exact .inr (by simp[Value.ownBlock])
 ·exact .inr (own_apart h hg hne)
theorem ToksAt.more {w w1:World}{base:Nat}{v v' av:Value}{l:List (Tk × Value)}{t:Tk}{o:Obj}(h:ToksAt w base v l)(ht:w.ownsRow base 117 2 av t.attrs.length (attrCells t.attrs))
  (hown:w1.ownsRow base 81 5 v' (l.length+1) (toksCells l++tokCells t av))(hgr:(w.alloc o).grownBy w1 v.ownBlock):ToksAt w1 base v' (l++[(t,av)]):=by
 have hk:∀ (t':Tk) (a:Value),w.ownsRow base 117 2 a t'.attrs.length (attrCells t'.attrs)->w1.ownsRow base 117 2 a t'.attrs.length (attrCells t'.attrs):=fun t' a h' =>
  (h'.alloc o).kept hgr (own_two (h'.alloc o) (h.1.alloc o) (by decide))
 refine⟨?_,?_⟩
 ·rw[toksCells_app,List.length_append]
  have e:toksCells [(t,av)]=tokCells t av:=by simp[toksCells]
  rw[e]
  exact hown
 ·intro p hp
  rcases List.mem_append.1 hp with hp | hp
  ·exact hk _ _ (h.2 p hp)
  ·have:p=(t,av):=by simpa using hp
   subst this
   exact hk _ _ ht
theorem infoTok:(Tryz.prog.info? 81).map (fun i=>(i.zero,i.size,i.bytes))=some (some (.agg #[.int .i64 0,.string ⟨#[]⟩,.slice none 0 0,.bool false,.string ⟨#[]⟩]),5,72):=by kernel_rfl
theorem five_new (w:World) (a b c d e:Value) (t:TypeId):∀ (j:Nat) (u:Value),[a,b,c,d,e][j]?=some u->(w.alloc (.cells #[a,b,c,d,e] t)).cell? ((⟨w.heap.size,0,none⟩:Addr).add j)=some u:=by
 intro j u hj
 match j,hj with
 | 0,hj=>simp at hj;subst hj;simp[Addr.add]
 | 1,hj=>simp at hj;subst hj;simp[Addr.add]
 | 2,hj=>simp at hj;subst hj;simp[Addr.add]
 | 3,hj=>simp at hj;subst hj;simp[Addr.add]
 | 4,hj=>simp at hj;subst hj;simp[Addr.add]
 | _+5,hj=>simp at hj
theorem five_one (k:Int) (a:ByteArray) (p:Option Addr) (m c:Nat) (b:Bool) (d:ByteArray):∀ u∈[Value.int .i64 k,.string a,.slice p m c,.bool b,.string d],u.oneCell'=true:=by
 intro u hu
 simp at hu
 rcases hu with rfl | rfl | rfl | rfl | rfl <;> rfl
theorem toksCells_at:∀ (l:List (Tk × Value)) (i:Nat) (p:Tk × Value),l[i]?=some p->∀ j,j < 5->(toksCells l)[i*5+j]?=(tokCells p.1 p.2)[j]?
 | [],i,p,h,_,_=>by simp at h
 | q :: r,0,p,h,j,hj=>by
  have:q=p:=by simpa using h
  subst this
  show (tokCells q.1 q.2++toksCells r)[0*5+j]?=_
  rw[show 0*5+j=j by omega,List.getElem?_append_left (by simp[tokCells];omega)]
 | q :: r,i+1,p,h,j,hj=>by
  have h':r[i]?=some p:=by simpa using h
  show (tokCells q.1 q.2++toksCells r)[(i+1)*5+j]?=_
  rw[List.getElem?_append_right (by simp[tokCells];omega),show (i+1)*5+j - (tokCells q.1 q.2).length=i*5+j by simp[tokCells];omega]
  exact toksCells_at r i p h' j hj
theorem tok_at {w:World}{base g n cap:Nat}{l:List (Tk × Value)}(h:ToksAt w base (.slice (some ⟨g,0,none⟩) n cap) l) (i:Nat) (p:Tk × Value)(hp:l[i]?=some p) (j:Nat)(hj:j < 5):w.cell? ⟨g,i*5+j,none⟩=(tokCells p.1 p.2)[j]?:=by
 have hi:i < l.length:=(List.getElem?_eq_some_iff.1 hp).1
 have hn:n=l.length:=by
  obtain⟨_,⟨e,_⟩ | ⟨g',cap',cur,e,_⟩⟩:=h.1
  ·cases e
  ·cases e
   rfl
 subst hn
 rw[h.1.cellAt (i*5+j) (by omega),toksCells_at l i p hp j hj]
theorem toks_slice {w:World}{base:Nat}{v:Value}{l:List (Tk × Value)}(h:ToksAt w base v l)(hl:l≠[]):∃ g cap,v=.slice (some ⟨g,0,none⟩) l.length cap/\base<=g:=by
 obtain⟨_,⟨_,e⟩ | ⟨g',cap',cur,e,hb,_⟩⟩:=h.1
 ·exact absurd (List.length_eq_zero_iff.1 e) hl
 ·exact⟨g',cap',e,hb⟩
end Go.Proofs.YtkiofbikkhhdfaaGreatDoor.To
namespace Go.Proofs.YtkiofbikkhhdfaaGreatDoor.Dm
open Go.RowKit
open Utf1
theorem runB_good:∀ (l:List Td) (s u:Bs),Good s->s.o<=64->s.n<=2000->runB l s=some u->Good u/\u.o<=64/\u.n<=2000
 | [],s,u,h,h1,h2,e=>by
  cases e
  exact⟨h,h1,h2⟩
 | k :: l,s,u,h,h1,h2,e=>by
  unfold runB at e
  split at e
  ·rename_i hc
   exact runB_good l _ u (take_good h k).1 hc.1 hc.2 e
  ·cases e
theorem tree_cnt {s:Bs}(h:Good s):cntL (treeB s)=s.n:=by
 have g:=shut_good h (Nat.le_refl 1) (List.length_pos_iff.2 h.ne)
 obtain⟨nd,hnd⟩:=List.length_eq_one_iff.1 g.2.2
 have hc:=g.1.cnt
 unfold treeB
 rw[hnd] at hc ⊢
 have hc:cntN nd+0+tx (shutB 1 s).t=s.n+1:=hc
 have h1:=cnt_text nd (shutB 1 s).t
 have h2:=cntN_kids (textIn nd (shutB 1 s).t)
 show cntL (textIn nd (shutB 1 s).t).kids=_
 omega
theorem build_cnt {l:List Td}{ns:List Nd}(h:buildB l=some ns):cntL ns<=2000:=by
 unfold buildB at h
 cases hr:runB l bs0 with
 | none=>rw[hr] at h;cases h
 | some u =>
  rw[hr] at h
  cases h
  have:=runB_good l bs0 u good0 (by decide) (by decide) hr
  rw[tree_cnt this.1]
  exact this.2.2
end Go.Proofs.YtkiofbikkhhdfaaGreatDoor.Dm
namespace Utf1
mutual
def deepN:Nd->Nat
 | .mk n _ _ k=>deepL k+(if n=[] then 0 else 1)
def deepL:List Nd->Nat
 | []=>0
 | n :: r=>max (deepN n) (deepL r)
end
theorem deepN_kids (n:Nd):deepN n=deepL n.kids+(if n.name=[] then 0 else 1):=by
 cases n
 rw[deepN]
 rfl
theorem deepL_app:∀ a b:List Nd,deepL (a++b)=max (deepL a) (deepL b)
 | [],b=>by simp[deepL]
 | n :: a,b=>by
  rw[List.cons_append,deepL,deepL,deepL_app a b]
  omega
end Utf1
namespace Go.Proofs.YtkiofbikkhhdfaaGreatDoor.Dm
open Go.RowKit
open Utf1
theorem addKid_text (p x:Nd):(addKid p x).text=p.text:=by
 cases p
 rfl
theorem textIn_text (p:Nd) (t:List UInt8):(textIn p t).text=p.text:=by
 unfold textIn
 split
 ·rfl
 ·exact addKid_text _ _
theorem closeR_ind {Pr:List Nd->List UInt8->Prop}(h1:∀ nd p r t,Pr (nd :: p :: r) t->Pr (addKid p (textIn nd t) :: r) []):∀ n r t,Pr r t->Pr (closeR n r t).1 (closeR n r t).2
 | 0,r,t,h=>by
  have:closeR 0 r t=(r,t):=by cases r <;> rfl
  rw[this]
  exact h
 | n+1,[],t,h=>h
 | n+1,[a],t,h=>h
 | n+1,nd :: p :: r,t,h=>closeR_ind h1 n _ _ (h1 nd p r t h)
theorem closeIn_ind {Pr:List Nd->List UInt8->Prop}(h1:∀ nd p r t,Pr (nd :: p :: r) t->Pr (addKid p (textIn nd t) :: r) []) (ns:List (List UInt8)) (r:List Nd) (t:List UInt8)(h:Pr r t):Pr (closeIn ns r t).1 (closeIn ns r t).2:=by
 unfold closeIn
 split
 ·exact closeR_ind h1 _ _ _ h
 ·exact h
theorem wayR_ind {Pr:List Nd->List UInt8->Prop}(h1:∀ nd p r t,Pr (nd :: p :: r) t->Pr (addKid p (textIn nd t) :: r) []) (name:List UInt8) (r:List Nd) (t:List UInt8)(h:Pr r t):Pr (wayR name r t).1 (wayR name r t).2:=by
 have c:=closeIn_ind h1 [[112]] r t h
 unfold wayR
 split
 ·split
  ·split
   ·exact closeR_ind h1 _ _ _ c
   ·exact c
  ·exact c
 ·exact h
end Go.Proofs.YtkiofbikkhhdfaaGreatDoor.Dm
namespace Utf1
mutual
def FineN (bs vs:List (List UInt8)):Nd->Bool->Bool->Bool->Prop
 | .mk n a t k,p,li,pr=>(n=[]->t≠[]/\k=[]/\a=[]/\pr=false)/\(n≠[]->t=[]/\¬ (p=true/\n∈bs)/\¬ (li=true/\n=[108,105])/\(n∈vs->k=[])/\FineL bs vs k (p || decide (n=[112])) ((li && decide (n≠[117,108]) && decide (n≠[111,108])) || decide (n=[108,105])) false)
def FineL (bs vs:List (List UInt8)):List Nd->Bool->Bool->Bool->Prop
 | [],_,_,_=>True
 | nd :: r,p,li,pr=>FineN bs vs nd p li pr/\FineL bs vs r p li (decide (nd.name=[]))
end
end Utf1
namespace Go.Proofs.YtkiofbikkhhdfaaGreatDoor.Dm
open Go.RowKit
open Utf1
def lastT (l:List Nd) (pr:Bool):Bool:=match l.getLast? with | none=>pr | some y=>decide (y.name=[])
theorem lastT_cons (x:Nd) (l:List Nd) (pr:Bool):lastT (x :: l) pr=lastT l (decide (x.name=[])):=by
 unfold lastT
 cases l with
 | nil=>rfl
 | cons a b =>
  rw[List.getLast?_cons_cons]
  obtain⟨y,hy⟩:∃ y,(a :: b).getLast?=some y:=⟨_,List.getLast?_eq_some_getLast (by simp)⟩
  rw[hy]
theorem lastT_snoc (l:List Nd) (x:Nd) (pr:Bool):lastT (l++[x]) pr=decide (x.name=[]):=by
 unfold lastT
 rw[List.getLast?_concat]
theorem fine_app {bs vs:List (List UInt8)}:∀ (a:List Nd) (x:Nd) (p li pr:Bool),FineL bs vs a p li pr->FineN bs vs x p li (lastT a pr)->FineL bs vs (a++[x]) p li pr
 | [],x,p,li,pr,_,h=>by
  show FineL bs vs [x] p li pr
  rw[FineL]
  exact⟨h,by rw[FineL];trivial⟩
 | y :: a,x,p,li,pr,h1,h2=>by
  rw[List.cons_append,FineL]
  rw[FineL] at h1
  rw[lastT_cons] at h2
  exact⟨h1.1,fine_app a x p li _ h1.2 h2⟩
def ctxN:List (List UInt8)->Bool × Bool
 | []=>(false,false)
 | a :: rest=>if rest=[] then (false,false) else ((ctxN rest).1 || decide (a=[112]),((ctxN rest).2 && decide (a≠[117,108]) && decide (a≠[111,108])) || decide (a=[108,105]))
def okN:List (List UInt8)->Prop
 | []=>True
 | a :: rest=>(rest≠[]->¬ ((ctxN rest).1=true/\a∈blocks)/\¬ ((ctxN rest).2=true/\a=[108,105]))/\okN rest
def innerN (ns:List (List UInt8)):List (List UInt8)->Nat
 | []=>0
 | a :: rest=>if rest=[] then 0 else if a∈ns then rest.length else innerN ns rest
theorem inner_names (ns:List (List UInt8)):∀ r:List Nd,innerR ns r=innerN ns (r.map Nd.name)
 | []=>rfl
 | nd :: rest=>by
  rw[List.map_cons]
  unfold innerR innerN
  by_cases h:rest=[]
  ·rw[if_pos h,if_pos (by rw[h];rfl)]
  ·have h':rest.map Nd.name≠[]:=by simpa using h
   rw[if_neg h,if_neg h',List.length_map,inner_names ns rest]
theorem close_names:∀ (n:Nat) (r:List Nd) (t:List UInt8),n < r.length->(closeR n r t).1.map Nd.name=(r.map Nd.name).drop n
 | 0,r,t,_=>by
  have:closeR 0 r t=(r,t):=by cases r <;> rfl
  rw[this]
  rfl
 | n+1,[],t,h=>by simp at h
 | n+1,[_],t,h=>by simp at h
 | n+1,nd :: p :: r,t,h=>by
  have ih:=close_names n (addKid p (textIn nd t) :: r) [] (by simp only[List.length_cons] at h ⊢;omega)
  show (closeR n (addKid p (textIn nd t) :: r) []).1.map Nd.name=_
  rw[ih]
  simp only[List.map_cons,addKid_name,List.drop_succ_cons]
theorem innerN_lt (ns:List (List UInt8)):∀ L:List (List UInt8),L≠[]->innerN ns L < L.length
 | [],h=>absurd rfl h
 | a :: rest,_=>by
  unfold innerN
  split
  ·simp
  ·rename_i hr
   split
   ·simp
   ·have:=innerN_lt ns rest hr
    simp only[List.length_cons]
    omega
theorem okN_drop:∀ (n:Nat) (L:List (List UInt8)),okN L->okN (L.drop n)
 | 0,_,h=>h
 | _+1,[],h=>h
 | n+1,_ :: rest,h=>okN_drop n rest h.2
theorem ctx_drop:∀ (n:Nat) (L:List (List UInt8)),(ctxN L).1=false->(ctxN (L.drop n)).1=false
 | 0,L,h=>h
 | n+1,[],h=>h
 | n+1,a :: rest,h=>by
  refine ctx_drop n rest ?_
  unfold ctxN at h
  split at h
  ·rename_i hr
   rw[hr]
   rfl
  ·simp only[Bool.or_eq_false_iff] at h
   exact h.1
def shutN (ns:List (List UInt8)) (L:List (List UInt8)):List (List UInt8):=if 0 < innerN ns L then L.drop (L.length - innerN ns L) else L
theorem p_closed:∀ L:List (List UInt8),okN L->(ctxN (shutN [[112]] L)).1=false
 | [],_=>rfl
 | a :: rest,h=>by
  by_cases hr:rest=[]
  ·subst hr
   rfl
  ·have ih:=p_closed rest h.2
   have hpos:0 < rest.length:=List.length_pos_iff.2 hr
   unfold shutN innerN
   rw[if_neg hr]
   by_cases ha:a∈[[112]]
   ·rw[if_pos ha,if_pos hpos,List.length_cons,Nat.add_sub_cancel_left]
    have ha':a=[112]:=by simpa using ha
    have:=(h.1 hr).1
    show (ctxN rest).1=false
    cases hc:(ctxN rest).1 with
    | false=>rfl
    | true=>exact absurd ⟨hc,by rw[ha'];decide⟩ this
   ·rw[if_neg ha]
    unfold shutN at ih
    have hlt:=innerN_lt [[112]] rest hr
    by_cases hi:0 < innerN [[112]] rest
    ·rw[if_pos hi] at ih ⊢
     rw[List.length_cons,show rest.length+1 - innerN [[112]] rest=(rest.length - innerN [[112]] rest)+1 by omega,List.drop_succ_cons]
     exact ih
    ·rw[if_neg hi] at ih ⊢
     unfold ctxN
     rw[if_neg hr]
     have:decide (a=[112])=false:=decide_eq_false (by simpa using ha)
     show ((ctxN rest).1 || decide (a=[112]))=false
     rw[ih,this]
     rfl
theorem li_closed:∀ L:List (List UInt8),okN L->(L.reverse[innerN [[108,105],[117,108],[111,108]] L]?=some [108,105]->(ctxN (L.drop (L.length - innerN [[108,105],[117,108],[111,108]] L))).2=false)/\(L.reverse[innerN [[108,105],[117,108],[111,108]] L]?≠some [108,105]->(ctxN L).2=false)
 | [],_=>⟨fun _=>rfl,fun _=>rfl⟩
 | a :: rest,h=>by
  by_cases hr:rest=[]
  ·subst hr
   exact⟨fun _=>rfl,fun _=>rfl⟩
  ·have ih:=li_closed rest h.2
   have hpos:0 < rest.length:=List.length_pos_iff.2 hr
   have hlt:=innerN_lt [[108,105],[117,108],[111,108]] rest hr
   unfold innerN
   rw[if_neg hr]
   by_cases ha:a∈[[108,105],[117,108],[111,108]]
   ·rw[if_pos ha,List.length_cons,Nat.add_sub_cancel_left,List.reverse_cons,List.getElem?_append_right (by simp),List.length_reverse,Nat.sub_self]
    constructor
    ·intro e
     have ha':a=[108,105]:=by simpa using e
     have:=(h.1 hr).2
     show (ctxN rest).2=false
     cases hc:(ctxN rest).2 with
     | false=>rfl
     | true=>exact absurd ⟨hc,ha'⟩ this
    ·intro e
     have ha':a≠[108,105]:=by simpa using e
     unfold ctxN
     rw[if_neg hr]
     simp only[List.mem_cons,List.not_mem_nil,or_false] at ha
     rcases ha with rfl | rfl | rfl
     ·exact absurd rfl ha'
     ·simp
     ·simp
   ·rw[if_neg ha]
    have hge:(rest.reverse++[a])[innerN [[108,105],[117,108],[111,108]] rest]?=rest.reverse[innerN [[108,105],[117,108],[111,108]] rest]?:=List.getElem?_append_left (by rw[List.length_reverse];exact hlt)
    rw[List.reverse_cons,hge]
    simp only[List.mem_cons,List.not_mem_nil,or_false,not_or] at ha
    constructor
    ·intro e
     rw[List.length_cons,show rest.length+1 - innerN [[108,105],[117,108],[111,108]] rest=(rest.length - innerN [[108,105],[117,108],[111,108]] rest)+1 by omega,List.drop_succ_cons]
     exact ih.1 e
    ·intro e
     have:=ih.2 e
     unfold ctxN
     rw[if_neg hr]
     show ((ctxN rest).2 && decide (a≠[117,108]) && decide (a≠[111,108]) || decide (a=[108,105]))=false
     rw[this,decide_eq_false ha.1]
     rfl
theorem way_ctx (name:List UInt8) (r:List Nd) (t:List UInt8)(hr:r≠[])(hok:okN (r.map Nd.name))(hroot:r.getLast?.map Nd.name=some []):(name∈blocks->(ctxN ((wayR name r t).1.map Nd.name)).1=false)/\(name=[108,105]->(ctxN ((wayR name r t).1.map Nd.name)).2=false):=by
 have hlt:=innerR_lt [[112]] r hr
 have hc1:(closeIn [[112]] r t).1.map Nd.name=shutN [[112]] (r.map Nd.name):=by
  unfold closeIn shutN
  rw[<-inner_names,List.length_map]
  split
  ·exact close_names _ r t (by omega)
  ·rfl
 have hp:=p_closed _ hok
 rw[<-hc1] at hp
 have hok1:okN ((closeIn [[112]] r t).1.map Nd.name):=by
  rw[hc1]
  unfold shutN
  split
  ·exact okN_drop _ _ hok
  ·exact hok
 have hc:=closeIn_all [[112]] r t hr
 have hne:(closeIn [[112]] r t).1≠[]:=List.length_pos_iff.1 hc.1
 have hroot1:=(closeIn_root [[112]] r t hr).trans hroot
 obtain⟨r1,t1,e1⟩:∃ r1 t1,closeIn [[112]] r t=(r1,t1):=⟨_,_,rfl⟩
 rw[e1] at hp hok1 hne hroot1
 have hp:(ctxN (r1.map Nd.name)).1=false:=hp
 have hl:=li_closed _ hok1
 have hlt2:=innerR_lt [[108,105],[117,108],[111,108]] r1 hne
 unfold wayR
 rw[e1]
 by_cases hb:name∈blocks
 ·rw[if_pos hb]
  by_cases hli:name=[108,105]
  ·rw[if_pos hli]
   simp only[]
   have hget:r1.reverse[innerR [[108,105],[117,108],[111,108]] r1]?.map Nd.name=(r1.map Nd.name).reverse[innerN [[108,105],[117,108],[111,108]] (r1.map Nd.name)]?:=by
    rw[<-inner_names,<-List.map_reverse,List.getElem?_map]
   by_cases hh:r1.reverse[innerR [[108,105],[117,108],[111,108]] r1]?.map Nd.name=some [108,105]
   ·rw[if_pos hh]
    by_cases h0:innerR [[108,105],[117,108],[111,108]] r1=0
    ·exfalso
     rw[h0,<-List.head?_eq_getElem?,List.head?_reverse,hroot1] at hh
     exact absurd hh (by decide)
    ·have hcn:=close_names (r1.length - innerR [[108,105],[117,108],[111,108]] r1) r1 t1 (by omega)
     refine⟨fun _=>?_,fun _=>?_⟩
     ·rw[hcn]
      exact ctx_drop _ _ hp
     ·rw[hcn]
      have:=hl.1 (by rw[<-hget];exact hh)
      rw[List.length_map,<-inner_names] at this
      exact this
   ·rw[if_neg hh]
    exact⟨fun _=>hp,fun _=>hl.2 (by rw[<-hget];exact hh)⟩
  ·rw[if_neg hli]
   exact⟨fun _=>hp,fun e=>absurd e hli⟩
 ·rw[if_neg hb]
  exact⟨fun h=>absurd h hb,fun e=>absurd (by rw[e];decide) hb⟩
end Go.Proofs.YtkiofbikkhhdfaaGreatDoor.Dm
namespace Go.Proofs.YtkiofbikkhhdfaaGreatDoor.Dm
open Go.RowKit
open Utf1
theorem FineN_iff {bs vs:List (List UInt8)}(x:Nd) (p li pr:Bool):FineN bs vs x p li pr ↔ (x.name=[]->x.text≠[]/\x.kids=[]/\x.attrs=[]/\pr=false)/\(x.name≠[]->x.text=[]/\¬ (p=true/\x.name∈bs)/\¬ (li=true/\x.name=[108,105])/\(x.name∈vs->x.kids=[])/\FineL bs vs x.kids (p || decide (x.name=[112])) ((li && decide (x.name≠[117,108]) && decide (x.name≠[111,108])) || decide (x.name=[108,105])) false):=by
 cases x
 rw[FineN]
 exact Iff.rfl
theorem fine_textIn {bs vs:List (List UInt8)}(nd:Nd) (t:List UInt8) (p li:Bool)(h:FineL bs vs nd.kids p li false)(hl:lastT nd.kids false=false):FineL bs vs (textIn nd t).kids p li false:=by
 unfold textIn
 split
 ·exact h
 ·rename_i ht
  show FineL bs vs (nd.kids++[.mk [] [] t []]) p li false
  refine fine_app nd.kids _ p li false h ?_
  rw[FineN_iff]
  exact⟨fun _=>⟨ht,rfl,rfl,hl⟩,fun hn=>absurd rfl hn⟩
theorem deep_textIn (nd:Nd) (t:List UInt8):deepL (textIn nd t).kids=deepL nd.kids:=by
 unfold textIn
 split
 ·rfl
 ·show deepL (nd.kids++[.mk [] [] t []])=_
  rw[deepL_app]
  have:deepL [.mk [] [] t []]=0:=rfl
  omega
theorem kids_add (p x:Nd):(addKid p x).kids=p.kids++[x]:=by
 cases p
 rfl
def ctxR (r:List Nd):Bool × Bool:=ctxN (r.map Nd.name)
def okR:List Nd->Prop
 | []=>True
 | nd :: rest=>(rest≠[]->nd.name≠[]/\nd.text=[]/\nd.name ∉ voids)/\FineL blocks voids nd.kids (ctxR (nd :: rest)).1 (ctxR (nd :: rest)).2 false/\okR rest
def dpR:List Nd->Prop
 | []=>True
 | nd :: rest=>rest.length+deepL nd.kids<=65/\dpR rest
structure Fi (K:Nat) (r:List Nd):Prop where
 ok:okR r
 nm:okN (r.map Nd.name)
 lk:∀ nd q,r=nd :: q->lastT nd.kids false=false
 dp:dpR r
 len:r.length<=K
theorem ctx_same {a b:Nd}(r:List Nd)(h:a.name=b.name):ctxR (a :: r)=ctxR (b :: r):=by
 unfold ctxR
 rw[List.map_cons,List.map_cons,h]
theorem names_same {a b:Nd}(r:List Nd)(h:a.name=b.name):(a :: r).map Nd.name=(b :: r).map Nd.name:=by rw[List.map_cons,List.map_cons,h]
theorem ctx_in (nd p:Nd) (r:List Nd):ctxR (nd :: p :: r)=((ctxR (p :: r)).1 || decide (nd.name=[112]),((ctxR (p :: r)).2 && decide (nd.name≠[117,108]) && decide (nd.name≠[111,108])) || decide (nd.name=[108,105])):=by
 unfold ctxR
 rw[List.map_cons]
 rw[ctxN,if_neg (by simp)]
theorem close_fi (K:Nat):∀ nd p r,Fi K (nd :: p :: r)->∀ t,Fi K (addKid p (textIn nd t) :: r):=by
 intro nd p r h t
 obtain⟨⟨o1,o2,o3⟩,⟨n1,n2⟩,lk,⟨d1,d2⟩,len⟩:=h
 obtain⟨e1,e2,e3⟩:=o1 (by simp)
 have hlk:=lk nd (p :: r) rfl
 have hn:=n1 (by simp)
 have hX:FineN blocks voids (textIn nd t) (ctxR (p :: r)).1 (ctxR (p :: r)).2 (lastT p.kids false):=by
  rw[FineN_iff,textIn_name,textIn_text]
  refine⟨fun e=>absurd e e1,fun _=>⟨e2,hn.1,hn.2,fun e=>absurd e e3,?_⟩⟩
  refine fine_textIn nd t _ _ ?_ hlk
  rw[ctx_in] at o2
  exact o2
 obtain⟨q1,q2,q3⟩:=o3
 refine⟨⟨?_,?_,q3⟩,?_,?_,⟨?_,d2.2⟩,?_⟩
 ·intro hr
  rw[addKid_name,addKid_text]
  exact q1 hr
 ·rw[ctx_same r (addKid_name p (textIn nd t)),kids_add]
  exact fine_app _ _ _ _ _ q2 hX
 ·rw[names_same r (addKid_name p (textIn nd t))]
  exact n2
 ·intro a q e
  cases e
  rw[kids_add,lastT_snoc,textIn_name]
  exact decide_eq_false e1
 ·rw[kids_add,deepL_app]
  have h1:deepL [textIn nd t]=deepL nd.kids+1:=by
   rw[deepL,deepL,deepN_kids,textIn_name,if_neg e1,deep_textIn]
   omega
  have h2:=d2.1
  simp only[List.length_cons] at d1
  omega
 ·simp only[List.length_cons] at len ⊢
  omega
theorem start_fi {s:Bs}(hg:Good s) (name:List UInt8) (at':List (List UInt8 × List UInt8))(h:Fi (s.o+1) s.r)(ho:s.o<=64):Fi ((startB name at' s).o+1) (startB name at' s).r:=by
 have hw:=wayR_ind (Pr:=fun r _=>Fi (s.o+1) r) (fun nd p r t h=>close_fi _ nd p r h t) name s.r s.t h
 have hctx:=way_ctx name s.r s.t hg.ne h.nm hg.root
 unfold startB startR
 by_cases hn:name=[]
 ·rw[if_pos hn]
  exact h
 ·rw[if_neg hn]
  cases hh:(wayR name s.r s.t).1 with
  | nil=>exact h
  | cons nd q =>
   rw[hh] at hw hctx
   obtain⟨⟨o1,o2,o3⟩,n2,lk,⟨d1,d2⟩,len⟩:=hw
   have hlk:=lk nd q rfl
   simp only[]
   generalize (wayR name s.r s.t).2=t1
   have hk:=fine_textIn nd t1 _ _ o2 hlk
   have hdt:=deep_textIn nd t1
   simp only[List.length_cons] at len
   have hX:∀ pr,FineN blocks voids (.mk name at' [] []) (ctxR (nd :: q)).1 (ctxR (nd :: q)).2 pr:=by
    intro pr
    rw[FineN_iff]
    refine⟨fun e=>absurd e hn,fun _=>⟨rfl,?_,?_,fun _=>rfl,?_⟩⟩
    ·rintro ⟨e1,e2⟩
     have:=hctx.1 e2
     unfold ctxR at e1
     rw[this] at e1
     cases e1
    ·rintro ⟨e1,e2⟩
     have:=hctx.2 e2
     unfold ctxR at e1
     rw[this] at e1
     cases e1
    ·show FineL blocks voids [] _ _ _
     rw[FineL]
     trivial
   by_cases hv:name∈voids
   ·rw[if_pos hv]
    show Fi (s.o+1) (addKid (textIn nd t1) (.mk name at' [] []) :: q)
    have hnm:(addKid (textIn nd t1) (.mk name at' [] [])).name=nd.name:=by rw[addKid_name,textIn_name]
    refine⟨⟨?_,?_,o3⟩,?_,?_,⟨?_,d2⟩,by simp only[List.length_cons];exact len⟩
    ·intro hq
     rw[hnm,addKid_text,textIn_text]
     exact o1 hq
    ·rw[ctx_same q hnm,kids_add]
     exact fine_app _ _ _ _ _ hk (hX _)
    ·rw[names_same q hnm]
     exact n2
    ·intro a b e
     cases e
     rw[kids_add,lastT_snoc]
     exact decide_eq_false hn
    ·rw[kids_add,deepL_app,hdt]
     have h1:deepL [.mk name at' [] []]=1:=by
      rw[deepL,deepL,deepN,deepL,if_neg hn]
      rfl
     omega
   ·rw[if_neg hv]
    show Fi (max s.o (q.length+1)+1) (.mk name at' [] [] :: textIn nd t1 :: q)
    have hnm:=textIn_name nd t1
    refine⟨⟨fun _=>⟨hn,rfl,hv⟩,?_,?_,?_,o3⟩,⟨fun _=>?_,?_⟩,?_,⟨?_,?_,d2⟩,?_⟩
    ·show FineL blocks voids [] _ _ _
     rw[FineL]
     trivial
    ·intro hq
     rw[hnm,textIn_text]
     exact o1 hq
    ·rw[ctx_same q hnm]
     exact hk
    ·have hx:=((FineN_iff _ _ _ _).1 (hX false)).2 hn
     have e:ctxN ((textIn nd t1 :: q).map Nd.name)=ctxR (nd :: q):=by
      unfold ctxR
      rw[names_same q hnm]
     show ¬((ctxN ((textIn nd t1 :: q).map Nd.name)).1=true/\name∈blocks)/\¬((ctxN ((textIn nd t1 :: q).map Nd.name)).2=true/\name=[108,105])
     rw[e]
     exact⟨hx.2.1,hx.2.2.1⟩
    ·show okN ((textIn nd t1 :: q).map Nd.name)
     rw[names_same q hnm]
     exact n2
    ·intro a b e
     cases e
     rfl
    ·show (textIn nd t1 :: q).length+deepL []<=65
     simp only[List.length_cons,deepL]
     omega
    ·rw[hdt]
     exact d1
    ·simp only[List.length_cons]
     omega
theorem shut_fi {K:Nat}(a:Nat) (s:Bs)(h:Fi K s.r):Fi K (shutB a s).r :=
 closeR_ind (Pr:=fun r _=>Fi K r) (fun nd p r t h=>close_fi _ nd p r h t) _ s.r s.t h
theorem end_fi {s:Bs}(hg:Good s) (name:List UInt8)(h:Fi (s.o+1) s.r)(ho:s.o<=64):Fi ((endB name s).o+1) (endB name s).r:=by
 unfold endB
 split
 ·exact shut_fi _ s h
 ·split
  ·exact shut_fi _ _ (start_fi hg [112] [] h ho)
  ·split
   ·exact start_fi hg [98,114] [] h ho
   ·exact h
theorem take_fi {s:Bs}(hg:Good s) (k:Td)(h:Fi (s.o+1) s.r)(ho:s.o<=64):Fi ((takeB k s).o+1) (takeB k s).r:=by
 unfold takeB
 split
 ·exact h
 ·split
  ·exact start_fi hg _ _ h ho
  ·split
   ·exact end_fi hg _ h ho
   ·exact h
theorem run_fi:∀ (l:List Td) (s u:Bs),Good s->Fi (s.o+1) s.r->s.o<=64->runB l s=some u->Fi (u.o+1) u.r
 | [],s,u,_,h,_,e=>by
  cases e
  exact h
 | k :: l,s,u,hg,h,ho,e=>by
  unfold runB at e
  split at e
  ·rename_i hc
   exact run_fi l _ u (take_good hg k).1 (take_fi hg k h ho) hc.1 e
  ·cases e
theorem fi0:Fi (bs0.o+1) bs0.r:=⟨⟨fun h=>absurd rfl h,by show FineL blocks voids [] _ _ _;rw[FineL];trivial,trivial⟩,⟨fun h=>absurd rfl h,trivial⟩,fun nd q e=>by cases e;rfl,⟨by decide,trivial⟩,by decide⟩
theorem build_fine {l:List Td}{ns:List Nd}(h:buildB l=some ns):FineL blocks voids ns false false false/\deepL ns<=65:=by
 unfold buildB at h
 cases hr:runB l bs0 with
 | none=>rw[hr] at h;cases h
 | some u =>
  rw[hr] at h
  cases h
  have g:=(runB_good l bs0 u good0 (by decide) (by decide) hr).1
  have hf:=shut_fi 1 u (run_fi l bs0 u good0 fi0 (by decide) hr)
  have gs:=shut_good g (Nat.le_refl 1) (List.length_pos_iff.2 g.ne)
  obtain⟨nd,hnd⟩:=List.length_eq_one_iff.1 gs.2.2
  unfold treeB
  rw[hnd] at hf ⊢
  obtain⟨⟨_,o2,_⟩,_,lk,⟨d1,_⟩,_⟩:=hf
  show FineL blocks voids (textIn nd (shutB 1 u).t).kids false false false/\deepL (textIn nd (shutB 1 u).t).kids<=65
  refine⟨fine_textIn nd _ _ _ o2 (lk nd [] rfl),?_⟩
  rw[deep_textIn]
  simpa using d1
end Go.Proofs.YtkiofbikkhhdfaaGreatDoor.Dm
namespace Go.Proofs.YtkiofbikkhhdfaaGreatDoor
open Go.RowKit
open Utf1 Pol8
theorem pelemC_any:ElemC:=by
 intro v1 v2 v3 v4 v5 p l1 l2 l3 l4 l5 x w hv hf hx
 have:=pelem_any p.ep v1 v2 v3 v4 v5 p.dp p.nd p.bt x l1 (fits_of hf (by simp) hv.e1).1 w hv.s1
 rw[hv.e1] at this
 exact this
end Go.Proofs.YtkiofbikkhhdfaaGreatDoor
namespace Go.Proofs.YtkiofbikkhhdfaaGreatDoor
open Go.ChangeShapes Go.WideShapes Go.ChangeAt Go.RowKit
open Utf1 Pol8
theorem cons_of {α:Type}{l:List α}{n:Nat}(h:l.length=n+1):∃ a r,l=a :: r/\r.length=n:=by
 cases l with
 | nil=>simp at h
 | cons a r=>exact⟨a,r,rfl,by simpa using h⟩
theorem list9 {α:Type}{l:List α}(h:l.length=9):∃ a0 a1 a2 a3 a4 a5 a6 a7 a8,l=[a0,a1,a2,a3,a4,a5,a6,a7,a8]:=by
 obtain⟨a0,r0,rfl,h0⟩:=cons_of h
 obtain⟨a1,r1,rfl,h1⟩:=cons_of h0
 obtain⟨a2,r2,rfl,h2⟩:=cons_of h1
 obtain⟨a3,r3,rfl,h3⟩:=cons_of h2
 obtain⟨a4,r4,rfl,h4⟩:=cons_of h3
 obtain⟨a5,r5,rfl,h5⟩:=cons_of h4
 obtain⟨a6,r6,rfl,h6⟩:=cons_of h5
 obtain⟨a7,r7,rfl,h7⟩:=cons_of h6
 obtain⟨a8,r8,rfl,h8⟩:=cons_of h7
 have:=List.eq_nil_of_length_eq_zero h8
 subst this
 exact⟨a0,a1,a2,a3,a4,a5,a6,a7,a8,rfl⟩
theorem cellsStr:Tryz.prog.cellsOf 9=1:=by kernel_rfl
theorem cellsPol:Tryz.prog.cellsOf 24=9:=by kernel_rfl
section
variable {H:Type}{enc:TypeId × Value->H}{W:World}
theorem strs_cells {n:Nat}{c:Value}{x:DataW H × List MemPlace}(h:DataW.trod enc Tryz.prog W 0 (fun _=>true) true n 22 [c]=some x):∃ ss,StrArg W c ss:=by
 rcases open_strings Tryz.underlying22 Tryz.underlying9 cellsStr h with⟨hcs,_⟩ | ⟨x,len,cap,ss,hcs,_,hl,hm,hz,_,hcell,hsz⟩
 ·simp at hcs
  subst hcs
  exact⟨[],none,0,rfl,fun _=>rfl,fun i s h=>by simp at h⟩
 ·simp at hcs
  subst hcs
  have hz:ss.length=cap:=by simpa using hz
  refine⟨ss.take len,some x,cap,?_,fun h=>(by cases h),?_⟩
  ·rw[List.length_take,Nat.min_eq_left (by omega)]
  ·intro i s hi
   have hil:i < ss.length:=by
    have:=(List.getElem?_eq_some_iff.1 hi).1
    rw[List.length_take] at this
    omega
   have hilen:i < len:=by
    have:=(List.getElem?_eq_some_iff.1 hi).1
    rw[List.length_take] at this
    omega
   rw[List.getElem?_take,if_pos hilen] at hi
   have hc:=hcell i hil
   have hg:ss.getD i ByteArray.empty=s:=by rw[List.getD_eq_getElem?_getD,hi];rfl
   rw[hg] at hc
   obtain⟨b,off,spot⟩:=x
   have hspot:spot=none:=by simpa [Addr.add] using World.cell?_spot (hcell 0 (by omega))
   subst hspot
   exact⟨b,off,rfl,by rw[<-add_plain];exact hc⟩
set_option maxRecDepth 10000 in
theorem pol_cells {n:Nat}{cs:List Value}{x:DataW H × List MemPlace}(hg:Glob W)(h:DataW.trod enc Tryz.prog W 0 (fun _=>true) true n 24 cs=some x) :
  ∃ (p:Pol) (v1 v2 v3 v4 v5:Value) (l1 l2 l3 l4 l5:List ByteArray),cs=[.int .i64 p.ep,v1,v2,v3,v4,v5,.int .i64 p.dp,.int .i64 p.nd,.int .i64 p.bt]/\PolV W v1 v2 v3 v4 v5 p l1 l2 l3 l4 l5:=by
 obtain⟨xs,m,_,rfl,hl,hlen,hf⟩:=DataW.trod_struct Tryz.underlying24 h
 rw[cellsPol] at hl
 obtain⟨c0,c1,c2,c3,c4,c5,c6,c7,c8,rfl⟩:=list9 hl
 obtain⟨y0,y1,y2,y3,y4,y5,y6,y7,y8,rfl⟩:=list9 (show xs.length=9 from hlen)
 have h0:=hf 0 _ rfl
 have h1:=hf 1 _ rfl
 have h2:=hf 2 _ rfl
 have h3:=hf 3 _ rfl
 have h4:=hf 4 _ rfl
 have h5:=hf 5 _ rfl
 have h6:=hf 6 _ rfl
 have h7:=hf 7 _ rfl
 have h8:=hf 8 _ rfl
 simp only[List.getElem?_cons_zero,List.getElem?_cons_succ] at h0 h1 h2 h3 h4 h5 h6 h7 h8
 obtain⟨k0,e0,rfl,-⟩:=DataW.trod_int Tryz.underlying3 h0
 obtain⟨k6,e6,rfl,-⟩:=DataW.trod_int Tryz.underlying3 h6
 obtain⟨k7,e7,rfl,-⟩:=DataW.trod_int Tryz.underlying3 h7
 obtain⟨k8,e8,rfl,-⟩:=DataW.trod_int Tryz.underlying3 h8
 obtain⟨l1,s1⟩:=strs_cells h1
 obtain⟨l2,s2⟩:=strs_cells h2
 obtain⟨l3,s3⟩:=strs_cells h3
 obtain⟨l4,s4⟩:=strs_cells h4
 obtain⟨l5,s5⟩:=strs_cells h5
 cases e0
 cases e6
 cases e7
 cases e8
 exact⟨⟨k0,l1.map bl,l2.map bl,l3.map bl,l4.map bl,l5.map bl,k6,k7,k8⟩,c1,c2,c3,c4,c5,l1,l2,l3,l4,l5,rfl,s1,s2,s3,s4,s5,rfl,rfl,rfl,rfl,rfl,hg⟩
set_option maxRecDepth 10000 in
theorem open_pol {r:Reach}{b0:Nat}{v:Value}{d:DataW H}{ps:List MemPlace}(hg:Glob W)(hval:Value.okWide Tryz.prog W r b0 24 v)(hd:DataW.Trod enc Tryz.prog W 0 (fun _=>true) true 24 v d ps) :
  ∃ (p:Pol) (v1 v2 v3 v4 v5:Value) (l1 l2 l3 l4 l5:List ByteArray),v=pval p v1 v2 v3 v4 v5/\PolV W v1 v2 v3 v4 v5 p l1 l2 l3 l4 l5:=by
 simp only[Value.okWide,Tryz.underlying24] at hval
 obtain⟨cs,rfl,-⟩:=hval
 obtain⟨fuel,hf⟩:=hd
 obtain⟨p,v1,v2,v3,v4,v5,l1,l2,l3,l4,l5,e,hp⟩:=pol_cells hg (show DataW.trod enc Tryz.prog W 0 (fun _=>true) true fuel 24 cs.toList=_ from hf)
 refine⟨p,v1,v2,v3,v4,v5,l1,l2,l3,l4,l5,?_,hp⟩
 obtain⟨l⟩:=cs
 have e:l=_:=e
 subst e
 rfl
end
end Go.Proofs.YtkiofbikkhhdfaaGreatDoor
