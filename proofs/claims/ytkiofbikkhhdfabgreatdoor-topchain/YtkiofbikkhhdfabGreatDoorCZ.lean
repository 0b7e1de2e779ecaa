import Derived.Test.YtkiofbikkhhdfabGreatDoorK02
import Derived.Test.YtkiofbikkhhdfabGreatDoorK12
import Derived.Test.YtkiofbikkhhdfabGreatDoorK26
import Derived.Test.YtkiofbikkhhdfabGreatDoorK18
import Derived.Deep.MidRow
import Derived.Deep.RegionHeld3
namespace Pol8
theorem star_star (a:L):star (star a)=star a:=by
 unfold star
 rw[List.dropWhile_cons,if_pos (by decide)]
 congr 1
 induction a with
 | nil=>rfl
 | cons c a ih =>
  rw[List.dropWhile_cons]
  split
  ·exact ih
  ·rename_i h
   rw[List.dropWhile_cons,if_neg h]
def Pol.zero:Pol:=⟨0,[],[],[],[],[],0,0,0⟩
theorem str_refl (p:Pol):Str p p:=⟨fun _ h=>.inl h,fun _ h=>h,fun _ h=>h,fun _ h=>h,fun _ h=>h,by omega⟩
theorem str_trans {p q r:Pol}(h1:Str p q)(h2:Str q r):Str p r:=by
 refine⟨fun a ha=>?_,fun x h=>h2.el x (h1.el x h),fun x h=>h2.sc x (h1.sc x h),fun x h=>h2.cl x (h1.cl x h),fun x h=>h2.pr x (h1.pr x h),?_⟩
 ·rcases h1.at_ a ha with h | h
  ·exact h2.at_ a h
  ·rcases h2.at_ _ h with h | h
   ·exact .inr h
   ·rw[star_star] at h
    exact .inr h
 ·have:=h1.c
  have:=h2.c
  omega

def wr (ps:List Pol) (i:Nat):Int:=match ps[i]? with
 | none=>0
 | some p=>if right p=true then (if p.ep=(i:Int)+1 then (if 0 < i/\stricter p (ps[i - 1]?.getD Pol.zero)=false then 6 else 0) else 7) else 2
def Chk (ps:List Pol) (E n:Int):Prop:=(E=0/\n=-1/\∀ i,i < ps.length->wr ps i=0)\/∃ i:Nat,i < ps.length/\n=(i:Int)/\E=wr ps i/\E≠0/\∀ j,j < i->wr ps j=0
theorem chk_unique {ps:List Pol}{E n F m:Int}(h1:Chk ps E n)(h2:Chk ps F m):E=F/\n=m:=by
 rcases h1 with⟨rfl,rfl,a⟩ | ⟨i,hi,rfl,rfl,hE,hj⟩
 ·rcases h2 with⟨rfl,rfl,-⟩ | ⟨k,hk,rfl,rfl,hF,-⟩
  ·exact⟨rfl,rfl⟩
  ·exact absurd (a k hk) hF
 ·rcases h2 with⟨rfl,rfl,a⟩ | ⟨k,hk,rfl,rfl,hF,hl⟩
  ·exact absurd (a i hi) hE
  ·by_cases h:i < k
   ·exact absurd (hl i h) hE
   ·by_cases h':k < i
    ·exact absurd (hj k h') hF
    ·have e:i=k:=by omega
     subst e
     exact⟨rfl,rfl⟩
theorem wr_same {ps qs:List Pol}{i:Nat}(h:∀ j,j<=i->ps[j]?=qs[j]?):wr ps i=wr qs i:=by
 unfold wr
 rw[h i (Nat.le_refl _),h (i - 1) (by omega)]
theorem wr_take (ps:List Pol) {k i:Nat}(h:i < k):wr (ps.take k) i=wr ps i:=wr_same fun j hj=>by
 rw[List.getElem?_take,if_pos (by omega)]
theorem wr_app (ps qs:List Pol) {i:Nat}(h:i < ps.length):wr (ps++qs) i=wr ps i:=wr_same fun j hj=>List.getElem?_append_left (by omega)
theorem wr_past (ps:List Pol) {i:Nat}(h:ps.length<=i):wr ps i=0:=by
 unfold wr
 rw[List.getElem?_eq_none h]
theorem chk_zero {ps:List Pol}{n:Int}(h:Chk ps 0 n):n=-1/\∀ i,wr ps i=0:=by
 rcases h with⟨-,e,a⟩ | ⟨i,_,_,_,hE,_⟩
 ·refine⟨e,fun i=>?_⟩
  by_cases hi:i < ps.length
  ·exact a i hi
  ·exact wr_past ps (by omega)
 ·exact absurd rfl hE
theorem chk_wrong {ps:List Pol}{E n:Int}(h:Chk ps E n)(hE:E≠0):∃ i:Nat,i < ps.length/\n=(i:Int)/\E=wr ps i/\∀ j,j < i->wr ps j=0:=by
 rcases h with⟨e,-,-⟩ | ⟨i,h1,h2,h3,h4,h5⟩
 ·exact absurd e hE
 ·exact⟨i,h1,h2,h3,h5⟩
theorem chk_app {ps qs:List Pol}{E n F m:Int}(h1:Chk ps E n)(h2:Chk (ps++qs) F m)(hE:E≠0):F=E:=by
 obtain⟨i,hi,rfl,rfl,hj⟩:=chk_wrong h1 hE
 have h3:Chk (ps++qs) (wr ps i) (i:Int):=.inr ⟨i,by rw[List.length_append];omega,rfl,(wr_app ps qs hi).symm,hE,fun j hji=>by rw[wr_app ps qs (by omega)];exact hj j hji⟩
 exact (chk_unique h2 h3).1
theorem chk_of_all {ps:List Pol}{E n:Int}(h:Chk ps E n)(ha:∀ i,i < ps.length->wr ps i=0):E=0/\n=-1:=chk_unique h (.inl ⟨rfl,rfl,ha⟩)
theorem chk_of_first {ps:List Pol}{E n:Int}(h:Chk ps E n) {i:Nat}(hi:i < ps.length)(hw:wr ps i≠0)(ha:∀ j,j < i->wr ps j=0):E=wr ps i/\n=(i:Int):=chk_unique h (.inr ⟨i,hi,rfl,rfl,hw,ha⟩)
theorem chk_begin {ps:List Pol}{E n F m:Int}{k:Nat}(hk:k<=ps.length)(h1:Chk ps E n)(h2:Chk (ps.take k) F m):(E=0->F=0/\m=-1)/\(E≠0->∃ i:Nat,i < ps.length/\n=(i:Int)/\(F=0 ↔ k<=i)):=by
 have hlen:(ps.take k).length=k:=by rw[List.length_take];omega
 constructor
 ·intro e
  subst e
  have ha:=(chk_zero h1).2
  exact chk_of_all h2 (fun i hi=>by rw[wr_take ps (by omega)];exact ha i)
 ·intro hE
  obtain⟨i,hi,rfl,rfl,hj⟩:=chk_wrong h1 hE
  refine⟨i,hi,rfl,?_⟩
  by_cases h:k<=i
  ·have:=chk_of_all h2 (fun j hj'=>by rw[wr_take ps (by omega)];exact hj j (by omega))
   exact⟨fun _=>h,fun _=>this.1⟩
  ·have e:wr (ps.take k) i=wr ps i:=wr_take ps (by omega)
   have:=chk_of_first h2 (i:=i) (by omega) (by rw[e];exact hE) (fun j hj'=>by rw[wr_take ps (by omega)];exact hj j hj')
   constructor
   ·intro hF
    rw[hF,e] at this
    exact absurd this.1.symm hE
   ·intro h'
    exact absurd h' h
theorem wr_zero {ps:List Pol}{i:Nat}{p:Pol}(h:wr ps i=0)(hp:ps[i]?=some p):right p=true/\p.ep=(i:Int)+1/\(0 < i->∀ q,ps[i - 1]?=some q->stricter p q=true):=by
 unfold wr at h
 rw[hp] at h
 simp only[] at h
 by_cases h1:right p=true
 ·rw[if_pos h1] at h
  by_cases h2:p.ep=(i:Int)+1
  ·rw[if_pos h2] at h
   refine⟨h1,h2,fun h0 q hq=>?_⟩
   rw[hq] at h
   cases hs:stricter p q with
   | true=>rfl
   | false =>
    rw[if_pos ⟨h0,by exact hs⟩] at h
    omega
  ·rw[if_neg h2] at h
   omega
 ·rw[if_neg h1] at h
  omega
theorem chain_str {ps:List Pol}(h:∀ i,wr ps i=0):∀ (d k:Nat) (p q:Pol),ps[k+d]?=some p->ps[k]?=some q->Str p q
 | 0,k,p,q,hp,hq=>by
  rw[Nat.add_zero,hq] at hp
  cases hp
  exact str_refl _
 | d+1,k,p,q,hp,hq=>by
  have hl:k+d < ps.length:=by have:=(List.getElem?_eq_some_iff.1 hp).1;omega
  obtain⟨x,hx⟩:∃ x,ps[k+d]?=some x:=⟨_,List.getElem?_eq_getElem hl⟩
  have h1:=(wr_zero (h (k+(d+1))) hp).2.2 (by omega) x (by rw[show k+(d+1) - 1=k+d by omega];exact hx)
  exact str_trans ((str_iff p x).1 h1) (chain_str h d k x q hx hq)
theorem chain_stricter {ps:List Pol}(h:∀ i,wr ps i=0) {i k:Nat}{p q:Pol}(hk:k < i)(hp:ps[i]?=some p)(hq:ps[k]?=some q):stricter p q=true :=
 (str_iff p q).2 (chain_str h (i - k) k p q (by rw[show k+(i - k)=i by omega];exact hp) hq)
end Pol8

namespace Go.Proofs.YtkiofbikkhhdfabGreatDoor
open Go.RowKit
open Utf1 Pol8

structure It where
 p:Pol
 v1:Value
 v2:Value
 v3:Value
 v4:Value
 v5:Value
 l1:List ByteArray
 l2:List ByteArray
 l3:List ByteArray
 l4:List ByteArray
 l5:List ByteArray
def It.ok (w:World) (t:It):Prop:=PolV w t.v1 t.v2 t.v3 t.v4 t.v5 t.p t.l1 t.l2 t.l3 t.l4 t.l5
abbrev It.cells (t:It):List Value:=[.int .i64 t.p.ep,t.v1,t.v2,t.v3,t.v4,t.v5,.int .i64 t.p.dp,.int .i64 t.p.nd,.int .i64 t.p.bt]
abbrev It.val (t:It):Value:=pval t.p t.v1 t.v2 t.v3 t.v4 t.v5
theorem It.ok.below {w w':World}{t:It}(h:t.ok w)(hb:Below w.heap.size w w'):t.ok w':=PolV.below h hb
theorem range_keep {w w':World}{b o:Nat}{cs:List Value}(h:w.rangeAt b o cs)(hb:Below w.heap.size w w'):w'.rangeAt b o cs:=fun j v hv=>cell_keep (h j v hv) hb
def PolRow (w:World) (v:Value) (ts:List It):Prop:=∃ p cap,v=.slice p ts.length cap/\ts.length<=cap/\(p=none->cap=0)/\∀ i t,ts[i]?=some t->(∃ b off,p=some ⟨b,off,none⟩/\w.rangeAt b (off+i*9) t.cells)/\t.ok w
theorem PolRow.below {w w':World}{v:Value}{ts:List It}(h:PolRow w v ts)(hb:Below w.heap.size w w'):PolRow w' v ts:=by
 obtain⟨p,cap,rfl,hc,h0,hi⟩:=h
 refine⟨p,cap,rfl,hc,h0,fun i t ht=>?_⟩
 obtain⟨⟨b,off,e,hr⟩,hok⟩:=hi i t ht
 exact⟨⟨b,off,e,range_keep hr hb⟩,hok.below hb⟩
theorem polRow_nil (w:World):PolRow w (.slice none 0 0) []:=⟨none,0,rfl,Nat.le_refl _,fun _=>rfl,fun i t h=>by simp at h⟩
theorem PolRow.at {w:World}{v:Value}{ts:List It}(h:PolRow w v ts) {i:Nat}{t:It}(hi:ts[i]?=some t):∃ b off cap,v=.slice (some ⟨b,off,none⟩) ts.length cap/\ts.length<=cap/\(∀ (j:Nat) (u:It),ts[j]?=some u->w.rangeAt b (off+j*9) u.cells)/\∀ (j:Nat) (u:It),ts[j]?=some u->u.ok w:=by
 obtain⟨p,cap,rfl,hc,h0,hr⟩:=h
 obtain⟨⟨b,off,rfl,-⟩,-⟩:=hr i t hi
 refine⟨b,off,cap,rfl,hc,fun j u hj=>?_,fun j u hj=>(hr j u hj).2⟩
 obtain⟨⟨b',off',e,h1⟩,-⟩:=hr j u hj
 injection e with e
 injection e with e1 e2
 subst e1 e2
 exact h1
theorem PolRow.take {w:World}{p:Option Addr}{n cap:Nat}{ts:List It}(h:PolRow w (.slice p n cap) ts) {k:Nat}(hk:k<=ts.length):PolRow w (.slice p k cap) (ts.take k):=by
 obtain⟨p',cap',e,hc,h0,hr⟩:=h
 injection e with e1 e2 e3
 subst e1 e2 e3
 refine⟨p,cap,by rw[List.length_take,Nat.min_eq_left hk],by rw[List.length_take];omega,h0,fun i t ht=>?_⟩
 rw[List.getElem?_take] at ht
 split at ht
 ·exact hr i t ht
 ·cases ht
def flat (ts:List It):List Value:=ts.flatMap It.cells
theorem flat_nil:flat []=[]:=rfl
theorem flat_cons (t:It) (ts:List It):flat (t :: ts)=t.cells++flat ts:=rfl
theorem flat_app (a b:List It):flat (a++b)=flat a++flat b:=List.flatMap_append ..
theorem flat_one (t:It):flat [t]=t.cells:=by simp[flat]
theorem flat_len:∀ ts:List It,(flat ts).length=ts.length*9
 | []=>rfl
 | t :: ts=>by
  rw[flat_cons,List.length_append,flat_len ts,List.length_cons]
  show 9+ts.length*9=(ts.length+1)*9
  omega
theorem flat_at:∀ (ts:List It) (i k:Nat) (t:It) (u:Value),ts[i]?=some t->t.cells[k]?=some u->(flat ts)[i*9+k]?=some u
 | [],i,k,t,u,h,_=>by simp at h
 | x :: ts,0,k,t,u,h,hk=>by
  have e:x=t:=by simpa using h
  subst e
  have hl:k < x.cells.length:=(List.getElem?_eq_some_iff.1 hk).1
  rw[flat_cons,Nat.zero_mul,Nat.zero_add,List.getElem?_append_left hl]
  exact hk
 | x :: ts,i+1,k,t,u,h,hk=>by
  have h':ts[i]?=some t:=by simpa using h
  rw[flat_cons,List.getElem?_append_right (by show 9<=(i+1)*9+k;omega)]
  have e:(i+1)*9+k - x.cells.length=i*9+k:=by show (i+1)*9+k - 9=_;omega
  rw[e]
  exact flat_at ts i k t u h' hk
theorem flat_one_cell {ts:List It}{w:World}(h:∀ t∈ts,t.ok w):∀ u∈flat ts,u.oneCell'=true:=by
 intro u hu
 obtain⟨t,ht,hm⟩:=List.mem_flatMap.1 hu
 have hk:=h t ht
 obtain⟨p1,q1,e1,-,-⟩:=hk.s1
 obtain⟨p2,q2,e2,-,-⟩:=hk.s2
 obtain⟨p3,q3,e3,-,-⟩:=hk.s3
 obtain⟨p4,q4,e4,-,-⟩:=hk.s4
 obtain⟨p5,q5,e5,-,-⟩:=hk.s5
 simp only[List.mem_cons,List.not_mem_nil,or_false] at hm
 rcases hm with rfl | rfl | rfl | rfl | rfl | rfl | rfl | rfl | rfl
 ·rfl
 ·rw[e1];rfl
 ·rw[e2];rfl
 ·rw[e3];rfl
 ·rw[e4];rfl
 ·rw[e5];rfl
 ·rfl
 ·rfl
 ·rfl
structure OwnP (w:World) (B:Nat) (v:Value) (ts:List It):Prop where
 o:w.ownsRow B 24 9 v ts.length (flat ts)
 k:∀ t∈ts,t.ok w
theorem own_range {w:World}{B g n cap:Nat}{ts:List It}(h:w.ownsRow B 24 9 (.slice (some ⟨g,0,none⟩) n cap) n (flat ts)) {i:Nat}{t:It}(ht:ts[i]?=some t):w.rangeAt g (0+i*9) t.cells:=fun j u hj=>by
 have h1:=h.cells rfl (i*9+j) u (flat_at ts i j t u ht hj)
 rw[add_plain] at h1
 rw[Nat.add_assoc]
 exact h1
theorem OwnP.row {w:World}{B:Nat}{v:Value}{ts:List It}(h:OwnP w B v ts):PolRow w v ts:=by
 have ho:=h.o
 rcases h.o.2 with⟨rfl,hz⟩ | ⟨g,cap,cur,rfl,hB,hcur,hnc,hm,hsz,htk⟩
 ·have:ts=[]:=List.eq_nil_of_length_eq_zero hz
  subst this
  exact polRow_nil w
 ·exact⟨some ⟨g,0,none⟩,cap,rfl,hnc,(fun e=>by cases e),fun i t ht=>⟨⟨g,0,rfl,own_range ho ht⟩,h.k t (List.mem_of_getElem? ht)⟩⟩
theorem OwnP.below {w w':World}{B:Nat}{v:Value}{ts:List It}(h:OwnP w B v ts)(hb:Below w.heap.size w w'):OwnP w' B v ts :=
 ⟨h.o.kept (row:=none) (below_grown hb) (Classical.em _),fun t ht=>(h.k t ht).below hb⟩
theorem infoPol:(Tryz.prog.info? 24).map (fun i=>(i.zero,i.size,i.bytes))=some (some (.agg #[.int .i64 0,.slice none 0 0,.slice none 0 0,.slice none 0 0,.slice none 0 0,.slice none 0 0,.int .i64 0,.int .i64 0,.int .i64 0]),9,152):=by kernel_rfl
end Go.Proofs.YtkiofbikkhhdfabGreatDoor

set_option maxRecDepth 100000
set_option maxHeartbeats 16000000
namespace Go.Proofs.YtkiofbikkhhdfabGreatDoor
open Go.RowKit
open Utf1 Pol8

theorem nine {w:World}{b o:Nat}{t:It}(h:w.rangeAt b o t.cells):w.cell? ⟨b,o,none⟩=some (.int .i64 t.p.ep)/\w.cell? ⟨b,o+1,none⟩=some t.v1/\w.cell? ⟨b,o+2,none⟩=some t.v2/\w.cell? ⟨b,o+3,none⟩=some t.v3/\w.cell? ⟨b,o+4,none⟩=some t.v4/\w.cell? ⟨b,o+5,none⟩=some t.v5/\w.cell? ⟨b,o+6,none⟩=some (.int .i64 t.p.dp)/\w.cell? ⟨b,o+7,none⟩=some (.int .i64 t.p.nd)/\w.cell? ⟨b,o+8,none⟩=some (.int .i64 t.p.bt) :=
 ⟨h 0 _ rfl,h 1 _ rfl,h 2 _ rfl,h 3 _ rfl,h 4 _ rfl,h 5 _ rfl,h 6 _ rfl,h 7 _ rfl,h 8 _ rfl⟩
theorem wr_at {ts:List It}{i:Nat}{t:It}(hi:ts[i]?=some t):wr (ts.map It.p) i=if right t.p=true then (if t.p.ep=(i:Int)+1 then (if 0 < i/\stricter t.p ((ts.map It.p)[i - 1]?.getD Pol.zero)=false then 6 else 0) else 7) else 2:=by
 unfold wr
 rw[List.getElem?_map,hi]
 rfl

theorem fault_any (hR:RightC)(hS:StricterC) (v:Value) (ts:List It)(hf:∀ t∈ts,fits t.p)(hl:ts.length<=100000) (i:Nat) (t:It)(hi:ts[i]?=some t) (w:World)(hv:PolRow w v ts) :
  Calls Tryz.prog 69 #[v,.int .i64 (i:Int)] w fun e w'=>e=.returned (.int .i64 (wr (ts.map It.p) i))/\Below w.heap.size w w':=by
 obtain⟨E,hE⟩:∃ E,E=wr (ts.map It.p) i:=⟨_,rfl⟩
 rw[<-hE]
 rw[wr_at hi] at hE
 obtain⟨b,off,cap,rfl,hcap,hrg,hok⟩:=hv.at hi
 have hlt:i < ts.length:=(List.getElem?_eq_some_iff.1 hi).1
 have ht:=hok i t hi
 have hft:=hf t (List.mem_of_getElem? hi)
 obtain⟨c0,c1,c2,c3,c4,c5,c6,c7,c8⟩:=nine (hrg i t hi)
 have HPREV:Hid (0 < i->∃ t',ts[i - 1]?=some t'/\(ts.map It.p)[i - 1]?.getD Pol.zero=t'.p/\t'.ok w/\fits t'.p/\w.rangeAt b (off+(i - 1)*9) t'.cells):=hide (fun h0=>by
  have hlt':i - 1 < ts.length:=by omega
  refine⟨ts[i - 1],List.getElem?_eq_getElem hlt',?_,hok _ _ (List.getElem?_eq_getElem hlt'),hf _ (List.getElem_mem hlt'),hrg _ _ (List.getElem?_eq_getElem hlt')⟩
  rw[List.getElem?_map,List.getElem?_eq_getElem hlt']
  rfl)
 obtain⟨N,hN⟩:∃ N,N=ts.length:=⟨_,rfl⟩
 rw[<-hN] at hlt hcap hl ⊢
 generalize (ts.map It.p)[i - 1]?.getD Pol.zero=q0 at hE HPREV
 clear hv hrg hok hi hf hN
 obtain⟨P,v1,v2,v3,v4,v5,l1,l2,l3,l4,l5⟩:=t
 have HT:Hid (PolV w v1 v2 v3 v4 v5 P l1 l2 l3 l4 l5):=hide ht
 simp only[] at c0 c1 c2 c3 c4 c5 c6 c7 c8 hE hft
 obtain⟨A,hAA⟩:∃ A:Array Value,A=#[.int .i64 P.ep,v1,v2,v3,v4,v5,.int .i64 P.dp,.int .i64 P.nd,.int .i64 P.bt]:=⟨_,rfl⟩
 obtain⟨w1,hw1⟩:∃ w1,w1=w.alloc (.cells A 24):=⟨_,rfl⟩
 have HN:Hid (BoxP w A w1):=hide (by rw[hw1];exact⟨new_block _ _ _,bel_alloc (Below.refl _ _) _⟩)
 have HY:Hid (∀ wx,BoxP w A wx->wx.cell? ⟨w.heap.size,0,none⟩=some (.int .i64 P.ep)/\wx.cell? ⟨w.heap.size,1,none⟩=some v1/\wx.cell? ⟨w.heap.size,2,none⟩=some v2/\wx.cell? ⟨w.heap.size,3,none⟩=some v3/\wx.cell? ⟨w.heap.size,4,none⟩=some v4/\wx.cell? ⟨w.heap.size,5,none⟩=some v5/\wx.cell? ⟨w.heap.size,6,none⟩=some (.int .i64 P.dp)/\wx.cell? ⟨w.heap.size,7,none⟩=some (.int .i64 P.nd)/\wx.cell? ⟨w.heap.size,8,none⟩=some (.int .i64 P.bt)):=hide (fun wx h=>by
  exact⟨h.cell 0 _ (by rw[hAA];rfl),h.cell 1 _ (by rw[hAA];rfl),h.cell 2 _ (by rw[hAA];rfl),h.cell 3 _ (by rw[hAA];rfl),h.cell 4 _ (by rw[hAA];rfl),h.cell 5 _ (by rw[hAA];rfl),h.cell 6 _ (by rw[hAA];rfl),h.cell 7 _ (by rw[hAA];rfl),h.cell 8 _ (by rw[hAA];rfl)⟩)
 have CR:Hid (∀ wx,BoxP w A wx->Calls Tryz.prog 11 #[pval P v1 v2 v3 v4 v5] wx fun e w'=>e=.returned (.bool (right P))/\BoxP w A w'):=hide (fun wx h=>(hR _ _ _ _ _ P _ _ _ _ _ wx (HT.out.below h.2) hft).mono fun e w' ⟨h1,h2⟩=>⟨h1,h.keep h2⟩)
 have HE:=hide hE
 rw[hAA] at hw1
 have HFT:=hide hft
 clear hE hAA hR ht hft
 obtain⟨p1,q1,rfl,-,-⟩:=HT.out.s1
 obtain⟨p2,q2,rfl,-,-⟩:=HT.out.s2
 obtain⟨p3,q3,rfl,-,-⟩:=HT.out.s3
 obtain⟨p4,q4,rfl,-,-⟩:=HT.out.s4
 obtain⟨p5,q5,rfl,-,-⟩:=HT.out.s5
 generalize hrr:right P=r at CR HE
 clear hrr
 go_enter Tryz.func69,Tryz.ntmps69
 go_upto_region 2 with fail
 rw[<-hw1]
 clear hw1 c0 c1 c2 c3 c4 c5 c6 c7 c8
 obtain⟨y0,y1,y2,y3,y4,y5,y6,y7,y8⟩:=HY.out w1 HN.out
 go_wp2_with fail
 refine (CR.out _ HN.out).mono ?_
 rintro e w2 ⟨rfl,h2⟩
 have H2:=hide h2
 clear h2 CR HN y0 y1 y2 y3 y4 y5 y6 y7 y8
 cases r with
 | false =>
  have HR:Hid (E=2):=hide (by rw[HE.out];rfl)
  clear HE HPREV
  go_wp2_with fail
  go_ret
  rw[HR.out]
  exact⟨rfl,H2.out.2⟩
 | true =>
  obtain⟨y0,y1,y2,y3,y4,y5,y6,y7,y8⟩:=HY.out w2 H2.out
  by_cases he:P.ep=(i:Int)+1
  ·have hne:(P.ep != (i:Int)+1)=false:=by simpa using he
   by_cases h0:i=0
   ·subst h0
    have HR:Hid (E=0):=hide (by rw[HE.out,if_pos rfl,if_pos he,if_neg (fun h=>Nat.lt_irrefl 0 h.1)])
    clear HE HPREV he
    go_wp2_with fail
    clear y0 y1 y2 y3 y4 y5 y6 y7 y8
    refine wp_region_held_drew (S:=(fun wx=>BoxP w A wx)) (by kernel_rfl) (H2.out.keep ((Below.refl _ _).drew)) (fun hHeld=>?_)
    refine wpAnyH_atp 0 rfl ?_
    refine wpAnyH_atp 1 rfl ?_
    refine wpAnyH_atp 2 rfl ?_
    refine wpAnyH_atn 3 rfl ?_
    refine wpAnyH_atn 4 rfl ?_
    refine wpAnyH_atn 5 rfl ?_
    refine wpAnyH_atn 6 rfl ?_
    refine wpAnyH_atn 7 rfl ?_
    refine wpAnyH_atn 8 rfl ?_
    refine wpAnyH_atn 9 rfl ?_
    refine wpAnyH_atn 10 rfl ?_
    refine wpAnyH_atp 11 rfl ?_
    refine wpAnyH_atp 12 rfl ?_
    refine wpAnyH_done (by kernel_rfl) ?_ _
    have H7:Hid (BoxP w A _):=hide (by assumption)
    go_wp2_with fail
    go_ret
    rw[HR.out]
    exact⟨rfl,H7.out.2⟩
   ·obtain⟨k,rfl⟩:∃ k,i=k+1:=⟨i - 1,by omega⟩
    obtain⟨t',-,hq,hok',hf',hr'⟩:=HPREV.out (by omega)
    rw[show k+1 - 1=k by omega] at hr'
    have HE2:Hid (E=if stricter P q0=false then 6 else 0):=hide (by
     rw[HE.out,if_pos rfl,if_pos he]
     by_cases hs:stricter P q0=false
     ·rw[if_pos ⟨by omega,hs⟩,if_pos hs]
     ·rw[if_neg (fun h=>hs h.2),if_neg hs])
    obtain⟨Q,u1,u2,u3,u4,u5,m1,m2,m3,m4,m5⟩:=t'
    have hq:q0=Q:=hq
    rw[hq] at HE2
    have CS:Hid (∀ wx,BoxP w A wx->Calls Tryz.prog 12 #[pval P (.slice p1 l1.length q1) (.slice p2 l2.length q2) (.slice p3 l3.length q3) (.slice p4 l4.length q4) (.slice p5 l5.length q5),pval Q u1 u2 u3 u4 u5] wx fun e w'=>e=.returned (.bool (stricter P Q))/\BoxP w A w'):=hide (fun wx h=>(hS _ _ _ _ _ _ _ _ _ _ P Q _ _ _ _ _ _ _ _ _ _ wx (HT.out.below h.2) (hok'.below h.2) HFT.out hf').mono fun e w' ⟨h1,h2⟩=>⟨h1,h.keep h2⟩)
    have SK:Hid (∀ wx,BoxP w A wx->wx.cell? ⟨w.heap.size,0,none⟩=some (.int .i64 P.ep)/\wx.cell? ⟨w.heap.size,1,none⟩=some (.slice p1 l1.length q1)/\wx.cell? ⟨w.heap.size,2,none⟩=some (.slice p2 l2.length q2)/\wx.cell? ⟨w.heap.size,3,none⟩=some (.slice p3 l3.length q3)/\wx.cell? ⟨w.heap.size,4,none⟩=some (.slice p4 l4.length q4)/\wx.cell? ⟨w.heap.size,5,none⟩=some (.slice p5 l5.length q5)/\wx.cell? ⟨w.heap.size,6,none⟩=some (.int .i64 P.dp)/\wx.cell? ⟨w.heap.size,7,none⟩=some (.int .i64 P.nd)/\wx.cell? ⟨w.heap.size,8,none⟩=some (.int .i64 P.bt)/\wx.cell? ⟨b,off+k*9,none⟩=some (.int .i64 Q.ep)/\wx.cell? ⟨b,off+k*9+1,none⟩=some (u1)/\wx.cell? ⟨b,off+k*9+2,none⟩=some (u2)/\wx.cell? ⟨b,off+k*9+3,none⟩=some (u3)/\wx.cell? ⟨b,off+k*9+4,none⟩=some (u4)/\wx.cell? ⟨b,off+k*9+5,none⟩=some (u5)/\wx.cell? ⟨b,off+k*9+6,none⟩=some (.int .i64 Q.dp)/\wx.cell? ⟨b,off+k*9+7,none⟩=some (.int .i64 Q.nd)/\wx.cell? ⟨b,off+k*9+8,none⟩=some (.int .i64 Q.bt)/\Hid (BoxP w A wx)):=hide (fun wx h=>by
     obtain⟨a0,a1,a2,a3,a4,a5,a6,a7,a8⟩:=HY.out wx h
     obtain⟨b0,b1,b2,b3,b4,b5,b6,b7,b8⟩:=nine (range_keep hr' h.2)
     exact⟨a0,a1,a2,a3,a4,a5,a6,a7,a8,b0,b1,b2,b3,b4,b5,b6,b7,b8,hide h⟩)
    have SB:Hid (∀ wx,(wx.cell? ⟨w.heap.size,0,none⟩=some (.int .i64 P.ep)/\wx.cell? ⟨w.heap.size,1,none⟩=some (.slice p1 l1.length q1)/\wx.cell? ⟨w.heap.size,2,none⟩=some (.slice p2 l2.length q2)/\wx.cell? ⟨w.heap.size,3,none⟩=some (.slice p3 l3.length q3)/\wx.cell? ⟨w.heap.size,4,none⟩=some (.slice p4 l4.length q4)/\wx.cell? ⟨w.heap.size,5,none⟩=some (.slice p5 l5.length q5)/\wx.cell? ⟨w.heap.size,6,none⟩=some (.int .i64 P.dp)/\wx.cell? ⟨w.heap.size,7,none⟩=some (.int .i64 P.nd)/\wx.cell? ⟨w.heap.size,8,none⟩=some (.int .i64 P.bt)/\wx.cell? ⟨b,off+k*9,none⟩=some (.int .i64 Q.ep)/\wx.cell? ⟨b,off+k*9+1,none⟩=some (u1)/\wx.cell? ⟨b,off+k*9+2,none⟩=some (u2)/\wx.cell? ⟨b,off+k*9+3,none⟩=some (u3)/\wx.cell? ⟨b,off+k*9+4,none⟩=some (u4)/\wx.cell? ⟨b,off+k*9+5,none⟩=some (u5)/\wx.cell? ⟨b,off+k*9+6,none⟩=some (.int .i64 Q.dp)/\wx.cell? ⟨b,off+k*9+7,none⟩=some (.int .i64 Q.nd)/\wx.cell? ⟨b,off+k*9+8,none⟩=some (.int .i64 Q.bt)/\Hid (BoxP w A wx))->BoxP w A wx):=hide (fun wx h=>h.2.2.2.2.2.2.2.2.2.2.2.2.2.2.2.2.2.2.out)
    have hwk:IntKind.i64.wrap (k:Int)=(k:Int):=IntWalk.i64_in _ (by omega)
    have hkN:k < N:=by omega
    generalize stricter P Q=s at CS HE2
    clear hq hok' hf' hr' HE HPREV he hS h0
    go_wp2_with fail
    clear y0 y1 y2 y3 y4 y5 y6 y7 y8
    refine wp_region_held_drew (S:=(fun wx=>wx.cell? ⟨w.heap.size,0,none⟩=some (.int .i64 P.ep)/\wx.cell? ⟨w.heap.size,1,none⟩=some (.slice p1 l1.length q1)/\wx.cell? ⟨w.heap.size,2,none⟩=some (.slice p2 l2.length q2)/\wx.cell? ⟨w.heap.size,3,none⟩=some (.slice p3 l3.length q3)/\wx.cell? ⟨w.heap.size,4,none⟩=some (.slice p4 l4.length q4)/\wx.cell? ⟨w.heap.size,5,none⟩=some (.slice p5 l5.length q5)/\wx.cell? ⟨w.heap.size,6,none⟩=some (.int .i64 P.dp)/\wx.cell? ⟨w.heap.size,7,none⟩=some (.int .i64 P.nd)/\wx.cell? ⟨w.heap.size,8,none⟩=some (.int .i64 P.bt)/\wx.cell? ⟨b,off+k*9,none⟩=some (.int .i64 Q.ep)/\wx.cell? ⟨b,off+k*9+1,none⟩=some (u1)/\wx.cell? ⟨b,off+k*9+2,none⟩=some (u2)/\wx.cell? ⟨b,off+k*9+3,none⟩=some (u3)/\wx.cell? ⟨b,off+k*9+4,none⟩=some (u4)/\wx.cell? ⟨b,off+k*9+5,none⟩=some (u5)/\wx.cell? ⟨b,off+k*9+6,none⟩=some (.int .i64 Q.dp)/\wx.cell? ⟨b,off+k*9+7,none⟩=some (.int .i64 Q.nd)/\wx.cell? ⟨b,off+k*9+8,none⟩=some (.int .i64 Q.bt)/\Hid (BoxP w A wx))) (by kernel_rfl) (SK.out _ (H2.out.keep ((Below.refl _ _).drew))) (fun hHeld=>?_)
    refine wpAnyH_atp 0 rfl ?_
    refine wpAnyH_atp 1 rfl ?_
    refine wpAnyH_atp 2 rfl ?_
    refine wpAnyH_atp 3 rfl ?_
    refine wpAnyH_atp 4 rfl ?_
    refine wpAnyH_atp 5 rfl ?_
    refine wpAnyH_atp 6 rfl ?_
    refine wpAnyH_atp 7 rfl ?_
    refine wpAnyH_atp 8 rfl ?_
    refine wpAnyH_ready (rs:=[9]) (by kernel_rfl) (by simp) ?_
    refine AllReadyH.cons rfl (fun K hK=>?_) AllReadyH.nil
    go_simp
    refine (CS.out _ (SB.out _ (by assumption))).mono ?_
    rintro e w6 ⟨rfl,h6⟩
    try go_wp2_with fail
    refine hK.out _ _ (SK.out _ (by assumption)) (fun hHeld2=>?_)
    clear hK K hHeld
    have hHeld:=hHeld2
    clear hHeld2
    refine wpAnyH_atp 10 rfl ?_
    refine wpAnyH_atp 11 rfl ?_
    refine wpAnyH_atp 12 rfl ?_
    refine wpAnyH_done (by kernel_rfl) ?_ _
    have H7:=hide (SB.out _ (by assumption))
    clear CS SK SB
    cases s with
    | false =>
     go_wp2_with fail
     go_ret
     rw[HE2.out]
     exact⟨rfl,H7.out.2⟩
    | true =>
     go_wp2_with fail
     go_ret
     rw[HE2.out]
     exact⟨rfl,H7.out.2⟩
  ·have hne:(P.ep != (i:Int)+1)=true:=by simpa using he
   have HR:Hid (E=7):=hide (by rw[HE.out,if_pos rfl,if_neg he])
   clear HE HPREV
   go_wp2_with fail
   go_ret
   rw[HR.out]
   exact⟨rfl,H2.out.2⟩
end Go.Proofs.YtkiofbikkhhdfabGreatDoor

set_option maxRecDepth 100000
set_option maxHeartbeats 16000000
namespace Go.Proofs.YtkiofbikkhhdfabGreatDoor
open Go.RowKit
open Utf1 Pol8

def CheckC:Prop:=∀ (v:Value) (ts:List It) (w:World),(∀ t∈ts,fits t.p)->ts.length<=100000->PolRow w v ts ->
 Calls Tryz.prog 26 #[v] w fun e w'=>(∃ E n,e=.returned (.tuple #[.int .i64 E,.int .i64 n])/\Chk (ts.map It.p) E n)/\Below w.heap.size w w'
theorem map_len {ts:List It}{i:Nat}(h:i < ts.length):i < (ts.map It.p).length:=by rw[List.length_map];exact h

theorem check_any (hR:RightC)(hS:StricterC):CheckC:=by
 intro v ts w hf hl hv
 have HV:=hide hv
 obtain⟨p,cap,rfl,hcap,-,-⟩:=hv
 obtain⟨N,hN⟩:∃ N,N=ts.length:=⟨_,rfl⟩
 have HC:Hid (∀ i,i < N->∀ wx,Below w.heap.size w wx->Calls Tryz.prog 69 #[.slice p N cap,.int .i64 (i:Int)] wx fun e w'=>e=.returned (.int .i64 (wr (ts.map It.p) i))/\Below w.heap.size w w'):=hide (fun i hi wx h=>by
  rw[hN] at hi ⊢
  exact (fault_any hR hS _ ts hf hl i _ (List.getElem?_eq_getElem hi) wx (HV.out.below h)).mono fun e w' ⟨h1,h2⟩=>⟨h1,bel2 h h2⟩)
 have HD:Hid (∀ i,i < N->wr (ts.map It.p) i≠0->(∀ j,j < i->wr (ts.map It.p) j=0)->Chk (ts.map It.p) (wr (ts.map It.p) i) (i:Int)):=hide (fun i hi hw hj=>.inr ⟨i,by rw[List.length_map,<-hN];exact hi,rfl,rfl,hw,hj⟩)
 have HZ:Hid ((∀ j,j < N->wr (ts.map It.p) j=0)->Chk (ts.map It.p) 0 (-1)):=hide (fun h=>.inl ⟨rfl,rfl,fun i hi=>h i (by rw[List.length_map,<-hN] at hi;exact hi)⟩)
 rw[<-hN] at hl ⊢
 clear hN HV hcap hf hR hS
 go_enter Tryz.func26,Tryz.ntmps26
 go_wp2_with fail
 go_loopg [8] N (fun g v8 wx=>∃ i:Nat,i+g=N/\v8=.int .i64 (i:Int)/\Hid (Below w.heap.size w wx/\∀ j,j < i->Pol8.wr (ts.map It.p) j=0))
 case atStart=>exact⟨0,by omega,rfl,hide ⟨Below.refl _ _,fun j hj=>by omega⟩⟩
 case round =>
  obtain⟨i,hi,rfl,HU⟩:=hrel
  by_cases hlt:i < N
  ·have C1:=hide (HC.out i hlt _ HU.out.1)
   have HD1:=hide (HD.out i hlt)
   have HU2:=hide HU.out.2
   generalize hE:Pol8.wr (ts.map It.p) i=E at C1 HD1
   have HE:=hide hE
   clear hE HC HD HZ
   by_cases h0:E=0
   ·subst h0
    go_wp2_with fail
    refine C1.out.mono ?_
    rintro e w2 ⟨rfl,h2⟩
    have H2:=hide h2
    clear h2 C1 HU HD1
    go_wp2_with fail
    go_roundg (N - i - 1)
    case measure=>omega
    case rel=>exact⟨i+1,by omega,by first | rfl | simp,hide ⟨H2.out,fun j hj=>by
     by_cases e:j=i
     ·rw[e];exact HE.out
     ·exact HU2.out j (by omega)⟩⟩
   ·have hne:(E != 0)=true:=by simpa using h0
    have HK:=hide (HD1.out h0 HU2.out)
    clear h0 HD1 HE HU2
    go_wp2_with fail
    refine C1.out.mono ?_
    rintro e w2 ⟨rfl,h2⟩
    have H2:=hide h2
    clear h2 C1 HU
    go_wp2_with fail
    go_ret2
    exact⟨⟨E,(i:Int),rfl,HK.out⟩,H2.out⟩
  ·have HK:=hide (HZ.out (fun j hj=>HU.out.2 j (by omega)))
   have HB:=hide HU.out.1
   clear HC HD HZ HU
   go_wp2_with fail
   go_ret2
   exact⟨⟨0,-1,rfl,HK.out⟩,HB.out⟩
theorem rlightl_any (v:Value) (ts:List It) (w:World)(hv:PolRow w v ts) :
  Calls Tryz.prog 25 #[v] w fun e w'=>(∃ b:Bool,e=.returned (.bool b)/\(b=true->ts.length<=12/\∀ t∈ts,light t.p))/\Below w.heap.size w w':=by
 have HV:=hide hv
 obtain⟨p,cap,rfl,hcap,-,-⟩:=hv
 obtain⟨N,hN⟩:∃ N,N=ts.length:=⟨_,rfl⟩
 have HC:Hid (∀ i,i < N->∀ wx,Below w.heap.size w wx->∃ (t:It) (b off:Nat),ts[i]?=some t/\p=some ⟨b,off,none⟩/\wx.rangeAt b (off+i*9) t.cells/\Calls Tryz.prog 10 #[t.val] wx fun e w'=>(∃ b:Bool,e=.returned (.bool b)/\(b=true->light t.p))/\Below w.heap.size w w'):=hide (fun i hi wx h=>by
  rw[hN] at hi
  have ht:=List.getElem?_eq_getElem hi
  obtain⟨b,off,cp,e,-,hr,hk⟩:=(HV.out.below h).at ht
  injection e with e
  exact⟨ts[i],b,off,ht,e,hr _ _ ht,(rlight_any _ _ _ _ _ _ _ _ _ _ _ wx (hk _ _ ht)).mono fun e w' ⟨h1,h2⟩=>⟨h1,bel2 h h2⟩⟩)
 have HN:=hide hN
 rw[<-hN]
 clear hN HV hcap
 by_cases h12:12 < N
 ·clear HC
  go_enter Tryz.func25,Tryz.ntmps25
  go_wp2_with fail
  go_ret
  exact⟨⟨false,rfl,fun h=>by cases h⟩,Below.refl _ _⟩
 ·have hN12:N<=12:=by omega
  clear h12
  go_enter Tryz.func25,Tryz.ntmps25
  go_wp2_with fail
  go_loopg [3] N (fun g v3 wx=>∃ i:Nat,i+g=N/\v3=.int .i64 (i:Int)/\Hid (Below w.heap.size w wx/\∀ (j:Nat) (t:It),j < i->ts[j]?=some t->light t.p))
  case atStart=>exact⟨0,by omega,rfl,hide ⟨Below.refl _ _,fun j t hj=>by omega⟩⟩
  case round =>
   obtain⟨i,hi,rfl,HU⟩:=hrel
   by_cases hlt:i < N
   ·obtain⟨t,b,off,ht,rfl,hr,hc⟩:=HC.out i hlt _ HU.out.1
    have C1:=hide hc
    have HT:=hide ht
    have HU2:=hide HU.out.2
    obtain⟨y0,y1,y2,y3,y4,y5,y6,y7,y8⟩:=nine hr
    clear hc ht HC HU hr
    obtain⟨P,v1,v2,v3,v4,v5,l1,l2,l3,l4,l5⟩:=t
    simp only[] at y0 y1 y2 y3 y4 y5 y6 y7 y8
    go_wp2_with fail
    refine C1.out.mono ?_
    rintro e w2 ⟨⟨r,rfl,hr⟩,h2⟩
    have H2:=hide h2
    have HR:=hide hr
    clear h2 C1 hr y0 y1 y2 y3 y4 y5 y6 y7 y8
    cases r with
    | false =>
     go_wp2_with fail
     go_ret
     exact⟨⟨false,rfl,fun h=>by cases h⟩,H2.out⟩
    | true =>
     have HR1:=hide (HR.out rfl)
     clear HR
     go_wp2_with fail
     go_roundg (N - i - 1)
     case measure=>omega
     case rel=>exact⟨i+1,by omega,by first | rfl | simp,hide ⟨H2.out,fun j t hj hjt=>by
      by_cases e:j=i
      ·subst e
       rw[HT.out] at hjt
       cases hjt
       exact HR1.out
      ·exact HU2.out j t (by omega) hjt⟩⟩
   ·have HK:Hid (∀ t∈ts,light t.p):=hide (fun t ht=>by
     obtain⟨j,hj⟩:=List.getElem?_of_mem ht
     have hl:=(List.getElem?_eq_some_iff.1 hj).1
     exact HU.out.2 j t (by have:=HN.out;omega) hj)
    have HB:=hide HU.out.1
    clear HC HU
    go_wp2_with fail
    go_ret
    exact⟨⟨true,rfl,fun _=>⟨hN12,HK.out⟩⟩,HB.out⟩
end Go.Proofs.YtkiofbikkhhdfabGreatDoor
