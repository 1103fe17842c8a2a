import PyProof.Rows.All
import Wide.All
import OpenK.AllK
import Wide.FinOn
import Lean
import PyProof.EqAt
import PyProof.EqKinds
import PyProof.TupleCall
import KE.KRevIter
import PyProof.EnumMake
import KE.KDictSum
import PyProof.Rows.SortWalk
import PyProof.Rows.SeqMore
import PyProof.Rows.SetFrom
import PyProof.SetRoads
import PyProof.Draws
import PyProof.DictWalks
import PyProof.SetKind
import OpenK.KMore
import PyProof.Rows.TupIter
import PyProof.TupleOfGen
import PyProof.CollectIter
import PyProof.Rows.Tup
import PySem.Challenge.RW_tastesbook_k73_bars_scaled
set_option Elab.async false
set_option linter.all false
open PySem.W renaming Frag → Fq
set_option maxRecDepth 100000
namespace L2
open PySem PySem.Spec PyProof.Rows
abbrev Key:=Sum Int Str
def Za2:Key->Value->Bool
 | .inl k,v=>Value.isInt k v
 | .inr x,v=>Value.isStrOf x v
def keyH (w:World):Key->Int
 | .inl k=>hashInt k
 | .inr x=>hashStr w x
theorem Qu:∀ {k:Key} {v:Value},Za2 k v=true->(∃ i t,k=Sum.inl i/\v=Value.int i t)\/(∃ x t,k=Sum.inr x/\v=Value.str x t)
 | .inl i,v,h=>by
   obtain ⟨t,e⟩:=Value.isInt_shape (k:=i) (v:=v) h
   exact .inl ⟨i,t,rfl,e⟩
 | .inr x,v,h=>by
   obtain ⟨t,e⟩:=Value.isStrOf_shape (x:=x) (v:=v) h
   exact .inr ⟨x,t,rfl,e⟩
theorem Zu3 (i:Int) (t:Tok):Za2 (.inl i) (.int i t)=true:=by simp [Za2,Value.isInt]
theorem Zu2 (x:Str) (t:Tok):Za2 (.inr x) (.str x t)=true:=by simp [Za2,Value.isStrOf]
theorem Z1m (a b:Int):decide ((Sum.inl a:Key)=Sum.inl b)=(a == b):=by
 by_cases e:a=b
 · subst e; simp
 · have h:¬ (Sum.inl a:Key)=Sum.inl b:=λ q=>e (Sum.inl.inj q)
   rw [decide_eq_false h]
   exact (beq_eq_false_iff_ne.mpr e).symm
theorem Z1j (a b:Str):decide ((Sum.inr a:Key)=Sum.inr b)=decide (a=b):=by
 by_cases e:a=b
 · subst e; simp
 · have h:¬ (Sum.inr a:Key)=Sum.inr b:=λ q=>e (Sum.inr.inj q)
   rw [decide_eq_false h,decide_eq_false e]
theorem Z1l (a:Int) (b:Str):decide ((Sum.inl a:Key)=Sum.inr b)=false:=decide_eq_false (λ q=>nomatch q)
theorem Z1k (a:Str) (b:Int):decide ((Sum.inr a:Key)=Sum.inl b)=false:=decide_eq_false (λ q=>nomatch q)
def Y8 (prog:Program) (w:World):PySem.KeyKind prog w Key where
 is:=Za2
 hash:=keyH w
 inj:=λ v a b ha hb=>by
  rcases Qu ha with ⟨i,t,rfl,rfl⟩ | ⟨x,t,rfl,rfl⟩
  · rcases Qu hb with ⟨j,u,rfl,e⟩ | ⟨y,u,rfl,e⟩
    · injection e with e1 _; rw [e1]
    · exact nomatch e
  · rcases Qu hb with ⟨j,u,rfl,e⟩ | ⟨y,u,rfl,e⟩
    · exact nomatch e
    · injection e with e1 _; rw [e1]
 byValue:=λ k v h=>by
  rcases Qu h with ⟨i,t,rfl,rfl⟩ | ⟨x,t,rfl,rfl⟩ <;> rfl
 pyHash:=λ hv h=>by
  rcases Qu hv with ⟨i,t,rfl,rfl⟩ | ⟨x,t,rfl,rfl⟩
  · exact wpAny_pyHash_int h
  · exact wpAny_pyHash_str h
 eqBool:=λ hu hv h=>by
  rcases Qu hu with ⟨i,t,rfl,rfl⟩ | ⟨x,t,rfl,rfl⟩
  · rcases Qu hv with ⟨j,u,rfl,rfl⟩ | ⟨y,u,rfl,rfl⟩
    · rw [Z1m] at h; exact wpAny_eqBool_int h
    · rw [Z1l] at h; exact SeqAt.EqAt.int_str i t y u _ _ _ _ h
  · rcases Qu hv with ⟨j,u,rfl,rfl⟩ | ⟨y,u,rfl,rfl⟩
    · rw [Z1k] at h; exact SeqAt.EqAt.str_int x t j u _ _ _ _ h
    · rw [Z1j] at h; exact wpAny_eqBool_str h
 «strs»:=λ k x t v h=>by
  rcases Qu h with ⟨i,u,rfl,e⟩ | ⟨y,u,rfl,e⟩
  · exact nomatch e
  · injection e with e1 _
    subst e1
    cases v <;> rfl
theorem Zjz (prog:Program) (w:World) (k:Key) (v:Value):(Y8 prog w).is k v=Za2 k v:=rfl
theorem Zqf (prog:Program) (w:World) (i:Int) (t:Tok):(Y8 prog w).is (.inl i) (.int i t)=true:=Zu3 i t
theorem Zqe (prog:Program) (w:World) (x:Str) (t:Tok):(Y8 prog w).is (.inr x) (.str x t)=true:=Zu2 x t
end L2
namespace L2
open PySem PySem.Spec PyProof.Rows
inductive V where
 | non | bl (b:Bool) | int (i:Int) | str (x:Str) | byt (b:Array UInt8) | flt (b:UInt64) | ref (a:Addr) | ty (n:String)
 deriving DecidableEq
def RelV:V->Value->Prop
 | .non,u=>u=Value.none
 | .bl b,u=>u=Value.bool b
 | .int i,u=>∃ t,u=Value.int i t
 | .str x,u=>∃ t,u=Value.str x t
 | .byt b,u=>∃ t,u=Value.bytes b t
 | .flt b,u=>∃ t,u=Value.float b t
 | .ref a,u=>u=Value.ref a
 | .ty n,u=>u=Value.type n
abbrev Vals:List V->List Value->Prop:=Paired RelV
theorem Vals.length {xs:List V} {us:List Value} (r:Vals xs us):xs.length=us.length:=Paired.length r
theorem Vals.get:∀ {xs:List V} {us:List Value} {i:Nat} {x:V},Vals xs us->xs[i]?=some x->∃ u,us[i]?=some u/\RelV x u
 | _,_,_,_,.nil,e=>by simp at e
 | _,_,0,_,.cons r _,e=>by simp at e; subst e; exact ⟨_,rfl,r⟩
 | _,_,i+1,x,.cons _ t,e=>by
   obtain ⟨u,h1,h2⟩:=Vals.get (i:=i) (x:=x) t (by simpa using e)
   exact ⟨u,by simpa using h1,h2⟩
theorem Vals.set {x:V} {u:Value} (r:RelV x u):∀ {xs:List V} {us:List Value} (i:Nat),Vals xs us->Vals (xs.set i x) (us.set i u)
 | _,_,_,.nil=>.nil
 | _,_,0,.cons _ t=>.cons r t
 | _,_,i+1,.cons q t=>.cons q (Vals.set r i t)
theorem Vals.append:∀ {xs ys:List V} {us ws:List Value},Vals xs us->Vals ys ws->Vals (xs++ys) (us++ws)
 | _,_,_,_,.nil,s=>s
 | _,_,_,_,.cons r t,s=>.cons r (Vals.append t s)
theorem Vals.take:∀ {xs:List V} {us:List Value} (n:Nat),Vals xs us->Vals (xs.take n) (us.take n)
 | _,_,0,_=>.nil
 | _,_,_+1,.nil=>.nil
 | _,_,n+1,.cons r t=>.cons r (Vals.take n t)
theorem Vals.drop:∀ {xs:List V} {us:List Value} (n:Nat),Vals xs us->Vals (xs.drop n) (us.drop n)
 | _,_,0,r=>r
 | _,_,_+1,.nil=>.nil
 | _,_,n+1,.cons _ t=>Vals.drop n t
def RelO:Option V->Option Value->Prop
 | some v,some u=>RelV v u
 | none,none=>True
 | _,_=>False
def KV {κ:Type}:List (κ×V)->List (κ×Value)->Prop:=Paired λ (p:κ×V) (q:κ×Value)=>p.1=q.1/\RelV p.2 q.2
def kV:Key->V
 | .inl i=>.int i
 | .inr x=>.str x
inductive HO where
 | lst (xs:List V)
 | tup (xs:List V)
 | dK (kvs:List (Key×V)) | dT (kvs:List (List Key×V))
 | set (S:Int->Bool) (n:Nat)
 | ins (C dx:Addr) (fs:List (Str×V))
 | own (x:Addr)
 | xd (fs:List (Str×V))
 | met (f x:Addr)
 | rng (lo hi:Int)
 | frz (o:Obj) (u:HO)
 | tbl (ps:Array Value)
 | ext (φ:Heap->Prop)
abbrev Hp:=Addr->Option HO
def upd (H:Hp) (a:Addr) (o:HO):Hp:=λ b=>if b=a then some o else H b
theorem Zn {H:Hp} {a:Addr} {o:HO}:upd H a o a=some o:=by unfold upd; rw [if_pos rfl]
theorem Z5 {H:Hp} {a b:Addr} {o:HO} (h:b≠a):upd H a o b=H b:=by unfold upd; rw [if_neg h]
theorem Z19 {H:Hp} {a b:Addr} {o u:HO} (h:H a=some o) (h':H b=some u) (d:o≠u):a≠b:=by
 intro e; subst e; rw [h] at h'; exact d (Option.some.inj h')
theorem Qi {H:Hp} {a b:Addr} {o:HO} (h:H a=some o) (h':H b=none):a≠b:=by
 intro e; subst e; rw [h] at h'; cases h'
section
variable (P:Program) (w:World)
def ObjOk (H:Hp) (h:Heap) (a:Addr):HO->Prop
 | .lst xs=>xs.length<=sizeLine/\∃ (its:List Value) (n:Nat),Vals xs its/\h.get? a=some { cls:=.type "list",data:=.seq its.toArray n }
 | .tup xs=>xs.length<=sizeLine/\∃ its:List Value,Vals xs its/\IsTup h a its.toArray
 | .dK kvs=>kvs.length<=sizeLine/\(a == sysModules)=false/\∃ vs,KV kvs vs/\h.DictOf (Y8 P w) a vs
 | .dT kvs=>kvs.length<=sizeLine/\(a == sysModules)=false/\∃ xs:List (List Key×Addr×Value),
  Paired (λ (p:List Key×V) (q:List Key×Addr×Value)=>p.1=q.1/\H q.2.1=some (.tup (p.1.map kV))/\RelV p.2 q.2.2) kvs xs /\
  ∃ o es ep,h.get? a=some o/\o.ExactDict/\o.data=.dict es ep/\es.toList=xs.map (entryOfKey (tupleKind (Y8 P w)))/\(xs.map (·.1)).Nodup
 | .set S n=>h.SetOf (intKind P w) a S n
 | .ins C dx fs=>H dx=some (.own a)/\fs.length<=1000/\dx≠a/\h.get? a=some (PySem.W.instObj C dx) /\
  ∃ mA,h.Ns1 dx mA/\(∀ f,RelO (fs.lookup f) (mA f))/\PySem.Within mA (fs.map (·.1))
 | .own _=>∃ o,h.get? a=some o
 | .xd fs=>∃ mA,h.Ns1 a mA/\∀ f,RelO (fs.lookup f) (mA f)
 | .rng lo hi=>∃ t u v,h.get? a=some { cls:=.type "range",data:=.fields #[.int lo t,.int hi u,.int 1 v] }
 | .frz o u=>h.get? a=some o/\ObjOk H h a u
 | .tbl ps=>h.get? a=some { cls:=.none,data:=.fields ps }
 | .met f x=>h.get? a=some (PySem.W.methodObj (.ref f) (.ref x))
 | .ext φ=>φ h/\(∃ o,h.get? a=some o)/\∀ h1 h2:Heap,φ h1->(∀ o,h1.get? a=some o->h2.get? a=some o)->φ h2
def HOk (H:Hp) (h:Heap):Prop:=∀ a o,H a=some o->ObjOk P w H h a o
end
section
variable {P:Program} {w:World} {H H':Hp} {h h':Heap} {a:Addr} {o:HO}
theorem ObjOk.lt (x:ObjOk P w H h a o):a<h.objs.size:=by
 cases o with
 | lst xs=>obtain ⟨_,_,_,_,e⟩:=x; exact Heap.lt_size e
 | tup xs=>obtain ⟨_,_,_,p⟩:=x; exact p.lt
 | dK kvs=>obtain ⟨_,_,_,_,o,_,_,e,_⟩:=x; exact Heap.lt_size e
 | dT kvs=>obtain ⟨_,_,_,_,o,_,_,e,_⟩:=x; exact Heap.lt_size e
 | set S n=>obtain ⟨o,_,_,_,e,_⟩:=x; exact Heap.lt_size e
 | ins C dx fs=>obtain ⟨_,_,_,e,_⟩:=x; exact Heap.lt_size e
 | own y=>obtain ⟨_,e⟩:=x; exact Heap.lt_size e
 | xd fs=>obtain ⟨_,⟨_,_,_,e,_⟩,_⟩:=x; exact Heap.lt_size e
 | rng lo hi=>obtain ⟨_,_,_,e⟩:=x; exact Heap.lt_size e
 | frz ob u=>obtain ⟨e,_⟩:=x; exact Heap.lt_size e
 | tbl ps=>exact Heap.lt_size (show h.get? a=some _ from x)
 | met f y=>exact Heap.lt_size (show h.get? a=some _ from x)
 | ext φ=>obtain ⟨_,⟨_,e⟩,_⟩:=x; exact Heap.lt_size e
theorem Paired.mapP {α β:Type} {F G:α->β->Prop}:∀ {l₁:List α} {l₂:List β},Paired F l₁ l₂->(∀ a b,F a b->G a b)->Paired G l₁ l₂
 | _,_,.nil,_=>.nil
 | _,_,.cons r t,f=>.cons (f _ _ r) (Paired.mapP t f)
theorem ObjOk.stay (x:ObjOk P w H h a o) (k:∀ b u,(b=a\/H b=some (.own a))->h.get? b=some u->h'.get? b=some u)
 (ho:∀ b,H b=some (.own a)->H' b=some (.own a)) (ht:∀ b xs,H b=some (.tup xs)->H' b=some (.tup xs)):ObjOk P w H' h' a o:=by
 induction o with
 | lst xs=>obtain ⟨z,its,n,r,e⟩:=x; exact ⟨z,its,n,r,k _ _ (.inl rfl) e⟩
 | tup xs=>obtain ⟨z,its,r,ob,e,c⟩:=x; exact ⟨z,its,r,ob,k _ _ (.inl rfl) e,c⟩
 | dK kvs=>obtain ⟨z,y,vs,r,ob,es,ep,e,c⟩:=x; exact ⟨z,y,vs,r,ob,es,ep,k _ _ (.inl rfl) e,c⟩
 | dT kvs =>
   obtain ⟨z,y,xs,r,ob,es,ep,e,c⟩:=x
   exact ⟨z,y,xs,Paired.mapP r λ p q z=>⟨z.1,ht _ _ z.2.1,z.2.2⟩,ob,es,ep,k _ _ (.inl rfl) e,c⟩
 | set S n=>obtain ⟨ob,es,ep,t,e,c⟩:=x; exact ⟨ob,es,ep,t,k _ _ (.inl rfl) e,c⟩
 | ins C dx fs =>
   obtain ⟨d,z,ne,e,mA,⟨od,es,ep,e2,c⟩,r⟩:=x
   exact ⟨ho _ d,z,ne,k _ _ (.inl rfl) e,mA,⟨od,es,ep,k _ _ (.inr d) e2,c⟩,r⟩
 | own y=>obtain ⟨ob,e⟩:=x; exact ⟨ob,k _ _ (.inl rfl) e⟩
 | xd fs=>obtain ⟨mA,⟨od,es,ep,e,c⟩,r⟩:=x; exact ⟨mA,⟨od,es,ep,k _ _ (.inl rfl) e,c⟩,r⟩
 | rng lo hi=>obtain ⟨t,u,v,e⟩:=x; exact ⟨t,u,v,k _ _ (.inl rfl) e⟩
 | frz ob u ih=>obtain ⟨e,q⟩:=x; exact ⟨k _ _ (.inl rfl) e,ih q⟩
 | tbl ps =>
   have e:h.get? a=some { cls:=.none,data:=.fields ps }:=x
   show h'.get? a=some { cls:=.none,data:=.fields ps }
   exact k a _ (.inl rfl) e
 | met f y =>
   have e:h.get? a=some (PySem.W.methodObj (.ref f) (.ref y)):=x
   show h'.get? a=some (PySem.W.methodObj (.ref f) (.ref y))
   exact k a _ (.inl rfl) e
 | ext φ=>obtain ⟨p,⟨o,e⟩,st⟩:=x; exact ⟨st _ _ p λ o q=>k _ _ (.inl rfl) q,⟨o,k _ _ (.inl rfl) e⟩,st⟩
theorem HOk.lt (x:HOk P w H h) (e:H a=some o):a<h.objs.size:=(x a o e).lt
theorem HOk.fresh (x:HOk P w H h) (e:h.objs.size<=a):H a=none:=by
 cases q:H a with
 | none=>rfl
 | some u=>exact absurd (Nat.lt_of_lt_of_le (x.lt q) e) (Nat.lt_irrefl _)
theorem HOk.kept (x:HOk P w H h) (k:∀ b u,h.get? b=some u->h'.get? b=some u):HOk P w H h':=λ a o e =>
 (x a o e).stay (λ b u _ q=>k b u q) (λ _ q=>q) λ _ _ q=>q
theorem HOk.laid (x:HOk P w H h) (k:∀ b u,h.get? b=some u->h'.get? b=some u) (hp:h.objs.size<=a) (new:ObjOk P w (upd H a o) h' a o):HOk P w (upd H a o) h':=λ b u e=>by
 have hn:=x.fresh hp
 by_cases hb:b=a
 · subst hb; rw [Zn] at e; cases e; exact new
 · rw [Z5 hb] at e
   exact (x b u e).stay (λ c v _ q=>k c v q) (λ c q=>by rw [Z5 (Qi q hn)]; exact q) λ c xs q=>by rw [Z5 (Qi q hn)]; exact q
end
def Rd (H:Hp) (a:Addr) (u:HO):Prop:=H a=some u\/∃ o,H a=some (.frz o u)
theorem Rd.ok {P:Program} {w:World} {H:Hp} {h:Heap} {a:Addr} {u:HO} (r:Rd H a u) (x:HOk P w H h):ObjOk P w H h a u:=by
 rcases r with r | ⟨o,r⟩
 · exact x a u r
 · obtain ⟨_,q⟩:=x a _ r
   exact q
def Mut:Option HO->Prop
 | some (.lst _)=>True
 | some (.dK _)=>True
 | some (.dT _)=>True
 | some (.set _ _)=>True
 | some (.ins _ _ _)=>True
 | some (.ext _)=>True
 | _=>False
section
variable {P:Program} {w:World} {H:Hp} {h h':Heap} {x e:Addr} {o':HO}
theorem HOk.write (ok:HOk P w H h) (mu:Mut (H x)) (he:e=x\/H e=some (.own x)) (k:∀ b u,b≠e->h.get? b=some u->h'.get? b=some u) (heo:∃ u,h'.get? e=some u)
 (new:ObjOk P w (upd H x o') h' x o'):HOk P w (upd H x o') h':=λ b u q=>by
 have nown:∀ c y,H c=some (.own y)->c≠x:=λ c y r z=>by subst z; rw [r] at mu; exact mu
 have ntup:∀ c xs,H c=some (.tup xs)->c≠x:=λ c xs r z=>by subst z; rw [r] at mu; exact mu
 by_cases hb:b=x
 · subst hb; rw [Zn] at q; cases q; exact new
 · rw [Z5 hb] at q
   by_cases hbe:b=e
   · have q':H b=some (.own x):=by
      rcases he with z | z
      · exact absurd (hbe.trans z) hb
      · rw [hbe]; exact z
     rw [q] at q'; cases q'
     obtain ⟨v,hv⟩:=heo
     exact ⟨v,by rw [hbe]; exact hv⟩
   · refine (ok b u q).stay (λ c v hc r=>k c v ?_ r) (λ c r=>by rw [Z5 (nown c b r)]; exact r) λ c xs r=>by rw [Z5 (ntup c xs r)]; exact r
     rcases hc with rfl | hc
     · exact hbe
     · rintro rfl
       rcases he with z | z
       · exact nown c b hc z
       · rw [hc] at z; cases z; exact hb rfl
end
structure Un (fs ex:List Addr) (H H':Hp) (h h':Heap):Prop where
 keep:∀ b o,h.get? b=some o->H b=none->b ∉ fs->b ∉ ex->h'.get? b=some o
 slot:∀ b o,h.get? b=some o->H b=none->b∈fs->b ∉ ex->∃ sl,h'.get? b=some { o with slots:=sl }
 free:∀ b o,h.get? b=some o->H b=none->b ∉ ex->H' b=none
 there:∀ b o,h.get? b=some o->b ∉ ex->∃ o',h'.get? b=some o'
 tups:∀ b xs,H b=some (.tup xs)->H' b=some (.tup xs)
 frzs:∀ b o u,H b=some (.frz o u)->H' b=some (.frz o u)
 tbls:∀ b ps,H b=some (.tbl ps)->∃ more,H' b=some (.tbl (ps++more))
section
variable {fs fs' ex ex':List Addr} {H H1 H2:Hp} {h h1 h2 h':Heap} {a x e:Addr} {o:HO}
theorem Un.any (u:Un fs ex H H1 h h1) {b:Addr} {ob:Obj} (q:h.get? b=some ob) (n:H b=none) (hx:b ∉ ex):∃ sl,h1.get? b=some { ob with slots:=sl }:=by
 by_cases hb:b∈fs
 · exact u.slot b ob q n hb hx
 · exact ⟨ob.slots,u.keep b ob q n hb hx⟩
theorem Un.kept (k:∀ b u,h.get? b=some u->h'.get? b=some u):Un fs ex H H h h' :=
 ⟨λ b ob q _ _ _=>k b ob q,λ b ob q _ _ _=>⟨ob.slots,k b ob q⟩,λ _ _ _ n _=>n,λ b ob q _=>⟨ob,k b ob q⟩,λ _ _ q=>q,λ _ _ _ q=>q,λ _ ps q=>⟨#[],by rw [q]; simp⟩⟩
theorem Un.refl:Un fs ex H H h h:=Un.kept λ _ _ q=>q
theorem Un.laid (k:∀ b u,h.get? b=some u->h'.get? b=some u) (hp:h.objs.size<=a) (hn:H a=none):Un fs ex H (upd H a o) h h' where
 keep:=λ b u q _ _ _=>k b u q
 slot:=λ b u q _ _ _=>⟨u.slots,k b u q⟩
 free:=λ b u q n _=>by rw [Z5 (Nat.ne_of_lt (Nat.lt_of_lt_of_le (Heap.lt_size q) hp))]; exact n
 there:=λ b u q _=>⟨u,k b u q⟩
 tups:=λ b xs q=>by rw [Z5 (Qi q hn)]; exact q
 frzs:=λ b u xs q=>by rw [Z5 (Qi q hn)]; exact q
 tbls:=λ b ps q=>⟨#[],by rw [Z5 (Qi q hn),q]; simp⟩
theorem Un.write (mu:Mut (H x)) (he:e=x\/H e=some (.own x)) (k:∀ b u,b≠e->h.get? b=some u->h'.get? b=some u) (heo:∃ u,h'.get? e=some u):Un fs ex H (upd H x o) h h':=by
 have hx:∀ b,H b=none->b≠x:=λ b n z=>by subst z; rw [n] at mu; exact mu
 have hb:∀ b,H b=none->b≠e:=λ b n z=>by
  subst z
  rcases he with r | r
  · exact hx b n r
  · rw [n] at r; cases r
 have hm:∀ b u,H b=some u->¬ Mut (some u)->b≠x:=λ b u q nm z=>by subst z; rw [q] at mu; exact nm mu
 refine ⟨λ b u q n _ _=>k b u (hb b n) q,λ b u q n _ _=>⟨u.slots,k b u (hb b n) q⟩,λ b u q n _=>by rw [Z5 (hx b n)]; exact n,λ b u q _=>?_,
  λ b xs q=>by rw [Z5 (hm b _ q λ z=>z)]; exact q,λ b u xs q=>by rw [Z5 (hm b _ q λ z=>z)]; exact q,λ b ps q=>⟨#[],by rw [Z5 (hm b _ q λ z=>z),q]; simp⟩⟩
 by_cases hbe:b=e
 · subst hbe; exact heo
 · exact ⟨u,k b u hbe q⟩
end
def trk (h:Heap) (H:Hp):List Addr:=(List.range h.objs.size).filter λ a=>(H a).isSome
def hidT (h:Heap) (H:Hp):Heap:=PySem.W.hideAll h (trk h H)
theorem Zu9 (h:Heap) (H:Hp):(hidT h H).objs.size=h.objs.size:=PySem.W.hideAll_size _ _
theorem Zxi {h:Heap} {H:Hp} {b:Addr} {o:Obj} (e:h.get? b=some o) (n:H b=none):(hidT h H).get? b=some o :=
 PySem.W.hideAll_get _ e λ hm=>by
  have q:(H b).isSome=true:=(List.mem_filter.mp hm).2
  rw [n] at q; simp at q
theorem Zzl {h:Heap} {H:Hp} {b:Addr} {o:Obj} (e:(hidT h H).get? b=some o):h.get? b=some o/\H b=none:=by
 have e':h.get? b=some o:=PySem.W.of_hideAll (trk h H) e
 refine ⟨e',?_⟩
 cases q:H b with
 | none=>rfl
 | some x =>
   have hm:b∈trk h H:=List.mem_filter.mpr ⟨List.mem_range.mpr (Heap.lt_size e'),by simp [q]⟩
   have z:(hidT h H).get? b=none:=PySem.W.hideAll_none (trk h H) hm
   rw [z] at e; cases e
def Z0g (g h:Heap) (L:Addr):List (Addr×Obj):=(List.range h.objs.size).filterMap λ a=>if a=L\/(g.get? a).isSome=true then none else (h.get? a).map λ o=>(a,o)
def rest (g h:Heap) (L d:Addr):List (Addr×Obj):=(Z0g g h L).filter λ p=>decide (p.1≠d)
end L2
namespace L2
open PySem PySem.Spec PyProof.Rows
structure Mod (K:Fq) (mg:Str->Option Value) (base:Heap):Prop where
 kin:K.In base
 glob:base.Ns mainGlobals mg
 blt:∃ mb,base.Ns builtinsNs mb/\∀ x:Str,x≠"__name__"->mb x=bootBuiltins x
 nolimit:base.NoLimit
structure Cx where
 prog:Program
 w:World
 K:Fq
 mg:Str->Option Value
 base:Heap
 A:Around
 N:List Str
 s₀:Shared
 H₀:Hp
 env:Env
 outer:List Env
 stack:List Env
 ex:List Addr
 fn:Str->Bool
 calm:Bool
 pn:List (Addr×Obj)
 xe:Value->Shared->Prop
def frs (l:List Env):List Addr:=l.filterMap (·.frame)
abbrev Cx.fs (X:Cx):List Addr:=frs X.outer
def Vis (sc:Scope) (x:Str):Prop:=sc.names.lookup x=some .local\/sc.names.lookup x=some .cell\/sc.names.lookup x=some .free
def Loc (sc:Scope) (x:Str):Prop:=sc.names.lookup x=some .local\/sc.names.lookup x=some .cell
def Look (env:Env) (h:Heap) (m:Str->Option Value) (x:Str) (u:Value):Prop :=
 (env.kindOf x=some .local/\m x=some u)\/((env.kindOf x=some .cell\/env.kindOf x=some .free)/\∃ c,env.cells.lookup x=some c/\h.IsCell c (some u))
structure Cx.Ok (X:Cx):Prop where
 mod:Mod X.K X.mg X.base
 kind:X.env.scope.kind=.function
 glob:X.env.globals=mainGlobals
 blt:X.env.builtins=builtinsNs
 above:X.s₀.heap.objs.size<=X.env.locals
 inj:∀ x y c,X.env.cells.lookup x=some c->X.env.cells.lookup y=some c->x=y
 has:∀ x,(X.env.kindOf x=some .cell\/X.env.kindOf x=some .free)->∃ c,X.env.cells.lookup x=some c
 cab:∀ x c,X.fn x=true->X.env.cells.lookup x=some c->X.s₀.heap.objs.size<=c
 hd:X.calm=true->X.A.handled=none
 frames:X.A.frames=some X.stack
 stk:X.stack=X.outer\/(X.stack=X.env::X.outer/\X.env.frame=some X.env.locals)
 exf:∀ b∈X.ex,b≠X.env.locals/\∀ x c,X.env.cells.lookup x=some c->c≠b
 bs:∀ b o,X.base.get? b=some o->X.s₀.heap.get? b=some o/\X.H₀ b=none
 bsz:X.base.objs.size<=X.s₀.heap.objs.size
 noex:∀ b o,X.base.get? b=some o->b ∉ X.ex
 exfs:∀ b∈X.ex,b ∉ X.fs
 funs:X.s₀.heap.FunFrames X.base X.outer
 frf:∀ b∈X.fs,X.H₀ b=none
structure Inv (X:Cx) (pins:List (Addr×Obj)) (σ:List (Option V)) (H:Hp) (s:Shared):Prop where
 ok:X.Ok
 os:s.os=X.s₀.os
 bare:AllBare s.gens
 base:Un X.fs X.ex X.H₀ H X.s₀.heap s.heap
 loc:∃ m,s.heap.Ns X.env.locals m/\∀ (i:Nat) (x:Str) (v:V),X.N[i]?=some x->σ[i]?=some (some v)->Vis X.env.scope x->∃ u,RelV v u/\Look X.env s.heap m x u
 cell:∀ x c,X.env.cells.lookup x=some c->∃ v,s.heap.IsCell c v
 free:H X.env.locals=none
 freeC:∀ x c,X.env.cells.lookup x=some c->H c=none
 pin:∀ p∈X.pn++pins,s.heap.get? p.1=some p.2/\H p.1=none/\p.1≠X.env.locals/\p.1 ∉ X.fs/\∀ v,p.2.data≠.cell v
 hok:HOk X.prog X.w H s.heap
 len:σ.length=X.N.length
section
variable {X:Cx} {pins:List (Addr×Obj)} {σ:List (Option V)} {H H':Hp} {s:Shared} {h':Heap}
theorem Cx.Ok.nofr (ok:X.Ok) {b:Addr} {o:Obj} (e:X.base.get? b=some o):b ∉ X.fs:=λ hb=>by
 have:=(ok.funs.mem hb).1
 rw [e] at this; cases this
theorem Inv.bs (I:Inv X pins σ H s):∀ b o,X.base.get? b=some o->s.heap.get? b=some o/\H b=none:=λ b o e =>
 ⟨I.base.keep b o (I.ok.bs b o e).1 (I.ok.bs b o e).2 (I.ok.nofr e) (I.ok.noex b o e),I.base.free b o (I.ok.bs b o e).1 (I.ok.bs b o e).2 (I.ok.noex b o e)⟩
theorem Inv.bk (I:Inv X pins σ H s):∀ b o,X.base.get? b=some o->s.heap.get? b=some o:=λ b o e=>(I.bs b o e).1
theorem Inv.mod (I:Inv X pins σ H s):Mod X.K X.mg X.base:=I.ok.mod
theorem Inv.kIn (I:Inv X pins σ H s):X.K.In s.heap:=I.ok.mod.kin.keeps I.bk
theorem Inv.lt (I:Inv X pins σ H s):X.env.locals<s.heap.objs.size:=let ⟨_,hn,_⟩:=I.loc; hn.lt
theorem Inv.sz (I:Inv X pins σ H s):X.s₀.heap.objs.size<=s.heap.objs.size:=Nat.le_trans I.ok.above (Nat.le_of_lt I.lt)
theorem Inv.nofs (I:Inv X pins σ H s) {a:Addr} (h:s.heap.objs.size<=a):a ∉ X.fs:=λ hb=>by
 obtain ⟨_,o,ho,_⟩:=I.ok.funs.mem hb
 exact absurd (Nat.lt_of_lt_of_le (Heap.lt_size ho) (Nat.le_trans I.sz h)) (Nat.lt_irrefl _)
theorem Inv.cne (I:Inv X pins σ H s):∀ x c,X.env.cells.lookup x=some c->c≠X.env.locals:=λ x c e z=>by
 obtain ⟨v,o,ho,hd⟩:=I.cell x c e
 obtain ⟨m,⟨o',es,ep,ho',hd',_⟩,_⟩:=I.loc
 rw [z,ho'] at ho; cases ho; rw [hd'] at hd; cases hd
theorem Inv.funs (I:Inv X pins σ H s):s.heap.FunFrames X.base X.outer:=by
 have all:∀ (l:List Env),(∀ b∈frs l,b∈X.fs)->X.s₀.heap.FunFrames X.base l->s.heap.FunFrames X.base l:=by
  intro l
  induction l with
  | nil=>intro _ _; trivial
  | cons env r ih =>
    intro hs hl
    obtain ⟨hk,⟨L,o,hf,hn,ho,hd⟩,hr⟩:=hl
    have hL:L∈X.fs:=hs L (by unfold frs; rw [List.filterMap_cons,hf]; exact List.mem_cons_self)
    obtain ⟨sl,e⟩:=I.base.slot L o ho (I.ok.frf L hL) hL λ z=>I.ok.exfs L z hL
    exact ⟨hk,⟨L,_,hf,hn,e,hd⟩,ih (λ b hb=>hs b (by unfold frs; rw [List.filterMap_cons,hf]; exact List.mem_cons_of_mem _ hb)) hr⟩
 exact all X.outer (λ _ hb=>hb) I.ok.funs
theorem Inv.stack (I:Inv X pins σ H s):s.heap.FunFrames X.base X.stack:=by
 rcases I.ok.stk with e | ⟨e,hf⟩
 · rw [e]; exact I.funs
 · rw [e]
   obtain ⟨m,hn,_⟩:=I.loc
   refine .cons (by rw [I.ok.kind]; decide) hf hn ?_ I.funs
   exact Heap.get?_none_of_le (Nat.le_trans I.ok.bsz I.ok.above)
theorem Inv.stkSub (I:Inv X pins σ H s):∀ b∈frs X.stack,b∈X.env.locals::X.fs:=λ b hb=>by
 rcases I.ok.stk with e | ⟨e,hf⟩
 · rw [e] at hb; exact List.mem_cons_of_mem _ hb
 · rw [e] at hb
   unfold frs at hb
   rw [List.filterMap_cons,hf] at hb
   exact hb
theorem Inv.stkFree (I:Inv X pins σ H s):∀ b∈frs X.stack,H b=none:=λ b hb=>by
 rcases List.mem_cons.mp (I.stkSub b hb) with e | hb
 · rw [e]; exact I.free
 · obtain ⟨_,o,ho,_⟩:=I.ok.funs.mem hb
   exact I.base.free b o ho (I.ok.frf b hb) λ z=>I.ok.exfs b z hb
theorem Inv.step {g':Array GenState} {t':Nat} {d':Drawn} {ch:List Addr} (I:Inv X pins σ H s)
 (hch:∀ b∈ch,(b∈X.ex\/X.s₀.heap.objs.size<=b)/\b≠X.env.locals/\(∀ x c,X.env.cells.lookup x=some c->c≠b)/\∀ p∈X.pn++pins,p.1≠b)
 (keep:∀ b o,b≠X.env.locals->b ∉ X.fs->b ∉ ch->s.heap.get? b=some o->H b=none->h'.get? b=some o)
 (slot:∀ b o,b≠X.env.locals->b∈X.fs->b ∉ ch->s.heap.get? b=some o->H b=none->∃ sl,h'.get? b=some { o with slots:=sl }) (free:∀ b o,b ∉ ch->s.heap.get? b=some o->H b=none->H' b=none)
 (there:∀ b o,b ∉ ch->s.heap.get? b=some o->∃ o',h'.get? b=some o')
 (tups:∀ b xs,H b=some (.tup xs)->H' b=some (.tup xs)) (frzs:∀ b o u,H b=some (.frz o u)->H' b=some (.frz o u)) (tbls:∀ b ps,H b=some (.tbl ps)->∃ more,H' b=some (.tbl (ps++more)))
 (ns:∀ m,s.heap.Ns X.env.locals m->h'.Ns X.env.locals m) (hok:HOk X.prog X.w H' h') (hg:AllBare g') :
 Inv X pins σ H' { s with heap:=h',gens:=g',drawn:=d',toks:=t' }:=by
 have neL:∀ b o,X.s₀.heap.get? b=some o->b≠X.env.locals:=λ b o e=>Nat.ne_of_lt (Nat.lt_of_lt_of_le (Heap.lt_size e) I.ok.above)
 have neC:∀ b o,X.s₀.heap.get? b=some o->b ∉ X.ex->b ∉ ch:=λ b o e hx hb=>by
  rcases (hch b hb).1 with z | z
  · exact hx z
  · exact absurd (Nat.lt_of_lt_of_le (Heap.lt_size e) z) (Nat.lt_irrefl _)
 have cellK:∀ x c,X.env.cells.lookup x=some c->∀ v,s.heap.IsCell c v->h'.IsCell c v:=λ x c e v ⟨o,ho,hd⟩=>by
  have nch:c ∉ ch:=λ z=>(hch c z).2.2.1 x c e rfl
  by_cases hc:c∈X.fs
  · obtain ⟨sl,q⟩:=slot c o (I.cne x c e) hc nch ho (I.freeC x c e)
    exact ⟨_,q,hd⟩
  · exact ⟨o,keep c o (I.cne x c e) hc nch ho (I.freeC x c e),hd⟩
 refine ⟨I.ok,I.os,hg,⟨λ b o e n hb hx=>?_,λ b o e n hb hx=>?_,λ b o e n hx=>?_,λ b o e hx=>?_,λ b xs e=>tups b xs (I.base.tups b xs e),λ b o xs e=>frzs b o xs (I.base.frzs b o xs e),λ b ps e=>?_⟩,?_,λ x c e=>?_,?_,λ x c e=>?_,λ p hp=>?_,hok,I.len⟩
 · exact keep b o (neL b o e) hb (neC b o e hx) (I.base.keep b o e n hb hx) (I.base.free b o e n hx)
 · obtain ⟨sl,e1⟩:=I.base.slot b o e n hb hx
   obtain ⟨sl',e2⟩:=slot b _ (neL b o e) hb (neC b o e hx) e1 (I.base.free b o e n hx)
   exact ⟨sl',e2⟩
 · obtain ⟨o',e1⟩:=I.base.there b o e hx
   exact free b o' (neC b o e hx) e1 (I.base.free b o e n hx)
 · obtain ⟨o',e1⟩:=I.base.there b o e hx
   exact there b o' (neC b o e hx) e1
 · obtain ⟨m1,e1⟩:=I.base.tbls b ps e
   obtain ⟨m2,e2⟩:=tbls b _ e1
   exact ⟨m1++m2,by rw [e2,Array.append_assoc]⟩
 · obtain ⟨m,hn,hl⟩:=I.loc
   refine ⟨m,ns m hn,λ i x v e1 e2 e3=>?_⟩
   obtain ⟨u,r,l⟩:=hl i x v e1 e2 e3
   refine ⟨u,r,?_⟩
   rcases l with l | ⟨k,c,e,z⟩
   · exact .inl l
   · exact .inr ⟨k,c,e,cellK x c e _ z⟩
 · obtain ⟨v,z⟩:=I.cell x c e
   exact ⟨v,cellK x c e v z⟩
 · obtain ⟨m,⟨o,_,_,ho,_⟩,_⟩:=I.loc
   exact free _ o (λ z=>(hch _ z).2.1 rfl) ho I.free
 · obtain ⟨v,o,ho,hd⟩:=I.cell x c e
   exact free c o (λ z=>(hch c z).2.2.1 x c e rfl) ho (I.freeC x c e)
 · obtain ⟨e,n,ne,nf,d⟩:=I.pin p hp
   have nch:p.1 ∉ ch:=λ z=>(hch p.1 z).2.2.2 p hp rfl
   exact ⟨keep p.1 p.2 ne nf nch e n,free p.1 p.2 nch e n,ne,nf,d⟩
theorem Inv.un {t':Nat} (I:Inv X pins σ H s) (u:Un X.fs [] H H' s.heap h') (hok:HOk X.prog X.w H' h'):Inv X pins σ H' { s with heap:=h',toks:=t' }:=by
 obtain ⟨m,⟨o,es,ep,ho,r⟩,_⟩:=id I.loc
 obtain ⟨sl,hL⟩:=u.any ho I.free (by simp)
 exact I.step (g':=s.gens) (d':=s.drawn) (ch:=[]) (λ _ z=>nomatch z) (λ b o _ hb _ e n=>u.keep b o e n hb (by simp)) (λ b o _ hb _ e n=>u.slot b o e n hb (by simp)) (λ b o _ e n=>u.free b o e n (by simp)) (λ b o _ e=>u.there b o e (by simp)) u.tups u.frzs u.tbls (λ m' hm=>by
  obtain ⟨o',es',ep',ho',r'⟩:=hm
  rw [ho] at ho'; cases ho'
  exact ⟨_,es',ep',hL,r'⟩) hok I.bare
theorem Inv.call {g':Array GenState} {t':Nat} {d':Drawn} {ch:List Addr} (I:Inv X pins σ H s) (u:Un (frs X.stack) ch H H' s.heap h') (hok:HOk X.prog X.w H' h') (hg:AllBare g')
 (hch:∀ b∈ch,(b∈X.ex\/X.s₀.heap.objs.size<=b)/\b≠X.env.locals/\(∀ x c,X.env.cells.lookup x=some c->c≠b)/\∀ p∈X.pn++pins,p.1≠b) :
 Inv X pins σ H' { s with heap:=h',gens:=g',drawn:=d',toks:=t' }:=by
 obtain ⟨m,⟨o,es,ep,ho,r⟩,_⟩:=id I.loc
 obtain ⟨sl,hL⟩:=u.any ho I.free λ z=>(hch _ z).2.1 rfl
 exact I.step (ch:=ch) hch (λ b o hL hb hc e n=>u.keep b o e n (λ z=>(List.mem_cons.mp (I.stkSub b z)).elim hL hb) hc) (λ b o _ _ hc e n=>u.any e n hc) (λ b o hc e n=>u.free b o e n hc) (λ b o hc e=>u.there b o e hc) u.tups u.frzs u.tbls (λ m' hm=>by
  obtain ⟨o',es',ep',ho',r'⟩:=hm
  rw [ho] at ho'; cases ho'
  exact ⟨_,es',ep',hL,r'⟩) hok hg
theorem Inv.turned {t':Nat} {it:Addr} (I:Inv X pins σ H s) (k:∀ b o,b≠it->s.heap.get? b=some o->h'.get? b=some o) (hn:H it=none) (hL:it≠X.env.locals)
 (h1:it∈X.ex\/X.s₀.heap.objs.size<=it) (h2:∀ x c,X.env.cells.lookup x=some c->c≠it) (h3:∀ p∈X.pn++pins,p.1≠it):Inv X pins σ H { s with heap:=h',toks:=t' }:=by
 have nit:∀ b u,H b=some u->b≠it:=λ b u e z=>by rw [z,hn] at e; cases e
 refine I.step (g':=s.gens) (d':=s.drawn) (ch:=[it]) (λ b hb=>?_) (λ b o _ _ hc e _=>k b o (λ z=>hc (by simp [z])) e) (λ b o _ _ hc e _=>⟨o.slots,k b o (λ z=>hc (by simp [z])) e⟩) (λ _ _ _ _ n=>n)
  (λ b o hc e=>⟨o,k b o (λ z=>hc (by simp [z])) e⟩) (λ _ _ e=>e) (λ _ _ _ e=>e) (λ b ps e=>⟨#[],by rw [e]; simp⟩) (λ m hm=>?_) (λ b u e=>?_) I.bare
 · have e:b=it:=by simpa using hb
   subst e
   exact ⟨h1,hL,h2,h3⟩
 · obtain ⟨o,es,ep,ho,r⟩:=hm
   exact ⟨o,es,ep,k _ o (Ne.symm hL) ho,r⟩
 · refine (I.hok b u e).stay (λ c v hc q=>k c v ?_ q) (λ _ q=>q) λ _ _ q=>q
   rcases hc with z | z
   · rw [z]; exact nit b u e
   · exact nit c _ z
theorem Inv.tok (I:Inv X pins σ H s) (t:Nat):Inv X pins σ H { s with toks:=t }:=I.un (h':=s.heap) (t':=t) Un.refl I.hok
theorem Inv.kept {t':Nat} (I:Inv X pins σ H s) (k:∀ b u,s.heap.get? b=some u->h'.get? b=some u):Inv X pins σ H { s with heap:=h',toks:=t' }:=I.un (Un.kept k) (I.hok.kept k)
theorem Inv.laid {a:Addr} {o:HO} {t':Nat} (I:Inv X pins σ H s) (k:∀ b u,s.heap.get? b=some u->h'.get? b=some u) (hp:s.heap.objs.size<=a) (new:ObjOk X.prog X.w (upd H a o) h' a o) :
 Inv X pins σ (upd H a o) { s with heap:=h',toks:=t' }:=I.un (Un.laid k hp (I.hok.fresh hp)) (I.hok.laid k hp new)
theorem Inv.write {x e:Addr} {o:HO} {t':Nat} (I:Inv X pins σ H s) (mu:Mut (H x)) (he:e=x\/H e=some (.own x)) (k:∀ b u,b≠e->s.heap.get? b=some u->h'.get? b=some u) (heo:∃ u,h'.get? e=some u)
 (new:ObjOk X.prog X.w (upd H x o) h' x o):Inv X pins σ (upd H x o) { s with heap:=h',toks:=t' }:=I.un (Un.write mu he k heo) (I.hok.write mu he k heo new)
theorem Inv.pins_of {pins':List (Addr×Obj)} (I:Inv X pins σ H s) (h:∀ p∈pins',s.heap.get? p.1=some p.2/\H p.1=none/\p.1≠X.env.locals/\p.1 ∉ X.fs/\∀ v,p.2.data≠.cell v):Inv X pins' σ H s :=
 ⟨I.ok,I.os,I.bare,I.base,I.loc,I.cell,I.free,I.freeC,λ p hp=>(List.mem_append.mp hp).elim (λ z=>I.pin p (List.mem_append_left _ z)) (h p),I.hok,I.len⟩
theorem Zoq {N:List Str} (hN:N.Nodup) {i j:Nat} {x:Str} (a:N[i]?=some x) (b:N[j]?=some x):i=j:=by
 obtain ⟨h1,e1⟩:=List.getElem?_eq_some_iff.mp a
 obtain ⟨h2,e2⟩:=List.getElem?_eq_some_iff.mp b
 exact (List.getElem_inj hN).mp (e1.trans e2.symm)
theorem Zl7 {M:Model} {A:Around} {E:Value->Shared->Prop} {i:Nat} {x:Str} {v:V} {u:Value} {Q:Unit->Shared->Prop} (I:Inv X pins σ H s) (hN:X.N.Nodup) (hi:X.N[i]?=some x) (hx:Loc X.env.scope x) (r:RelV v u)
 (h:∀ s',Inv X pins (σ.set i (some v)) H s'->(∃ a,Heap.SameBut a s.heap s'.heap/\(a=X.env.locals\/X.env.cells.lookup x=some a))->Q () s') (hf:X.fn x=true\/X.env.scope.names.lookup x=some .local:=by first | exact .inl rfl | exact .inr rfl | assumption):wpAny M A (storeName X.env x u) Q E s:=by
 obtain ⟨m,hn,hl⟩:=id I.loc
 have hcls:(X.env.scope.kind == .class || (X.env.scope.kind == .module && X.env.locals != X.env.globals))=false:=by rw [I.ok.kind]; rfl
 have hiσ:i<σ.length:=by rw [I.len]; exact (List.getElem?_eq_some_iff.mp hi).1
 have cne:=I.cne
 have tracked:∀ {a:Addr} {h':Heap},(∃ o,s.heap.get? a=some o/\H a=none)->Heap.SameBut a s.heap h'->HOk X.prog X.w H h':=λ {a h'} ha hs b ob e=>by
  obtain ⟨_,_,hfree⟩:=ha
  refine (I.hok b ob e).stay (λ c w' hc q=>(hs.2 c ?_).trans q) (λ _ q=>q) λ _ _ q=>q
  rintro rfl
  rcases hc with rfl | hc
  · rw [hfree] at e; cases e
  · rw [hfree] at hc; cases hc
 rcases hx with hk | hk
 · refine wpAny_storeName_local hk hn (λ h' hn' hs=>?_) hcls
   obtain ⟨oL,_,_,hoL,_⟩:=id hn
   refine h _ ⟨I.ok,I.os,I.bare,⟨λ b o e n hb hx=>?_,λ b o e n hb hx=>?_,I.base.free,λ b o e hx=>?_,I.base.tups,I.base.frzs,I.base.tbls⟩,⟨_,hn',λ j y v' e1 e2 e3=>?_⟩,λ y c e=>?_,I.free,I.freeC,λ p hp=>?_,tracked ⟨oL,hoL,I.free⟩ hs,by simpa using I.len⟩ ⟨_,hs,.inl rfl⟩
   · exact (hs.2 b (Nat.ne_of_lt (Nat.lt_of_lt_of_le (Heap.lt_size e) I.ok.above))).trans (I.base.keep b o e n hb hx)
   · obtain ⟨sl,e1⟩:=I.base.slot b o e n hb hx
     exact ⟨sl,(hs.2 b (Nat.ne_of_lt (Nat.lt_of_lt_of_le (Heap.lt_size e) I.ok.above))).trans e1⟩
   · obtain ⟨o',e1⟩:=I.base.there b o e hx
     exact ⟨o',(hs.2 b (Nat.ne_of_lt (Nat.lt_of_lt_of_le (Heap.lt_size e) I.ok.above))).trans e1⟩
   · by_cases hj:j=i
     · subst hj
       rw [hi] at e1; cases e1
       rw [List.getElem?_set_self hiσ] at e2
       cases e2
       exact ⟨u,r,.inl ⟨hk,by simp⟩⟩
     · rw [List.getElem?_set_ne (Ne.symm hj)] at e2
       obtain ⟨u',r',q⟩:=hl j y v' e1 e2 e3
       refine ⟨u',r',?_⟩
       rcases q with ⟨k,e⟩ | ⟨k,c,e,z⟩
       · refine .inl ⟨k,?_⟩
         have:y≠x:=λ e=>hj (Zoq hN e1 (e ▸ hi))
         simp [this,e]
       · exact .inr ⟨k,c,e,z.sameBut hs (cne y c e)⟩
   · obtain ⟨w',z⟩:=I.cell y c e
     exact ⟨w',z.sameBut hs (cne y c e)⟩
   · obtain ⟨e,n,ne,nf,d⟩:=I.pin p hp
     exact ⟨(hs.2 p.1 ne).trans e,n,ne,nf,d⟩
 · have hfn:X.fn x=true:=by
    rcases hf with z | z
    · exact z
    · rw [z] at hk; cases hk
   obtain ⟨c,hc⟩:=I.ok.has x (.inl hk)
   obtain ⟨w',z⟩:=I.cell x c hc
   refine wpAny_storeName_cell I.ok.kind hk hc z (λ h' hc' hs=>?_)
   obtain ⟨oc,hoc,hocd⟩:=id z
   refine h { s with heap:=h' } ⟨I.ok,I.os,I.bare,⟨λ b o e n hb hx=>?_,λ b o e n hb hx=>?_,I.base.free,λ b o e hx=>?_,I.base.tups,I.base.frzs,I.base.tbls⟩,⟨m,hn.sameBut hs (Ne.symm (cne x c hc)),λ j y v' e1 e2 e3=>?_⟩,λ y c' e=>?_,I.free,I.freeC,λ p hp=>?_,tracked ⟨oc,hoc,I.freeC x c hc⟩ hs,by simpa using I.len⟩ ⟨c,hs,.inr hc⟩
   · exact (hs.2 b (Nat.ne_of_lt (Nat.lt_of_lt_of_le (Heap.lt_size e) (I.ok.cab x c hfn hc)))).trans (I.base.keep b o e n hb hx)
   · obtain ⟨sl,e1⟩:=I.base.slot b o e n hb hx
     exact ⟨sl,(hs.2 b (Nat.ne_of_lt (Nat.lt_of_lt_of_le (Heap.lt_size e) (I.ok.cab x c hfn hc)))).trans e1⟩
   · obtain ⟨o',e1⟩:=I.base.there b o e hx
     exact ⟨o',(hs.2 b (Nat.ne_of_lt (Nat.lt_of_lt_of_le (Heap.lt_size e) (I.ok.cab x c hfn hc)))).trans e1⟩
   · by_cases hj:j=i
     · subst hj
       rw [hi] at e1; cases e1
       rw [List.getElem?_set_self hiσ] at e2
       cases e2
       exact ⟨u,r,.inr ⟨.inl hk,c,hc,hc'⟩⟩
     · rw [List.getElem?_set_ne (Ne.symm hj)] at e2
       obtain ⟨u',r',q⟩:=hl j y v' e1 e2 e3
       refine ⟨u',r',?_⟩
       rcases q with q | ⟨k,c',e,z'⟩
       · exact .inl q
       · refine .inr ⟨k,c',e,z'.sameBut hs ?_⟩
         rintro rfl
         exact hj (Zoq hN e1 (I.ok.inj _ _ _ e hc ▸ hi))
   · by_cases hcc:c'=c
     · subst hcc; exact ⟨_,hc'⟩
     · obtain ⟨w2,z2⟩:=I.cell y c' e
       exact ⟨w2,z2.sameBut hs hcc⟩
   · obtain ⟨e,n,ne,nf,d⟩:=I.pin p hp
     refine ⟨(hs.2 p.1 ?_).trans e,n,ne,nf,d⟩
     intro q
     rw [q,hoc] at e
     have q':oc=p.2:=Option.some.inj e
     exact d w' (by rw [← q']; exact hocd)
theorem Zed {M:Model} {A:Around} {E:Value->Shared->Prop} {i:Nat} {x:Str} {v:V} {u:Value} {Q:Unit->Shared->Prop} (I:Inv X pins σ H s) (hN:X.N.Nodup) (hi:X.N[i]?=some x) (hx:Loc X.env.scope x) (r:RelV v u)
 (h:∀ s',Inv X pins (σ.set i (some v)) H s'->Q () s') (hf:X.fn x=true\/X.env.scope.names.lookup x=some .local:=by first | exact .inl rfl | exact .inr rfl | assumption):wpAny M A (storeName X.env x u) Q E s :=
 Zl7 I hN hi hx r (λ s' I' _=>h s' I') hf
theorem Inv.call' {s':Shared} {ch:List Addr} (I:Inv X pins σ H s) (ho:s'.os=s.os) (u:Un (frs X.stack) ch H H' s.heap s'.heap) (hok:HOk X.prog X.w H' s'.heap) (hg:AllBare s'.gens)
 (hch:∀ b∈ch,(b∈X.ex\/X.s₀.heap.objs.size<=b)/\b≠X.env.locals/\(∀ x c,X.env.cells.lookup x=some c->c≠b)/\∀ p∈X.pn++pins,p.1≠b):Inv X pins σ H' s':=by
 obtain ⟨h',g',d',t',o'⟩:=s'
 have e:o'=s.os:=ho
 subst e
 exact I.call (g':=g') (t':=t') (d':=d') u hok hg hch
end
abbrev XK:=Value->Option Addr->Hp->Prop
abbrev St:=List (Option V)
abbrev VK:=V->Hp->Prop
abbrev TE:=St->Hp->VK->Prop
abbrev TT:=St->Hp->(Bool->Hp->Prop)->Prop
abbrev TA:=St->Hp->(List V->Hp->Prop)->Prop
structure Ends where
 nx:St->Hp->Prop
 rt:VK
 bk:St->Hp->Prop:=λ _ _=>False
 ct:St->Hp->Prop:=λ _ _=>False
abbrev TS:=Ends->St->Hp->Prop
def EP (X:Cx) (pins:List (Addr×Obj)) (σ:St) (Q:VK) (u:Value) (s':Shared):Prop:=∃ v H',Inv X pins σ H' s'/\RelV v u/\Q v H'
def TP (X:Cx) (pins:List (Addr×Obj)) (σ:St) (Q:Bool->Hp->Prop) (b:Bool) (s':Shared):Prop:=∃ H',Inv X pins σ H' s'/\Q b H'
def AP (X:Cx) (pins:List (Addr×Obj)) (σ:St) (Q:List V->Hp->Prop) (us:List Value) (s':Shared):Prop:=∃ vs H',Inv X pins σ H' s'/\Vals vs us/\Q vs H'
def SP (X:Cx) (pins:List (Addr×Obj)) (D:Ends) (f:Flow) (s':Shared):Prop :=
 match f with
 | .next=>∃ σ' H',Inv X pins σ' H' s'/\D.nx σ' H'
 | .brk=>∃ σ' H',Inv X pins σ' H' s'/\D.bk σ' H'
 | .cont=>∃ σ' H',Inv X pins σ' H' s'/\D.ct σ' H'
 | .ret u=>∃ v σ' H',Inv X pins σ' H' s'/\RelV v u/\D.rt v H'
def PE (X:Cx) (e:Expr) (t:TE):Prop :=
 ∀ (pins:List (Addr×Obj)) (s:Shared) (σ:St) (H:Hp) (Q:VK),Inv X pins σ H s->t σ H Q->wpAny (model X.prog X.w) X.A (eval e X.env) (EP X pins σ Q) X.xe s
def PT (X:Cx) (e:Expr) (t:TT):Prop :=
 ∀ (pins:List (Addr×Obj)) (s:Shared) (σ:St) (H:Hp) (Q:Bool->Hp->Prop),Inv X pins σ H s->t σ H Q->wpAny (model X.prog X.w) X.A (isTrue e X.env (eval e X.env)) (TP X pins σ Q) X.xe s
def PW (X:Cx) (e:Expr) (t:TT):Prop :=
 ∀ (whole:Sem Value) (pins:List (Addr×Obj)) (s:Shared) (σ:St) (H:Hp) (Q:Bool->Hp->Prop),Inv X pins σ H s->t σ H Q->wpAny (model X.prog X.w) X.A (isTrue e X.env whole) (TP X pins σ Q) X.xe s
theorem PW.pt {X:Cx} {e:Expr} {t:TT} (h:PW X e t):PT X e t:=h _
def PA (X:Cx) (es:List Expr) (t:TA):Prop :=
 ∀ (pos:Pos) (pins:List (Addr×Obj)) (s:Shared) (σ:St) (H:Hp) (Q:List V->Hp->Prop),Inv X pins σ H s->t σ H Q->wpAny (model X.prog X.w) X.A (spliced (backTo pos (starEach es X.env))) (AP X pins σ Q) X.xe s
def PS (X:Cx) (st:Stmt) (t:TS):Prop :=
 ∀ (pins:List (Addr×Obj)) (s:Shared) (σ:St) (H:Hp) (D:Ends),Inv X pins σ H s->t D σ H->wpAny (model X.prog X.w) X.A (exec st X.env) (SP X pins D) X.xe s
def PSs (X:Cx) (st:List Stmt) (t:TS):Prop :=
 ∀ (pins:List (Addr×Obj)) (s:Shared) (σ:St) (H:Hp) (D:Ends),Inv X pins σ H s->t D σ H->wpAny (model X.prog X.w) X.A (execs st X.env) (SP X pins D) X.xe s
theorem thn {α:Type} {t:Sem α} {Q Q':α->Shared->Prop} {M:Model} {A:Around} {E:Value->Shared->Prop} {s:Shared} (h:wpAny M A t Q E s) (hQ:∀ a s,Q a s->Q' a s):wpAny M A t Q' E s:=wpAny_mono h hQ λ _ _ x=>x
end L2
namespace L2
open PySem PySem.Spec PyProof.Rows
section
variable {X:Cx}
theorem bin {a b:Expr} {ta tb:TE} (ha:PE X a ta) (hb:PE X b tb) {pins:List (Addr×Obj)} {s:Shared} {σ:St} {H:Hp} {R:V->V->Hp->Prop} (I:Inv X pins σ H s) (h:ta σ H λ x H1=>tb σ H1 λ y H2=>R x y H2)
 {α:Type} {Q:α->Shared->Prop} {f:Value->Value->Sem α}
 (hf:∀ v u s2 x y H2,Inv X pins σ H2 s2->RelV x v->RelV y u->R x y H2->wpAny (model X.prog X.w) X.A (f v u) Q X.xe s2) :
 wpAny (model X.prog X.w) X.A (eval a X.env) (λ v s₁=>wpAny (model X.prog X.w) X.A (eval b X.env) (λ u s₂=>wpAny (model X.prog X.w) X.A (f v u) Q X.xe s₂) X.xe s₁) X.xe s:=by
 refine thn (ha pins s σ H _ I h) λ v s1 ⟨x,H1,I1,r1,q1⟩=>?_
 refine thn (hb pins s1 σ H1 _ I1 q1) λ u s2 ⟨y,H2,I2,r2,q2⟩=>?_
 exact hf v u s2 x y H2 I2 r1 r2 q2
def Zc (i:Nat):TE:=λ σ H Q=>∃ v,σ[i]?=some (some v)/\Q v H
def tC (v:V):TE:=λ _ H Q=>Q v H
theorem Z02 {i:Nat} {x:Str} {pos:Pos} (hN:X.N[i]?=some x) (hv:Vis X.env.scope x) (hd:(x == ("__debug__":Str))=false:=by decide) (hcd:(x == ("__classdict__":Str))=false:=by decide):PE X (.Name x pos) (Zc i):=by
 intro pins s σ H Q I h
 obtain ⟨v,e,h⟩:=h
 obtain ⟨m,hn,hl⟩:=I.loc
 obtain ⟨u,r,l⟩:=hl i x v hN e hv
 have fin:EP X pins σ Q u s:=⟨v,H,I,r,h⟩
 rcases l with ⟨hk,hm⟩ | ⟨hk,c,hc,hcell⟩
 · exact wpAny_Name (wpAny_loadName_local I.ok.kind hk hn hm fin) hd
 · rcases hk with hk | hk
   · exact wpAny_Name (wpAny_loadName_cell I.ok.kind hk hc hcell fin) hd
   · exact wpAny_Name (wpAny_loadName_free I.ok.kind hk hc hcell fin hcd) hd
theorem Zi {i j pos}:PE X (.Constant (.int i) j pos) (tC (.int i)):=λ _ _ _ H _ I h=>wpAny_Constant_int ⟨.int i,H,I.tok _,⟨_,rfl⟩,h⟩
theorem Jb {b j pos}:PE X (.Constant (.bool b) j pos) (tC (.bl b)):=λ _ _ _ H _ I h=>Constant_bool ⟨.bl b,H,I,rfl,h⟩
theorem Zgo {j pos}:PE X (.Constant .none j pos) (tC .non):=λ _ _ _ H _ I h=>Constant_none ⟨.non,H,I,rfl,h⟩
theorem Wf {x j pos}:PE X (.Constant (.str x) j pos) (tC (.str x)):=λ _ _ _ H _ I h=>Calls.Constant_str ⟨.str x,H,I.tok _,⟨_,rfl⟩,h⟩
def Gl (X:Cx) (x:Str):Prop:=X.env.kindOf x=some .globalImplicit
theorem Zlj {E:Value->Shared->Prop} {pins:List (Addr×Obj)} {s:Shared} {σ:St} {H:Hp} {x:Str} {u:Value} {pos:Pos} {Q:Value->Shared->Prop} (I:Inv X pins σ H s) (hg:Gl X x) (hm:X.mg x=some u) (h:Q u s)
 (hd:(x == ("__debug__":Str))=false:=by decide):wpAny (model X.prog X.w) X.A (eval (.Name x pos) X.env) Q E s :=
 Calls.Name_function_global I.ok.kind hg (Calls.loadGlobal_global (by rw [I.ok.glob]; exact I.mod.glob.keeps I.bk) hm h) hd
theorem U5 {E:Value->Shared->Prop} {pins:List (Addr×Obj)} {s:Shared} {σ:St} {H:Hp} {x:Str} {u:Value} {pos:Pos} {Q:Value->Shared->Prop} (I:Inv X pins σ H s) (hg:Gl X x) (hm:X.mg x=none) (hv:bootBuiltins x=some u) (h:Q u s)
 (hn:x≠"__name__":=by decide) (hd:(x == ("__debug__":Str))=false:=by decide):wpAny (model X.prog X.w) X.A (eval (.Name x pos) X.env) Q E s:=by
 obtain ⟨mb,h1,h2⟩:=I.mod.blt
 exact Calls.Name_function_global I.ok.kind hg (Calls.loadGlobal_builtin (by rw [I.ok.glob]; exact I.mod.glob.keeps I.bk) hm (by rw [I.ok.blt]; exact h1.keeps I.bk) ((h2 x hn).trans hv) h) hd
theorem Zze {x:Str} {v:V} {u:Value} {pos:Pos} (hg:Gl X x) (hm:X.mg x=some u) (r:RelV v u) (hd:(x == ("__debug__":Str))=false:=by decide):PE X (.Name x pos) (tC v) :=
 λ _ _ _ H _ I h=>Zlj I hg hm ⟨v,H,I,r,h⟩ hd
theorem Zzg {x:Str} {v:V} {u:Value} {pos:Pos} (hg:Gl X x) (hm:X.mg x=none) (hv:bootBuiltins x=some u) (r:RelV v u) (hn:x≠"__name__":=by decide) (hd:(x == ("__debug__":Str))=false:=by decide):PE X (.Name x pos) (tC v) :=
 λ _ _ _ H _ I h=>U5 I hg hm hv ⟨v,H,I,r,h⟩ hn hd
variable {a b:Expr} {ta tb:TE} {pos:Pos}
def PC (X:Cx) (op:CmpOp) (a b:Expr) (t:TE):Prop :=
 ∀ (pins:List (Addr×Obj)) (s:Shared) (σ:St) (H:Hp) (Q:VK),Inv X pins σ H s->t σ H Q ->
   wpAny (model X.prog X.w) X.A (eval a X.env) (λ v s₁=>wpAny (model X.prog X.w) X.A (eval b X.env) (λ u s₂=>wpAny (model X.prog X.w) X.A (compareOp op v u) (EP X pins σ Q) X.xe s₂) X.xe s₁) X.xe s
def tB (t:TE):TT:=λ σ H Q=>t σ H λ x H1=>∃ c,x=.bl c/\Q c H1
theorem Zjt {op:CmpOp} {t:TE} (h:PC X op a b t) (h1:behindInMarks op b=false:=by first | exact nobehind _ (by decide) (by decide) | rfl):PT X (.Compare a [op] [b] pos) (tB t):=by
 intro pins s σ H Q I hw
 refine wpAny_isTrue_Compare1 (thn (h pins s σ H _ I hw) λ v s1 h1=>thn h1 λ u s2 h2=>thn h2 λ c s3 ⟨x,H1,I1,r1,q1⟩=>?_) h1
 obtain ⟨d,rfl,q⟩:=q1
 cases r1
 exact wpAny_truthy_bool ⟨H1,I1,q⟩
variable {tA tB':TT} {rest:List Expr}
def Zbn (t u:TT):TT:=λ σ H Q=>t σ H λ c H1=>if c=true then u σ H1 Q else Q false H1
def tOr (t u:TT):TT:=λ σ H Q=>t σ H λ c H1=>if c=true then Q true H1 else u σ H1 Q
def Jx (t:TT):TT:=λ σ H Q=>t σ H λ c H1=>Q (!c) H1
theorem Gy (ha:PT X a tA):PW X (.BoolOp .And [a] pos) tA:=by
 intro wh pins s σ H Q I h
 refine isTrue_and (thn (ha pins s σ H Q I h) λ c s1 e=>?_)
 cases c with
 | true=>exact isTrue_and_nil e
 | false=>exact e
theorem Eu (ha:PT X a tA):PW X (.BoolOp .Or [a] pos) tA:=by
 intro wh pins s σ H Q I h
 refine isTrue_or (thn (ha pins s σ H Q I h) λ c s1 e=>?_)
 cases c with
 | false=>exact isTrue_or_nil e
 | true=>exact e
theorem V0 (ha:PT X a tA) (hb:PW X (.BoolOp .And (b::rest) pos) tB'):PW X (.BoolOp .And (a::b::rest) pos) (Zbn tA tB'):=by
 intro wh pins s σ H Q I h
 refine isTrue_and (thn (ha pins s σ H _ I h) λ c s1 ⟨H1,I1,q1⟩=>?_)
 cases c with
 | true=>exact hb wh pins s1 σ H1 Q I1 q1
 | false=>exact ⟨H1,I1,q1⟩
theorem Uk (ha:PT X a tA) (hb:PW X (.BoolOp .Or (b::rest) pos) tB'):PW X (.BoolOp .Or (a::b::rest) pos) (tOr tA tB'):=by
 intro wh pins s σ H Q I h
 refine isTrue_or (thn (ha pins s σ H _ I h) λ c s1 ⟨H1,I1,q1⟩=>?_)
 cases c with
 | true=>exact ⟨H1,I1,q1⟩
 | false=>exact hb wh pins s1 σ H1 Q I1 q1
theorem Qh (ha:PT X a tA):PT X (.UnaryOp .Not a pos) (Jx tA):=by
 intro pins s σ H Q I h
 exact isTrue_not (ha pins s σ H (λ c H1=>Q (!c) H1) I h)
def Zco (ta tb:TE):TE:=λ σ H Q=>ta σ H λ x H1=>∃ c,x=.bl c/\if c=true then tb σ H1 Q else Q (.bl false) H1
def Zwh (ta tb:TE):TE:=λ σ H Q=>ta σ H λ x H1=>∃ c,x=.bl c/\if c=true then Q (.bl true) H1 else tb σ H1 Q
def Znb (ta:TE):TE:=λ σ H Q=>ta σ H λ x H1=>∃ c,x=.bl c/\Q (.bl (!c)) H1
theorem Zjw {op} {t:TE} (h:PE X a t):PE X (.BoolOp op [a] pos) t:=λ pins s σ H Q I hw=>BoolOp_one (h pins s σ H Q I hw)
theorem Zgp (ha:PE X a ta) (hb:PE X (.BoolOp .And (b::rest) pos) tb):PE X (.BoolOp .And (a::b::rest) pos) (Zco ta tb):=by
 intro pins s σ H Q I h
 refine BoolOp_and (thn (ha pins s σ H _ I h) λ v s1 ⟨x,H1,I1,r1,q1⟩=>?_)
 obtain ⟨c,rfl,q1⟩:=q1
 cases r1
 refine wpAny_truthy_bool ?_
 cases c with
 | true=>exact hb pins s1 σ H1 Q I1 q1
 | false=>exact ⟨.bl false,H1,I1,rfl,q1⟩
theorem Z13 (ha:PE X a ta) (hb:PE X (.BoolOp .Or (b::rest) pos) tb):PE X (.BoolOp .Or (a::b::rest) pos) (Zwh ta tb):=by
 intro pins s σ H Q I h
 refine BoolOp_or (thn (ha pins s σ H _ I h) λ v s1 ⟨x,H1,I1,r1,q1⟩=>?_)
 obtain ⟨c,rfl,q1⟩:=q1
 cases r1
 refine wpAny_truthy_bool ?_
 cases c with
 | false=>exact hb pins s1 σ H1 Q I1 q1
 | true=>exact ⟨.bl true,H1,I1,rfl,q1⟩
theorem Z04 (ha:PE X a ta):PE X (.UnaryOp .Not a pos) (Znb ta):=by
 intro pins s σ H Q I h
 refine UnaryOp_ (thn (ha pins s σ H _ I h) λ v s1 ⟨x,H1,I1,r1,q1⟩=>?_)
 obtain ⟨c,rfl,q1⟩:=q1
 cases r1
 exact not_of (wpAny_truthy_bool ⟨.bl (!c),H1,I1,rfl,q1⟩)
def tIf (t:TT) (ta tb:TE):TE:=λ σ H Q=>t σ H λ c H1=>if c=true then ta σ H1 Q else tb σ H1 Q
theorem Zid {c:Expr} (hc:PT X c tA) (ha:PE X a ta) (hb:PE X b tb):PE X (.IfExp c a b pos) (tIf tA ta tb):=by
 intro pins s σ H Q I h
 refine wpAny_IfExp (thn (hc pins s σ H _ I h) λ d s1 ⟨H1,I1,q1⟩=>?_)
 cases d with
 | true=>exact ha pins s1 σ H1 Q I1 q1
 | false=>exact hb pins s1 σ H1 Q I1 q1
end
end L2
namespace L2
open PySem PySem.Spec PyProof.Rows
def SqL (K:Fq) (H:Hp) (a:Addr) (xs:List V):Prop :=
 Rd H a (.lst xs) \/
  ∃ (o:Obj) (its:Array Value) (n:Nat),K.lookup a=some o/\o.cls=.type "list"/\o.dict=none/\o.data=.seq its n/\its.size<=sizeLine/\Vals xs its.toList
def SqT (K:Fq) (H:Hp) (a:Addr) (xs:List V):Prop :=
 Rd H a (.tup xs) \/
  ∃ (o:Obj) (its:Array Value) (n:Nat),K.lookup a=some o/\o.cls=.type "tuple"/\o.data=.seq its n/\its.size<=sizeLine/\Vals xs its.toList
def absV:Value->Option V
 | .none=>some .non
 | .bool b=>some (.bl b)
 | .int i _=>some (.int i)
 | .str x _=>some (.str x)
 | .bytes b _=>some (.byt b)
 | .float b _=>some (.flt b)
 | .ref a=>some (.ref a)
 | .type n=>some (.ty n)
 | _=>none
theorem RelV.abs {x:V} {u:Value} (r:RelV x u):absV u=some x:=by
 cases x with
 | non=>cases r; rfl
 | bl _=>cases r; rfl
 | int _=>obtain ⟨t,rfl⟩:=r; rfl
 | str _=>obtain ⟨t,rfl⟩:=r; rfl
 | byt _=>obtain ⟨t,rfl⟩:=r; rfl
 | flt _=>obtain ⟨t,rfl⟩:=r; rfl
 | ref _=>cases r; rfl
 | ty _=>cases r; rfl
theorem RelV.inj {x y:V} {u:Value} (r:RelV x u) (q:RelV y u):x=y:=Option.some.inj (r.abs.symm.trans q.abs)
theorem Vals.inj:∀ {xs ys:List V} {us:List Value},Vals xs us->Vals ys us->xs=ys
 | _,_,_,.nil,.nil=>rfl
 | _,_,_,.cons r t,.cons r' t'=>by rw [r.inj r',Vals.inj t t']
section
variable {X:Cx} {pins:List (Addr×Obj)} {σ:St} {H:Hp} {s:Shared} {a:Addr} {xs ys:List V}
theorem SqL.of {K:Fq} (h:H a=some (.lst xs)):SqL K H a xs:=.inl (.inl h)
theorem SqT.of {K:Fq} (h:H a=some (.tup xs)):SqT K H a xs:=.inl (.inl h)
theorem Inv.list (I:Inv X pins σ H s) (h:SqL X.K H a xs):∃ its:List Value,Vals xs its/\PlainL s.heap a its.toArray/\xs.length<=sizeLine:=by
 rcases h with h | ⟨o,its,n,hk,hc,hd,hs,hz,r⟩
 · obtain ⟨z,its,n,r,e⟩:=h.ok I.hok
   exact ⟨its,r,⟨_,n,e,rfl,rfl,rfl⟩,z⟩
 · refine ⟨its.toList,r,⟨o,n,I.kIn a o hk,hc,hd,by simpa using hs⟩,?_⟩
   have e:=r.length
   simp only [Array.length_toList] at e
   omega
theorem Inv.tuple (I:Inv X pins σ H s) (h:SqT X.K H a xs):∃ its:List Value,Vals xs its/\IsTup s.heap a its.toArray/\xs.length<=sizeLine:=by
 rcases h with h | ⟨o,its,n,hk,hc,hs,hz,r⟩
 · obtain ⟨z,its,r,p⟩:=h.ok I.hok
   exact ⟨its,r,p,z⟩
 · refine ⟨its.toList,r,⟨o,I.kIn a o hk,hc,n,by simpa using hs⟩,?_⟩
   have e:=r.length
   simp only [Array.length_toList] at e
   omega
theorem Inv.list_inj (I:Inv X pins σ H s) (h:SqL X.K H a xs) (h':SqL X.K H a ys):xs=ys:=by
 obtain ⟨its,r,⟨o,n,e,_,_,d⟩,_⟩:=I.list h
 obtain ⟨its',r',⟨o',n',e',_,_,d'⟩,_⟩:=I.list h'
 rw [e] at e'; cases e'
 rw [d] at d'
 injection d' with d1 _
 have:its=its':=by simpa using congrArg Array.toList d1
 subst this
 exact r.inj r'
theorem Inv.tuple_inj (I:Inv X pins σ H s) (h:SqT X.K H a xs) (h':SqT X.K H a ys):xs=ys:=by
 obtain ⟨its,r,⟨o,e,_,n,d⟩,_⟩:=I.tuple h
 obtain ⟨its',r',⟨o',e',_,n',d'⟩,_⟩:=I.tuple h'
 rw [e] at e'; cases e'
 rw [d] at d'
 injection d' with d1 _
 have:its=its':=by simpa using congrArg Array.toList d1
 subst this
 exact r.inj r'
end
abbrev Cx.wish (X:Cx) (E:Value->Shared->Prop):Cx:={ X with xe:=E }
abbrev Cx.nox (X:Cx):Cx:=X.wish λ _ _=>False
theorem Cx.Ok.wish {X:Cx} (ok:X.Ok) (E:Value->Shared->Prop):(X.wish E).Ok :=
 ⟨ok.mod,ok.kind,ok.glob,ok.blt,ok.above,ok.inj,ok.has,ok.cab,ok.hd,ok.frames,ok.stk,ok.exf,ok.bs,ok.bsz,ok.noex,ok.exfs,ok.funs,ok.frf⟩
theorem Cx.Ok.unwish {X:Cx} {E:Value->Shared->Prop} (ok:(X.wish E).Ok):X.Ok :=
 ⟨ok.mod,ok.kind,ok.glob,ok.blt,ok.above,ok.inj,ok.has,ok.cab,ok.hd,ok.frames,ok.stk,ok.exf,ok.bs,ok.bsz,ok.noex,ok.exfs,ok.funs,ok.frf⟩
section
variable {X:Cx} {pins:List (Addr×Obj)} {σ:St} {H:Hp} {s:Shared} {E:Value->Shared->Prop}
theorem Inv.wish (I:Inv X pins σ H s) (E:Value->Shared->Prop):Inv (X.wish E) pins σ H s:=⟨I.ok.wish E,I.os,I.bare,I.base,I.loc,I.cell,I.free,I.freeC,I.pin,I.hok,I.len⟩
theorem Inv.unwish (I:Inv (X.wish E) pins σ H s):Inv X pins σ H s:=⟨I.ok.unwish,I.os,I.bare,I.base,I.loc,I.cell,I.free,I.freeC,I.pin,I.hok,I.len⟩
theorem SP.unwish {D:Ends} {f:Flow} {s':Shared} (h:SP (X.wish E) pins D f s'):SP X pins D f s':=by
 cases f with
 | next=>obtain ⟨σ',H',I,q⟩:=h; exact ⟨σ',H',I.unwish,q⟩
 | brk=>obtain ⟨σ',H',I,q⟩:=h; exact ⟨σ',H',I.unwish,q⟩
 | cont=>obtain ⟨σ',H',I,q⟩:=h; exact ⟨σ',H',I.unwish,q⟩
 | ret u=>obtain ⟨v,σ',H',I,r,q⟩:=h; exact ⟨v,σ',H',I.unwish,r,q⟩
theorem PSs.nox {st:List Stmt} {t:TS} (h:PSs X.nox st t):PSs X st t:=λ pins s σ H D I hw =>
 wpAny_mono (h pins s σ H D (I.wish _) hw) (λ _ _ q=>q.unwish) λ _ _ z=>False.elim z
end
section
variable {X:Cx} {st:Stmt} {rest:List Stmt} {t u:TS} {e:Expr} {te:TE} {pos:Pos}
def Yo:TS:=λ D σ H=>D.nx σ H
def Zz (t u:TS):TS:=λ D σ H=>t { D with nx:=u D } σ H
theorem Yg:PSs X [] Yo:=λ _ _ σ H _ I h=>wpAny_execs_nil ⟨σ,H,I,h⟩
theorem Zk (h1:PS X st t) (h2:PSs X rest u):PSs X (st::rest) (Zz t u):=by
 intro pins s σ H D I h
 refine wpAny_execs_cons (thn (h1 pins s σ H { D with nx:=u D } I h) λ f s1 q=>?_)
 cases f with
 | next =>
   obtain ⟨σ',H',I',q⟩:=q
   exact h2 pins s1 σ' H' D I' q
 | ret v=>exact q
 | brk=>exact q
 | cont=>exact q
theorem Zm (h1:PS X st t):PSs X [st] t:=by
 intro pins s σ H D I h
 refine wpAny_execs_cons (thn (h1 pins s σ H D I h) λ f s1 q=>?_)
 cases f with
 | next=>exact wpAny_execs_nil q
 | ret v=>exact q
 | brk=>exact q
 | cont=>exact q
theorem Inv.quiet {pins:List (Addr×Obj)} {σ:St} {H:Hp} {s:Shared} (I:Inv X pins σ H s):interactive X.env=false:=by simp [interactive,I.ok.kind]
def Wj (te:TE):TS:=λ D σ H=>te σ H λ _ H1=>D.nx σ H1
theorem Jg (he:PE X e te) (hs:swapsWith e none pos.line X.env=pure false:=by rfl):PS X (.Expr e pos) (Wj te):=by
 intro pins s σ H D I h
 exact wpAny_Expr_any (thn (he pins s σ H _ I h) λ v s1 ⟨x,H1,I1,r1,q1⟩=>⟨σ,H1,I1,q1⟩) I.quiet hs
def Z7 (te:TE):TS:=λ D σ H=>te σ H D.rt
theorem Z0 (he:PE X e te):PS X (.Return (some e) pos) (Z7 te):=by
 intro pins s σ H D I h
 exact wpAny_Return_some (thn (he pins s σ H _ I h) λ v s1 ⟨x,H1,I1,r1,q1⟩=>⟨x,σ,H1,I1,r1,q1⟩)
def Yt (c:TT) (t u:TS):TS:=λ D σ H=>c σ H λ b H1=>if b=true then t D σ H1 else u D σ H1
theorem Yr {c:Expr} {a b:List Stmt} {tc:TT} (hc:PT X c tc) (ha:PSs X a t) (hb:PSs X b u):PS X (.If c a b pos) (Yt tc t u):=by
 intro pins s σ H D I h
 refine wpAny_If (thn (hc pins s σ H _ I h) λ d s1 ⟨H1,I1,q1⟩=>?_)
 cases d with
 | true=>exact ha pins s1 σ H1 D I1 q1
 | false=>exact hb pins s1 σ H1 D I1 q1
end
abbrev TG:=V->St->Hp->(St->Hp->Prop)->Prop
abbrev TGs:=List V->St->Hp->(St->Hp->Prop)->Prop
def PG (X:Cx) (target:Expr) (t:TG):Prop :=
 ∀ (pins:List (Addr×Obj)) (s:Shared) (σ:St) (H:Hp) (v:V) (u:Value) (Q:St->Hp->Prop),Inv X pins σ H s->RelV v u->t v σ H Q ->
   wpAny (model X.prog X.w) X.A (assign target X.env u) (λ _ s'=>∃ σ' H',Inv X pins σ' H' s'/\Q σ' H') X.xe s
def PGs (X:Cx) (ts:List Expr) (t:TGs):Prop :=
 ∀ (pins:List (Addr×Obj)) (s:Shared) (σ:St) (H:Hp) (vs:List V) (us:List Value) (Q:St->Hp->Prop),Inv X pins σ H s->Vals vs us->t vs σ H Q ->
   wpAny (model X.prog X.w) X.A (assignInOrder ((assignEach ts X.env).map (·.2)) us) (λ _ s'=>∃ σ' H',Inv X pins σ' H' s'/\Q σ' H') X.xe s
abbrev TSet:=V->V->V->Hp->(Hp->Prop)->Prop
def PSet (X:Cx) (t:TSet):Prop :=
 ∀ (pins:List (Addr×Obj)) (s:Shared) (σ:St) (H:Hp) (o i v:V) (ov iv u:Value) (Q:Hp->Prop),Inv X pins σ H s->RelV o ov->RelV i iv->RelV v u->t o i v H Q ->
   wpAny (model X.prog X.w) X.A (setItem ov iv u) (λ _ s'=>∃ H',Inv X pins σ H' s'/\Q H') X.xe s
section
variable {X:Cx} {pos:Pos}
def Zo (i:Nat):TG:=λ v σ H Q=>Q (σ.set i (some v)) H
theorem Z3 {i:Nat} {x:Str} (hN:X.N.Nodup) (hi:X.N[i]?=some x) (hx:Loc X.env.scope x) (hf:X.fn x=true\/X.env.scope.names.lookup x=some .local:=by first | exact .inl rfl | exact .inr rfl | assumption):PG X (.Name x pos) (Zo i):=by
 intro pins s σ H v u Q I r h
 exact wpAny_assign_Name (Zed I hN hi hx r (λ s' I'=>⟨_,H,I',h⟩) hf)
def K4:TGs:=λ vs σ H Q=>vs=[]/\Q σ H
def Xo (t:TG) (u:TGs):TGs:=λ vs σ H Q=>∃ v r,vs=v::r/\t v σ H λ σ' H'=>u r σ' H' Q
theorem We:PGs X [] K4:=by
 intro pins s σ H vs us Q I r h
 obtain ⟨e,h⟩:=h
 subst e
 cases r
 exact assignInOrder_nil ⟨σ,H,I,h⟩
theorem Y6 {e:Expr} {es:List Expr} {t:TG} {u:TGs} (h1:PG X e t) (h2:PGs X es u)
 (hs:(assignEach (e::es) X.env).map (·.2)=assign e X.env::(assignEach es X.env).map (·.2):=by rfl):PGs X (e::es) (Xo t u):=by
 intro pins s σ H vs us Q I r h
 obtain ⟨v,vr,e1,h⟩:=h
 subst e1
 cases r with
 | cons r rr =>
   rw [hs]
   refine assignInOrder_cons (thn (h1 pins s σ H _ _ _ I r h) λ _ s1 ⟨σ1,H1,I1,q1⟩=>?_)
   exact h2 pins s1 σ1 H1 _ _ Q I1 rr q1
def K3 (K:Fq) (n:Nat) (t:TGs):TG:=λ v σ H Q=>∃ a xs,v=.ref a/\SqT K H a xs/\xs.length=n/\t xs σ H Q
theorem W9 {es:List Expr} {k:Nat} {t:TGs} {n:Nat} (hc:X.calm=true) (h:PGs X es t)
 (hn:(assignEach es X.env).length=n:=by rfl) (hst:(assignEach es X.env).findIdx? (·.1)=none:=by rfl):PG X (.Tuple es k pos) (K3 X.K n t):=by
 intro pins s σ H v u Q I r hw
 obtain ⟨a,xs,e1,hq,hl,hw⟩:=hw
 subst e1
 cases r
 obtain ⟨its,rv,ht,hz⟩:=I.tuple hq
 refine assign_Tuple_tuple (I.ok.hd hc) ht (by simp [hn,← hl,rv.length]) hst λ h' hx=>?_
 have I1:Inv X pins σ H { s with heap:=h' }:=I.kept (t':=s.toks) λ b o e=>hx b o (Nat.ne_of_lt (Heap.lt_size e)) e
 exact h pins _ σ H xs _ Q I1 (by simpa using rv) hw
def Zii (to ti:TE) (t:TSet):TG:=λ v σ H Q=>to σ H λ o H1=>ti σ H1 λ i H2=>t o i v H2 λ H3=>Q σ H3
theorem Zjv {o i:Expr} {to ti:TE} {t:TSet} (ho:PE X o to) (hi:PE X i ti) (hs:PSet X t)
 (ha:∀ v,assign (.Subscript o i pos) X.env v=(do
  let ov ← holding [v] (eval o X.env)
  let iv ← holding [v,ov] (eval i X.env)
  standAt pos
  holding [v,ov,iv] (setItem ov iv v)
  release [v,ov,iv] []):=by intro _; rfl):PG X (.Subscript o i pos) (Zii to ti t):=by
 intro pins s σ H v u Q I r h
 rw [ha]
 refine wpAny_bind (wpAny_holding (thn (ho pins s σ H _ I h) λ ov s1 ⟨x,H1,I1,r1,q1⟩=>?_))
 refine wpAny_bind (wpAny_holding (thn (hi pins s1 σ H1 _ I1 q1) λ iv s2 ⟨y,H2,I2,r2,q2⟩=>?_))
 refine wpAny_bind (wpAny_standAt (wpAny_bind (wpAny_holding (thn (hs pins s2 σ H2 x y v ov iv u _ I2 r1 r2 r q2) λ _ s3 ⟨H3,I3,q3⟩=>?_))))
 exact wpAny_release ⟨σ,H3,I3,q3⟩
def Yi (te:TE) (g:TG):TS:=λ D σ H=>te σ H λ x H1=>g x σ H1 D.nx
theorem Zdx {tg e:Expr} {te:TE} {g:TG} (he:PE X e te) (hg:PG X tg g) (hs:swapsWithSole [tg] e pos.line X.env=pure false:=by rfl) (hw:swappedStores [tg] e X.env=pure none:=by rfl)
 (h1:(assignEach [tg] X.env).map (·.2)=[assign tg X.env]:=by rfl):PS X (.Assign [tg] e pos) (Yi te g):=by
 intro pins s σ H D I h
 refine wpAny_Assign_stores (thn (he pins s σ H _ I h) λ v s1 ⟨x,H1,I1,r1,q1⟩=>?_) hs hw
 rw [h1]
 exact thn (hg pins s1 σ H1 x v _ I1 r1 q1) λ _ s2 q=>q
theorem Z8 {i:Nat} {x:Str} {e:Expr} {te:TE} {pos':Pos} (hN:X.N.Nodup) (hi:X.N[i]?=some x) (hx:Loc X.env.scope x) (he:PE X e te) (hs:swapsWith e (some (.Name x pos')) pos.line X.env=pure false:=by rfl) (hf:X.fn x=true\/X.env.scope.names.lookup x=some .local:=by first | exact .inl rfl | exact .inr rfl | assumption) :
 PS X (.Assign [.Name x pos'] e pos) (Yi te (Zo i)):=by
 intro pins s σ H D I h
 refine wpAny_Assign_Name (thn (he pins s σ H _ I h) λ v s1 ⟨y,H1,I1,r1,q1⟩=>?_) hs
 exact Zed I1 hN hi hx r1 (λ s2 I2=>⟨_,H1,I2,q1⟩) hf
def Zwg (i j:Nat) (ta:TA):TS:=λ D σ H=>ta σ H λ vs H1=>∃ v w,vs=[v,w]/\D.nx ((σ.set i (some v)).set j (some w)) H1
theorem Z0y {i j:Nat} {x y:Str} {a b:Expr} {ta:TA} {px py pt:Pos} {kt k2 pt2} (hc:X.calm=true) (hN:X.N.Nodup) (hi:X.N[i]?=some x) (hj:X.N[j]?=some y) (hij:i≠j)
 (hx:X.env.scope.names.lookup x=some .local) (hy:X.env.scope.names.lookup y=some .local) (ha:PA X [a,b] ta)
 (hw:swappedStores [.Tuple [.Name x px,.Name y py] kt pt] (.Tuple [a,b] k2 pt2) X.env=pure (some [x,y]))
 (hs:swapsWithSole [.Tuple [.Name x px,.Name y py] kt pt] (.Tuple [a,b] k2 pt2) pos.line X.env=pure false:=by rfl) :
 PS X (.Assign [.Tuple [.Name x px,.Name y py] kt pt] (.Tuple [a,b] k2 pt2) pos) (Zwg i j ta):=by
 intro pins s σ H D I h
 rw [exec_Assign_arm]
 refine wpAny_bind (wpAny_standAt ?_)
 rw [hs]
 refine wpAny_bind (wpAny_pure ?_)
 rw [if_neg (by decide)]
 refine wpAny_bind (Tuple_ (thn (ha _ pins s σ H _ I h) λ us s1 ⟨vs,H1,I1,r1,q1⟩=>?_))
 obtain ⟨v,w,e1,q1⟩:=q1
 subst e1
 obtain ⟨u1,u2,rfl,rv,rw'⟩:∃ u1 u2,us=[u1,u2]/\RelV v u1/\RelV w u2:=by
  cases r1 with
  | cons p q =>
    cases q with
    | cons p' q' =>
      cases q'
      exact ⟨_,_,rfl,p,p'⟩
 refine wpAny_newObj_type ?_ (by show 2<=sizeLine; decide)
 have I2:Inv X pins σ H1 { s1 with heap:=s1.heap.push { cls:=.type "tuple",data:=.seq [u1,u2].toArray } }:=I1.kept (t':=s1.toks) λ b o e=>Heap.get?_push_of_some _ e
 rw [hw]
 refine wpAny_bind (wpAny_pure ?_)
 show wpAny (model X.prog X.w) X.A (do rule "assign.swapped-stores"; let items ← unpackItems (.ref s1.heap.objs.size) 2 none; assignInOrder [λ v=>bindName X.env y v,λ v=>bindName X.env x v] items.reverse; pure Flow.next) _ _ _
 refine wpAny_bind (wpAny_rule (wpAny_bind (unpackItems_tuple (items:=#[u1,u2]) (I.ok.hd hc) (IsTup.new s1.heap _) λ h' hx'=>?_)))
 have I3:=I2.kept (h':=h') (t':=s1.toks) λ b o e=>hx' b o (Nat.ne_of_lt (Heap.lt_size e)) e
 show wpAny _ _ (assignInOrder [λ v=>bindName X.env y v,λ v=>bindName X.env x v] [u2,u1] >>= λ _=>pure Flow.next) _ _ _
 refine wpAny_bind (assignInOrder_cons (wpAny_bindName (Zed I3 hN hj (.inl hy) rw' (λ s2 I4=>?_) (.inr hy))))
 refine assignInOrder_cons (wpAny_bindName (Zed I4 hN hi (.inl hx) rv (λ s3 I5=>assignInOrder_nil (wpAny_pure ?_)) (.inr hx)))
 rw [List.set_comm _ _ (Ne.symm hij)] at I5
 exact ⟨_,H1,I5,q1⟩
end
section
variable {X:Cx} {pos:Pos}
def Zfv (c:TT) (tb:TS):TS:=λ D σ H=>∃ W:Nat->St->Hp->Prop,(∃ m,W m σ H)/\∀ m σ H,W m σ H ->
 c σ H λ b H1=>if b=true then ∃ N:St->Hp->Prop,(∀ σ' H',N σ' H'->∃ m',m'<m/\W m' σ' H')/\tb { D with nx:=N,ct:=N,bk:=D.nx } σ H1 else D.nx σ H1
theorem Zic {c:Expr} {body:List Stmt} {tc:TT} {tb:TS} (hp:PassesOwn (model X.prog X.w) X.A X.env X.xe) (hc:PT X c tc) (hb:PSs X body tb):PS X (.While c body [] pos) (Zfv tc tb):=by
 intro pins s σ H D I h
 obtain ⟨W,⟨m0,w0⟩,turn⟩:=h
 refine wpAny_While (codeAny_whileLoop (λ n s'=>∃ σ' H',Inv X pins σ' H' s'/\W n σ' H') ?_ m0 ⟨σ,H,I,w0⟩)
 rintro n s1 ⟨σ1,H1,I1,w1⟩
 refine wpAny_passesOwn hp (thn (hc pins s1 σ1 H1 _ I1 (turn n σ1 H1 w1)) λ b s2 ⟨H2,I2,q2⟩=>?_)
 cases b with
 | true =>
   obtain ⟨N,hN,q2⟩:=q2
   rw [if_pos rfl]
   refine wpAny_passesOwn hp (thn (hb pins s2 σ1 H2 _ I2 q2) λ f s3 q3=>?_)
   cases f with
   | next =>
     obtain ⟨σ3,H3,I3,n3⟩:=q3
     obtain ⟨m',hm,w3⟩:=hN σ3 H3 n3
     exact ⟨m',hm,σ3,H3,I3,w3⟩
   | cont =>
     obtain ⟨σ3,H3,I3,n3⟩:=q3
     obtain ⟨m',hm,w3⟩:=hN σ3 H3 n3
     exact ⟨m',hm,σ3,H3,I3,w3⟩
   | brk=>exact q3
   | ret v=>exact q3
 | false =>
   rw [if_neg Bool.false_ne_true]
   exact wpAny_execs_nil ⟨σ1,H2,I2,q2⟩
end
structure It where
 go:Nat->Hp->Prop
 yld:Nat->Hp->V->Hp->Prop
 stop:Nat->Hp->Prop
def FpOk (X:Cx) (pins:List (Addr×Obj)) (H:Hp) (b:Addr):Prop :=
 H b=none/\b≠X.env.locals/\b ∉ X.fs/\(b∈X.ex\/X.s₀.heap.objs.size<=b)/\(∀ x c,X.env.cells.lookup x=some c->c≠b)/\∀ p∈X.pn++pins,p.1≠b
theorem Inv.fpOk {X:Cx} {pins:List (Addr×Obj)} {σ:St} {H H':Hp} {s:Shared} {b:Addr} (I:Inv X pins σ H s) (hb:s.heap.objs.size<=b) (hn:H' b=none):FpOk X pins H' b:=by
 refine ⟨hn,Nat.ne_of_gt (Nat.lt_of_lt_of_le I.lt hb),I.nofs hb,.inr (Nat.le_trans I.sz hb),λ x c e z=>?_,λ p hp z=>?_⟩
 · obtain ⟨v,q⟩:=I.cell x c e
   exact absurd (Nat.lt_of_lt_of_le q.lt (by rw [z]; exact hb)) (Nat.lt_irrefl _)
 · exact absurd (Nat.lt_of_lt_of_le (Heap.lt_size (I.pin p hp).1) (by rw [z]; exact hb)) (Nat.lt_irrefl _)
structure Turn (P:Program) (w:World) (K:Fq) (tg:Expr) (J:It) (fp:List Addr) (it:Addr) (tn:Nat->Heap->Prop):Prop where
 mem:it∈fp
 obj:∀ i h,tn i h->∀ b∈fp,∃ o,h.get? b=some o/\∀ v,o.data≠.cell v
 keep:∀ i h h',tn i h->(∀ b∈fp,∀ o,h.get? b=some o->h'.get? b=some o)->tn i h'
 item:∀ (X:Cx),X.prog=P->X.w=w->X.K=K->X.calm=true->∀ (i:Nat) (pins:List (Addr×Obj)) (s:Shared) (σ:St) (H:Hp) (E:Value->Shared->Prop),Inv X pins σ H s->(∀ b∈fp,FpOk X pins H b)->tn i s.heap->J.go i H ->
  wpAny (model P w) X.A (pyNext (.ref it)) (λ r s1=>∃ u,r=some u /\
   wpAny (model P w) X.A (letOwnedTupleGo tg (.ref it) u) (λ _ s2=>∃ x H',Inv X pins σ H' s2/\RelV x u/\J.yld i H x H'/\tn (i+1) s2.heap/\∀ b∈fp,H' b=none) E s1) E s
 done:∀ (X:Cx),X.prog=P->X.w=w->X.K=K->X.calm=true->∀ (i:Nat) (pins:List (Addr×Obj)) (s:Shared) (σ:St) (H:Hp) (E:Value->Shared->Prop),Inv X pins σ H s->(∀ b∈fp,FpOk X pins H b)->tn i s.heap->J.stop i H ->
  wpAny (model P w) X.A (pyNext (.ref it)) (λ r s1=>r=none/\Inv X pins σ H s1) E s
 self:∀ (A:Around) (i:Nat) (s:Shared) (Q:Value->Shared->Prop) (E:Value->Shared->Prop),tn i s.heap->Q (.ref it) s->wpAny (model P w) A (pyIter (.ref it)) Q E s
abbrev TI:=St->Hp->(It->Hp->Prop)->Prop
def PIE (X:Cx) (pins:List (Addr×Obj)) (σ:St) (tg:Expr) (R:It->Hp->Prop) (itv:Value) (s2:Shared):Prop :=
 ∃ (it:Addr) (fp:List Addr) (tn:Nat->Heap->Prop) (J:It) (H':Hp),itv=.ref it/\Inv X pins σ H' s2/\Turn X.prog X.w X.K tg J fp it tn/\tn 0 s2.heap/\(∀ b∈fp,FpOk X pins H' b)/\R J H'
def PI (X:Cx) (tg iter:Expr) (wi:TI):Prop :=
 ∀ (pins:List (Addr×Obj)) (s:Shared) (σ:St) (H:Hp) (R:It->Hp->Prop),Inv X pins σ H s->wi σ H R ->
   wpAny (model X.prog X.w) X.A (eval iter X.env) (λ v s1=>wpAny (model X.prog X.w) X.A (pyIter v) (PIE X pins σ tg R) X.xe s1) X.xe s
theorem Zkb {M:Model} {A:Around} {E:Value->Shared->Prop} {s:Shared} {tg:Expr} {it:Addr} {u:Value} {o:Obj} {n:String} {vs:Array Value} {Q:Unit->Shared->Prop} (ho:s.heap.get? it=some o) (hc:o.cls=.type n) (hd:o.data=.fields vs)
 (hn:["enumerate","zip","dict_itemiterator","dict_reverseitemiterator","odict_iterator","itertools.zip_longest","itertools.pairwise"].contains n=false) (hQ:Q () s):wpAny M A (letOwnedTupleGo tg (.ref it) u) Q E s:=by
 unfold letOwnedTupleGo
 cases tg <;> first
  | exact wpAny_pure hQ
  | (cases u <;> first
   | exact wpAny_pure hQ
   | (refine wpAny_bind (wpAny_load ho ?_)
      rw [hc,hd]
      show wpAny M A (if (["enumerate","zip","dict_itemiterator","dict_reverseitemiterator","odict_iterator","itertools.zip_longest","itertools.pairwise"].contains n && vs[0]? == some (rawInt _))=true then _ else _) Q E s
      rw [if_neg (by intro h; rw [hn,Bool.false_and] at h; cases h)]
      exact wpAny_pure hQ))
def Itl (K:Fq) (a:Addr):It :=
 ⟨λ i H=>∃ xs x,SqL K H a xs/\xs[i]?=some x,λ i H x H'=>H'=H/\∀ xs,SqL K H a xs->xs[i]?=some x,λ i H=>∃ xs,SqL K H a xs/\xs.length<=i⟩
def Itt (K:Fq) (a:Addr):It :=
 ⟨λ i H=>∃ xs x,SqT K H a xs/\xs[i]?=some x,λ i H x H'=>H'=H/\∀ xs,SqT K H a xs->xs[i]?=some x,λ i H=>∃ xs,SqT K H a xs/\xs.length<=i⟩
def Itr (lo:Int) (n:Nat):It:=⟨λ i _=>i<n,λ i H x H'=>H'=H/\x=.int (lo+i),λ i _=>n<=i⟩
theorem Ztz {P:Program} {w:World} {K:Fq} {tg:Expr} (a it:Addr):Turn P w K tg (Itl K a) [it] it (λ i h=>h.IsListIter it a i) where
 mem:=by simp
 obj:=λ i h st b hb=>by
  have e:b=it:=by simpa using hb
  subst e
  obtain ⟨o,e,c,d⟩:=st
  exact ⟨o,e,λ v z=>by rw [d] at z; cases z⟩
 keep:=λ i h h' st k=>st.at λ o e=>k it (by simp) o e
 item:=by
  intro X hP hw hK hc i pins s σ H E I hf st hg
  subst hP hw hK
  obtain ⟨xs,x,hq,hx⟩:=hg
  obtain ⟨its,rv,p,hz⟩:=I.list hq
  obtain ⟨u,hu,ru⟩:=rv.get hx
  obtain ⟨f0,f1,f2,f3,f4,f5⟩:=hf it (by simp)
  refine wpAny_pyNext_list_item st p.isList (x:=u) (by simpa using hu) λ h' st' sb=>?_
  have I1:Inv X pins σ H { s with heap:=h' }:=I.turned (t':=s.toks) (λ b o hb e=>(sb.2 b hb).trans e) f0 f1 f3 f4 f5
  obtain ⟨o,e,c,d⟩:=id st'
  exact ⟨u,rfl,Zkb (s:={ s with heap:=h' }) e c d (by decide) ⟨x,H,I1,ru,⟨rfl,λ ys hy=>by rw [I.list_inj hy hq]; exact hx⟩,st',λ b hb=>(hf b hb).1⟩⟩
 done:=by
  intro X hP hw hK hc i pins s σ H E I hf st hg
  subst hP hw hK
  obtain ⟨xs,hq,hx⟩:=hg
  obtain ⟨its,rv,p,hz⟩:=I.list hq
  obtain ⟨f0,f1,f2,f3,f4,f5⟩:=hf it (by simp)
  have hl:=rv.length
  exact wpAny_pyNext_list_end (I.ok.hd hc) st p.isList (by simp; omega) λ h' eb=>⟨rfl,I.turned (t':=s.toks) (λ b o hb e=>eb b o hb e) f0 f1 f3 f4 f5⟩
 self:=λ _ _ _ _ _ st h=>wpAny_pyIter_listiter st h
theorem Zsn {P:Program} {w:World} {K:Fq} {tg:Expr} (a it:Addr):Turn P w K tg (Itt K a) [it] it (λ i h=>h.IsTupleIter it a i) where
 mem:=by simp
 obj:=λ i h st b hb=>by
  have e:b=it:=by simpa using hb
  subst e
  obtain ⟨o,e,c,d⟩:=st
  exact ⟨o,e,λ v z=>by rw [d] at z; cases z⟩
 keep:=λ i h h' st k=>st.at λ o e=>k it (by simp) o e
 item:=by
  intro X hP hw hK hc i pins s σ H E I hf st hg
  subst hP hw hK
  obtain ⟨xs,x,hq,hx⟩:=hg
  obtain ⟨its,rv,p,hz⟩:=I.tuple hq
  obtain ⟨u,hu,ru⟩:=rv.get hx
  obtain ⟨f0,f1,f2,f3,f4,f5⟩:=hf it (by simp)
  refine wpAny_pyNext_tuple_item st (show s.heap.IsTuple a its.toArray from p) (x:=u) (by simpa using hu) λ h' st' sb=>?_
  have I1:Inv X pins σ H { s with heap:=h' }:=I.turned (t':=s.toks) (λ b o hb e=>(sb.2 b hb).trans e) f0 f1 f3 f4 f5
  obtain ⟨o,e,c,d⟩:=id st'
  exact ⟨u,rfl,Zkb (s:={ s with heap:=h' }) e c d (by decide) ⟨x,H,I1,ru,⟨rfl,λ ys hy=>by rw [I.tuple_inj hy hq]; exact hx⟩,st',λ b hb=>(hf b hb).1⟩⟩
 done:=by
  intro X hP hw hK hc i pins s σ H E I hf st hg
  subst hP hw hK
  obtain ⟨xs,hq,hx⟩:=hg
  obtain ⟨its,rv,p,hz⟩:=I.tuple hq
  obtain ⟨f0,f1,f2,f3,f4,f5⟩:=hf it (by simp)
  have hl:=rv.length
  exact wpAny_pyNext_tuple_end (I.ok.hd hc) st (show s.heap.IsTuple a its.toArray from p) (by simp; omega) λ h' eb=>⟨rfl,I.turned (t':=s.toks) (λ b o hb e=>eb b o hb e) f0 f1 f3 f4 f5⟩
 self:=λ _ _ _ _ _ st h=>wpAny_pyIter_tupleiter st h
theorem Zso {P:Program} {w:World} {K:Fq} {tg:Expr} (it:Addr) (lo:Int) (n:Nat):Turn P w K tg (Itr lo n) [it] it (λ i h=>IsRangeIter h it (lo+(i:Nat)*1) ((n:Int)-(i:Nat)) 1) where
 mem:=by simp
 obj:=λ i h st b hb=>by
  have e:b=it:=by simpa using hb
  subst e
  exact ⟨_,st,λ v z=>by
   have z':Data.fields _=Data.cell v:=z
   cases z'⟩
 keep:=λ i h h' st k=>k it (by simp) _ st
 item:=by
  intro X hP hw hK hc i pins s σ H E I hf st hg
  subst hP hw hK
  obtain ⟨f0,f1,f2,f3,f4,f5⟩:=hf it (by simp)
  have W:=Walks.range (prog:=X.prog) (w:=X.w) (I.ok.hd hc) it lo 1 n
  refine W.item i s _ _ hg st λ v h' tk hv st' kk=>?_
  obtain ⟨t,rfl⟩:=hv
  have I1:Inv X pins σ H { s with heap:=h',toks:=tk }:=I.turned (λ b o hb e=>kk b o (by simpa using hb) e) f0 f1 f3 f4 f5
  refine ⟨_,rfl,Zkb (s:={ s with heap:=h',toks:=tk }) (n:="range_iterator") st' rfl rfl (by decide) ⟨.int (lo+i),H,I1,⟨t,?_⟩,⟨rfl,rfl⟩,st',λ b hb=>(hf b hb).1⟩⟩
  rw [Int.mul_one]
 done:=by
  intro X hP hw hK hc i pins s σ H E I hf st hg
  subst hP hw hK
  obtain ⟨f0,f1,f2,f3,f4,f5⟩:=hf it (by simp)
  exact wpAny_pyNext_range_end (I.ok.hd hc) st (by have:n<=i:=hg; omega) λ h' eb=>⟨rfl,I.turned (t':=s.toks) (λ b o hb e=>eb b o hb e) f0 f1 f3 f4 f5⟩
 self:=λ _ _ _ _ _ st h=>wpAny_pyIter_rangeiter st h
end L2
namespace L2
open PySem PySem.Spec PyProof.Rows
section
variable {X:Cx} {tg:Expr}
theorem Zws {pins:List (Addr×Obj)} {σ:St} {H:Hp} {s:Shared} {R:It->Hp->Prop} {E:Value->Shared->Prop} {lo hi:Int} {t u v:Tok} {tk:Nat} (I:Inv X pins σ H s) (h1:-(2 ^ 62)<=lo) (h2:lo<2 ^ 62) (h3:-(2 ^ 62)<=hi) (h4:hi<2 ^ 62)
 (q:R (Itr lo (hi-lo).toNat) H):wpAny (model X.prog X.w) X.A (pyIter (.ref s.heap.objs.size)) (PIE X pins σ tg R) E { s with heap:=s.heap.push { cls:=.type "range",data:=.fields #[.int lo t,.int hi u,.int 1 v] },toks:=tk }:=by
 refine wpAny_pyIter_range (IsRange.new ..) (small_one h1 h2 h3 h4) ?_
 have I1:Inv X pins σ H { s with heap:=s.heap.push { cls:=.type "range",data:=.fields #[.int lo t,.int hi u,.int 1 v] },toks:=tk }:=I.kept λ b o e=>Heap.get?_push_of_some _ e
 refine ⟨(s.heap.push { cls:=.type "range",data:=.fields #[.int lo t,.int hi u,.int 1 v] }).objs.size,[(s.heap.push { cls:=.type "range",data:=.fields #[.int lo t,.int hi u,.int 1 v] }).objs.size],_,_,H,rfl,
  I1.kept (t':=tk) λ b o e=>Heap.get?_push_of_some _ e,Zso _ lo (hi-lo).toNat,?_,λ b hb=>?_,q⟩
 · have e1:lo+((0:Nat):Int)*1=lo:=by simp
   have e2:(((hi-lo).toNat:Nat):Int)-((0:Nat):Int)=Builtin.Range.rangeSize lo hi 1:=by rw [rangeSize_one]; split <;> omega
   show IsRangeIter _ _ (lo+((0:Nat):Int)*1) ((((hi-lo).toNat:Nat):Int)-((0:Nat):Int)) 1
   rw [e1,e2]
   exact Heap.get?_push_size _ rfl
 · have e:b=(s.heap.push { cls:=.type "range",data:=.fields #[.int lo t,.int hi u,.int 1 v] }).objs.size:=by simpa using hb
   subst e
   exact I1.fpOk (Nat.le_refl _) (I1.hok.fresh (Nat.le_refl _))
def Xz (ta:TA):TI:=λ σ H R=>ta σ H λ vs H1=>∃ j:Int,vs=[.int j]/\-(2 ^ 62)<=j/\j<2 ^ 62/\R (Itr 0 j.toNat) H1
theorem Zui {a:Expr} {ta:TA} {p pos:Pos} (hg:Gl X "range") (hm:X.mg "range"=none) (ha:PA X [a] ta) (hs:starEach [a] X.env=[(false,eval a X.env)]:=by rfl):PI X tg (.Call (.Name "range" p) [a] [] pos) (Xz ta):=by
 intro pins s σ H R I h
 refine Call_ (U5 I hg hm boot_range (PyProof.Rows.callWith_type1 (thn (ha pos pins s σ H _ I h) λ us s1 ⟨vs,H1,I1,r1,q1⟩=>?_) hs rfl))
 obtain ⟨j,e,q1,q2,q⟩:=q1
 subst e
 cases r1 with
 | cons r rr =>
   cases rr
   obtain ⟨t,rfl⟩:=r
   exact call_range_1 (Zws I1 (by omega) (by omega) q1 q2 (by simpa using q))
def Qo (wi:TI) (g:TG) (tb:TS):TS:=λ D σ H=>wi σ H λ J H1=>∃ W:Nat->Nat->St->Hp->Prop,(∃ m,W 0 m σ H1)/\∀ i m σ H,W i m σ H ->
 (J.stop i H/\D.nx σ H)\/(J.go i H/\∃ N:St->Hp->Prop,(∀ σ' H',N σ' H'->∃ m',m'<m/\W (i+1) m' σ' H')/\∀ x H',J.yld i H x H'->g x σ H' λ σ2 H2=>tb { D with nx:=N,ct:=N,bk:=D.nx } σ2 H2)
def Zgn (fp:List Addr) (h:Heap):List (Addr×Obj):=fp.filterMap λ b=>(h.get? b).map λ o=>(b,o)
theorem Za1 {fp:List Addr} {h:Heap} {b:Addr} {o:Obj} (hb:b∈fp) (e:h.get? b=some o):(b,o)∈Zgn fp h:=List.mem_filterMap.mpr ⟨b,hb,by rw [e]; rfl⟩
theorem Zuo {fp:List Addr} {h:Heap} {p:Addr×Obj} (hp:p∈Zgn fp h):p.1∈fp/\h.get? p.1=some p.2:=by
 obtain ⟨b,hb,e⟩:=List.mem_filterMap.mp hp
 cases q:h.get? b with
 | none=>rw [q] at e; cases e
 | some o =>
   rw [q] at e
   have e':(b,o)=p:=Option.some.inj e
   subst e'
   exact ⟨hb,q⟩
theorem Inv.pinned {pins:List (Addr×Obj)} {σ:St} {H:Hp} {s:Shared} {fp:List Addr} (I:Inv X pins σ H s) (hf:∀ b∈fp,FpOk X pins H b) (ho:∀ b∈fp,∃ o,s.heap.get? b=some o/\∀ v,o.data≠.cell v):Inv X (pins++Zgn fp s.heap) σ H s :=
 I.pins_of λ p hp=>(List.mem_append.mp hp).elim (λ z=>I.pin p (List.mem_append_right _ z)) λ z=>by
  obtain ⟨hb,e⟩:=Zuo z
  obtain ⟨f0,f1,f2,_⟩:=hf p.1 hb
  obtain ⟨o,e',d⟩:=ho p.1 hb
  rw [e] at e'; cases e'
  exact ⟨e,f0,f1,f2,d⟩
theorem Inv.unpinned {pins pl:List (Addr×Obj)} {σ:St} {H:Hp} {s:Shared} (I:Inv X (pins++pl) σ H s):Inv X pins σ H s:=I.pins_of λ p hp=>I.pin p (List.mem_append_right _ (List.mem_append_left _ hp))
theorem Xf {iter:Expr} {body:List Stmt} {wi:TI} {g:TG} {tb:TS} {pos:Pos} (hp:PassesOwn (model X.prog X.w) X.A X.env X.xe) (hc:X.calm=true) (hi:PI X tg iter wi) (hg:PG X tg g) (hb:PSs X body tb)
 (hs:∀ x,foldedSetIterable iter X.env x=pure x:=by intro _; rfl):PS X (.For tg iter body [] pos) (Qo wi g tb):=by
 intro pins s σ H D I h
 refine wpAny_For (thn (hi pins s σ H _ I h) λ v s1 h1=>thn h1 λ itv s2 h2=>?_) hs
 obtain ⟨it,fp,tn,J,H2,e,I2,T,st2,f2,W,⟨m0,w0⟩,turn⟩:=h2
 subst e
 have stat:∀ {H':Hp},(∀ b∈fp,H' b=none)->∀ b∈fp,FpOk X pins H' b:=λ hn b hb=>⟨hn b hb,(f2 b hb).2⟩
 refine codeAny_forLoop_any (λ n s'=>∃ i σ' H',Inv X pins σ' H' s'/\tn i s'.heap/\(∀ b∈fp,H' b=none)/\W i n σ' H') ?_ m0 ⟨0,σ,H2,I2,st2,λ b hb=>(f2 b hb).1,w0⟩
 rintro n s3 ⟨i,σ3,H3,I3,st3,fr3,w3⟩
 rcases turn i n σ3 H3 w3 with ⟨stop,qn⟩ | ⟨go,N,hN,step⟩
 · refine wpAny_passesOwn hp (thn (T.done X rfl rfl rfl hc i pins s3 σ3 H3 X.xe I3 (stat fr3) st3 stop) λ r s4 ⟨hr,I4⟩=>?_)
   subst hr
   exact wpAny_execs_nil ⟨σ3,H3,I4,qn⟩
 · refine wpAny_passesOwn hp (thn (T.item X rfl rfl rfl hc i pins s3 σ3 H3 X.xe I3 (stat fr3) st3 go) λ r s4 ⟨u,hr,h4⟩=>?_)
   subst hr
   refine wpAny_passesOwn hp (thn h4 λ _ s5 ⟨x,H5,I5,r5,y5,st5,fr5⟩=>?_)
   have I5':=I5.pinned (stat fr5) (T.obj _ _ st5)
   refine wpAny_passesOwn hp (thn (hg _ s5 σ3 H5 x u _ I5' r5 (step x H5 y5)) λ _ s6 ⟨σ6,H6,I6,q6⟩=>?_)
   refine wpAny_passesOwn hp (thn (hb _ s6 σ6 H6 _ I6 q6) λ f s7 q7=>?_)
   have again:∀ {σ7:St} {H7:Hp},Inv X (pins++Zgn fp s5.heap) σ7 H7 s7->N σ7 H7->∃ m,m<n/\∃ i σ' H',Inv X pins σ' H' s7/\tn i s7.heap/\(∀ b∈fp,H' b=none)/\W i m σ' H':=λ {σ7 H7} I7 n7=>by
    obtain ⟨m',hm,w7⟩:=hN σ7 H7 n7
    refine ⟨m',hm,i+1,σ7,H7,I7.unpinned,T.keep _ _ _ st5 λ b hb o e=>(I7.pin (b,o) (List.mem_append_right _ (List.mem_append_right _ (Za1 hb e)))).1,λ b hb=>?_,w7⟩
    obtain ⟨o,e,d⟩:=T.obj _ _ st5 b hb
    exact (I7.pin (b,o) (List.mem_append_right _ (List.mem_append_right _ (Za1 hb e)))).2.1
   cases f with
   | next=>obtain ⟨σ7,H7,I7,n7⟩:=q7; exact again I7 n7
   | cont=>obtain ⟨σ7,H7,I7,n7⟩:=q7; exact again I7 n7
   | brk=>obtain ⟨σ7,H7,I7,q7⟩:=q7; exact ⟨σ7,H7,I7.unpinned,q7⟩
   | ret v=>obtain ⟨x7,σ7,H7,I7,r7,q7⟩:=q7; exact ⟨x7,σ7,H7,I7.unpinned,r7,q7⟩
end
theorem Jj {K:Fq} {a:Addr} {xs:List V} {g:TG} {tb:TS} {D:Ends} {σ:St} {H:Hp} (Pv:Nat->St->Hp->Prop) (h0:Pv 0 σ H) (hl:∀ i σ H,i<=xs.length->Pv i σ H->SqL K H a xs)
 (hs:∀ i x σ H,xs[i]?=some x->Pv i σ H->g x σ H λ σ2 H2=>tb { D with nx:=Pv (i+1),ct:=Pv (i+1),bk:=D.nx } σ2 H2) (hd:∀ σ H,Pv xs.length σ H->D.nx σ H) :
 ∃ W:Nat->Nat->St->Hp->Prop,(∃ m,W 0 m σ H)/\∀ i m σ H,W i m σ H ->
   ((Itl K a).stop i H/\D.nx σ H)\/((Itl K a).go i H/\∃ N:St->Hp->Prop,(∀ σ' H',N σ' H'->∃ m',m'<m/\W (i+1) m' σ' H')/\∀ x H',(Itl K a).yld i H x H'->g x σ H' λ σ2 H2=>tb { D with nx:=N,ct:=N,bk:=D.nx } σ2 H2):=by
 refine ⟨λ i m σ H=>m=xs.length-i/\i<=xs.length/\Pv i σ H,⟨xs.length,by simp,Nat.zero_le _,h0⟩,?_⟩
 rintro i m σ H ⟨rfl,hi,p⟩
 have q:=hl i σ H hi p
 by_cases hlt:i<xs.length
 · refine .inr ⟨⟨xs,xs[i],q,by simp [hlt]⟩,Pv (i+1),λ σ' H' p'=>⟨xs.length-(i+1),by omega,rfl,hlt,p'⟩,λ x H' y=>?_⟩
   obtain ⟨e,y⟩:=y
   subst e
   exact hs i x σ _ (y xs q) p
 · have e:i=xs.length:=by omega
   subst e
   exact .inl ⟨⟨xs,q,Nat.le_refl _⟩,hd σ H p⟩
theorem Zvb {lo:Int} {n:Nat} {g:TG} {tb:TS} {D:Ends} {σ:St} {H:Hp} (Pv:Nat->St->Hp->Prop) (h0:Pv 0 σ H)
 (hs:∀ i σ H,i<n->Pv i σ H->g (.int (lo+i)) σ H λ σ2 H2=>tb { D with nx:=Pv (i+1),ct:=Pv (i+1),bk:=D.nx } σ2 H2) (hd:∀ σ H,Pv n σ H->D.nx σ H) :
 ∃ W:Nat->Nat->St->Hp->Prop,(∃ m,W 0 m σ H)/\∀ i m σ H,W i m σ H ->
   ((Itr lo n).stop i H/\D.nx σ H)\/((Itr lo n).go i H/\∃ N:St->Hp->Prop,(∀ σ' H',N σ' H'->∃ m',m'<m/\W (i+1) m' σ' H')/\∀ x H',(Itr lo n).yld i H x H'->g x σ H' λ σ2 H2=>tb { D with nx:=N,ct:=N,bk:=D.nx } σ2 H2):=by
 refine ⟨λ i m σ H=>m=n-i/\i<=n/\Pv i σ H,⟨n,by simp,Nat.zero_le _,h0⟩,?_⟩
 rintro i m σ H ⟨rfl,hi,p⟩
 by_cases hlt:i<n
 · refine .inr ⟨hlt,Pv (i+1),λ σ' H' p'=>⟨n-(i+1),by omega,rfl,hlt,p'⟩,λ x H' y=>?_⟩
   obtain ⟨e,y⟩:=y
   subst e y
   exact hs i σ _ hlt p
 · have e:i=n:=by omega
   subst e
   exact .inl ⟨Nat.le_refl _,hd σ H p⟩
end L2
namespace L2
open PySem PySem.Spec PyProof.Rows
abbrev R2:=V->V->Hp->VK->Prop
def OpR (X:Cx) (f:Value->Value->Sem Value) (r:R2):Prop :=
 ∀ (pins:List (Addr×Obj)) (s:Shared) (σ:St) (H:Hp) (x y:V) (v u:Value) (Q:VK),Inv X pins σ H s->RelV x v->RelV y u->r x y H Q ->
   wpAny (model X.prog X.w) X.A (f v u) (EP X pins σ Q) X.xe s
def UnR (X:Cx) (f:Value->Sem Value) (r:V->Hp->VK->Prop):Prop :=
 ∀ (pins:List (Addr×Obj)) (s:Shared) (σ:St) (H:Hp) (x:V) (v:Value) (Q:VK),Inv X pins σ H s->RelV x v->r x H Q ->
   wpAny (model X.prog X.w) X.A (f v) (EP X pins σ Q) X.xe s
def CallR (X:Cx) (f:Value) (r:List V->Hp->VK->Prop):Prop :=
 ∀ (pins:List (Addr×Obj)) (s:Shared) (σ:St) (H:Hp) (xs:List V) (us:List Value) (Q:VK),Inv X pins σ H s->Vals xs us->r xs H Q ->
   wpAny (model X.prog X.w) X.A (call f us) (EP X pins σ Q) X.xe s
def TruR (X:Cx) (r:V->Hp->(Bool->Hp->Prop)->Prop):Prop :=
 ∀ (pins:List (Addr×Obj)) (s:Shared) (σ:St) (H:Hp) (x:V) (v:Value) (Q:Bool->Hp->Prop),Inv X pins σ H s->RelV x v->r x H Q ->
   wpAny (model X.prog X.w) X.A (truthy v) (TP X pins σ Q) X.xe s
def tOp (r:R2) (ta tb:TE):TE:=λ σ H Q=>ta σ H λ x H1=>tb σ H1 λ y H2=>r x y H2 Q
def tUn (r:V->Hp->VK->Prop) (ta:TE):TE:=λ σ H Q=>ta σ H λ x H1=>r x H1 Q
def rI (C:Int->Int->Prop) (g:Int->Int->V):R2:=λ x y H Q=>∃ i j,x=.int i/\y=.int j/\C i j/\Q (g i j) H
def rI0 (g:Int->Int->V):R2:=λ x y H Q=>∃ i j,x=.int i/\y=.int j/\Q (g i j) H
def rU (g:Int->V):V->Hp->VK->Prop:=λ x H Q=>∃ i,x=.int i/\Q (g i) H
section
variable {X:Cx} {a b c:Expr} {ta tb tc:TE} {pos:Pos}
theorem binT (ha:PE X a ta) (hb:PE X b tb) {pins:List (Addr×Obj)} {s:Shared} {σ:St} {H:Hp} {R:V->V->Hp->Prop} (I:Inv X pins σ H s)
 (h:ta σ H λ x H1=>tb σ H1 λ y H2=>R x y H2) {Q:Value->Shared->Prop} {f:Value->Value->Sem Value}
 (hf:∀ v u s2 x y H2,Inv X pins σ H2 s2->RelV x v->RelV y u->R x y H2->wpAny (model X.prog X.w) X.A (f v u) Q X.xe s2) :
 wpAny (model X.prog X.w) X.A (eval a X.env) (λ v s₁=>wpAny (model X.prog X.w) X.A (eval b X.env) (λ u s₂=>wpAny (model X.prog X.w) X.A (f v u) Q X.xe s₂) X.xe s₁) X.xe s:=by
 refine thn (ha pins s σ H _ I h) λ v s1 ⟨x,H1,I1,r1,q1⟩=>?_
 refine thn (hb pins s1 σ H1 _ I1 q1) λ u s2 ⟨y,H2,I2,r2,q2⟩=>?_
 exact hf v u s2 x y H2 I2 r1 r2 q2
theorem Zt {op:Operator} {r:R2} (ho:OpR X (binaryOp op) r) (ha:PE X a ta) (hb:PE X b tb):PE X (.BinOp a op b pos) (tOp r ta tb):=by
 intro pins s σ H Q I h
 exact wpAny_BinOp (binT ha hb I h λ v u s2 x y H2 I2 rx ry q=>ho pins s2 σ H2 x y v u Q I2 rx ry q)
theorem Zx9 {op:UnaryOp} {r:V->Hp->VK->Prop} (ho:UnR X (unaryOp op) r) (ha:PE X a ta):PE X (.UnaryOp op a pos) (tUn r ta):=by
 intro pins s σ H Q I h
 exact UnaryOp_ (thn (ha pins s σ H _ I h) λ v s1 ⟨x,H1,I1,r1,q1⟩=>ho pins s1 σ H1 x v Q I1 r1 q1)
theorem opI {f:Value->Value->Sem Value} {C:Int->Int->Prop} {g:Int->Int->Int}
 (rule:∀ (i j:Int) (t u:Tok) (s:Shared) (Q:Value->Shared->Prop) (E:Value->Shared->Prop),C i j->Q (.int (g i j) s.toks) { s with toks:=s.toks+1 }->wpAny (model X.prog X.w) X.A (f (.int i t) (.int j u)) Q E s) :
 OpR X f (rI C λ i j=>.int (g i j)):=by
 intro pins s σ H x y v u Q I rx ry h
 obtain ⟨i,j,rfl,rfl,hc,q⟩:=h
 obtain ⟨t,rfl⟩:=rx
 obtain ⟨t',rfl⟩:=ry
 exact rule i j t t' s _ _ hc ⟨.int (g i j),H,I.tok _,⟨_,rfl⟩,q⟩
theorem opI0 {f:Value->Value->Sem Value} {g:Int->Int->Int}
 (rule:∀ (i j:Int) (t u:Tok) (s:Shared) (Q:Value->Shared->Prop) (E:Value->Shared->Prop),Q (.int (g i j) s.toks) { s with toks:=s.toks+1 }->wpAny (model X.prog X.w) X.A (f (.int i t) (.int j u)) Q E s) :
 OpR X f (rI0 λ i j=>.int (g i j)):=by
 intro pins s σ H x y v u Q I rx ry h
 obtain ⟨i,j,rfl,rfl,q⟩:=h
 obtain ⟨t,rfl⟩:=rx
 obtain ⟨t',rfl⟩:=ry
 exact rule i j t t' s _ _ ⟨.int (g i j),H,I.tok _,⟨_,rfl⟩,q⟩
theorem opB0 {f:Value->Value->Sem Value} {g:Int->Int->Bool}
 (rule:∀ (i j:Int) (t u:Tok) (s:Shared) (Q:Value->Shared->Prop) (E:Value->Shared->Prop),Q (.bool (g i j)) s->wpAny (model X.prog X.w) X.A (f (.int i t) (.int j u)) Q E s) :
 OpR X f (rI0 λ i j=>.bl (g i j)):=by
 intro pins s σ H x y v u Q I rx ry h
 obtain ⟨i,j,rfl,rfl,q⟩:=h
 obtain ⟨t,rfl⟩:=rx
 obtain ⟨t',rfl⟩:=ry
 exact rule i j t t' s _ _ ⟨.bl (g i j),H,I,rfl,q⟩
def CPow (i j:Int):Prop:=0<=j/\j<=1000000/\i.natAbs<2 ^ 64
theorem Z1f:OpR X (binaryOp .Add) (rI0 λ i j=>.int (i+j)):=opI0 λ _ _ _ _ _ _ _ q=>add_int q
theorem Z08:OpR X (binaryOp .Sub) (rI0 λ i j=>.int (i-j)):=opI0 λ _ _ _ _ _ _ _ q=>sub_int q
theorem Z1b:OpR X (binaryOp .Mod) (rI (λ _ j=>0<j) λ i j=>.int (i % j)):=opI λ i j _ _ _ _ _ hc q=>by
 have h1:(0:Int)<j:=hc
 exact mod_int' (by omega) (by rw [Int.fmod_eq_emod_of_nonneg i (by omega)]; exact q)
theorem Z1a:OpR X (binaryOp .Pow) (rI CPow λ i j=>.int (i ^ j.toNat)):=opI λ _ _ _ _ _ _ _ hc q=>pow_int_small hc.1 hc.2.1 hc.2.2 q
theorem unI {f:Value->Sem Value} {g:Int->Int}
 (rule:∀ (i:Int) (t:Tok) (s:Shared) (Q:Value->Shared->Prop) (E:Value->Shared->Prop),Q (.int (g i) s.toks) { s with toks:=s.toks+1 }->wpAny (model X.prog X.w) X.A (f (.int i t)) Q E s) :
 UnR X f (rU λ i=>.int (g i)):=by
 intro pins s σ H x v Q I rx h
 obtain ⟨i,rfl,q⟩:=h
 obtain ⟨t,rfl⟩:=rx
 exact rule i t s _ _ ⟨.int (g i),H,I.tok _,⟨_,rfl⟩,q⟩
theorem Ztx:UnR X (unaryOp .USub) (rU λ i=>.int (-i)):=unI λ _ _ _ _ _ q=>neg_int q
end
def scal:V->V->Bool
 | .non,.non=>true | .non,.int _=>true | .int _,.non=>true | .non,.bl _=>true | .bl _,.non=>true | .non,.str _=>true | .str _,.non=>true
 | .int _,.int _=>true | .bl _,.bl _=>true | .str _,.str _=>true | .byt _,.byt _=>true
 | .int _,.str _=>true | .str _,.int _=>true | .bl _,.str _=>true | .str _,.bl _=>true
 | _,_=>false
def rEq:R2:=λ x y H Q=>scal x y=true/\Q (.bl (decide (x=y))) H
def rNe:R2:=λ x y H Q=>scal x y=true/\Q (.bl (!decide (x=y))) H
theorem Zr6 {i j:Int}:decide (V.int i=V.int j)=(i == j):=by
 rw [Bool.eq_iff_iff]
 simp
theorem Zvi {i j:Bool}:decide (V.bl i=V.bl j)=(i == j):=by
 rw [Bool.eq_iff_iff]
 simp
theorem Zr5 {i j:Str}:decide (V.str i=V.str j)=(i == j):=by
 rw [Bool.eq_iff_iff]
 simp
theorem Zr7 {i j:Array UInt8}:decide (V.byt i=V.byt j)=(i.toList == j.toList):=by
 rw [Bool.eq_iff_iff]
 cases i
 cases j
 simp
section
variable {X:Cx} {a b c:Expr} {ta tb tc:TE} {pos:Pos}
theorem Y0 {pins:List (Addr×Obj)} {σ:St} {H:Hp} {s:Shared} {Q:VK} {k k':Bool} (I:Inv X pins σ H s) (q:Q (.bl k) H) (e:k=k'):EP X pins σ Q (.bool k') s:=by
 subst e
 exact ⟨.bl k,H,I,rfl,q⟩
theorem Z18:OpR X (compareOp .Eq) rEq:=by
 intro pins s σ H x y v u Q I rx ry h
 obtain ⟨hs,q⟩:=h
 cases x with
 | non =>
   cases rx
   cases y with
   | non=>cases ry; exact PySem.EqNone.eq_none_none (Y0 I q (by simp))
   | bl j=>cases ry; exact PySem.EqNone.eq_none_bool (Y0 I q (by simp))
   | int j=>obtain ⟨t',rfl⟩:=ry; exact PySem.EqNone.eq_none_int (Y0 I q (by simp))
   | str j=>obtain ⟨t',rfl⟩:=ry; exact PySem.EqNone.eq_none_str (Y0 I q (by simp))
   | _=>exact absurd (show false=true from hs) Bool.false_ne_true
 | bl i =>
   cases rx
   cases y with
   | non=>cases ry; exact PySem.EqNone.eq_bool_none (Y0 I q (by simp))
   | bl j=>cases ry; exact eq_bool (Y0 I q Zvi)
   | str j=>obtain ⟨t',rfl⟩:=ry; exact PySem.EqMixed.eq_bool_str (Y0 I q (by simp))
   | _=>exact absurd (show false=true from hs) Bool.false_ne_true
 | int i =>
   obtain ⟨t,rfl⟩:=rx
   cases y with
   | non=>cases ry; exact PySem.EqNone.eq_int_none (Y0 I q (by simp))
   | int j=>obtain ⟨t',rfl⟩:=ry; exact eq_int (Y0 I q Zr6)
   | str j=>obtain ⟨t',rfl⟩:=ry; exact PySem.EqMixed.eq_int_str (Y0 I q (by simp))
   | _=>exact absurd (show false=true from hs) Bool.false_ne_true
 | str i =>
   obtain ⟨t,rfl⟩:=rx
   cases y with
   | non=>cases ry; exact PySem.EqNone.eq_str_none (Y0 I q (by simp))
   | bl j=>cases ry; exact PySem.EqMixed.eq_str_bool (Y0 I q (by simp))
   | int j=>obtain ⟨t',rfl⟩:=ry; exact PySem.EqMixed.eq_str_int (Y0 I q (by simp))
   | str j=>obtain ⟨t',rfl⟩:=ry; exact eq_str (Y0 I q Zr5)
   | _=>exact absurd (show false=true from hs) Bool.false_ne_true
 | byt i =>
   obtain ⟨t,rfl⟩:=rx
   cases y with
   | byt j=>obtain ⟨t',rfl⟩:=ry; exact PySem.W.eq_bytes (Y0 I q Zr7)
   | _=>exact absurd (show false=true from hs) Bool.false_ne_true
 | _=>cases y <;> exact absurd (show false=true from hs) Bool.false_ne_true
theorem Z17:OpR X (compareOp .NotEq) rNe:=by
 intro pins s σ H x y v u Q I rx ry h
 obtain ⟨hs,q⟩:=h
 cases x with
 | non =>
   cases rx
   cases y with
   | non=>cases ry; exact PySem.EqNone.ne_none_none (Y0 I q (by simp))
   | bl j=>cases ry; exact PySem.EqNone.ne_none_bool (Y0 I q (by simp))
   | int j=>obtain ⟨t',rfl⟩:=ry; exact PySem.EqNone.ne_none_int (Y0 I q (by simp))
   | str j=>obtain ⟨t',rfl⟩:=ry; exact PySem.EqNone.ne_none_str (Y0 I q (by simp))
   | _=>exact absurd (show false=true from hs) Bool.false_ne_true
 | bl i =>
   cases rx
   cases y with
   | non=>cases ry; exact PySem.EqNone.ne_bool_none (Y0 I q (by simp))
   | bl j=>cases ry; exact ne_bool (Y0 I q (congrArg not Zvi))
   | str j=>obtain ⟨t',rfl⟩:=ry; exact PySem.EqMixed.ne_bool_str (Y0 I q (by simp))
   | _=>exact absurd (show false=true from hs) Bool.false_ne_true
 | int i =>
   obtain ⟨t,rfl⟩:=rx
   cases y with
   | non=>cases ry; exact PySem.EqNone.ne_int_none (Y0 I q (by simp))
   | int j=>obtain ⟨t',rfl⟩:=ry; exact ne_int (Y0 I q (congrArg not Zr6))
   | str j=>obtain ⟨t',rfl⟩:=ry; exact PySem.EqMixed.ne_int_str (Y0 I q (by simp))
   | _=>exact absurd (show false=true from hs) Bool.false_ne_true
 | str i =>
   obtain ⟨t,rfl⟩:=rx
   cases y with
   | non=>cases ry; exact PySem.EqNone.ne_str_none (Y0 I q (by simp))
   | bl j=>cases ry; exact PySem.EqMixed.ne_str_bool (Y0 I q (by simp))
   | int j=>obtain ⟨t',rfl⟩:=ry; exact PySem.EqMixed.ne_str_int (Y0 I q (by simp))
   | str j=>obtain ⟨t',rfl⟩:=ry; exact ne_str (Y0 I q (congrArg not Zr5))
   | _=>exact absurd (show false=true from hs) Bool.false_ne_true
 | byt i =>
   obtain ⟨t,rfl⟩:=rx
   cases y with
   | byt j=>obtain ⟨t',rfl⟩:=ry; exact PySem.W.ne_bytes (Y0 I q (congrArg not Zr7))
   | _=>exact absurd (show false=true from hs) Bool.false_ne_true
 | _=>cases y <;> exact absurd (show false=true from hs) Bool.false_ne_true
theorem En:OpR X (compareOp .Lt) (rI0 λ i j=>.bl (decide (i<j))):=opB0 λ _ _ _ _ _ _ _ q=>lt_int q
theorem Zs2:OpR X (compareOp .LtE) (rI0 λ i j=>.bl (decide (i<=j))):=opB0 λ _ _ _ _ _ _ _ q=>le_int q
theorem Ze2:OpR X (compareOp .Gt) (rI0 λ i j=>.bl (decide (j<i))):=opB0 λ _ _ _ _ _ _ _ q=>gt_int q
theorem Zya:OpR X (compareOp .GtE) (rI0 λ i j=>.bl (decide (j<=i))):=opB0 λ _ _ _ _ _ _ _ q=>ge_int q
theorem Z1c:OpR X (compareOp .Is) (λ x y H Q=>y=.non/\Q (.bl (decide (x=.non))) H):=by
 intro pins s σ H x y v u Q I rx ry h
 obtain ⟨rfl,q⟩:=h
 cases ry
 refine is_none_gen (Y0 I q ?_)
 cases x <;> first
  | (cases rx; rfl)
  | (obtain ⟨t,rfl⟩:=rx; rfl)
theorem Zzi:OpR X (compareOp .IsNot) (λ x y H Q=>y=.non/\Q (.bl (!decide (x=.non))) H):=by
 intro pins s σ H x y v u Q I rx ry h
 obtain ⟨rfl,q⟩:=h
 cases ry
 refine isnot_none_gen (Y0 I q ?_)
 cases x <;> first
  | (cases rx; rfl)
  | (obtain ⟨t,rfl⟩:=rx; rfl)
theorem OpR.or {f:Value->Value->Sem Value} {r r':R2} (h:OpR X f r) (h':OpR X f r'):OpR X f (λ x y H Q=>r x y H Q\/r' x y H Q):=by
 intro pins s σ H x y v u Q I rx ry q
 rcases q with q | q
 · exact h pins s σ H x y v u Q I rx ry q
 · exact h' pins s σ H x y v u Q I rx ry q
theorem Yb (b:Expr) {op:CmpOp} (h:op≠.In:=by decide) (h2:op≠.NotIn:=by decide):behindInMarks op b=false:=by
 have e1:(op == CmpOp.In)=false:=by cases op <;> first | rfl | exact absurd rfl h
 have e2:(op == CmpOp.NotIn)=false:=by cases op <;> first | rfl | exact absurd rfl h2
 cases b <;> simp [behindInMarks,e1,e2]
theorem Qq {op:CmpOp} {r:R2} (ho:OpR X (compareOp op) r) (ha:PE X a ta) (hb:PE X b tb) (hm:behindInMarks op b=false):PE X (.Compare a [op] [b] pos) (tOp r ta tb):=by
 intro pins s σ H Q I h
 exact wpAny_Compare1 (binT ha hb I h λ v u s2 x y H2 I2 rx ry q=>ho pins s2 σ H2 x y v u Q I2 rx ry q) hm
def Yn (t:TE):TT:=λ σ H Q=>t σ H λ x H'=>∃ k,x=.bl k/\Q k H'
theorem Ye {op:CmpOp} {r:R2} (ho:OpR X (compareOp op) r) (ha:PE X a ta) (hb:PE X b tb) (hm:behindInMarks op b=false):PT X (.Compare a [op] [b] pos) (Yn (tOp r ta tb)):=by
 intro pins s σ H Q I h
 refine wpAny_isTrue_Compare1 (thn (ha pins s σ H _ I h) λ v s1 ⟨x,H1,I1,r1,q1⟩=>thn (hb pins s1 σ H1 _ I1 q1) λ u s2 ⟨y,H2,I2,r2,q2⟩ =>
  thn (ho pins s2 σ H2 x y v u _ I2 r1 r2 q2) λ c s3 ⟨z,H3,I3,r3,k,e,q3⟩=>?_) hm
 subst e
 cases r3
 exact wpAny_truthy_bool ⟨H3,I3,q3⟩
def Zi5 (r r':R2) (ta tb tc:TE):TE:=λ σ H Q=>ta σ H λ x H1=>tb σ H1 λ y H2=>r x y H2 λ z H3=>∃ k,z=.bl k /\
 (if k=true then tc σ H3 λ w' H4=>r' y w' H4 Q else Q (.bl false) H3)
theorem Zok {op op':CmpOp} {r r':R2} (ho:OpR X (compareOp op) r) (ho':OpR X (compareOp op') r') (ha:PE X a ta) (hb:PE X b tb) (hc:PE X c tc)
 (hm:lastMarks [op,op'] [b,c]=false:=by with_unfolding_all rfl):PT X (.Compare a [op,op'] [b,c] pos) (Yn (Zi5 r r' ta tb tc)):=by
 intro pins s σ H Q I h
 refine isTrue_chain (thn (ha pins s σ H _ I h) λ v s1 ⟨x,H1,I1,r1,q1⟩=>test_link (thn (hb pins s1 σ H1 _ I1 q1) λ u s2 ⟨y,H2,I2,r2,q2⟩ =>
  thn (ho pins s2 σ H2 x y v u _ I2 r1 r2 q2) λ d s3 ⟨z,H3,I3,r3,k,e,q3⟩=>?_)) hm
 subst e
 cases r3
 refine wpAny_truthy_bool ?_
 cases k with
 | false =>
   obtain ⟨k',e',q'⟩:=q3
   cases e'
   exact ite_ff ⟨H3,I3,q'⟩
 | true =>
   refine ite_tt (test_last (thn (hc pins s3 σ H3 _ I3 q3) λ w' s4 ⟨z',H4,I4,r4,q4⟩=>thn (ho' pins s4 σ H4 y z' u w' _ I4 r2 r4 q4) λ d' s5 ⟨z2,H5,I5,r5,k2,e2,q5⟩=>?_))
   subst e2
   cases r5
   exact wpAny_truthy_bool ⟨H5,I5,q5⟩
def TruV (K:Fq) (x:V) (H:Hp) (k:Bool):Prop :=
 match x with
 | .non=>k=false
 | .bl b=>k=b
 | .int i=>k=(i != 0)
 | .str y=>y.length<=sizeLine/\k=((y.length:Int) != 0)
 | .byt y=>y.size<=sizeLine/\k=((y.size:Int) != 0)
 | .ref p=>(∃ xs,SqL K H p xs/\k=!xs.isEmpty)\/(∃ xs,SqT K H p xs/\k=!xs.isEmpty)\/∃ kvs,H p=some (.dK kvs)/\k=!kvs.isEmpty
 | _=>False
theorem Zs6 {κ:Type} {kvs:List (κ×V)} {vs:List (κ×Value)} (r:KV kvs vs):(!vs.isEmpty)=!kvs.isEmpty:=by
 cases r <;> rfl
theorem Zj3 {xs:List V} {its:List Value} (r:Vals xs its):(!its.toArray.isEmpty)=!xs.isEmpty:=by
 cases r <;> simp
theorem Zdy:(sizeLine:Nat)<2 ^ 63:=by rw [sizeLine_eq]; decide
theorem Z0r:TruR X (λ x H Q=>∃ k,TruV X.K x H k/\Q k H):=by
 intro pins s σ H x v Q I rx h
 obtain ⟨k,e,q⟩:=h
 have hl:=Zdy
 have hs:sizeLine=16777216:=sizeLine_eq
 cases x with
 | non =>
   cases rx
   have e':k=false:=e
   subst e'
   exact truthy_none ⟨H,I,q⟩
 | bl b =>
   cases rx
   have e':k=b:=e
   subst e'
   exact wpAny_truthy_bool ⟨H,I,q⟩
 | int i =>
   obtain ⟨t,rfl⟩:=rx
   have e':k=(i != 0):=e
   subst e'
   exact PySem.P.truthy_int ⟨H,I,q⟩
 | str y =>
   obtain ⟨t,rfl⟩:=rx
   obtain ⟨hy,e'⟩:y.length<=sizeLine/\k=((y.length:Int) != 0):=e
   subst e'
   exact PySem.P.truthy_str (by omega) ⟨H,I.tok _,q⟩
 | byt y =>
   obtain ⟨t,rfl⟩:=rx
   obtain ⟨hy,e'⟩:y.size<=sizeLine/\k=((y.size:Int) != 0):=e
   subst e'
   exact PySem.W.truthy_bytes (by omega) ⟨H,I.tok _,q⟩
 | ref p =>
   cases rx
   have e':(∃ xs,SqL X.K H p xs/\k=!xs.isEmpty)\/(∃ xs,SqT X.K H p xs/\k=!xs.isEmpty)\/∃ kvs,H p=some (.dK kvs)/\k=!kvs.isEmpty:=e
   rcases e' with ⟨xs,hx,e'⟩ | ⟨xs,hx,e'⟩ | ⟨kvs,hx,e'⟩
   · subst e'
     obtain ⟨its,r,pl,hz⟩:=I.list hx
     have hlen:=r.length
     exact wpAny_truthy_list pl.isList (by simp only [List.size_toArray]; omega) ⟨H,I.tok _,by rw [Zj3 r]; exact q⟩
   · subst e'
     obtain ⟨its,r,pl,hz⟩:=I.tuple hx
     have hlen:=r.length
     exact truthy_tuple pl (by simp only [List.size_toArray]; omega) ⟨H,I.tok _,by rw [Zj3 r]; exact q⟩
   · subst e'
     obtain ⟨hz,hS,vs,r,m⟩:kvs.length<=sizeLine/\(p == sysModules)=false/\∃ vs,KV kvs vs/\s.heap.DictOf (Y8 X.prog X.w) p vs:=I.hok p _ hx
     have hlen:kvs.length=vs.length:=Paired.length r
     exact wpAny_truthy_dict hS m (by omega) ⟨H,I.tok _,by rw [Zs6 r]; exact q⟩
 | _=>exact (show False from e).elim
theorem Zwt (ha:PE X a ta) (he:∀ whole,isTrue a X.env whole=(do let v ← whole; standAt a.pos; holding [v] (truthy v))) :
 PT X a (λ σ H Q=>ta σ H λ x H'=>∃ k,TruV X.K x H' k/\Q k H'):=by
 intro pins s σ H Q I h
 exact isTrue_plain (thn (ha pins s σ H _ I h) λ v s1 ⟨x,H1,I1,r1,q1⟩=>Z0r pins s1 σ H1 x v Q I1 r1 q1) (he _)
theorem Ug {x:V} {us:List Value} (r:Vals [x] us):∃ u,us=[u]/\RelV x u:=by
 cases r with
 | cons r1 r2=>cases r2; exact ⟨_,rfl,r1⟩
theorem Zsm {x y:V} {us:List Value} (r:Vals [x,y] us):∃ u w',us=[u,w']/\RelV x u/\RelV y w':=by
 cases r with
 | cons r1 r2 =>
   cases r2 with
   | cons r3 r4=>cases r4; exact ⟨_,_,rfl,r1,r3⟩
theorem Zvv (hc:X.calm=true):CallR X (.builtin "max") (λ xs H Q=>∃ i j,xs=[.int i,.int j]/\Q (.int (if j > i then j else i)) H):=by
 intro pins s σ H xs us Q I r h
 obtain ⟨i,j,rfl,q⟩:=h
 obtain ⟨u,w',rfl,⟨t,rfl⟩,⟨t',rfl⟩⟩:=Zsm r
 refine max_two_ints (I.ok.hd hc) λ h' tk k=>⟨_,H,I.kept k,?_,q⟩
 by_cases hj:j > i
 · rw [if_pos hj,if_pos hj]; exact ⟨_,rfl⟩
 · rw [if_neg hj,if_neg hj]; exact ⟨_,rfl⟩
theorem Zvs (hc:X.calm=true):CallR X (.builtin "min") (λ xs H Q=>∃ i j,xs=[.int i,.int j]/\Q (.int (if j<i then j else i)) H):=by
 intro pins s σ H xs us Q I r h
 obtain ⟨i,j,rfl,q⟩:=h
 obtain ⟨u,w',rfl,⟨t,rfl⟩,⟨t',rfl⟩⟩:=Zsm r
 refine min_two_ints (I.ok.hd hc) λ h' tk k=>⟨_,H,I.kept k,?_,q⟩
 by_cases hj:j<i
 · rw [if_pos hj,if_pos hj]; exact ⟨_,rfl⟩
 · rw [if_neg hj,if_neg hj]; exact ⟨_,rfl⟩
theorem Zvy:CallR X (.type "int") (λ xs H Q=>(∃ i,xs=[.int i]/\Q (.int i) H)\/∃ k,xs=[.bl k]/\Q (.int (if k then 1 else 0)) H):=by
 intro pins s σ H xs us Q I r h
 rcases h with ⟨i,rfl,q⟩ | ⟨k,rfl,q⟩
 · obtain ⟨u,rfl,t,rfl⟩:=Ug r
   exact call_int_int ⟨.int i,H,I,⟨_,rfl⟩,q⟩
 · obtain ⟨u,rfl,r1⟩:=Ug r
   cases r1
   exact call_int_bool ⟨.int (if k then 1 else 0),H,I.tok _,⟨_,rfl⟩,q⟩
def LenV (K:Fq) (x:V) (H:Hp) (n:Nat):Prop :=
 match x with
 | .str y=>y.length<=sizeLine/\n=y.length
 | .byt y=>y.size<=sizeLine/\n=y.size
 | .ref p=>(∃ xs,SqL K H p xs/\n=xs.length)\/∃ xs,SqT K H p xs/\n=xs.length
 | _=>False
theorem Zxu:CallR X (.builtin "len") (λ xs H Q=>∃ x n,xs=[x]/\LenV X.K x H n/\Q (.int n) H):=by
 intro pins s σ H xs us Q I r h
 obtain ⟨x,n,rfl,e,q⟩:=h
 obtain ⟨u,rfl,rx⟩:=Ug r
 have hl:=Zdy
 have hs:sizeLine=16777216:=sizeLine_eq
 cases x with
 | str y =>
   obtain ⟨t,rfl⟩:=rx
   obtain ⟨hy,e'⟩:y.length<=sizeLine/\n=y.length:=e
   subst e'
   exact len_str (by omega) ⟨.int _,H,I.tok _,⟨_,rfl⟩,q⟩
 | byt y =>
   obtain ⟨t,rfl⟩:=rx
   obtain ⟨hy,e'⟩:y.size<=sizeLine/\n=y.size:=e
   subst e'
   exact PySem.W.len_bytes (by omega) ⟨.int _,H,I.tok _,⟨_,rfl⟩,q⟩
 | ref p =>
   cases rx
   have e':(∃ xs,SqL X.K H p xs/\n=xs.length)\/∃ xs,SqT X.K H p xs/\n=xs.length:=e
   rcases e' with ⟨xs,hx,e'⟩ | ⟨xs,hx,e'⟩
   · subst e'
     obtain ⟨its,r',pl,hz⟩:=I.list hx
     have hlen:=r'.length
     exact Calls.call_len_list pl.isList (by simp only [List.size_toArray]; omega) ⟨.int xs.length,H,I.tok _,⟨_,by simp only [List.size_toArray]; rw [hlen]⟩,q⟩
   · subst e'
     obtain ⟨its,r',pl,hz⟩:=I.tuple hx
     have hlen:=r'.length
     exact len_tuple pl (by simp only [List.size_toArray]; omega) ⟨.int xs.length,H,I.tok _,⟨_,by simp only [List.size_toArray]; rw [hlen]⟩,q⟩
 | _=>exact (show False from e).elim
end
end L2
namespace L2
open PySem PySem.Spec PyProof.Rows
structure ObjM (h:Heap) (x dx C:Addr) (mA:Str->Option Value):Prop where
 obj:h.get? x=some (PySem.W.instObj C dx)
 ns:h.Ns1 dx mA
 ne:dx≠x
theorem Zuy {h:Heap} {dx:Addr} {mA:Str->Option Value} (n:h.Ns1 dx mA):∃ od,h.get? dx=some od/\∀ name,PySem.W.lookIn name od=some (mA name):=by
 obtain ⟨o,es,ep,ho,hd,hk,_,hm⟩:=n
 refine ⟨o,ho,λ name=>?_⟩
 have e:=hm name
 unfold nsFind findBy at e
 rw [← Array.find?_toList] at e
 unfold PySem.W.lookIn
 rw [hd]
 dsimp only
 split
 · rename_i y q
   rw [q] at e
   exact congrArg some e
 · rename_i q
   rw [q] at e
   have a:es.toList.any (·.refKey)=false:=by
    rw [List.any_eq_false]
    intro y hy
    obtain ⟨z,t,hkey⟩:=hk y (Array.mem_toList_iff.mp hy)
    simp [DictEntry.refKey,hkey]
   have a':¬ es.toList.any (·.refKey)=true:=by rw [a]; exact Bool.false_ne_true
   rw [if_neg a']
   exact congrArg some e
theorem ObjM.look {h:Heap} {x dx C:Addr} {mA:Str->Option Value} (I:ObjM h x dx C mA):∃ od,PySem.W.InstAt h x (PySem.W.instObj C dx) C (some od)/\∀ name,PySem.W.lookIn name od=some (mA name) :=
 let ⟨od,ho,hl⟩:=Zuy I.ns
 ⟨od,⟨I.obj,rfl,rfl,ho⟩,hl⟩
section
variable {prog:Program} {w:World} {A:Around} {E:Value->Shared->Prop} {s:Shared} {K:Fq} {x dx C f:Addr} {mA:Str->Option Value} {name:Str} {v:Value}
end
theorem RelO.some_of {v:V} {o:Option Value} (r:RelO (some v) o):∃ u,o=some u/\RelV v u:=by
 cases o with
 | none=>exact (show False from r).elim
 | some u=>exact ⟨u,rfl,r⟩
section
variable {P:Program} {w:World} {H H':Hp} {h h':Heap} {a C dx:Addr} {fs fs':List (Str×V)}
theorem Zz1 (hok:HOk P w H h) (e:H a=some (.ins C dx fs)):∃ mA,ObjM h a dx C mA/\(∀ f,RelO (fs.lookup f) (mA f))/\PySem.Within mA (fs.map (·.1))/\fs.length<=1000/\H dx=some (.own a):=by
 obtain ⟨d,z,ne,ob,mA,n,r,q⟩:=(show ObjOk P w H h a (.ins C dx fs) from hok a _ e)
 exact ⟨mA,⟨ob,n,ne⟩,r,q,z,d⟩
end
structure Cls (K:Fq) (C:Addr):Prop where
 pg:PySem.W.plainGet K C Str.empty=true
 hd:PySem.W.hasDictIn K C=true
 po:PySem.W.plainOver K C=true
 sa:PySem.W.findIn K (.ref C) "__setattr__"=some (some (.builtin "object.__setattr__"))
theorem Cls.get {K:Fq} {C:Addr} (c:Cls K C) (f:Str):PySem.W.plainGet K C f=true:=c.pg
section
variable {X:Cx} {pins:List (Addr×Obj)} {σ:St} {H:Hp} {s:Shared} {a C dx:Addr} {fs:List (Str×V)} {f:Str} {v:V} {A:Around} {E:Value->Shared->Prop}
end
section
variable {X:Cx} {o e value:Expr} {f:Str} {pos pos' tpos:Pos} {ta tv:TE}
end
section
variable {X:Cx} {pins:List (Addr×Obj)} {σ:St} {H:Hp} {s:Shared} {A:Around} {E:Value->Shared->Prop} {Q:Value->Shared->Prop} {c:Value} {b:Bool}
inductive TyOf (K:Fq) (H:Hp):V->Value->Prop where
 | non:TyOf K H .non (.type "NoneType")
 | bl (x:Bool):TyOf K H (.bl x) (.type "bool")
 | int (i:Int):TyOf K H (.int i) (.type "int")
 | str (x:Str):TyOf K H (.str x) (.type "str")
 | flt (x:UInt64):TyOf K H (.flt x) (.type "float")
 | lst {a:Addr} {xs:List V} (e:H a=some (.lst xs)):TyOf K H (.ref a) (.type "list")
 | frz {a:Addr} {o:Obj} {xs:List V} (e:H a=some (.frz o (.lst xs))):TyOf K H (.ref a) (.type "list")
 | tup {a:Addr} {xs:List V} (e:H a=some (.tup xs)):TyOf K H (.ref a) (.type "tuple")
 | dK {a:Addr} {kvs:List (Key×V)} (e:H a=some (.dK kvs)):TyOf K H (.ref a) (.type "dict")
 | dT {a:Addr} {kvs:List (List Key×V)} (e:H a=some (.dT kvs)):TyOf K H (.ref a) (.type "dict")
 | ins {a C dx:Addr} {fs:List (Str×V)} (e:H a=some (.ins C dx fs)) (cl:Cls K C) (ha:PySem.W.findIn K (.ref C) "__class__"=some (some (.builtin "object.__class__")))
  (hn:PySem.W.specialIn K (.builtin "object.__class__") "__get__"=some (some (.builtin "getset_descriptor.__get__"))) (htk:PySem.W.takesIn K (.builtin "object.__class__")=some true)
  (hm:PySem.W.mroIn K C (.type "object")=some true):TyOf K H (.ref a) (.ref C)
theorem Zu4 {x:V} {u t:Value} (I:Inv X pins σ H s) (rx:RelV x u) (ty:TyOf X.K H x t) (e:PySem.W.kitOne X.K t c=some b) (h:∀ tk,Q (.bool b) { s with toks:=tk }) :
 wpAny (model X.prog X.w) A (call (.builtin "isinstance") [u,c]) Q E s:=by
 cases ty with
 | non=>cases (show u=Value.none from rx); exact PySem.W.kia_one PySem.W.kitx_none I.kIn True.intro e (λ z=>nomatch z) h
 | bl y=>cases (show u=Value.bool y from rx); exact PySem.W.kia_one PySem.W.kitx_bool I.kIn True.intro e (λ z=>nomatch z) h
 | int i=>obtain ⟨t,q⟩:=(show ∃ t,u=Value.int i t from rx); cases q; exact PySem.W.kia_one PySem.W.kitx_int I.kIn True.intro e (λ z=>nomatch z) h
 | str y=>obtain ⟨t,q⟩:=(show ∃ t,u=Value.str y t from rx); cases q; exact PySem.W.kia_one PySem.W.kitx_str I.kIn True.intro e (λ z=>nomatch z) h
 | flt y=>obtain ⟨t,q⟩:=(show ∃ t,u=Value.float y t from rx); cases q; exact PySem.W.kia_one PySem.W.kitx_float I.kIn True.intro e (λ z=>nomatch z) h
 | @lst a xs ea =>
   cases (show u=Value.ref a from rx)
   obtain ⟨_,_,n,_,h1⟩:=(show ObjOk X.prog X.w H s.heap a (.lst xs) from I.hok a _ ea)
   exact PySem.W.kia_one PySem.W.kitx_list I.kIn ⟨_,h1,rfl⟩ e (λ z=>nomatch z) h
 | @frz a ob xs ea =>
   cases (show u=Value.ref a from rx)
   obtain ⟨_,_,_,n,_,h1⟩:=(show ObjOk X.prog X.w H s.heap a (.frz ob (.lst xs)) from I.hok a _ ea)
   exact PySem.W.kia_one PySem.W.kitx_list I.kIn ⟨_,h1,rfl⟩ e (λ z=>nomatch z) h
 | @tup a xs ea =>
   cases (show u=Value.ref a from rx)
   obtain ⟨_,_,_,p⟩:=(show ObjOk X.prog X.w H s.heap a (.tup xs) from I.hok a _ ea)
   obtain ⟨o,h1,h2,_⟩:=p
   exact PySem.W.kia_one PySem.W.kitx_tuple I.kIn ⟨o,h1,h2⟩ e (λ z=>nomatch z) h
 | @dK a kvs ea =>
   cases (show u=Value.ref a from rx)
   obtain ⟨_,_,vs,_,p⟩:=(show ObjOk X.prog X.w H s.heap a (.dK kvs) from I.hok a _ ea)
   obtain ⟨o,es,ep,h1,h2,_⟩:=p
   exact PySem.W.kia_one PySem.W.kitx_dict I.kIn ⟨o,h1,h2.1⟩ e (λ z=>nomatch z) h
 | @dT a kvs ea =>
   cases (show u=Value.ref a from rx)
   obtain ⟨_,_,xs,_,o,es,ep,h1,h2,_⟩:=(show ObjOk X.prog X.w H s.heap a (.dT kvs) from I.hok a _ ea)
   exact PySem.W.kia_one PySem.W.kitx_dict I.kIn ⟨o,h1,h2.1⟩ e (λ z=>nomatch z) h
 | @ins a C dx fs ea cl ha hn htk hm =>
   cases (show u=Value.ref a from rx)
   obtain ⟨mA,O,_⟩:=Zz1 I.hok ea
   obtain ⟨od,J,_⟩:=O.look
   exact PySem.W.kia_one (PySem.W.kitx_own (cl.get _) cl.hd ha hn htk hm) I.kIn J e (λ z=>nomatch z) h
end
end L2
namespace L2
open PySem PySem.Spec PyProof.Rows
structure Room (k:Nat) (A:Around):Prop where
 hd:A.handled=none
 dp:A.depth+3*k+5<recursionLimit
 un:A.units+16*k+200<cLine
theorem Room.mono {j k:Nat} {A:Around} (r:Room k A) (h:j<=k):Room j A:=⟨r.hd,by have:=r.dp; omega,by have:=r.un; omega⟩
theorem Room.deeper {k:Nat} {A:Around} (r:Room (k+1) A) (env:Env):Room k (A.deeper env) :=
 ⟨r.hd,by have:=r.dp; show A.depth+1+3*k+5<_; omega,by have:=r.un; show A.units+3+16*k+200<_; omega⟩
theorem Room.depth {k:Nat} {A:Around} (r:Room k A):A.depth<recursionLimit:=by have:=r.dp; omega
theorem Room.units {k:Nat} {A:Around} (r:Room k A):A.units+64<cLine:=by have:=r.un; omega
def Zj:TA:=λ _ H Q=>Q [] H
def Zd (ta:TE) (tr:TA):TA:=λ σ H Q=>ta σ H λ x H1=>tr σ H1 λ xs H2=>Q (x::xs) H2
section
variable {X:Cx} {e:Expr} {es:List Expr} {te:TE} {t:TA} {pos:Pos}
theorem Zum:PA X [] Zj:=λ _ _ _ _ H Q I h=>Calls.spliced_nil ⟨[],H,I,.nil,h⟩
theorem Zzh (ha:PE X e te) (hr:PA X es t) (hs:starEach (e::es) X.env=(false,eval e X.env)::starEach es X.env:=by rfl):PA X (e::es) (Zd te t):=by
 intro pos pins s σ H Q I h
 rw [hs]
 show wpAny _ _ (spliced ((false,eval e X.env)::backTo pos (starEach es X.env))) _ _ s
 refine Calls.spliced_cons (thn (ha pins s σ H _ I h) λ u s1 ⟨x,H1,I1,r1,q1⟩=>?_)
 exact thn (hr pos pins s1 σ H1 _ I1 q1) λ us s2 ⟨xs,H2,I2,r2,q2⟩=>⟨x::xs,H2,I2,.cons r1 r2,q2⟩
def Jw (t:TA):TE:=λ σ H Q=>t σ H λ xs H1=>xs.length<=sizeLine/\∀ p,H1 p=none->Q (.ref p) (upd H1 p (.tup xs))
def Wy (t:TA):TE:=λ σ H Q=>t σ H λ xs H1=>xs.length<=sizeLine/\∀ p,H1 p=none->Q (.ref p) (upd H1 p (.lst xs))
theorem Z03 {x1} (h:PA X es t):PE X (.Tuple es x1 pos) (Jw t):=by
 intro pins s σ H Q I hq
 refine wpAny_Tuple_spliced (thn (h pos pins s σ H _ I hq) λ us s1 ⟨xs,H1,I1,r,z,q⟩=>⟨by rw [← r.length]; exact z,?_⟩)
 have hf:H1 s1.heap.objs.size=none:=I1.hok.fresh (Nat.le_refl _)
 refine ⟨.ref s1.heap.objs.size,upd H1 s1.heap.objs.size (.tup xs),I1.laid (t':=s1.toks) (λ b u e=>Heap.get?_push_of_some _ e) (Nat.le_refl _) ?_,rfl,q _ hf⟩
 exact ⟨z,us,r,⟨_,Heap.get?_push_size _ rfl,rfl,_,rfl⟩⟩
theorem Z05 (h:PA X es t):PE X (.List es pos) (Wy t):=by
 intro pins s σ H Q I hq
 refine wpAny_List_spliced (thn (h pos pins s σ H _ I hq) λ us s1 ⟨xs,H1,I1,r,z,q⟩=>⟨by rw [← r.length]; exact z,?_⟩)
 have hf:H1 s1.heap.objs.size=none:=I1.hok.fresh (Nat.le_refl _)
 refine ⟨.ref s1.heap.objs.size,upd H1 s1.heap.objs.size (.lst xs),I1.laid (t':=s1.toks) (λ b u e=>Heap.get?_push_of_some _ e) (Nat.le_refl _) ?_,rfl,q _ hf⟩
 exact ⟨z,us,0,r,Heap.get?_push_size _ rfl⟩
end
abbrev Sp:=List V->Hp->VK->XK->Prop
abbrev CXT:=List Env->Hp->Shared->XK->Value->Shared->Prop
structure Env0 (P:Program) (w:World) (K:Fq) (mg:Str->Option Value) (base:Heap) (A:Around) (outer:List Env) (s:Shared) (H:Hp):Prop where
 frames:A.frames=some outer
 mod:Mod K mg base
 bs:∀ b o,base.get? b=some o->s.heap.get? b=some o/\H b=none
 bsz:base.objs.size<=s.heap.objs.size
 funs:s.heap.FunFrames base outer
 frf:∀ b∈frs outer,H b=none
 hok:HOk P w H s.heap
 bare:AllBare s.gens
def CE (outer:List Env) (P:Program) (w:World) (H:Hp) (s:Shared) (Q:VK) (u:Value) (s':Shared):Prop :=
 ∃ v H',s'.os=s.os/\AllBare s'.gens/\Un (frs outer) [] H H' s.heap s'.heap/\HOk P w H' s'.heap/\RelV v u/\Q v H'
def CR (CX:CXT) (outer:List Env) (P:Program) (w:World) (H:Hp) (s:Shared) (Q:VK) (E:XK) (r:Result) (s':Shared):Prop :=
 match r with
 | .ok (.ret u)=>CE outer P w H s Q u s'
 | .ok _=>False
 | .error e=>CX outer H s E e s'
structure FnOk (P:Program) (w:World) (K:Fq) (mg:Str->Option Value) (base:Heap) (CX:CXT) (k:Nat) (f:Addr) (fd:FuncData) (ps:List Str) (sp:Sp):Prop where
 len:∀ vs H Q E,sp vs H Q E->vs.length=ps.length
 run:∀ (A:Around) (outer:List Env) (s:Shared) (H:Hp) (args:Args) (us:List Value) (vs:List V) (Q:VK) (E:XK),Room k A->Env0 P w K mg base A outer s H->BindsTo s fd args (ps.zip us)->Vals vs us->sp vs H Q E ->
  codeAny (model P w) A (.call (.ref f) args) (CR CX outer P w H s Q E) s
section
variable {X:Cx} {pins:List (Addr×Obj)} {σ:St} {H:Hp} {s s':Shared}
theorem Inv.env0 (I:Inv X pins σ H s):Env0 X.prog X.w X.K X.mg X.base X.A X.stack s H :=
 ⟨I.ok.frames,I.ok.mod,I.bs,Nat.le_trans I.ok.bsz I.sz,I.stack,I.stkFree,I.hok,I.bare⟩
theorem Inv.after {Q:VK} {u:Value} (I:Inv X pins σ H s) (h:CE X.stack X.prog X.w H s Q u s'):EP X pins σ Q u s':=by
 obtain ⟨v,H',os,bare,un,hok,r,q⟩:=h
 obtain ⟨hh,g,d,t,os'⟩:=s'
 obtain rfl:os'=s.os:=os
 exact ⟨v,H',I.call (h':=hh) (g':=g) (d':=d) (t':=t) (ch:=[]) un hok bare (λ b z=>absurd z (by simp)),r,q⟩
end
def Zy (sp:Sp) (dvs:List V) (E:XK) (t:TA):TE:=λ σ H Q=>t σ H λ vs H1=>sp (vs++dvs) H1 Q E
def Binds (K:Fq) (fd:FuncData) (ps:List Str) (ds:List Value):Prop :=
 ∀ (s:Shared) (us:List Value),K.In s.heap->(us++ds).length=ps.length->BindsTo s fd ⟨us,[]⟩ (ps.zip (us++ds))
theorem Binds.all {K:Fq} {fd:FuncData} {ps:List Str} (h:∀ us:List Value,us.length=ps.length->bindArgs fd ⟨us,[]⟩=pure (ps.zip us)):Binds K fd ps []:=λ s us _ hl=>by
 rw [List.append_nil] at hl ⊢
 exact .of_eq (h us hl)
def Passes (CX:CXT) (X:Cx) (E:XK):Prop:=∀ (pins:List (Addr×Obj)) (σ:St) (H:Hp) (s:Shared) (e:Value) (s':Shared),Inv X pins σ H s->CX X.stack H s E e s'->X.xe e s'
section
variable {X:Cx} {CX:CXT} {k:Nat} {f C:Addr} {fd:FuncData} {ps:List Str} {sp:Sp} {dvs:List V} {ds:List Value} {E:XK} {x m:Str} {p pos apos:Pos} {e o:Expr} {es:List Expr} {ta:TE} {t:TA}
theorem Z0w {pins:List (Addr×Obj)} {σ:St} {H:Hp} {s:Shared} {Q:VK} {us:List Value} {vs:List V} (F:FnOk X.prog X.w X.K X.mg X.base CX k f fd ps sp) (hr:Room k X.A) (hb:Binds X.K fd ps ds) (hd:Vals dvs ds) (hx:Passes CX X E)
 (I:Inv X pins σ H s) (r:Vals vs us) (h:sp (vs++dvs) H Q E):wpAny (model X.prog X.w) X.A (call (.ref f) us) (EP X pins σ Q) X.xe s:=by
 have r2:Vals (vs++dvs) (us++ds):=r.append hd
 have hl:(us++ds).length=ps.length:=by rw [← r2.length]; exact F.len _ _ _ _ h
 refine wpAny_call (codeAny_mono (F.run X.A X.stack s H ⟨us,[]⟩ (us++ds) (vs++dvs) Q E hr I.env0 (hb s us I.kIn hl) r2 h) λ r s' hq=>?_)
 cases r with
 | error e=>exact hx pins σ H s e s' I hq
 | ok fl =>
   cases fl with
   | ret u=>exact I.after hq
   | next=>exact False.elim hq
   | brk=>exact False.elim hq
   | cont=>exact False.elim hq
theorem Zrd (F:FnOk X.prog X.w X.K X.mg X.base CX k f fd ps sp) (hr:Room k X.A) (hg:Gl X x) (hm:X.mg x=some (.ref f)) (hk:PySem.W.keepIn X.K (.ref f)=true) (hb:Binds X.K fd ps ds) (hd:Vals dvs ds) (hx:Passes CX X E)
 (ha:PA X (e::es) t) (hdb:(x == ("__debug__":Str))=false:=by decide) (he:starEach (e::es) X.env=(false,eval e X.env)::starEach es X.env:=by rfl) (hpl:(backTo pos (starEach es X.env)).any (·.1)=false:=by rfl) :
 PE X (.Call (.Name x p) (e::es) [] pos) (Zy sp dvs E t):=by
 intro pins s σ H Q I h
 refine wpAny_Call_Name_kw (Zlj I hg hm ?_ hdb)
 refine PySem.W.callWith_K (h₀:=X.base) I.ok.mod.kin hk (thn (ha pos pins s σ H _ I h) λ us s1 ⟨vs,H1,I1,r,q⟩=>⟨I1.kIn,?_⟩) he hpl
 exact Z0w F hr hb hd hx I1 r q
end
section
variable {X:Cx} {CX:CXT} {k:Nat} {f C:Addr} {fd:FuncData} {ps ks:List Str} {sp:Sp} {E:XK} {x m:Str} {p pos apos kpos:Pos} {e o:Expr} {es:List Expr} {kws:List Keyword} {te ta:TE} {t tk:TA} {nm:Option Str}
variable {g:List Value->List Value->List Value} {gV:List V->List V->List V}
end
structure FnScope (N P:List Str) (sc:Scope):Prop where
 kind:sc.kind=.function
 co:sc.isCoroutine=false
 gen:sc.isGenerator=false
 nd:N.Nodup
 pre:N.take P.length=P
 par:∀ x∈P,sc.names.lookup x=some .local\/sc.names.lookup x=some .cell
 nofree:∀ y∈sc.names,y.2≠.free
theorem Zmo {kindOf:Str->Option NameKind} {x:Str}:∀ {binds:List (Str×Value)} {m:Str->Option Value},(∀ v,(x,v) ∉ binds)->bindL kindOf binds m x=m x
 | [],_,_=>rfl
 | (n,v)::r,m,h=>by
   unfold bindL
   rw [Zmo λ w hw=>h w (List.mem_cons_of_mem _ hw)]
   split
   · have:x≠n:=by rintro rfl; exact h v List.mem_cons_self
     simp [this]
   · rfl
theorem Zmq {kindOf:Str->Option NameKind} {x:Str}:∀ {binds:List (Str×Value)} {m:Str->Option Value},(∀ v,(x,v) ∉ binds)->bindC kindOf binds m x=m x
 | [],_,_=>rfl
 | (n,v)::r,m,h=>by
   unfold bindC
   rw [Zmq λ w hw=>h w (List.mem_cons_of_mem _ hw)]
   split
   · rfl
   · have:x≠n:=by rintro rfl; exact h v List.mem_cons_self
     simp [this]
theorem Zmp {kindOf:Str->Option NameKind} {x:Str} {v:Value}:∀ {P:List Str} {vs:List Value} {i:Nat} {m:Str->Option Value},P.Nodup->P[i]?=some x->vs[i]?=some v->kindOf x=some .local ->
 bindL kindOf (P.zip vs) m x=some v
 | [],_,_,_,_,h,_,_=>by simp at h
 | _::_,[],_,_,_,_,h,_=>by simp at h
 | p::P,w::vs,0,m,nd,h1,h2,hk=>by
   simp at h1 h2; subst h1; subst h2
   show bindL kindOf ((p,w)::P.zip vs) m p=_
   unfold bindL
   rw [Zmo λ v hv=>(List.nodup_cons.mp nd).1 (List.of_mem_zip hv).1,if_pos hk]
   simp
 | p::P,w::vs,i+1,m,nd,h1,h2,hk=>by
   show bindL kindOf ((p,w)::P.zip vs) m x=_
   unfold bindL
   exact Zmp (i:=i) (List.nodup_cons.mp nd).2 (by simpa using h1) (by simpa using h2) hk
theorem Zmr {kindOf:Str->Option NameKind} {x:Str} {v:Value}:∀ {P:List Str} {vs:List Value} {i:Nat} {m:Str->Option Value},P.Nodup->P[i]?=some x->vs[i]?=some v->kindOf x≠some .local ->
 bindC kindOf (P.zip vs) m x=some v
 | [],_,_,_,_,h,_,_=>by simp at h
 | _::_,[],_,_,_,_,h,_=>by simp at h
 | p::P,w::vs,0,m,nd,h1,h2,hk=>by
   simp at h1 h2; subst h1; subst h2
   show bindC kindOf ((p,w)::P.zip vs) m p=_
   unfold bindC
   rw [Zmq λ v hv=>(List.nodup_cons.mp nd).1 (List.of_mem_zip hv).1,if_neg hk]
   simp
 | p::P,w::vs,i+1,m,nd,h1,h2,hk=>by
   show bindC kindOf ((p,w)::P.zip vs) m x=_
   unfold bindC
   exact Zmr (i:=i) (List.nodup_cons.mp nd).2 (by simpa using h1) (by simpa using h2) hk
def start (N:List Str) (vs:List V):St:=vs.map some++List.replicate (N.length-vs.length) none
def cxOf (CX:CXT) (P:Program) (w:World) (K:Fq) (mg:Str->Option Value) (base:Heap) (N:List Str) (qual:Str) (scope:Scope) (f:Addr) (cd:Value) (A:Around) (outer:List Env) (s:Shared) (H:Hp) (E:XK):Cx where
 prog:=P
 w:=w
 K:=K
 mg:=mg
 base:=base
 A:=A.deeper (envOfC qual scope s.heap.objs.size f cd)
 N:=N
 s₀:=s
 H₀:=H
 env:=envOfC qual scope s.heap.objs.size f cd
 outer:=outer
 stack:=envOfC qual scope s.heap.objs.size f cd::outer
 ex:=[]
 calm:=true
 fn:=λ _=>true
 pn:=[]
 xe:=λ e s'=>wpAny (model P w) (A.deeper (envOfC qual scope s.heap.objs.size f cd)) (leaving (envOfC qual scope s.heap.objs.size f cd) e) (λ _ s''=>CX outer H s E e s'') (λ e' s''=>CX outer H s E e' s'') s'
theorem Zpp {sc:Scope} {n:Nat} {x:Str} (h:sc.names.lookup x=some .cell):∃ c,(cellsFrom n sc.names []).lookup x=some c:=by
 have q:=PySem.W.cellsFrom_some sc.names n [] (.inl h)
 exact Option.isSome_iff_exists.mp q
theorem Zu6 {CX:CXT} {P:Program} {w:World} {K:Fq} {mg:Str->Option Value} {base:Heap} {N ps:List Str} {qual:Str} {scope:Scope} {f:Addr} {cd:Value} {A:Around} {outer:List Env} {s s1:Shared} {H:Hp} {E:XK} {us:List Value} {vs:List V}
 (S:FnScope N ps scope) (hd:A.handled=none) (e0:Env0 P w K mg base A outer s H) (hl:vs.length=ps.length) (r:Vals vs us)
 (x:InCallC s s.heap.objs.size (bindL (envOfC qual scope s.heap.objs.size f cd).kindOf (ps.zip us) λ _=>none) (cellsFrom (s.heap.objs.size+1) scope.names []) (bindC (envOfC qual scope s.heap.objs.size f cd).kindOf (ps.zip us) λ _=>none) s1) :
 Inv (cxOf CX P w K mg base N qual scope f cd A outer s H E) [] (start N vs) H s1:=by
 have hpl:ps.length<=N.length:=by have:=congrArg List.length S.pre; rw [List.length_take] at this; omega
 obtain ⟨h1,tk,rfl,hk⟩:=x.done
 have noA:∀ b:Addr,b ∉ (cxOf CX P w K mg base N qual scope f cd A outer s H E).ex:=λ b z=>absurd (show b∈([]:List Addr) from z) (by simp)
 refine ⟨⟨e0.mod,S.kind,rfl,rfl,Nat.le_refl _,λ y z c h1 h2=>?_,λ y hy=>?_,λ y c _ h=>?_,λ _=>hd,Around.frames_deeper e0.frames,.inr ⟨rfl,rfl⟩,λ b z=>absurd z (noA b),e0.bs,e0.bsz,λ b _ _=>noA b,λ b z=>absurd z (noA b),e0.funs,e0.frf⟩,
  rfl,e0.bare,Un.kept hk,⟨_,x.toInCall.ns,λ i y v h1 h2 h3=>?_⟩,λ y c h=>⟨_,x.cell y c h⟩,e0.hok.fresh (Nat.le_refl _),λ y c h=>?_,λ p hp=>absurd (show p∈([]:List (Addr×Obj)) from hp) (by simp),e0.hok.kept hk,?_⟩
 · exact name_of_addr x.apart (PySem.mem_of_lookup h1) (PySem.mem_of_lookup h2)
 · have hy:scope.names.lookup y=some .cell\/scope.names.lookup y=some .free:=hy
   rcases hy with hy | hy
   · exact Zpp hy
   · exact absurd rfl (S.nofree _ (PySem.mem_of_lookup hy))
 · exact Nat.le_of_lt (x.above y c (PySem.mem_of_lookup h))
 · have hi:i<vs.length:=by
    unfold start at h2
    by_cases hi:i<vs.length
    · exact hi
    · rw [List.getElem?_append_right (by simpa using hi)] at h2
      rw [List.getElem?_replicate] at h2
      split at h2 <;> cases h2
   have ha:vs[i]?=some v:=by
    unfold start at h2
    rw [List.getElem?_append_left (by simpa using hi),List.getElem?_map] at h2
    cases e:vs[i]? with
    | none=>rw [e] at h2; cases h2
    | some a=>rw [e] at h2; cases h2; rfl
   obtain ⟨u,hu,rv⟩:=r.get ha
   have hp:ps[i]?=some y:=by
    rw [← S.pre,List.getElem?_take_of_lt (by omega)]; exact h1
   have ndP:ps.Nodup:=by rw [← S.pre]; exact S.nd.sublist (List.take_sublist _ _)
   refine ⟨u,rv,?_⟩
   rcases S.par y (List.mem_of_getElem? hp) with k | k
   · exact .inl ⟨k,Zmp ndP hp hu k⟩
   · obtain ⟨c,e⟩:=Zpp (n:=s.heap.objs.size+1) k
     refine .inr ⟨.inl k,c,e,?_⟩
     have q:=x.cell y c e
     rw [Zmr ndP hp hu (by show scope.names.lookup y≠_; rw [k]; decide)] at q
     exact q
 · exact e0.hok.fresh (Nat.le_of_lt (x.above y c (PySem.mem_of_lookup h)))
 · unfold start
   show _=N.length
   rw [List.length_append,List.length_map,List.length_replicate]
   omega
theorem Ztb {CX:CXT} {P:Program} {w:World} {K:Fq} {mg:Str->Option Value} {base:Heap} {k:Nat} {f:Addr} {name qual:Str} {params:Arguments} {body:List Stmt} {scope:Scope} {dV kV doc pm cdv ct oc:Value} {an od:Option Addr}
 {osl:Array (Option Value)} {N ps:List Str} {sp:Sp} (lk:K.lookup f=some ⟨oc,od,.func (PySem.W.fnOf name qual params body scope dV kV doc pm an cdv ct),osl⟩) (hcd:PySem.W.codeIn K cdv qual=true) (S:FnScope N ps scope)
 (len:∀ vs H Q E,sp vs H Q E->vs.length=ps.length)
 (hbody:∀ (A:Around) (outer:List Env) (s:Shared) (H:Hp) (vs:List V) (Q:VK) (E:XK),Room k (A.deeper (envOfC qual scope s.heap.objs.size f cdv))->sp vs H Q E ->
  ∃ t,PSs (cxOf CX P w K mg base N qual scope f cdv A outer s H E) body t/\t { nx:=λ _ H'=>Q .non H',rt:=Q } (start N vs) H) :
 FnOk P w K mg base CX (k+1) f (PySem.W.fnOf name qual params body scope dV kV doc pm an cdv ct) ps sp:=by
 refine ⟨len,λ A outer s H args us vs Q E hr e0 hb r hsp=>?_⟩
 have hl:=len _ _ _ _ hsp
 have KX:K.In s.heap:=e0.mod.kin.keeps λ b o e=>(e0.bs b o e).1
 have lim:s.heap.NoLimit:=e0.mod.nolimit.keeps λ b o e=>(e0.bs b o e).1
 have hkind:∀ y∈ps.zip us,scope.names.lookup y.1=some .local\/(scope.names.lookup y.1=some .cell/\((cellsFrom (s.heap.objs.size+1) scope.names []).lookup y.1).isSome=true):=λ ⟨n,v⟩ hy=>by
  rcases S.par n (List.of_mem_zip hy).1 with q | q
  · exact .inl q
  · exact .inr ⟨q,PySem.W.cellsFrom_some _ _ _ (.inl q)⟩
 refine codeAny_call_function hr.depth (KX _ _ lk) rfl S.co S.gen rfl (PySem.W.codeRec_of KX hcd) (hb _ _ _ _ ?_)
 refine wpAny_newFunctionEnv_cells S.kind hkind λ env he s1 x=>?_
 subst he
 refine ⟨lim.keeps x.toInCall.keep,codeAny_func ?_⟩
 obtain ⟨t,ht,hq⟩:=hbody A outer s H vs Q E (hr.deeper _) hsp
 have I:Inv (cxOf CX P w K mg base N qual scope f cdv A outer s H E) [] (start N vs) H s1:=Zu6 S hr.hd e0 hl r x
 refine wpAny_mono (ht [] s1 (start N vs) H _ I hq) (λ fl s' hs=>?_) λ e s' hs=>hs
 have fin:∀ {σ':St} {H':Hp} {v:V} {u:Value},Inv (cxOf CX P w K mg base N qual scope f cdv A outer s H E) [] σ' H' s'->RelV v u->Q v H'->CE outer P w H s Q u s' :=
  λ {σ' H' v u} J rv q=>⟨v,H',J.os,J.bare,J.base,J.hok,rv,q⟩
 cases fl with
 | ret u =>
   obtain ⟨v,σ',H',J,rv,q⟩:=hs
   exact fin J rv q
 | next =>
   obtain ⟨σ',H',J,q⟩:=hs
   exact fin (v:=V.non) (u:=Value.none) J rfl q
 | brk =>
   obtain ⟨_,_,_,q⟩:=hs
   exact False.elim q
 | cont =>
   obtain ⟨_,_,_,q⟩:=hs
   exact False.elim q
end L2
namespace L2
open PySem PySem.Spec PyProof.Rows
section
variable {X:Cx} {x:Str} {p pos:Pos} {e:Expr} {es:List Expr} {t:TA} {id T:String} {r:List V->Hp->VK->Prop}
def tCB (r:List V->Hp->VK->Prop) (t:TA):TE:=λ σ H Q=>t σ H λ vs H1=>r vs H1 Q
theorem Zw0 (hc:CallR X (.builtin id) r) (hg:Gl X x) (hm:X.mg x=none) (hv:bootBuiltins x=some (.builtin id)) (ha:PA X (e::es) t) (hn:x≠"__name__":=by decide) (hdb:(x == ("__debug__":Str))=false:=by decide)
 (he:starEach (e::es) X.env=(false,eval e X.env)::starEach es X.env:=by rfl) (hpl:(backTo pos (starEach es X.env)).any (·.1)=false:=by rfl):PE X (.Call (.Name x p) (e::es) [] pos) (tCB r t):=by
 intro pins s σ H Q I h
 refine wpAny_Call_Name_kw (U5 I hg hm hv ?_ hn hdb)
 exact PyProof.Rows.callWith_builtin1 (thn (ha pos pins s σ H _ I h) λ us s1 ⟨vs,H1,I1,r1,q1⟩=>hc pins s1 σ H1 vs us Q I1 r1 q1) he hpl
theorem Zuk (hc:CallR X (.type T) r) (hg:Gl X x) (hm:X.mg x=none) (hv:bootBuiltins x=some (.type T)) (ha:PA X (e::es) t) (hn:x≠"__name__":=by decide) (hdb:(x == ("__debug__":Str))=false:=by decide)
 (he:starEach (e::es) X.env=(false,eval e X.env)::starEach es X.env:=by rfl) (hpl:(backTo pos (starEach es X.env)).any (·.1)=false:=by rfl):PE X (.Call (.Name x p) (e::es) [] pos) (tCB r t):=by
 intro pins s σ H Q I h
 refine wpAny_Call_Name_kw (U5 I hg hm hv ?_ hn hdb)
 exact PyProof.Rows.callWith_type1 (thn (ha pos pins s σ H _ I h) λ us s1 ⟨vs,H1,I1,r1,q1⟩=>hc pins s1 σ H1 vs us Q I1 r1 q1) he hpl
end
end L2
namespace HT
open PySem PyProof.Rows
section
open PySem.SeqAt
open PySem.AutoSeq1 (wpAny_loadPart')
open PySem.MeetsSeq PySem.MeetsSeq2 PySem.MeetsSeq3
end
section
variable {prog:Program} {w:World} {A:Around} {E:Value->Shared->Prop} {s:Shared}
theorem Z0c {t b:Addr} {vs ws:List Value} {Q:Value->Shared->Prop} (ht:IsTup s.heap t vs.toArray) (hb:IsTup s.heap b ws.toArray) (hv:vs≠[])
 (h1:ws=[]->Q (.ref t) s) (h2:ws≠[]->Q (.ref s.heap.objs.size) { s with heap:=s.heap.push { cls:=.type "tuple",data:=.seq (vs++ws).toArray } })
 (hsz:vs.length+ws.length<=sizeLine):wpAny (model prog w) A (binaryOp .Add (.ref t) (.ref b)) Q E s:=by
 obtain ⟨⟨cls,dd,data,sl⟩,ho,hc,n,hd⟩:=id ht
 obtain ⟨⟨cls2,dd2,data2,sl2⟩,ho2,hc2,n2,hd2⟩:=id hb
 simp only at hc hd hc2 hd2
 subst hc hd hc2 hd2
 have e:vs.toArray++ws.toArray=(vs++ws).toArray:=by simp
 by_cases hw:ws=[]
 · exact concat_meets ⟨_,ho,rfl⟩ ⟨_,ho2,rfl⟩ noFill_tuple_add seq_tuple_add PySem.F.slot_tuple_add PySem.F.entry_tuple_add (PySem.F.args_tuple_add_2 _ _)
    (tuple_addW1 t b vs.toArray ws.toArray n n2 dd dd2 sl sl2 (by simpa using hv) (by simp [hw])) ⟨ho,ho2,h1 hw⟩
 · refine concat_meets ⟨_,ho,rfl⟩ ⟨_,ho2,rfl⟩ noFill_tuple_add seq_tuple_add PySem.F.slot_tuple_add PySem.F.entry_tuple_add (PySem.F.args_tuple_add_2 _ _)
    (tuple_addW2 t b vs.toArray ws.toArray n n2 dd dd2 sl sl2 (by simpa using hv) (by simpa using hw) (by rw [List.size_toArray,List.size_toArray]; exact hsz)) ⟨ho,ho2,?_⟩
   rw [e]
   exact h2 hw
def sIx (n d:Nat):Option Int->Nat
 | none=>d
 | some v=>if v<0 then (v+(n:Int)).toNat else min v.toNat n
theorem Za5 (n d k:Nat):sIx n d (some (k:Int))=min k n:=by
 show (if (k:Int)<0 then ((k:Int)+(n:Int)).toNat else min (k:Int).toNat n)=min k n
 rw [if_neg (by omega),Int.toNat_natCast]
theorem Z0v (n d:Nat) (hd:d<=n) (o:Option Int):sIx n d o<=n:=by
 cases o with
 | none=>exact hd
 | some v =>
   show (if v<0 then (v+(n:Int)).toNat else min v.toNat n)<=n
   by_cases hv:v<0
   · rw [if_pos hv]; omega
   · rw [if_neg hv]; exact Nat.min_le_right _ _
theorem Zsb (v:Int) (n d:Nat):(if v<0 then max (v+(n:Int)) 0 else min v (n:Int))=((sIx n d (some v):Nat):Int):=by
 show (if v<0 then max (v+(n:Int)) 0 else min v (n:Int))=(((if v<0 then (v+(n:Int)).toNat else min v.toNat n):Nat):Int)
 by_cases hv:v<0
 · simp only [if_pos hv]; omega
 · simp only [if_neg hv]; omega
theorem Zto (lo hi:Option Int) (n:Nat):Builtin.Slice.sliceAdjust lo hi 1 (n:Int)=(((sIx n 0 lo:Nat):Int),((sIx n n hi:Nat):Int)):=by
 have h1:¬ ((1:Int)<0):=by omega
 unfold Builtin.Slice.sliceAdjust
 simp only [h1,if_false]
 refine Prod.ext ?_ ?_
 · cases lo with
   | none=>rfl
   | some v=>exact Zsb v n 0
 · cases hi with
   | none=>rfl
   | some v=>exact Zsb v n n
theorem Zs1 (i j:Nat):Builtin.Slice.slicePlaces (i:Int) (j:Int) 1=j-i:=by
 unfold Builtin.Slice.slicePlaces
 have h1:(1:Int) > 0:=by omega
 simp only [h1,if_true,Int.ediv_one]
 split <;> omega
theorem Zja {v:Value} {o:Option Int} {Q:Option Int->Shared->Prop} (p:IsPart v o) (h:Q o s):wpAny (model prog w) A (Builtin.Slice.slicePartIndex v) Q E s:=by
 cases p with
 | none=>exact slicePart_none h
 | int i t=>exact slicePart_int h
theorem Zbs {sl:Addr} {vl vu:Value} {lo hi:Option Int} {n:Nat} {Q:Int×Int×Nat->Shared->Prop} (hs:s.heap.IsSliceOf sl vl vu .none) (pl:IsPart vl lo) (pu:IsPart vu hi)
 (h:Q (((sIx n 0 lo:Nat):Int),1,sIx n n hi-sIx n 0 lo) s):wpAny (model prog w) A (Builtin.Slice.sliceApplied (.ref sl) (pure (n:Int))) Q E s:=by
 obtain ⟨os,hos,hcs,hds⟩:=id hs
 unfold Builtin.Slice.sliceApplied Builtin.Slice.sliceFields
 refine wpAny_bind (wpAny_bind (wpAny_field hos hds (x:=vl) rfl (wpAny_bind (wpAny_field hos hds (x:=vu) rfl (wpAny_bind (wpAny_field hos hds (x:=.none) rfl (wpAny_pure ?_)))))))
 refine wpAny_bind (slicePart_none ?_)
 show wpAny _ _ (if ((1:Int) == 0)=true then _ else _) _ _ s
 rw [if_neg (by decide)]
 refine wpAny_bind (Zja pl (wpAny_bind (Zja pu (wpAny_bind (wpAny_pure ?_)))))
 show wpAny _ _ (match Builtin.Slice.sliceAdjust lo hi 1 (n:Int) with | (lo,hi)=>pure (lo,(1:Int),Builtin.Slice.slicePlaces lo hi 1)) _ _ s
 rw [Zto lo hi n]
 show wpAny _ _ (pure (((sIx n 0 lo:Nat):Int),(1:Int),Builtin.Slice.slicePlaces ((sIx n 0 lo:Nat):Int) ((sIx n n hi:Nat):Int) 1)) _ _ s
 rw [Zs1]
 exact wpAny_pure h
theorem Zwx (xs:Array Value) (i k:Nat):((List.range k).filterMap λ (m:Nat)=>xs[((i:Int)+(m:Int)*1).toNat]?).toArray=((xs.toList.drop i).take k).toArray:=by
 have e:(λ (m:Nat)=>xs[((i:Int)+(m:Int)*1).toNat]?)=λ m=>xs[i+m]?:=by
  funext m
  have:((i:Int)+(m:Int)*1).toNat=i+m:=by omega
  rw [this]
 rw [e]
 have:=pick_run xs i k
 rw [List.filterMap_map] at this
 have e2:((λ x=>xs[x]?) ∘ λ x=>i+x)=λ m=>xs[i+m]?:=rfl
 rw [e2] at this
 rw [this]
theorem Zhg {t sl:Addr} {items:Array Value} {vl vu:Value} {lo hi:Option Int} {Q:Value->Shared->Prop} (ht:IsTup s.heap t items) (hs:s.heap.IsSliceOf sl vl vu .none) (pl:IsPart vl lo) (pu:IsPart vu hi)
 (hw:¬ (sIx items.size 0 lo=0/\sIx items.size items.size hi=items.size))
 (h:Q (.ref s.heap.objs.size) { s with heap:=s.heap.push { cls:=.type "tuple",data:=.seq ((items.toList.drop (sIx items.size 0 lo)).take (sIx items.size items.size hi-sIx items.size 0 lo)).toArray } })
 (hsz:items.size<=sizeLine):wpAny (model prog w) A (getItem (.ref t) (.ref sl)) Q E s:=by
 have htake:sizeOk (.seq ((items.toList.drop (sIx items.size 0 lo)).take (sIx items.size items.size hi-sIx items.size 0 lo)).toArray):=by
  show ((items.toList.drop (sIx items.size 0 lo)).take (sIx items.size items.size hi-sIx items.size 0 lo)).toArray.size<=sizeLine
  rw [List.size_toArray,List.length_take,List.length_drop,Array.length_toList]
  omega
 have hj:sIx items.size items.size hi<=items.size:=Z0v _ _ (Nat.le_refl _) hi
 obtain ⟨os,hos,hcs,hds⟩:=id hs
 have hTs:s.TypeIs (.ref sl) "slice":=⟨os,hos,hcs⟩
 unfold getItem
 try with_reducible refine wpAny_holding ?_
 first | refine wpAny_bind (wpAny_pure ?_) | skip
 refine wpAny_bind (wpAny_sequenceKey ht.typeIs (by decide) ?_)
 refine wpAny_bind (wpAny_callSpecial?_slot (name:=Str.ofString "__getitem__") ht.typeIs PyProof.Rows.slot_tuple_getitem
  (wpAny_call_entry PyProof.Rows.slot_tuple_getitem ht.typeIs entry_tuple_getitem ?_ (args_tuple_getitem _ _)))
 show wpAny _ _ (Builtin.Tuple.tupleItemsOf (.ref t) >>= _) _ _ s
 refine wpAny_bind (tupleItemsOf_ ht ?_)
 refine wpAny_bind (wpAny_typeOf hTs ?_)
 rw [if_pos (by decide)]
 refine wpAny_bind (Zbs hs pl pu ?_)
 have hno:¬ ((((sIx items.size 0 lo:Nat):Int) == 0 && (1:Int) == 1 && (sIx items.size items.size hi-sIx items.size 0 lo) == items.size)=true):=by
  intro q
  rw [Bool.and_eq_true,Bool.and_eq_true] at q
  have q1:((sIx items.size 0 lo:Nat):Int)=0:=eq_of_beq q.1.1
  have q2:sIx items.size items.size hi-sIx items.size 0 lo=items.size:=eq_of_beq q.2
  exact hw ⟨by omega,by omega⟩
 show wpAny _ _ (if (((sIx items.size 0 lo:Nat):Int) == 0 && (1:Int) == 1 && (sIx items.size items.size hi-sIx items.size 0 lo) == items.size)=true then _ else _) _ _ s
 rw [if_neg hno,Zwx]
 first
  | exact wpAny_bind (m:=Builtin.Tuple.tupleExact _) (wpAny_newObj_type (wpAny_pure ⟨_,rfl,wpAny_pure h⟩) htake)
  | exact wpAny_bind (m:=Builtin.Tuple.tupleExact _) (wpAny_newObj_type (wpAny_bind (wpAny_pure (wpAny_pure ⟨_,rfl,wpAny_pure h⟩))) htake)
  | exact wpAny_bind (wpAny_bind (m:=Builtin.Tuple.tupleExact _) (wpAny_newObj_type (wpAny_pure (wpAny_pure ⟨_,rfl,wpAny_pure h⟩)) htake))
  | exact wpAny_bind (wpAny_bind (m:=Builtin.Tuple.tupleExact _) (wpAny_newObj_type (wpAny_pure ⟨_,rfl,wpAny_pure h⟩) htake))
end
end HT
namespace L2
open PySem PySem.Spec PyProof.Rows
abbrev TO:=St->Hp->(Option Int->Hp->Prop)->Prop
def PO (X:Cx) (e:Option Expr) (t:TO):Prop :=
 ∀ (pins:List (Addr×Obj)) (s:Shared) (σ:St) (H:Hp) (Q:Option Int->Hp->Prop),Inv X pins σ H s->t σ H Q ->
   wpAny (model X.prog X.w) X.A (evalPart e X.env) (λ u s'=>∃ o H',Inv X pins σ H' s'/\IsPart u o/\Q o H') X.xe s
def K5:TO:=λ _ H Q=>Q none H
def Ed (t:TE):TO:=λ σ H Q=>t σ H λ x H1=>∃ i,x=.int i/\Q (some i) H1
theorem Zj5 {ns:List Int}:∀ {us:List Value},Vals (ns.map V.int) us->IntsAre us ns:=by
 induction ns with
 | nil=>intro us r; rw [List.map_nil] at r; cases r; exact .nil
 | cons n ns ih =>
   intro us r
   rw [List.map_cons] at r
   cases r with
   | cons r1 r2 =>
     obtain ⟨t,e⟩:=r1
     subst e
     exact .cons n t (ih r2)
section
variable {X:Cx} {e:Expr} {te:TE} {lo hi:Option Expr} {tl th:TO} {pos p2:Pos}
theorem Za6:PO X none K5:=by
 intro pins s σ H Q I h
 rw [evalPart_none]
 exact wpAny_pure ⟨none,H,I,.none,h⟩
theorem K7 (h:PE X e te):PO X (some e) (Ed te):=by
 intro pins s σ H Q I hw
 rw [evalPart_some]
 refine thn (h pins s σ H _ I hw) λ u s1 ⟨x,H1,I1,r1,q1⟩=>?_
 obtain ⟨i,rfl,q⟩:=q1
 obtain ⟨t,rfl⟩:=r1
 exact ⟨some i,H1,I1,.int i t,q⟩
def SlR (X:Cx) (r:V->Option Int->Option Int->Hp->VK->Prop):Prop :=
 ∀ (pins:List (Addr×Obj)) (s:Shared) (σ:St) (H:Hp) (x:V) (v vl vu:Value) (lo hi:Option Int) (sl:Addr) (Q:VK),Inv X pins σ H s->RelV x v->s.heap.IsSliceOf sl vl vu .none->IsPart vl lo->IsPart vu hi->r x lo hi H Q ->
   ∃ T id,typeLookup (.type T) "__getitem__"=pure (some (.builtin id))/\s.TypeIs v T/\wpAny (model X.prog X.w) X.A (getItem v (.ref sl)) (EP X pins σ Q) X.xe s
theorem SlR.or {r r':V->Option Int->Option Int->Hp->VK->Prop} (h:SlR X r) (h':SlR X r'):SlR X (λ x lo hi H Q=>r x lo hi H Q\/r' x lo hi H Q):=by
 intro pins s σ H x v vl vu lo hi sl Q I rx hs pl pu q
 rcases q with q | q
 · exact h pins s σ H x v vl vu lo hi sl Q I rx hs pl pu q
 · exact h' pins s σ H x v vl vu lo hi sl Q I rx hs pl pu q
def tSl (r:V->Option Int->Option Int->Hp->VK->Prop) (te:TE) (tl th:TO):TE:=λ σ H Q=>te σ H λ x H1=>tl σ H1 λ l H2=>th σ H2 λ u H3=>r x l u H3 Q
theorem Kz {r:V->Option Int->Option Int->Hp->VK->Prop} (hr:SlR X r) (he:PE X e te) (hl:PO X lo tl) (hu:PO X hi th):PE X (.Subscript e (.Slice lo hi none p2) pos) (tSl r te tl th):=by
 intro pins s σ H Q I h
 refine Subscript_ (thn (he pins s σ H _ I h) λ v s1 ⟨x,H1,I1,r1,q1⟩=>?_)
 refine wpAny_Slice (thn (hl pins s1 σ H1 _ I1 q1) λ vl s2 ⟨l,H2,I2,pl,q2⟩=>thn (hu pins s2 σ H2 _ I2 q2) λ vu s3 ⟨u,H3,I3,pu,q3⟩=>?_)
 rw [evalPart_none]
 refine wpAny_pure ?_
 have I4:Inv X pins σ H3 { s3 with heap:=s3.heap.push { cls:=.type "slice",data:=.fields #[vl,vu,.none] } }:=I3.kept (t':=s3.toks) λ b ob q=>Heap.get?_push_of_some _ q
 obtain ⟨T,id,hT,ht,hg⟩:=hr pins { s3 with heap:=s3.heap.push { cls:=.type "slice",data:=.fields #[vl,vu,.none] } } σ H3 x v vl vu l u s3.heap.objs.size Q I4 r1 (Heap.IsSliceOf.new ..) pl pu q3
 show wpAny (model X.prog X.w) X.A (subscriptTail e (.Slice lo hi none p2) v (.ref s3.heap.objs.size)) (EP X pins σ Q) X.xe { s3 with heap:=s3.heap.push { cls:=.type "slice",data:=.fields #[vl,vu,.none] } }
 exact tail_any (ops:=[.ref s3.heap.objs.size,v]) ht hT hg (by with_unfolding_all rfl)
def cutV (xs:List V) (lo hi:Option Int):List V:=(xs.drop (HT.sIx xs.length 0 lo)).take (HT.sIx xs.length xs.length hi-HT.sIx xs.length 0 lo)
theorem Zhn (xs:List V) (lo hi:Option Int):(cutV xs lo hi).length<=xs.length:=by
 unfold cutV
 rw [List.length_take,List.length_drop]
 omega
def rSlT (K:Fq):V->Option Int->Option Int->Hp->VK->Prop:=λ x lo hi H Q=>∃ a xs,x=.ref a/\SqT K H a xs /\
 ¬ (HT.sIx xs.length 0 lo=0/\HT.sIx xs.length xs.length hi=xs.length)/\∀ p,H p=none->Q (.ref p) (upd H p (.tup (cutV xs lo hi)))
theorem Z0t:SlR X (rSlT X.K):=by
 intro pins s σ H x v vl vu lo hi sl Q I rx hs pl pu h
 obtain ⟨a,xs,rfl,hx,hw,q⟩:=h
 cases rx
 obtain ⟨its,r,ht,hz⟩:=I.tuple hx
 have hlen:its.toArray.size=xs.length:=by rw [List.size_toArray]; exact r.length.symm
 refine ⟨"tuple",_,PyProof.Rows.slot_tuple_getitem.lookup,ht.typeIs,?_⟩
 refine HT.Zhg ht hs pl pu (by rw [hlen]; exact hw) ?_ (by rw [hlen]; exact hz)
 rw [hlen]
 refine ⟨.ref s.heap.objs.size,_,I.laid (t':=s.toks) (o:=.tup (cutV xs lo hi)) (λ b ob q=>Heap.get?_push_of_some _ q) (Nat.le_refl _) ?_,rfl,q _ (I.hok.fresh (Nat.le_refl _))⟩
 exact ⟨Nat.le_trans (Zhn xs lo hi) hz,_,(r.drop (HT.sIx xs.length 0 lo)).take (HT.sIx xs.length xs.length hi-HT.sIx xs.length 0 lo),IsTup.new _ _⟩
def Zx8 (K:Fq):R2:=λ x y H Q=>∃ a b xs ys,x=.ref a/\y=.ref b/\SqT K H a xs/\SqT K H b ys/\xs≠[]/\xs.length+ys.length<=sizeLine /\
 (ys=[]->Q (.ref a) H)/\(ys≠[]->∀ p,H p=none->Q (.ref p) (upd H p (.tup (xs++ys))))
theorem Vals.nil_iff {xs:List V} {us:List Value} (r:Vals xs us):us=[]↔xs=[]:=by
 cases r with
 | nil=>simp
 | cons _ _=>simp
theorem Zzk:OpR X (binaryOp .Add) (Zx8 X.K):=by
 intro pins s σ H x y v u Q I rx ry h
 obtain ⟨a,b,xs,ys,rfl,rfl,ha,hb,hx,hz,q1,q2⟩:=h
 cases rx
 cases ry
 obtain ⟨its,r1,p1,_⟩:=I.tuple ha
 obtain ⟨its2,r2,p2,_⟩:=I.tuple hb
 refine HT.Z0c p1 p2 (λ z=>hx (r1.nil_iff.mp z)) (λ z=>⟨.ref a,H,I,rfl,q1 (r2.nil_iff.mp z)⟩) (λ z=>?_) (by rw [← r1.length,← r2.length]; exact hz)
 refine ⟨.ref s.heap.objs.size,_,I.laid (t':=s.toks) (o:=.tup (xs++ys)) (λ b ob q=>Heap.get?_push_of_some _ q) (Nat.le_refl _) ?_,rfl,q2 (λ w=>z (r2.nil_iff.mpr w)) _ (I.hok.fresh (Nat.le_refl _))⟩
 exact ⟨by rw [List.length_append]; exact hz,_,r1.append r2,IsTup.new _ _⟩
end
end L2
namespace L2
open PySem PySem.Spec PyProof.Rows
def ixN (n:Nat) (i:Int):Option Nat:=if 0<=i then (if i<n then some i.toNat else none) else if -(n:Int)<=i then some (i+n).toNat else none
def atI {α:Type} (xs:List α) (i:Int):Option α:=(ixN xs.length i).bind λ j=>xs[j]?
theorem Zrs {n:Nat} {i:Int} {j:Nat} (h:ixN n i=some j):seqIndex? i n=some j/\j<n/\-(n:Int)<=i/\i<n:=by
 unfold ixN at h
 by_cases h0:0<=i
 · rw [if_pos h0] at h
   by_cases h1:i<n
   · rw [if_pos h1] at h
     have e:i.toNat=j:=Option.some.inj h
     exact ⟨by rw [seqIndex_of h0 h1,e],by omega,by omega,h1⟩
   · rw [if_neg h1] at h; cases h
 · rw [if_neg h0] at h
   by_cases h1:-(n:Int)<=i
   · rw [if_pos h1] at h
     have e:(i+n).toNat=j:=Option.some.inj h
     exact ⟨by rw [seqIndex_neg (by omega) h1,e],by omega,h1,by omega⟩
   · rw [if_neg h1] at h; cases h
theorem Zl3 {α:Type} {xs:List α} {i:Int} {v:α} (h:atI xs i=some v):∃ j,seqIndex? i xs.length=some j/\xs[j]?=some v/\j<xs.length/\-(xs.length:Int)<=i/\i<xs.length:=by
 unfold atI at h
 cases e:ixN xs.length i with
 | none=>rw [e] at h; cases h
 | some j =>
   rw [e] at h
   obtain ⟨h1,h2,h3,h4⟩:=Zrs e
   exact ⟨j,h1,h,h2,h3,h4⟩
theorem Xv {α:Type} {xs:List α} {j:Nat} {v:α} (h:xs[j]?=some v):atI xs (j:Int)=some v:=by
 have hj:j<xs.length:=(List.getElem?_eq_some_iff.mp h).1
 have e:ixN xs.length (j:Int)=some j:=by
  unfold ixN
  rw [if_pos (by omega),if_pos (by omega)]; simp
 unfold atI; rw [e]; exact h
def PlainIx (b:Expr):Prop:=∀ o i,subscripted b false o i=operate [o,i] (getItem o i)
def IxR (X:Cx) (r:R2):Prop :=
 ∀ (value slice:Expr) (pins:List (Addr×Obj)) (s:Shared) (σ:St) (H:Hp) (x y:V) (v u:Value) (Q:VK),Inv X pins σ H s->RelV x v->RelV y u->r x y H Q ->
   subscripted slice false v u=operate [v,u] (getItem v u)->wpAny (model X.prog X.w) X.A (subscriptTail value slice v u) (EP X pins σ Q) X.xe s
def MtR (X:Cx) (id:String) (r:V->List V->Hp->VK->Prop):Prop :=
 ∀ (pins:List (Addr×Obj)) (s:Shared) (σ:St) (H:Hp) (x:V) (xs:List V) (v:Value) (us:List Value) (Q:VK),Inv X pins σ H s->RelV x v->Vals xs us->r x xs H Q ->
   wpAny (model X.prog X.w) X.A (call (.builtin id) (v::us)) (EP X pins σ Q) X.xe s
section
variable {X:Cx} {a b:Expr} {ta tb:TE} {pos:Pos}
theorem IxR.or {r r':R2} (h:IxR X r) (h':IxR X r'):IxR X (λ x y H Q=>r x y H Q\/r' x y H Q):=by
 intro value slice pins s σ H x y v u Q I rx ry q hs
 rcases q with q | q
 · exact h value slice pins s σ H x y v u Q I rx ry q hs
 · exact h' value slice pins s σ H x y v u Q I rx ry q hs
theorem Z2 {r:R2} (hr:IxR X r) (ha:PE X a ta) (hb:PE X b tb) (hs:PlainIx b):PE X (.Subscript a b pos) (tOp r ta tb):=by
 intro pins s σ H Q I h
 exact Subscript_ (binT ha hb I h λ v u s2 x y H2 I2 rx ry q=>hr a b pins s2 σ H2 x y v u Q I2 rx ry q (hs _ _))
def rIxL (K:Fq):R2:=λ x y H Q=>∃ p xs i v,x=.ref p/\y=.int i/\SqL K H p xs/\atI xs i=some v/\Q v H
def rIxT (K:Fq):R2:=λ x y H Q=>∃ p xs i v,x=.ref p/\y=.int i/\SqT K H p xs/\atI xs i=some v/\Q v H
def rIxS:R2:=λ x y H Q=>∃ z i c,x=.str z/\y=.int i/\z.length<=sizeLine/\atI z.cps.toList i=some c/\Q (.str ⟨#[c]⟩) H
theorem Zzz:IxR X (rIxL X.K):=by
 intro value slice pins s σ H x y v u Q I rx ry h hs
 obtain ⟨p,xs,i,z,rfl,rfl,hq,he,q⟩:=h
 cases rx
 obtain ⟨t,rfl⟩:=ry
 obtain ⟨its,r,pl,hz⟩:=I.list hq
 obtain ⟨j,h1,h2,h3,h4,h5⟩:=Zl3 he
 obtain ⟨w,ew,rw'⟩:=r.get h2
 have hl:=r.length
 have hn:=Zdy
 have fin:EP X pins σ Q w s:=⟨z,H,I,rw',q⟩
 by_cases h0:0<=i
 · have hj:i.toNat=j:=by
    rw [seqIndex_of h0 h5] at h1
    exact Option.some.inj h1
   exact item_listR pl.isList h0 (by omega) (by rw [hj]; simpa using ew) fin hs
 · have hj:(i+(its.toArray.size:Int)).toNat=j:=by
    rw [seqIndex_neg (by omega) h4] at h1
    rw [List.size_toArray,← hl]
    exact Option.some.inj h1
   exact subscriptTail_builtinR (x:=w) pl.isList.typeIs slot_list_getitem.lookup
    (wpAny_getItem_list_neg (Q:=λ r s'=>r=w/\EP X pins σ Q r s') pl.isList (by omega) (by rw [List.size_toArray] <;> omega) (by omega) (by rw [hj]; simpa using ew) ⟨rfl,fin⟩) hs
theorem Z1n:IxR X (rIxT X.K):=by
 intro value slice pins s σ H x y v u Q I rx ry h hs
 obtain ⟨p,xs,i,z,rfl,rfl,hq,he,q⟩:=h
 cases rx
 obtain ⟨t,rfl⟩:=ry
 obtain ⟨its,r,pl,hz⟩:=I.tuple hq
 obtain ⟨j,h1,h2,h3,h4,h5⟩:=Zl3 he
 obtain ⟨w,ew,rw'⟩:=r.get h2
 have hl:=r.length
 have hn:=Zdy
 have fin:EP X pins σ Q w s:=⟨z,H,I,rw',q⟩
 exact subscriptTail_builtinR (x:=w) pl.typeIs slot_tuple_getitem.lookup
  (getItem_tuple (j:=j) (Q:=λ r s'=>r=w/\EP X pins σ Q r s') pl (by omega) (by omega) (by rw [List.size_toArray,← hl]; exact h1) (by simpa using ew) ⟨rfl,fin⟩) hs
theorem Z1o:IxR X rIxS:=by
 intro value slice pins s σ H x y v u Q I rx ry h hs
 obtain ⟨z,i,c,rfl,rfl,hz,he,q⟩:=h
 obtain ⟨t,rfl⟩:=rx
 obtain ⟨t',rfl⟩:=ry
 obtain ⟨j,h1,h2,h3,h4,h5⟩:=Zl3 he
 have hl:z.cps.toList.length=z.length:=by simp [Str.length]
 rw [hl] at h1 h4 h5
 have hn:=Zdy
 exact tail_any (typeIs_str s z t) slot_str_getitem.lookup (getItem_str (c:=c) (by
  have e1:decide (i < -(2 ^ 63:Int))=false:=decide_eq_false (by omega)
  have e2:decide (i ≥ 2 ^ 63)=false:=decide_eq_false (by omega)
  rw [e1,e2,Bool.or_false]) (by rw [h1]; simpa using h2) ⟨.str ⟨#[c]⟩,H,I.tok _,⟨_,rfl⟩,q⟩) hs
def rIx (K:Fq):R2:=λ x y H Q=>rIxL K x y H Q\/rIxT K x y H Q\/rIxS x y H Q
theorem Zw:IxR X (rIx X.K):=Zzz.or (Z1n.or Z1o)
theorem Zs5 (its:List Value) (n j:Nat) (u:Value):Obj.mapSeq (·.setIfInBounds j u) { cls:=.type "list",data:=.seq its.toArray n }={ cls:=.type "list",data:=.seq (its.set j u).toArray n }:=by
 simp [Obj.mapSeq]
theorem Inv.lst {pins:List (Addr×Obj)} {σ:St} {H:Hp} {s:Shared} {p:Addr} {xs:List V} (I:Inv X pins σ H s) (h:H p=some (.lst xs)) :
 ∃ (its:List Value) (n:Nat),Vals xs its/\s.heap.get? p=some { cls:=.type "list",data:=.seq its.toArray n }/\xs.length<=sizeLine:=by
 obtain ⟨z,its,n,r,e⟩:=I.hok p _ h
 exact ⟨its,n,r,e,z⟩
theorem Inv.lstUpd {pins:List (Addr×Obj)} {σ:St} {H:Hp} {s:Shared} {p:Addr} {xs ys:List V} {its its':List Value} {n n':Nat} {f:Obj->Obj} (I:Inv X pins σ H s) (h:H p=some (.lst xs))
 (ho:s.heap.get? p=some { cls:=.type "list",data:=.seq its.toArray n }) (hf:f { cls:=.type "list",data:=.seq its.toArray n }={ cls:=.type "list",data:=.seq its'.toArray n' }) (r:Vals ys its') (hz:ys.length<=sizeLine) (t:Nat) :
 Inv X pins σ (upd H p (.lst ys)) { s with heap:=s.heap.update p f,toks:=t }:=by
 have e:(s.heap.update p f).get? p=some { cls:=.type "list",data:=.seq its'.toArray n' }:=by
  rw [Heap.get?_update_self f ho (by rw [hf] <;> rfl),hf]
 refine I.write (x:=p) (e:=p) (by rw [h]; trivial) (.inl rfl) (λ b u hb q=>(Heap.get?_update_other _ _ (Ne.symm hb)).trans q) ⟨_,e⟩ ?_
 exact ⟨hz,its',n',r,e⟩
def Zew:V->V->V->Hp->(Hp->Prop)->Prop:=λ o i v H Q=>∃ p xs k j,o=.ref p/\i=.int k/\H p=some (.lst xs)/\ixN xs.length k=some j/\Q (upd H p (.lst (xs.set j v)))
theorem Zeh:PSet X Zew:=by
 intro pins s σ H o i v ov iv u Q I ro ri rv h
 obtain ⟨p,xs,k,j,rfl,rfl,hp,hj,q⟩:=h
 cases ro
 obtain ⟨t,rfl⟩:=ri
 obtain ⟨its,n,r,ho,hz⟩:=I.lst hp
 obtain ⟨h1,h2,h3,h4⟩:=Zrs hj
 have hl:=r.length
 have hn:=Zdy
 have I':Inv X pins σ (upd H p (.lst (xs.set j v))) { s with heap:=s.heap.update p (Obj.mapSeq (·.setIfInBounds j u)) } :=
  I.lstUpd hp ho (Zs5 its n j u) (r.set rv j) (by rw [List.length_set]; exact hz) s.toks
 by_cases h0:0<=k
 · have hk:k.toNat=j:=by
    rw [seqIndex_of h0 h4] at h1
    exact Option.some.inj h1
   exact PySem.W.ki_setAt ho h0 (by omega) (by rw [List.size_toArray,← hl]; exact h4) (by rw [hk]; exact ⟨_,I',q⟩)
 · have hk:(k+(its.toArray.size:Int)).toNat=j:=by
    rw [seqIndex_neg (by omega) h3] at h1
    rw [List.size_toArray,← hl]
    exact Option.some.inj h1
   exact PySem.W.ki_setBack ho (by omega) (by rw [List.size_toArray,← hl]; exact h3) (by omega) (by rw [hk]; exact ⟨_,I',q⟩)
theorem Znw (lo hi:Option Int) (n:Nat):(sliceBounds lo hi none n).1=((HT.sIx n 0 lo:Nat):Int)/\(sliceBounds lo hi none n).2.1=((HT.sIx n n hi:Nat):Int)/\(sliceBounds lo hi none n).2.2=1:=by
 refine ⟨?_,?_,rfl⟩
 · cases lo with
   | none=>simp [sliceBounds,HT.sIx]
   | some i =>
     simp only [sliceBounds,HT.sIx,Option.getD_none,show (1:Int) > 0 by decide,if_true]
     by_cases h:i<0
     · simp only [h,if_true] <;> omega
     · simp only [h,if_false] <;> omega
 · cases hi with
   | none=>simp [sliceBounds,HT.sIx]
   | some i =>
     simp only [sliceBounds,HT.sIx,Option.getD_none,show (1:Int) > 0 by decide,if_true]
     by_cases h:i<0
     · simp only [h,if_true] <;> omega
     · simp only [h,if_false] <;> omega
theorem Zms (its:List Value) (lo hi:Option Int):slicePick its.toArray lo hi none=((its.drop (HT.sIx its.length 0 lo)).take (HT.sIx its.length its.length hi-HT.sIx its.length 0 lo)).toArray:=by
 obtain ⟨h1,h2,h3⟩:=Znw lo hi its.toArray.size
 unfold slicePick
 rw [h1,h2,h3]
 simp only [sliceRange_one,pick_run,List.size_toArray] <;> rfl
def rSlL (K:Fq):V->Option Int->Option Int->Hp->VK->Prop:=λ x lo hi H Q=>∃ a xs,x=.ref a/\SqL K H a xs/\∀ p,H p=none->Q (.ref p) (upd H p (.lst (cutV xs lo hi)))
theorem Zy1:SlR X (rSlL X.K):=by
 intro pins s σ H x v vl vu lo hi sl Q I rx hs pl pu h
 obtain ⟨a,xs,rfl,hx,q⟩:=h
 cases rx
 obtain ⟨its,r,ht,hz⟩:=I.list hx
 have hlen:=r.length
 refine ⟨"list",_,slot_list_getitem.lookup,ht.isList.typeIs,?_⟩
 refine wpAny_getItem_list_slice ht.isList hs pl pu .none (by simp) ?_ (by rw [List.size_toArray] <;> omega)
 rw [Zms,← hlen]
 refine ⟨.ref s.heap.objs.size,_,I.laid (t':=s.toks) (o:=.lst (cutV xs lo hi)) (λ b ob q=>Heap.get?_push_of_some _ q) (Nat.le_refl _) ?_,rfl,q _ (I.hok.fresh (Nat.le_refl _))⟩
 exact ⟨Nat.le_trans (Zhn xs lo hi) hz,_,0,(r.drop (HT.sIx xs.length 0 lo)).take (HT.sIx xs.length xs.length hi-HT.sIx xs.length 0 lo),Heap.get?_push_size _ rfl⟩
theorem Zm9:CallR X (.type "tuple") (λ xs H Q=>∃ p ys,xs=[.ref p]/\((SqL X.K H p ys/\∀ l,H l=none->Q (.ref l) (upd H l (.tup ys)))\/(SqT X.K H p ys/\Q (.ref p) H))):=by
 intro pins s σ H xs us Q I r h
 obtain ⟨p,ys,rfl,h⟩:=h
 obtain ⟨u,rfl,rx⟩:=Ug r
 cases rx
 rcases h with ⟨hq,q⟩ | ⟨hq,q⟩
 · obtain ⟨its,r',pl,hz⟩:=I.list hq
   have hlen:=r'.length
   refine call_tuple_list pl.isList (λ h' kp=>?_) (by simp only [List.size_toArray] <;> omega)
   have I1:Inv X pins σ H { s with heap:=h' }:=I.kept (t':=s.toks) kp
   have I2:Inv X pins σ (upd H h'.objs.size (.tup ys)) { s with heap:=h'.push { cls:=.type "tuple",data:=.seq its.toArray } } :=
    I1.laid (t':=s.toks) (λ b o e=>Heap.get?_push_of_some _ e) (Nat.le_refl _) (show ObjOk X.prog X.w _ _ _ (.tup ys) from ⟨hz,its,r',IsTup.new _ _⟩)
   exact ⟨.ref h'.objs.size,_,I2,rfl,q _ (I1.hok.fresh (Nat.le_refl _))⟩
 · obtain ⟨its,r',pl,hz⟩:=I.tuple hq
   exact call_tuple_same pl ⟨.ref p,H,I,rfl,q⟩
def tyV (K:Fq) (T:String) (x:V) (H:Hp):Prop:=match x with
 | .str _=>T="str"
 | .int _=>T="int"
 | .ref p=>(T="list"/\∃ xs,SqL K H p xs)\/(T="tuple"/\∃ o,K.lookup p=some o/\o.cls=.type "tuple"/\o.dict=none) \/
  (T="dict"/\((∃ kvs,H p=some (.dK kvs))\/∃ kvs,H p=some (.dT kvs)))\/(T="set"/\∃ S n,H p=some (.set S n))
 | _=>False
theorem Z0q {pins:List (Addr×Obj)} {σ:St} {H:Hp} {s:Shared} {T:String} {x:V} {v:Value} (I:Inv X pins σ H s) (r:RelV x v) (ty:tyV X.K T x H) :
 s.TypeIs v T/\∀ a,v=.ref a->∃ ob,s.heap.get? a=some ob/\ob.dict=none:=by
 cases x with
 | str z =>
   obtain ⟨t,rfl⟩:=r
   cases (show T="str" from ty)
   exact ⟨typeIs_str s z t,λ _ e=>nomatch e⟩
 | int i =>
   obtain ⟨t,rfl⟩:=r
   cases (show T="int" from ty)
   exact ⟨typeIs_int s i t,λ _ e=>nomatch e⟩
 | ref p =>
   cases r
   rcases ty with ⟨rfl,xs,hq⟩ | ⟨rfl,o,hk,hc,hd⟩ | ⟨rfl,hk⟩ | ⟨rfl,S,n,hk⟩
   · obtain ⟨its,_,pl,_⟩:=I.list hq
     refine ⟨pl.isList.typeIs,λ a e=>?_⟩
     cases e
     obtain ⟨o,n,e,c,hd,_⟩:=pl
     exact ⟨o,e,hd⟩
   · refine ⟨⟨o,I.kIn p o hk,hc⟩,λ a e=>?_⟩
     cases e
     exact ⟨o,I.kIn _ o hk,hd⟩
   · have z:∃ o,s.heap.get? p=some o/\o.ExactDict:=by
      rcases hk with ⟨kvs,hk⟩ | ⟨kvs,hk⟩
      · obtain ⟨_,_,_,_,o,_,_,e,ex,_⟩:=I.hok p _ hk
        exact ⟨o,e,ex⟩
      · obtain ⟨_,_,_,_,o,_,_,e,ex,_⟩:=I.hok p _ hk
        exact ⟨o,e,ex⟩
     obtain ⟨o,e,ex⟩:=z
     refine ⟨⟨o,e,ex.1⟩,λ a e2=>?_⟩
     cases e2
     exact ⟨o,e,ex.2.1⟩
   · obtain ⟨o,_,_,_,e,ex,_⟩:=I.hok p _ hk
     refine ⟨⟨o,e,ex.1⟩,λ a e2=>?_⟩
     cases e2
     exact ⟨o,e,ex.2.1⟩
 | _=>exact False.elim ty
def tBM (K:Fq) (T:String) (r:V->List V->Hp->VK->Prop) (to:TE) (t:TA):TE:=λ σ H Q=>to σ H λ x H1=>tyV K T x H1/\t σ H1 λ xs H2=>r x xs H2 Q
variable {o e:Expr} {es:List Expr} {to:TE} {t:TA} {name:Str} {apos cpos:Pos} {T id:String} {r:V->List V->Hp->VK->Prop}
theorem Z16 (pa:PlainAttrs T) (slot:Slot T name id) (hty:typeOf (.builtin id)=pure (.type "method_descriptor")) (hm:MtR X id r) (ho:PE X o to) (ha:PA X (e::es) t)
 (hbase:attributeBase o name X.env (eval o X.env)=eval o X.env:=by rfl)
 (hfew:((backTo cpos (starEach (e::es) X.env)).all (λ x=>!x.1) && (backToKw cpos (keywordEach [] X.env)).all (λ x=>x.1.isSome)
  && decide ((e::es).length+([]:List Keyword).length+(if ([]:List Keyword).isEmpty then 0 else 1)<30))=true:=by rfl)
 (hline:(apos.endLine == cpos.line)=true:=by rfl) (hs:starEach (e::es) X.env=(false,eval e X.env)::starEach es X.env:=by rfl) (hplain:(backTo cpos (starEach es X.env)).any (·.1)=false:=by rfl) :
 PE X (.Call (.Attribute o name apos) (e::es) [] cpos) (tBM X.K T r to t):=by
 intro pins s σ H Q I h
 refine wpAny_Call_method_late hbase hfew hline rfl (thn (ho pins s σ H _ I h) λ v s1 ⟨x,H1,I1,r1,ty,q1⟩=>?_)
 obtain ⟨h1,h2⟩:=Z0q I1 r1 ty
 refine ⟨T,id,pa,slot,hty,h1,h2,?_⟩
 have hA:=ha cpos pins s1 σ H1 _ I1 q1
 rw [hs] at hA ⊢
 refine Calls.callWith_builtin (by show (false || (backTo cpos (starEach es X.env)).any (·.1))=false; rw [hplain] <;> rfl) (Calls.evalArgs_plain ?_)
 exact thn hA λ us s2 ⟨vs,H2,I2,r2,q2⟩=>hm pins s2 σ H2 x vs v us Q I2 r1 r2 q2
/- xs.append(e),list.index on a module's tuple .. are MtR facts of 06m -/
end
end L2
namespace L2
open PySem PySem.Spec PyProof.Rows
def MtM (X:Cx) (id:String) (r:V->List V->Hp->VK->Prop):Prop :=
 ∀ (pins:List (Addr×Obj)) (s:Shared) (σ:St) (H:Hp) (x:V) (xs:List V) (v:Value) (us:List Value) (Q:VK),Inv X pins σ H s->RelV x v->Vals xs us->r x xs H Q ->
   wpAny (model X.prog X.w) X.A (call (.builtin id) (v::us)) (EP X pins σ Q) X.xe s
theorem Vals.one:∀ {x:V} {us:List Value},Vals [x] us->∃ u,us=[u]/\RelV x u
 | _,_,.cons r .nil=>⟨_,rfl,r⟩
theorem Vals.eraseIdx:∀ {xs:List V} {us:List Value} (i:Nat),Vals xs us->Vals (xs.eraseIdx i) (us.eraseIdx i)
 | _,_,_,.nil=>.nil
 | _,_,0,.cons _ t=>t
 | _,_,i+1,.cons r t=>.cons r (Vals.eraseIdx i t)
theorem Vals.reverse {xs:List V} {us:List Value} (h:Vals xs us):Vals xs.reverse us.reverse:=by
 induction h with
 | nil=>exact .nil
 | cons r t ih=>rw [List.reverse_cons,List.reverse_cons]; exact Vals.append ih (.cons r .nil)
theorem Vals.rep {xs:List V} {us:List Value} (h:Vals xs us):∀ k:Nat,Vals (List.replicate k xs).flatten (List.replicate k us).flatten
 | 0=>.nil
 | k+1=>by
   rw [List.replicate_succ,List.replicate_succ,List.flatten_cons,List.flatten_cons]
   exact Vals.append h (Vals.rep h k)
theorem Zmh {α:Type}:∀ (l:List α) (i:Nat),(l.eraseIdx i).length<=l.length
 | [],_=>Nat.le_refl _
 | _::_,0=>Nat.le_succ _
 | _::r,i+1=>Nat.succ_le_succ (Zmh r i)
theorem Zmk (its:List Value):∀ (k:Nat) (acc:List Value),
 List.foldl (λ x1 x2=>x1++x2) acc.toArray (List.replicate k its.toArray)=(acc++(List.replicate k its).flatten).toArray
 | 0,acc=>by simp
 | k+1,acc=>by
   have e:acc.toArray++its.toArray=(acc++its).toArray:=by simp
   have e2:(acc++its)++(List.replicate k its).flatten=acc++(List.replicate (k+1) its).flatten:=by
    rw [List.replicate_succ,List.flatten_cons,List.append_assoc]
   rw [← e2,← Zmk its k (acc++its),← e,List.replicate_succ,List.foldl_cons]
section
variable {X:Cx} {pins:List (Addr×Obj)} {σ:St} {H:Hp} {s:Shared} {l b:Addr} {xs ys zs:List V}
theorem Inv.lset {its its':List Value} {n:Nat} {f:Array Value->Array Value} {t':Nat} (I:Inv X pins σ H s) (hH:H l=some (.lst xs))
 (e:s.heap.get? l=some { cls:=.type "list",data:=.seq its.toArray n }) (hf:f its.toArray=its'.toArray) (hv:Vals ys its') (hz:ys.length<=sizeLine) :
 Inv X pins σ (upd H l (.lst ys)) { s with heap:=s.heap.update l (Obj.mapSeq f),toks:=t' }:=by
 have q:=PySem.IsL.update e f
 rw [hf] at q
 refine I.write (x:=l) (e:=l) (by rw [hH]; exact trivial) (.inl rfl) (λ b' u hb hu=>(Heap.get?_update_other s.heap (Obj.mapSeq f) (Ne.symm hb)).trans hu) ⟨_,q⟩ ?_
 exact ⟨hz,its',_,hv,q⟩
theorem Inv.lnew {its:List Value} {t':Nat} (I:Inv X pins σ H s) (hv:Vals ys its) (hz:ys.length<=sizeLine) :
 Inv X pins σ (upd H s.heap.objs.size (.lst ys)) { s with heap:=s.heap.push { cls:=.type "list",data:=.seq its.toArray },toks:=t' } :=
 I.laid (λ _ _ q=>Heap.get?_push_of_some _ q) (Nat.le_refl _) ⟨hz,its,0,hv,Heap.get?_push_size _ rfl⟩
theorem Inv.fresh (I:Inv X pins σ H s):H s.heap.objs.size=none:=I.hok.fresh (Nat.le_refl _)
theorem Inv.lstM (I:Inv X pins σ H s) (hH:H l=some (.lst xs)):xs.length<=sizeLine/\∃ (its:List Value) (n:Nat),Vals xs its/\xs.length=its.length/\s.heap.get? l=some { cls:=.type "list",data:=.seq its.toArray n }:=by
 obtain ⟨z,its,n,r,e⟩:=I.hok l _ hH
 exact ⟨z,its,n,r,r.length,e⟩
theorem Zop {n:Nat} (h:n<=sizeLine):Builtin.List.listTooLong n=false:=by
 unfold Builtin.List.listTooLong
 exact decide_eq_false (by omega)
end
section
variable {X:Cx}
def K6:V->List V->Hp->VK->Prop:=λ x vs H Q=>∃ l xs y,x=.ref l/\vs=[y]/\H l=some (.lst xs)/\xs.length<sizeLine/\Q .non (upd H l (.lst (xs++[y])))
theorem Ua:MtM X "list.append" K6:=by
 intro pins s σ H x vs v us Q I rx rv h
 obtain ⟨l,xs,y,rfl,rfl,hH,hz,q⟩:=h
 cases rx
 obtain ⟨u,rfl,ru⟩:=rv.one
 obtain ⟨z,its,n,r,hl,e⟩:=I.lstM hH
 refine call_meets F.slot_list_append ⟨_,e,rfl⟩ F.entry_list_append (F.args_list_append_2 _ _) (PySem.list_append l its.toArray n u (by rw [List.size_toArray]; omega)) ⟨e,?_⟩
 refine ⟨.non,_,I.lset (its':=its++[u]) hH e (by simp) (r.append (.cons ru .nil)) ?_,rfl,q⟩
 rw [List.length_append,List.length_singleton]
 omega
def Zza:V->List V->Hp->VK->Prop:=λ x vs H Q=>∃ l b xs zs,x=.ref l/\vs=[.ref b]/\H l=some (.lst xs)/\H b=some (.lst zs)/\xs.length+zs.length<=sizeLine/\Q .non (upd H l (.lst (xs++zs)))
theorem Z2i:MtM X "list.extend" Zza:=by
 intro pins s σ H x vs v us Q I rx rv h
 obtain ⟨l,b,xs,zs,rfl,rfl,hH,hB,hz,q⟩:=h
 cases rx
 obtain ⟨u,rfl,ru⟩:=rv.one
 cases ru
 obtain ⟨z,its,n,r,hl,e⟩:=I.lstM hH
 obtain ⟨z2,its2,n2,r2,hl2,e2⟩:=I.lstM hB
 have hsz:its.toArray.size+its2.toArray.size<=sizeLine:=by rw [List.size_toArray,List.size_toArray]; omega
 have hlong:¬ (!its.toArray.isEmpty && Builtin.List.listTooLong (its.toArray.size+its2.toArray.size))=true:=by
  rw [Zop hsz,Bool.and_false]
  exact Bool.false_ne_true
 refine call_meets F.slot_list_extend ⟨_,e,rfl⟩ F.entry_list_extend (F.args_list_extend_2 _ _)
  (AutoSeq1.list_extend_list_list_0 l its.toArray n b its2.toArray n2 hlong (by rw [List.size_toArray]; omega) (by omega)) ⟨e,e2,?_⟩
 refine ⟨.non,_,I.lset (its':=its++its2) hH e (by simp) (r.append r2) ?_,rfl,q⟩
 rw [List.length_append]
 omega
def Zoj:V->List V->Hp->VK->Prop:=λ x vs H Q=>∃ l xs i k y,x=.ref l/\vs=[.int i]/\H l=some (.lst xs)/\-(2 ^ 63)<=i/\i<2 ^ 63/\seqIndex? i xs.length=some k/\xs[k]?=some y/\Q y (upd H l (.lst (xs.eraseIdx k)))
theorem Zw5:MtM X "list.pop" Zoj:=by
 intro pins s σ H x vs v us Q I rx rv h
 obtain ⟨l,xs,i,k,y,rfl,rfl,hH,h1,h2,hk,hy,q⟩:=h
 cases rx
 obtain ⟨u,rfl,ru⟩:=rv.one
 obtain ⟨t,rfl⟩:=ru
 obtain ⟨z,its,n,r,hl,e⟩:=I.lstM hH
 obtain ⟨w,hw,rw'⟩:=r.get hy
 refine call_meets F.slot_list_pop ⟨_,e,rfl⟩ F.entry_list_pop (F.args_list_pop_2 _ _)
  (MeetsSeq.list_pop_at l its.toArray n i t k w (fitsIndex_both h1 h2) (by rw [List.size_toArray,← hl]; exact hk) (by rw [← Array.getElem?_toList]; exact hw) (by rw [List.size_toArray]; omega)) ⟨e,?_⟩
 refine ⟨y,_,I.lset (its':=its.eraseIdx k) hH e ?_ (r.eraseIdx k) ?_,rw',q⟩
 · show its.toArray.eraseIdxIfInBounds k=(its.eraseIdx k).toArray
   rw [List.eraseIdxIfInBounds_toArray]
 · have:=Zmh xs k
   omega
def rCat:R2:=λ x y H Q=>∃ l b xs zs,x=.ref l/\y=.ref b/\H l=some (.lst xs)/\H b=some (.lst zs)/\xs.length+zs.length<=sizeLine/\∀ p,H p=none->Q (.ref p) (upd H p (.lst (xs++zs)))
theorem Z1e:OpR X (binaryOp .Add) rCat:=by
 intro pins s σ H x y v u Q I rx ry h
 obtain ⟨l,b,xs,zs,rfl,rfl,hH,hB,hz,q⟩:=h
 cases rx
 cases ry
 obtain ⟨z,its,n,r,hl,e⟩:=I.lstM hH
 obtain ⟨z2,its2,n2,r2,hl2,e2⟩:=I.lstM hB
 refine PySem.P.add_list e e2 ?_ (by rw [List.size_toArray,List.size_toArray]; omega)
 have ea:its.toArray++its2.toArray=(its++its2).toArray:=by simp
 rw [ea]
 exact ⟨.ref _,_,I.lnew (t':=s.toks) (r.append r2) (by rw [List.length_append]; omega),rfl,q _ I.fresh⟩
def rRep:R2:=λ x y H Q=>∃ l k xs,x=.ref l/\y=.int k/\H l=some (.lst xs)/\-(2 ^ 63)<=k/\k<2 ^ 63/\xs.length*k.toNat<=sizeLine /\
 ∀ p,H p=none->Q (.ref p) (upd H p (.lst (List.replicate k.toNat xs).flatten))
theorem Zzs {α:Type} (xs:List α) (k:Nat):(List.replicate k xs).flatten.length=k*xs.length:=by
 induction k with
 | zero=>simp
 | succ k ih=>rw [List.replicate_succ,List.flatten_cons,List.length_append,ih,Nat.succ_mul,Nat.add_comm]
theorem Z09:OpR X (binaryOp .Mult) rRep:=by
 intro pins s σ H x y v u Q I rx ry h
 obtain ⟨l,k,xs,rfl,rfl,hH,h1,h2,hz,q⟩:=h
 cases rx
 obtain ⟨t,rfl⟩:=ry
 obtain ⟨z,its,n,r,hl,e⟩:=I.lstM hH
 have hlen:its.toArray.size*k.toNat<=sizeLine:=by rw [List.size_toArray,← hl]; exact hz
 have hcap:¬ its.toArray.size*k.toNat > (2 ^ 63-1) / 8:=by
  have:(sizeLine:Nat)<=(2 ^ 63-1) / 8:=by decide
  omega
 have hfit:¬ (!Builtin.List.listFitsIndex k)=true:=by
  rw [fitsIndex_both h1 h2]
  exact Bool.false_ne_true
 have hlong:¬ Builtin.List.listTooLong (its.toArray.size*k.toNat)=true:=by
  rw [Zop hlen]
  exact Bool.false_ne_true
 have hnew:List.foldl (λ x1 x2=>x1++x2) #[] (List.replicate (if its.toArray.isEmpty=true then 0 else k.toNat) its.toArray)=(List.replicate k.toNat its).flatten.toArray:=by
  have f0:∀ m:Nat,List.foldl (λ x1 x2=>x1++x2) #[] (List.replicate m its.toArray)=(List.replicate m its).flatten.toArray:=λ m=>by
   have:=Zmk its m []
   rw [List.nil_append] at this
   exact this
  rw [f0]
  cases its with
  | nil=>simp
  | cons a r'=>rw [if_neg (by simp)]
 refine wpAny_binaryOp_repeat_ref (T:="list") (U:="int") (by decide) ⟨_,e,rfl⟩ (λ s'=>typeIs_int s' k t) noFill_list_mul F.fills_int_mul F.slot_int_rmul repeat_list F.slot_int_index.lookup
  (call_meets F.slot_int_rmul (typeIs_int s k t) F.entry_int_rmul (F.args_int_rmul_2 _ _) (int___rmul___int_list k t l its.toArray n)
   ⟨e,rfl,⟨_,e,rfl⟩,call_meets F.slot_list_mul ⟨_,e,rfl⟩ F.entry_list_mul (F.args_list_mul_2 _ _) (AutoListH.list___mul___list_int_3 l its.toArray n k t hfit hcap hlong) ⟨e,?_⟩⟩)
 rw [hnew]
 exact ⟨.ref _,_,I.lnew (t':=s.toks) (r.rep k.toNat) (by rw [Zzs,Nat.mul_comm]; exact hz),rfl,q _ I.fresh⟩
end
section
variable {prog:Program} {w:World} {A:Around} {E:Value->Shared->Prop} {s:Shared}
end
section
variable {X:Cx}
end
end L2
namespace Att
open PySem PySem.W PySem.Calls PyProof.Rows
theorem Zj4 {P:Params} {h:Heap}:∀ (ns:List Int) (vs:List Value),WellAll P h vs (ns.map WData.int)->IntsAre vs ns:=by
 intro ns
 induction ns with
 | nil =>
   intro vs w
   rw [List.map_nil] at w
   cases w
   exact .nil
 | cons n ns ih =>
   intro vs w
   rw [List.map_cons] at w
   cases w with
   | cons a b =>
     cases a
     exact .cons _ _ (ih _ b)
theorem Zt5 {l:OpenLaw} {n:Nat} (hn:l.most=some n) {P:Params} {h:Heap} {args:List WData} {vals:List Value}
 (hpre:l.row.toRowW.claim.pre args=true) (hwl:WellAll P h vals args) :
 ∃ a vs ns,vals=[Value.ref a]/\args=[WData.list (ns.map WData.int)]/\h.get? a=some { cls:=.type "list",data:=.seq vs.toArray }/\IntsAre vs ns/\ns.length<=n:=by
 have hsh:WShape.hasAll [] args [.list .int]=true:=(pre_splitW hpre).1
 have hc:l.pre.holds [] { args:=args }=true:=(pre_splitW hpre).2
 obtain ⟨d,r,rfl,h1,h2⟩:=hasAllW_cons hsh
 obtain rfl:=hasAllW_nil h2
 obtain ⟨xs,rfl,h3⟩:=hasW_list h1
 obtain ⟨ns,rfl⟩:=items_int h3
 have hlen:ns.length<=n:=by
  unfold OpenLaw.pre at hc
  have h4:(WTm.not (.lt (.lit (.int (n:Int))) (.len (.arg 0)))).holds [] { args:=[.list (ns.map .int)] }=true:=by
   have h4:=(holds_andW hc).1
   rw [hn] at h4
   exact h4
  have h5:=condW_of h4 (w_not (w_lt w_lit (w_len_list (w_arg rfl))))
  rw [List.length_map] at h5
  refine Nat.le_of_not_lt λ q=>?_
  have q':(n:Int)<((ns.length:Nat):Int):=by omega
  first
   | (rw [decide_eq_true q'] at h5; exact absurd h5 (by decide))
   | (simp at h5; omega)
 cases hwl with
 | cons w1 w2 =>
   cases w2
   cases w1 with
   | list ho hall=>exact ⟨_,_,ns,rfl,rfl,ho,Zj4 ns _ hall,hlen⟩
theorem Zug (l:OpenLaw) (args:List WData):l.row.toRowW.claim.post args (.bool true) args=true :=
 postW_of (r:=l.row.toRowW) (X:=(true == true))
  (show WShape.has [] (.bool true) .bool=true by first | rfl | decide | simp [WShape.has,WShape.arms,WShape.armsAll])
  (show (WTm.eq .res (.lit (.bool true))).value [] { args:=args,res:=some (.bool true),after:=args }=some (.bool (true == true)) from w_eq_bool (w_res rfl) w_lit) rfl
section
variable {prog:Program} {w:World} {A:Around} {E:Value->Shared->Prop} {s:Shared} {K:Frag}
def ledger (h:Heap) (L d:Addr):List (Addr×Obj):=(List.range h.objs.size).filterMap λ a=>if a=L\/a=d then none else (h.get? a).map λ o=>(a,o)
end
end Att
namespace L2
open PySem PySem.Spec PyProof.Rows
theorem Zcn:∀ {vs:List Value} {ns:List Int},IntsAre vs ns->Vals (ns.map V.int) vs
 | _,_,.nil=>.nil
 | _,_,.cons n t h=>.cons ⟨t,rfl⟩ (Zcn h)
def Only (H:Hp):Prop:=∀ b,H b=none\/∃ o xs,H b=some (.frz o (.lst xs))
theorem Zxa {P:Program} {w:World} {K:Fq} {mg mb:Str->Option Value} {CX:CXT} {k:Nat} {fa a:Addr} {fd:FuncData} {x:Str} {sp:Sp} {s₁:Shared} {vs:List Value} {ns:List Int}
 (KX:K.In s₁.heap) (hns:s₁.heap.Ns mainGlobals mg) (hb:s₁.heap.Ns builtinsNs mb) (hbb:∀ x:Str,x≠"__name__"->mb x=bootBuiltins x) (hlim:s₁.heap.NoLimit) (hg:s₁.gens=#[])
 (ha:s₁.heap.get? a=some { cls:=.type "list",data:=.seq vs.toArray }) (hi:IntsAre vs ns) (hl:ns.length<=sizeLine) (hr:Room k callerA)
 (F:∀ base:Heap,K.In base->base.Ns mainGlobals mg->FnOk P w K mg base CX k fa fd [x] sp) (hbind:∀ (s:Shared) (u:Value),BindsTo s fd ⟨[u],[]⟩ [(x,u)])
 (hsp:∀ H:Hp,Only H->SqL K H a (ns.map V.int)->sp [.ref a] H (λ v _=>v=.bl true) λ _ _ _=>False)
 (hCX:∀ H e s',CX [] H s₁ (λ _ _ _=>False) e s'->False) :
 codeAny (model P w) callerA (.call (.ref fa) ⟨[.ref a],[]⟩) (λ r s'=>r=.ok (.ret (.bool true))/\OldK s₁.heap s'.heap/\s'.os=s₁.os/\AllBare s'.gens) s₁:=by
 have rv:=Zcn hi
 have lenV:=hi.length
 have core:∀ H:Hp,Only H->SqL K H a (ns.map V.int)->HOk P w H s₁.heap->(∀ b,H b≠none->b=a)->(H a≠none->K.lookup a=none) ->
  codeAny (model P w) callerA (.call (.ref fa) ⟨[.ref a],[]⟩) (λ r s'=>r=.ok (.ret (.bool true))/\OldK s₁.heap s'.heap/\s'.os=s₁.os/\AllBare s'.gens) s₁:=by
  intro H hO hS hok hA hK
  have base_of:∀ {b:Addr} {o:Obj},s₁.heap.get? b=some o->H b=none->(hidT s₁.heap H).get? b=some o:=λ e n=>Zxi e n
  have noA:∀ {b:Addr} {o:Obj} {es:Array DictEntry} {ep:Nat},s₁.heap.get? b=some o->o.data=.dict es ep->H b=none:=λ {b o es ep} e d=>by
   cases q:H b with
   | none=>rfl
   | some u =>
     have e':b=a:=hA b (by rw [q]; simp)
     subst e'
     rw [ha] at e; cases e
     have d':Data.seq vs.toArray _=Data.dict es ep:=d
     cases d'
  have nsK:∀ {b:Addr} {m:Str->Option Value},s₁.heap.Ns b m->(hidT s₁.heap H).Ns b m:=λ {b m} ⟨o,es,ep,e,d,r⟩=>⟨o,es,ep,base_of e (noA e d),d,r⟩
  have hKb:K.In (hidT s₁.heap H):=λ b o e=>base_of (KX b o e) (by
   cases q:H b with
   | none=>rfl
   | some u =>
     have e':b=a:=hA b (by rw [q]; simp)
     subst e'
     rw [hK (by rw [q]; simp)] at e; cases e)
  have hM:Mod K mg (hidT s₁.heap H):=⟨hKb,nsK hns,⟨mb,nsK hb,hbb⟩,let ⟨mc,h1,h2⟩:=hlim; ⟨mc,nsK h1,h2⟩⟩
  have e0:Env0 P w K mg (hidT s₁.heap H) callerA [] s₁ H:=⟨rfl,hM,λ b o e=>Zzl e,Nat.le_of_eq (Zu9 _ _),trivial,λ b hb=>absurd (show b∈([]:List Addr) from hb) (by simp),hok,.of_eq hg⟩
  refine codeAny_mono ((F _ hKb (nsK hns)).run callerA [] s₁ H ⟨[.ref a],[]⟩ [.ref a] [.ref a] _ _ hr e0 (hbind s₁ (.ref a)) (.cons rfl .nil) (hsp H hO hS)) λ r s' h=>?_
  cases r with
  | error e=>exact (hCX H e s' h).elim
  | ok fl =>
    cases fl with
    | next=>exact False.elim h
    | brk=>exact False.elim h
    | cont=>exact False.elim h
    | ret u =>
      obtain ⟨v,H',os,bare,un,hok',r',q⟩:=h
      have q':v=.bl true:=q
      subst q'
      obtain rfl:u=Value.bool true:=r'
      refine ⟨rfl,OldK.of_keep λ b o e=>?_,os,bare⟩
      cases q:H b with
      | none=>exact un.keep b o e q (by intro z; exact absurd (show b∈([]:List Addr) from z) (by simp)) (by simp)
      | some u =>
        rcases hO b with z | ⟨ob,xs,z⟩
        · rw [q] at z; cases z
        · have z2:=un.frzs b ob _ z
          obtain ⟨e1,_⟩:=hok b _ z
          obtain ⟨e2,_⟩:=hok' b _ z2
          rw [e] at e1; cases e1
          exact e2
 cases hk:K.lookup a with
 | some o =>
   have e:=KX a o hk
   rw [ha] at e
   cases e
   refine core (λ _=>none) (λ _=>.inl rfl) (.inr ⟨_,vs.toArray,_,hk,rfl,rfl,rfl,by rw [List.size_toArray,lenV]; exact hl,by simpa using rv⟩) (λ b u z=>by have z':(none:Option HO)=some u:=z; cases z') (λ b z=>absurd rfl z) λ z=>absurd rfl z
 | none =>
   refine core (λ b=>if b=a then some (.frz { cls:=.type "list",data:=.seq vs.toArray } (.lst (ns.map V.int))) else none) (λ b=>?_) (.inl (.inr ⟨{ cls:=.type "list",data:=.seq vs.toArray },if_pos rfl⟩)) (λ b u z=>?_) (λ b z=>?_) λ _=>hk
   · by_cases hb:b=a
     · exact .inr ⟨_,_,if_pos hb⟩
     · exact .inl (if_neg hb)
   · by_cases hb:b=a
     · have z':=(if_pos hb).symm.trans z
       cases z'
       subst hb
       exact ⟨ha,by rw [List.length_map]; exact hl,vs,_,rv,ha⟩
     · have z':=(if_neg hb).symm.trans z
       cases z'
   · by_cases hb:b=a
     · exact hb
     · exact absurd (if_neg hb) z
end L2
namespace L2
open PySem PySem.Spec PyProof.Rows
abbrev KOf {K:Fq} {h:Heap} (_:K.In h):Fq:=K
end L2
namespace L2
open PySem PySem.Spec PyProof.Rows
def Q4 (s:Stmt):Arguments:=match s with
 | .FunctionDef _ a _ _ _ _ _ _ _ _=>a
 | _=>{ posonlyargs:=[],args:=[],vararg:=none,kwonlyargs:=[],kw_defaults:=[],kwarg:=none,defaults:=[] }
def X7 (s:Stmt):List Stmt:=match s with
 | .FunctionDef _ _ b _ _ _ _ _ _ _=>b
 | _=>[]
def Zu (s:Stmt):Scope:=match s with
 | .FunctionDef _ _ _ _ _ _ sc _ _ _=>sc
 | _=>{ kind:=.function,names:=[],isGenerator:=false,isCoroutine:=false }
abbrev CX0:CXT:=λ _ _ _ _ _ _=>False
abbrev E0:XK:=λ _ _ _=>False
theorem Z6 {X:Cx}:Passes CX0 X E0:=λ _ _ _ _ _ _ _ h=>h.elim
structure Fun (K:Fq) (x qual:Str) (st:Stmt) (f:Addr) (fd:FuncData):Prop where
 ex:∃ (oc:Value) (od:Option Addr) (kV doc pm:Value) (an:Option Addr) (cdv ct:Value) (osl:Array (Option Value)),
  fd=PySem.W.fnOf x qual (Q4 st) (X7 st) (Zu st) .none kV doc pm an cdv ct/\K.lookup f=some ⟨oc,od,.func fd,osl⟩/\PySem.W.codeIn K cdv qual=true
 kp:PySem.W.keepIn K (.ref f)=true
section
variable {P:Program} {w:World} {K:Fq} {mg:Str->Option Value} {base:Heap}
theorem Fun.ok {x qual:Str} {st:Stmt} {f:Addr} {fd:FuncData} {N ps:List Str} {k:Nat} {sp:Sp} (F:Fun K x qual st f fd) (S:FnScope N ps (Zu st)) (len:∀ vs H Q E,sp vs H Q E->vs.length=ps.length)
 (hbody:∀ (cdv:Value) (A:Around) (outer:List Env) (s:Shared) (H:Hp) (vs:List V) (Q:VK) (E:XK),Room k (A.deeper (envOfC qual (Zu st) s.heap.objs.size f cdv))->sp vs H Q E ->
  ∃ t,PSs (cxOf CX0 P w K mg base N qual (Zu st) f cdv A outer s H E).nox (X7 st) t/\t { nx:=λ _ H'=>Q .non H',rt:=Q } (start N vs) H):FnOk P w K mg base CX0 (k+1) f fd ps sp:=by
 obtain ⟨oc,od,kV,doc,pm,an,cdv,ct,osl,rfl,lk,hcd⟩:=F.ex
 refine Ztb lk hcd S len λ A outer s H vs Q E hr hsp=>?_
 obtain ⟨t,h,q⟩:=hbody cdv A outer s H vs Q E hr hsp
 exact ⟨t,h.nox,q⟩
theorem Fun.binds {x qual:Str} {st:Stmt} {f:Addr} {fd:FuncData} {ps:List Str} (F:Fun K x qual st f fd)
 (h:∀ (kV doc pm:Value) (an:Option Addr) (cdv ct:Value) (us:List Value),us.length=ps.length->bindArgs (PySem.W.fnOf x qual (Q4 st) (X7 st) (Zu st) .none kV doc pm an cdv ct) ⟨us,[]⟩=pure (ps.zip us)):Binds K fd ps []:=by
 obtain ⟨oc,od,kV,doc,pm,an,cdv,ct,osl,rfl,lk,hcd⟩:=F.ex
 exact .all (h kV doc pm an cdv ct)
theorem Z1r {x qual:Str} {st:Stmt} {f:Addr} {oc:Value} {od an:Option Addr} {osl:Array (Option Value)} {kV doc pm cdv ct:Value} (l:K.lookup f=some ⟨oc,od,.func (PySem.W.fnOf x qual (Q4 st) (X7 st) (Zu st) .none kV doc pm an cdv ct),osl⟩)
 (c:PySem.W.codeIn K cdv qual=true) (k:PySem.W.keepIn K (.ref f)=true):Fun K x qual st f (PySem.W.fnOf x qual (Q4 st) (X7 st) (Zu st) .none kV doc pm an cdv ct):=⟨⟨oc,od,kV,doc,pm,an,cdv,ct,osl,rfl,l,c⟩,k⟩
end
theorem Ql {n:Nat} (h:n<=1000):n<sizeLine:=Nat.lt_of_le_of_lt h (by decide)
section
variable {X:Cx}
theorem pv (i:Nat) {x:Str} {pos:Pos} (hN:X.N[i]?=some x:=by rfl) (hv:Vis X.env.scope x:=by first | exact Or.inl rfl | exact Or.inr (Or.inl rfl) | exact Or.inr (Or.inr rfl)) (hd:(x == ("__debug__":Str))=false:=by decide)
 (hcd:(x == ("__classdict__":Str))=false:=by decide):PE X (.Name x pos) (Zc i):=Z02 hN hv hd hcd
end
theorem iteF {A B:Prop} (h:B):if false=true then A else B:=by
 rw [if_neg Bool.false_ne_true]
 exact h
theorem iteT {A B:Prop} (h:A):if true=true then A else B:=by
 rw [if_pos rfl]
 exact h
def Same (H H':Hp):Prop:=∀ b o,H b=some o->H' b=some o
theorem Same.refl (H:Hp):Same H H:=λ _ _ h=>h
theorem Same.trans {H H1 H2:Hp} (a:Same H H1) (b:Same H1 H2):Same H H2:=λ c o h=>b c o (a c o h)
theorem Same.free {H H':Hp} (e:Same H H') {l:Addr} (h:H' l=Option.none):H l=Option.none:=by
 cases q:H l with
 | none=>rfl
 | some o =>
   rw [e l o q] at h
   cases h
theorem Same.seq {K:Fq} {H H':Hp} {a:Addr} {xs:List V} (e:Same H H') (h:SqL K H a xs):SqL K H' a xs:=by
 rcases h with (h | ⟨o,h⟩) | h
 · exact .inl (.inl (e _ _ h))
 · exact .inl (.inr ⟨o,e _ _ h⟩)
 · exact .inr h
end L2
set_option maxHeartbeats 4000000
namespace L2
open PySem PySem.Spec PyProof.Rows
theorem Zfe {env:Env}:∀ (ns:List (Str×NameKind)) (cs:List (Str×Addr)),(∀ y∈ns,y.2=.free->∃ c,env.cells.lookup y.1=some c)->(∀ x c,cs.lookup x=some c->env.cells.lookup x=some c) ->
 ∃ cl:List (Str×Addr),(forIn ns cs λ (p:Str×NameKind) (r:List (Str×Addr))=>if (p.2 == NameKind.free)=true then (cellOf env p.1 >>= λ c=>pure (ForInStep.yield ((p.1,c)::r))) else (pure (ForInStep.yield r):Sem (ForInStep (List (Str×Addr)))))=(pure cl:Sem (List (Str×Addr))) /\
   (∀ x c,cl.lookup x=some c->env.cells.lookup x=some c)/\(∀ x c,cs.lookup x=some c->∃ c',cl.lookup x=some c')/\∀ y∈ns,y.2=.free->∃ c,cl.lookup y.1=some c
 | [],cs,_,hc=>⟨cs,rfl,hc,λ x c e=>⟨c,e⟩,λ y hy=>absurd hy (by simp)⟩
 | (n,k)::r,cs,h,hc=>by
   by_cases hk:k=.free
   · subst hk
     obtain ⟨c,e⟩:=h (n,.free) (by simp) rfl
     have hc2:∀ x c',((n,c)::cs).lookup x=some c'->env.cells.lookup x=some c':=λ x c' q=>by
      rw [List.lookup_cons] at q
      cases hx:x == n with
      | true=>rw [hx] at q; cases q; rw [eq_of_beq hx]; exact e
      | false=>rw [hx] at q; exact hc x c' q
     obtain ⟨cl,e1,e2,e3,e4⟩:=Zfe r ((n,c)::cs) (λ y hy=>h y (List.mem_cons_of_mem _ hy)) hc2
     refine ⟨cl,?_,e2,λ x c' q=>?_,λ y hy hf=>?_⟩
     · rw [List.forIn_cons]
       show (if (NameKind.free == NameKind.free)=true then _ else _) >>= _=_
       rw [if_pos (by decide)]
       unfold cellOf
       rw [e]
       exact e1
     · by_cases hx:x=n
       · exact e3 x c (by rw [hx,List.lookup_cons]; simp)
       · exact e3 x c' (by rw [List.lookup_cons,beq_eq_false_iff_ne.mpr hx]; exact q)
     · rcases List.mem_cons.mp hy with z | z
       · rw [z]; exact e3 n c (by rw [List.lookup_cons]; simp)
       · exact e4 y z hf
   · obtain ⟨cl,e1,e2,e3,e4⟩:=Zfe r cs (λ y hy=>h y (List.mem_cons_of_mem _ hy)) hc
     refine ⟨cl,?_,e2,e3,λ y hy hf=>?_⟩
     · rw [List.forIn_cons]
       have hb:(k == NameKind.free)=false:=by simpa using hk
       show (if (k == NameKind.free)=true then _ else _) >>= _=_
       rw [hb]
       exact e1
     · rcases List.mem_cons.mp hy with z | z
       · rw [z] at hf; exact absurd hf hk
       · exact e4 y z hf
theorem Ztn {scope:Scope} {env:Env} (h:∀ y∈scope.names,y.2=.free->∃ c,env.cells.lookup y.1=some c) :
 ∃ cl,closureFor scope env=pure cl/\(∀ x c,cl.lookup x=some c->env.cells.lookup x=some c)/\∀ y∈scope.names,y.2=.free->∃ c,cl.lookup y.1=some c:=by
 obtain ⟨cl,e1,e2,_,e4⟩:=Zfe (env:=env) scope.names [] h (λ x c q=>by simp at q)
 refine ⟨cl,?_,e2,e4⟩
 show ((forIn scope.names [] λ (p:Str×NameKind) (r:List (Str×Addr))=>if (p.2 == NameKind.free)=true then (cellOf env p.1 >>= λ c=>pure (ForInStep.yield ((p.1,c)::r))) else (pure (ForInStep.yield r):Sem (ForInStep (List (Str×Addr))))) >>= λ r=>(pure r:Sem (List (Str×Addr))))=pure cl
 rw [e1]
 rfl
def Ws (X:Cx) (N:List Str) (scope:Scope) (cl:List (Str×Addr)) (C:Addr) (s₀:Shared) (H₀:Hp) (ex:List Addr):Cx where
 prog:=X.prog
 w:=X.w
 K:=X.K
 mg:=X.mg
 base:=X.base
 A:=X.A
 N:=N
 s₀:=s₀
 H₀:=H₀
 env:=compEnvC scope cl C X.env
 outer:=X.stack
 stack:=X.stack
 ex:=ex
 fn:=λ _=>false
 calm:=X.calm
 pn:=[]
 xe:=λ _ _=>False
def Xn (l:List (Option Nat)) (σ:St):St:=l.map λ o=>match o with | none=>none | some k=>(σ[k]?).join
def CompN (X:Cx) (scope:Scope):List Str->List (Option Nat)->Prop
 | [],[]=>True
 | _::N,none::l=>CompN X scope N l
 | x::N,some k::l=>(X.N[k]?=some x/\(X.env.scope.names.lookup x=some .cell\/X.env.scope.names.lookup x=some .free)/\scope.names.lookup x=some .free)/\CompN X scope N l
 | _,_=>False
theorem CompN.len {X:Cx} {scope:Scope}:∀ {N:List Str} {l:List (Option Nat)},CompN X scope N l->l.length=N.length
 | [],[],_=>rfl
 | _::N,none::l,h=>by simp [CompN.len (N:=N) (l:=l) h]
 | _::N,some _::l,h=>by simp [CompN.len (N:=N) (l:=l) h.2]
 | [],none::_,h=>h.elim
 | [],some _::_,h=>h.elim
 | _::_,[],h=>h.elim
theorem CompN.get {X:Cx} {scope:Scope}:∀ {N:List Str} {l:List (Option Nat)} {i k:Nat} {x:Str},CompN X scope N l->N[i]?=some x->l[i]?=some (some k) ->
 X.N[k]?=some x/\(X.env.scope.names.lookup x=some .cell\/X.env.scope.names.lookup x=some .free)/\scope.names.lookup x=some .free
 | [],[],_,_,_,_,e,_=>by simp at e
 | _::N,none::l,0,_,_,_,_,e=>by simp at e
 | _::N,none::l,i+1,k,x,h,e1,e2=>CompN.get (N:=N) (l:=l) (i:=i) h (by simpa using e1) (by simpa using e2)
 | y::N,some j::l,0,k,x,h,e1,e2=>by
   have e1':y=x:=by simpa using e1
   have e2':j=k:=by simpa using e2
   rw [← e1',← e2']
   exact h.1
 | _::N,some _::l,i+1,k,x,h,e1,e2=>CompN.get (N:=N) (l:=l) (i:=i) h.2 (by simpa using e1) (by simpa using e2)
 | [],none::_,_,_,_,h,_,_=>h.elim
 | [],some _::_,_,_,_,h,_,_=>h.elim
 | _::_,[],_,_,_,h,_,_=>h.elim
theorem Zu7 (l:List (Option Nat)) (σ:St):(Xn l σ).length=l.length:=by unfold Xn; rw [List.length_map]
theorem Zu8 {l:List (Option Nat)} {σ:St} {i:Nat} {v:V} (h:(Xn l σ)[i]?=some (some v)):∃ k,l[i]?=some (some k)/\σ[k]?=some (some v):=by
 unfold Xn at h
 rw [List.getElem?_map] at h
 cases e:l[i]? with
 | none=>rw [e] at h; cases h
 | some o =>
   rw [e] at h
   cases o with
   | none=>simp at h
   | some k =>
     refine ⟨k,rfl,?_⟩
     have h2:(σ[k]?).join=some v:=by simpa using h
     cases q:σ[k]? with
     | none=>rw [q] at h2; cases h2
     | some z =>
       rw [q] at h2
       have h3:z=some v:=by simpa using h2
       rw [h3]
structure CompScope (X:Cx) (N:List Str) (l:List (Option Nat)) (scope:Scope):Prop where
 kind:scope.kind=.function
 loc:(scope.names.all λ y=>y.2 != .local || (scope.names.lookup y.1 == some .local))=true
 nocell:(scope.names.all λ y=>y.2 != .cell)=true
 fre:(scope.names.all λ y=>y.2 != .free || (X.env.scope.names.lookup y.1 == some .cell || X.env.scope.names.lookup y.1 == some .free))=true
 nm:CompN X scope N l
 nd:N.Nodup
theorem Gw {env:Env} {x:Str} {k:NameKind}:∀ {names:List (Str×NameKind)},(names.map λ (p:Str×NameKind)=>if (p.2 == NameKind.free && env.scope.kind == .function && env.kindOf p.1 == some .cell)=true then (p.1,NameKind.cell) else (p.1,p.2)).lookup x=some k ->
 ∃ k0,names.lookup x=some k0/\(k=k0\/(k0=.free/\k=.cell))
 | [],h=>by simp at h
 | (n,k1)::r,h=>by
   rw [List.map_cons] at h
   by_cases hc:(k1 == NameKind.free && env.scope.kind == .function && env.kindOf n == some .cell)=true
   · have hk:k1=.free:=by
      have h1:=hc
      rw [Bool.and_eq_true,Bool.and_eq_true] at h1
      simpa using h1.1.1
     rw [if_pos hc,List.lookup_cons] at h
     rw [List.lookup_cons]
     cases hx:x == n with
     | true=>rw [hx] at h; exact ⟨k1,rfl,.inr ⟨hk,by simpa using h.symm⟩⟩
     | false=>rw [hx] at h; exact Gw h
   · rw [if_neg hc,List.lookup_cons] at h
     rw [List.lookup_cons]
     cases hx:x == n with
     | true=>rw [hx] at h; exact ⟨k1,rfl,.inl (by simpa using h.symm)⟩
     | false=>rw [hx] at h; exact Gw h
theorem Zb7 {env:Env} {x:Str}:∀ {names:List (Str×NameKind)},names.lookup x=some .free ->
 ∃ k,(names.map λ (p:Str×NameKind)=>if (p.2 == NameKind.free && env.scope.kind == .function && env.kindOf p.1 == some .cell)=true then (p.1,NameKind.cell) else (p.1,p.2)).lookup x=some k/\(k=.cell\/k=.free)
 | [],h=>by simp at h
 | (n,k1)::r,h=>by
   rw [List.map_cons]
   rw [List.lookup_cons] at h
   by_cases hc:(k1 == NameKind.free && env.scope.kind == .function && env.kindOf n == some .cell)=true
   · rw [if_pos hc,List.lookup_cons]
     cases hx:x == n with
     | true=>exact ⟨_,rfl,.inl rfl⟩
     | false=>rw [hx] at h; exact Zb7 h
   · rw [if_neg hc,List.lookup_cons]
     cases hx:x == n with
     | true =>
       rw [hx] at h
       have hk:k1=.free:=by simpa using h
       exact ⟨_,rfl,.inr hk⟩
     | false=>rw [hx] at h; exact Zb7 h
section
variable {X:Cx} {pins:List (Addr×Obj)} {σ:St} {H:Hp} {s:Shared} {N:List Str} {l:List (Option Nat)} {scope:Scope} {cl:List (Str×Addr)} {fp:List Addr}
theorem Zxf (S:CompScope X N l scope) (I:Inv X pins σ H s) (c1:∀ x c,cl.lookup x=some c->X.env.cells.lookup x=some c) (c2:∀ y∈scope.names,y.2=.free->∃ c,cl.lookup y.1=some c)
 (f:∀ b∈fp,FpOk X pins H b) (fo:∀ b∈fp,∃ o,s.heap.get? b=some o) {h':Heap} {m:Str->Option Value} (hn:h'.Ns s.heap.objs.size m) (hk:∀ b o,s.heap.get? b=some o->h'.get? b=some o) (t':Nat) :
 Inv (Ws X N scope cl s.heap.objs.size s H fp) [] (Xn l σ) H { s with heap:=h',toks:=t' }:=by
 have cellH:∀ x c,cl.lookup x=some c->∃ v,h'.IsCell c v:=λ x c e=>by
  obtain ⟨v,o,ho,hd⟩:=I.cell x c (c1 x c e)
  exact ⟨v,o,hk c o ho,hd⟩
 have fr:∀ b∈fp,b<s.heap.objs.size:=λ b hb=>by
  obtain ⟨o,e⟩:=fo b hb
  exact Heap.lt_size e
 refine ⟨⟨I.ok.mod,S.kind,I.ok.glob,I.ok.blt,Nat.le_refl _,λ x y c h1 h2=>I.ok.inj x y c (c1 x c h1) (c1 y c h2),λ x hx=>?_,λ x c h=>(nomatch h),I.ok.hd,I.ok.frames,.inl rfl,λ b hb=>⟨Nat.ne_of_lt (fr b hb),λ x c e=>(f b hb).2.2.2.2.1 x c (c1 x c e)⟩,
  I.bs,Nat.le_trans I.ok.bsz I.sz,λ b o e hb=>?_,λ b hb hf=>?_,I.stack,I.stkFree⟩,
  rfl,I.bare,Un.kept hk,⟨m,hn,λ i x v e1 e2 e3=>?_⟩,cellH,I.hok.fresh (Nat.le_refl _),λ x c e=>I.freeC x c (c1 x c e),λ p hp=>absurd (show p∈([]:List (Addr×Obj)) from hp) (by simp),I.hok.kept hk,(Zu7 l σ).trans S.nm.len⟩
 · have hx2:(relabel scope X.env).names.lookup x=some .cell\/(relabel scope X.env).names.lookup x=some .free:=hx
   have fin:∀ k,(relabel scope X.env).names.lookup x=some k->(k=.cell\/k=.free)->∃ c,cl.lookup x=some c:=λ k e hk=>by
    obtain ⟨k0,e0,q⟩:=Gw (names:=scope.names) (env:=X.env) (x:=x) (k:=k) e
    have hm:=PySem.mem_of_lookup e0
    have nc:=List.all_eq_true.mp S.nocell _ hm
    have hfree:k0=.free:=by
     rcases q with q | q
     · subst q
       rcases hk with z | z
       · subst z; simp at nc
       · exact z
     · exact q.1
    exact c2 _ hm hfree
   rcases hx2 with z | z
   · exact fin _ z (.inl rfl)
   · exact fin _ z (.inr rfl)
 · rcases (f b hb).2.2.2.1 with z | z
   · exact I.ok.noex b o e z
   · exact absurd (Nat.lt_of_lt_of_le (Heap.lt_size e) (Nat.le_trans I.ok.bsz z)) (Nat.lt_irrefl _)
 · rcases List.mem_cons.mp (I.stkSub b hf) with z | z
   · exact (f b hb).2.1 z
   · exact (f b hb).2.2.1 z
 · obtain ⟨k,g1,g2⟩:=Zu8 e2
   obtain ⟨n1,n2,n3⟩:=S.nm.get e1 g1
   obtain ⟨mx,_,hl⟩:=I.loc
   have vis:Vis X.env.scope x:=.inr n2
   obtain ⟨u,r,lk⟩:=hl k x v n1 g2 vis
   refine ⟨u,r,?_⟩
   obtain ⟨kk,e4,e5⟩:=Zb7 (env:=X.env) n3
   obtain ⟨c,ec⟩:=c2 _ (PySem.mem_of_lookup n3) rfl
   have kf:(compEnvC scope cl s.heap.objs.size X.env).kindOf x=some .cell\/(compEnvC scope cl s.heap.objs.size X.env).kindOf x=some .free:=by
    rcases e5 with z | z
    · exact .inl (z ▸ e4)
    · exact .inr (z ▸ e4)
   refine .inr ⟨kf,c,ec,?_⟩
   rcases lk with ⟨k1,_⟩ | ⟨_,c',e',⟨o,ho,hd⟩⟩
   · have k1':X.env.scope.names.lookup x=some .local:=k1
     rcases n2 with z | z <;> (rw [z] at k1'; cases k1')
   · have ee:=c1 x c ec
     rw [e'] at ee
     have ee':c'=c:=Option.some.inj ee
     subst ee'
     exact ⟨o,hk _ o ho,hd⟩
theorem Zxr {C:Addr} {σ':St} {H':Hp} {s':Shared} (I:Inv X pins σ H s) (f:∀ b∈fp,FpOk X pins H b) (J:Inv (Ws X N scope cl C s H fp) [] σ' H' s'):Inv X pins σ H' s' :=
 I.call' (ch:=fp) J.os J.base J.hok J.bare λ b hb=>⟨(f b hb).2.2.2.1,(f b hb).2.1,(f b hb).2.2.2.2.1,(f b hb).2.2.2.2.2⟩
theorem Zml {σ2:St} {H':Hp} {s':Shared} {h'':Heap} (I:Inv X pins σ H s) (hf:H' s.heap.objs.size=none) (I':Inv X pins σ2 H' s') (sb:Heap.SameBut s.heap.objs.size s'.heap h''):Inv X pins σ2 H' { s' with heap:=h'' }:=by
 refine I'.turned (t':=s'.toks) (it:=s.heap.objs.size) (λ b o hb e=>(sb.2 b hb).trans e) hf (Nat.ne_of_gt I.lt) (.inr I.sz) (λ x c e z=>?_) λ p hp z=>?_
 · obtain ⟨v,q⟩:=I.cell x c e
   exact absurd q.lt (by rw [z]; exact Nat.lt_irrefl _)
 · exact absurd (Heap.lt_size (I.pin p hp).1) (by rw [z]; exact Nat.lt_irrefl _)
end
def Zqz (ifs:List Expr) (env:Env):Sem Bool:=forIn ifs true λ c r=>if r=true then do let ok ← isTrue c env (eval c env); pure (ForInStep.yield ok) else pure (ForInStep.yield r)
abbrev NoX:Value->Shared->Prop:=λ _ _=>False
theorem Zvm {prog:Program} {w:World} {A:Around} {R:Result->Shared->Prop} {s:Shared} {elt target iter:Expr} {ifs:List Expr} {scope:Scope} {pos:Pos} {it acc:Value} {env:Env} (Iv:Nat->Shared->Prop)
 (turn:∀ n s,Iv n s->wpAny (model prog w) A (pyNext it) (λ r s1=>match r with
  | none=>R (.ok .next) s1
  | some v=>wpAny (model prog w) A (letOwnedTupleGo target it v) (λ _ s2=>wpAny (model prog w) A (assign target env v) (λ _ s3=>wpAny (model prog w) A (Zqz ifs env) (λ ok s4 =>
   if ok=true then wpAny (model prog w) A (eval elt env) (λ x s5=>wpAny (model prog w) A (call (.builtin "list.append") [acc,x]) (λ _ s6=>∃ m,m<n/\Iv m s6) NoX s5) NoX s4
   else ∃ m,m<n/\Iv m s4) NoX s3) NoX s2) NoX s1) NoX s)
 (n:Nat) (h:Iv n s):codeAny (model prog w) A (.compLoop (.ListComp elt [⟨target,iter,ifs,0⟩] scope pos) 0 it acc env) R s:=by
 refine codeAny_loop rfl Iv (λ n s hI=>?_) n h
 show wpAny (model prog w) A ((compTurn (.ListComp elt [⟨target,iter,ifs,0⟩] scope pos) 0 it acc env).onRaise λ x=>(noteFrame x env >>= λ _=>theTreesLotGoes x)) _ _ s
 refine wpAny_noted (wpAny_mono ?_ (λ _ _ q=>q) λ _ _ q=>False.elim q)
 rw [compTurn_list]
 refine wpAny_bind (wpAny_standAt (wpAny_bind (thn (turn n s hI) λ r s1 h1=>?_)))
 cases r with
 | none=>exact wpAny_pure h1
 | some v =>
   refine wpAny_bind (thn h1 λ _ s2 h2=>wpAny_bind (thn h2 λ _ s3 h3=>wpAny_bind (thn h3 λ ok s4 h4=>?_)))
   cases ok with
   | false=>exact wpAny_pure ⟨rfl,h4⟩
   | true=>exact wpAny_bind (wpAny_bind (thn h4 λ x s5 h5=>wpAny_bind (thn h5 λ _ s6 h6=>wpAny_pure (wpAny_pure ⟨rfl,h6⟩))))
def PIfs (X:Cx) (ifs:List Expr) (t:TT):Prop :=
 ∀ (pins:List (Addr×Obj)) (s:Shared) (σ:St) (H:Hp) (Q:Bool->Hp->Prop),Inv X pins σ H s->t σ H Q->wpAny (model X.prog X.w) X.A (Zqz ifs X.env) (TP X pins σ Q) X.xe s
def Qd:TT:=λ _ H Q=>Q true H
theorem Xc {X:Cx}:PIfs X [] Qd:=λ _ _ _ H _ I h=>wpAny_pure ⟨H,I,h⟩
theorem Zg7 {X:Cx} {c:Expr} {t:TT} (hc:PT X c t):PIfs X [c] t:=λ pins s σ H Q I h=>wpAny_tests_one (hc pins s σ H Q I h)
abbrev CompW:=Nat->Nat->List V->St->Hp->Prop
def Q7 (J:It) (g:TG) (tc:TT) (te:TE) (D:Addr) (W:CompW) (Q:Hp->Prop):Prop :=
 ∀ i m ys σ H,W i m ys σ H->H D=some (.lst ys)/\((J.stop i H/\Q H)\/(J.go i H/\∃ (A:V->St->Hp->Prop) (B:St->Hp->Prop),
   (∀ v σ2 H4,A v σ2 H4->H4 D=some (.lst ys)/\ys.length<sizeLine/\∃ m',m'<m/\W (i+1) m' (ys++[v]) σ2 (upd H4 D (.lst (ys++[v]))))/\(∀ σ2 H3,B σ2 H3->∃ m',m'<m/\W (i+1) m' ys σ2 H3) /\
   ∀ x H',J.yld i H x H'->g x σ H' λ σ2 H2=>tc σ2 H2 λ b H3=>if b=true then te σ2 H3 λ v H4=>A v σ2 H4 else B σ2 H3))
def Xg (l:List (Option Nat)) (wi:TI) (g:TG) (tc:TT) (te:TE):TE:=λ σ H Q=>wi σ H λ J H1=>∀ D,H1 D=none->∃ W:CompW,(∃ m,W 0 m [] (Xn l σ) (upd H1 D (.lst [])))/\Q7 J g tc te D W λ H'=>Q (.ref D) H'
section
variable {X:Cx} {tg elt iter:Expr} {ifs:List Expr} {N:List Str} {l:List (Option Nat)} {scope:Scope} {pos:Pos} {wi:TI} {g:TG} {tc:TT} {te:TE}
theorem Zkp {cl:List (Str×Addr)} {pins:List (Addr×Obj)} {σ:St} {H:Hp} {s:Shared} {J:It} {fp:List Addr} {it:Addr} {tn:Nat->Heap->Prop} {RR:Value->Addr->Result->Shared->Prop} {Q:Addr->Hp->Prop} {E:Value->Shared->Prop}
 (hc:X.calm=true) (S:CompScope X N l scope) (c1:∀ x c,cl.lookup x=some c->X.env.cells.lookup x=some c) (c2:∀ y∈scope.names,y.2=.free->∃ c,cl.lookup y.1=some c)
 (hg:∀ C s H ex,PG (Ws X N scope cl C s H ex) tg g) (hi:∀ C s H ex,PIfs (Ws X N scope cl C s H ex) ifs tc) (he:∀ C s H ex,PE (Ws X N scope cl C s H ex) elt te)
 (I:Inv X pins σ H s) (T:Turn X.prog X.w X.K tg J fp it tn) (t0:tn 0 s.heap) (f:∀ b∈fp,FpOk X pins H b)
 (hW:∀ D,H D=none->∃ W:CompW,(∃ m,W 0 m [] (Xn l σ) (upd H D (.lst [])))/\Q7 J g tc te D W (Q D))
 (hR:∀ D s0 H' s',Inv X pins σ (upd H D (.lst [])) s0->Inv X pins σ H' s'->H' s0.heap.objs.size=none->(∃ m,s'.heap.Ns s0.heap.objs.size m)->Q D H'->RR (.ref D) s0.heap.objs.size (.ok .next) s') :
 wpAny (model X.prog X.w) X.A (newList []) (λ acc s3=>wpAny (model X.prog X.w) X.A (newFunctionEnv scope X.env.globals cl [] X.env.qual none .none (some X.env)) (λ cenv s4 =>
  codeAny (model X.prog X.w) X.A (.compStart (.ListComp elt [⟨tg,iter,ifs,0⟩] scope pos) 0 (.ref it) acc { cenv with scope:=relabel scope X.env }) (RR acc cenv.locals) s4) E s3) E s:=by
 refine wpAny_newObj_type (wpAny_newFunctionEnv (λ y hy=>by have:=List.all_eq_true.mp S.nocell y hy; simpa using this) (λ y hy=>absurd hy (by simp)) (λ h4 hn4 sb4=>?_) S.kind)
 have kept3:∀ b u,s.heap.get? b=some u->(s.heap.push { cls:=.type "list",dict:=none,data:=.seq ([]:List Value).toArray }).get? b=some u:=λ b u e=>Heap.get?_push_of_some _ e
 have hD:H s.heap.objs.size=none:=I.hok.fresh (Nat.le_refl _)
 have I3:Inv X pins σ (upd H s.heap.objs.size (.lst [])) { s with heap:=s.heap.push { cls:=.type "list",dict:=none,data:=.seq ([]:List Value).toArray } } :=
  I.laid (t':=s.toks) kept3 (Nat.le_refl _) ⟨Nat.zero_le _,[],0,.nil,Heap.get?_push_size _ rfl⟩
 generalize hh3:s.heap.push { cls:=.type "list",dict:=none,data:=.seq ([]:List Value).toArray }=h3 at kept3 I3 hn4 sb4 ⊢
 have fpIn:∀ b∈fp,∃ o,s.heap.get? b=some o:=λ b hb=>let ⟨o,e,_⟩:=T.obj _ _ t0 b hb; ⟨o,e⟩
 have f3:∀ b∈fp,FpOk X pins (upd H s.heap.objs.size (.lst [])) b:=λ b hb=>by
  obtain ⟨o,e⟩:=fpIn b hb
  exact ⟨by rw [Z5 (Nat.ne_of_lt (Heap.lt_size e))]; exact (f b hb).1,(f b hb).2⟩
 have kept4:∀ b o,h3.get? b=some o->h4.get? b=some o:=λ b o e=>sb4.extBut b o (Nat.ne_of_lt (Heap.lt_size e)) (Heap.get?_push_of_some _ e)
 have J4:=Zxf S I3 c1 c2 f3 (λ b hb=>let ⟨o,e⟩:=fpIn b hb; ⟨o,kept3 b o e⟩) hn4 kept4 (s.toks+([]:List (Str×Value)).length)
 have t4:tn 0 h4:=T.keep _ _ _ t0 λ b _ o e=>kept4 b o (kept3 b o e)
 obtain ⟨W,⟨m0,w0⟩,step⟩:=hW _ hD
 have loop:∀ s4:Shared,s4={ s with heap:=h4,toks:=s.toks+([]:List (Str×Value)).length } ->
  codeAny (model X.prog X.w) X.A (.compLoop (.ListComp elt [⟨tg,iter,ifs,0⟩] scope pos) 0 (.ref it) (.ref s.heap.objs.size) (compEnvC scope cl h3.objs.size X.env)) (RR (.ref s.heap.objs.size) h3.objs.size) s4:=by
  rintro s4 rfl
  generalize hY:Ws X N scope cl h3.objs.size { s with heap:=h3 } (upd H s.heap.objs.size (.lst [])) fp=Y at J4
  have eP:Y.prog=X.prog:=by rw [← hY]; rfl
  have ew:Y.w=X.w:=by rw [← hY]; rfl
  have eK:Y.K=X.K:=by rw [← hY]; rfl
  have ec:Y.calm=true:=by rw [← hY]; exact hc
  have eA:Y.A=X.A:=by rw [← hY]; rfl
  have ee:Y.env=compEnvC scope cl h3.objs.size X.env:=by rw [← hY]; rfl
  have ex:Y.xe=NoX:=by rw [← hY]; rfl
  have stat:∀ {H':Hp},(∀ b∈fp,H' b=none)->∀ b∈fp,FpOk Y [] H' b:=λ {H'} hn b hb=>by
   rw [← hY]
   obtain ⟨o,e⟩:=fpIn b hb
   refine ⟨hn b hb,Nat.ne_of_lt (Heap.lt_size (kept3 b o e)),λ z=>?_,.inl hb,λ x c q=>(f3 b hb).2.2.2.2.1 x c (c1 x c q),λ p hp=>absurd (show p∈([]:List (Addr×Obj)) from hp) (by simp)⟩
   rcases List.mem_cons.mp (I3.stkSub b z) with q | q
   · exact (f3 b hb).2.1 q
   · exact (f3 b hb).2.2.1 q
  refine Zvm (λ n s'=>∃ i ys σ' H',Inv Y [] σ' H' s'/\tn i s'.heap/\(∀ b∈fp,H' b=none)/\W i n ys σ' H') ?_ m0 ⟨0,[],Xn l σ,_,J4,t4,λ b hb=>(f3 b hb).1,w0⟩
  rintro n s5 ⟨i,ys,σ5,H5,J5,t5,fr5,w5⟩
  obtain ⟨hDl,st⟩:=step i n ys σ5 H5 w5
  rw [← eP,← ew,← eA,← ee]
  rcases st with ⟨stop,q⟩ | ⟨go,NA,NB,hA,hB,nxt⟩
  · have d:=T.done Y eP ew eK ec i [] s5 σ5 H5 NoX J5 (stat fr5) t5 stop
    rw [← eP,← ew] at d
    refine thn d λ r s6 ⟨hr,J6⟩=>?_
    subst hr
    rw [← hY] at J6
    obtain ⟨m6,n6,_⟩:=J6.loc
    exact hR _ { s with heap:=h3 } H5 s6 I3 (Zxr I3 f3 J6) J6.free ⟨m6,n6⟩ q
  · have d:=T.item Y eP ew eK ec i [] s5 σ5 H5 NoX J5 (stat fr5) t5 go
    rw [← eP,← ew] at d
    refine thn d λ r s6 ⟨u,hr,h6⟩=>?_
    subst hr
    refine thn h6 λ _ s7 ⟨x,H7,J7,r7,y7,t7,fr7⟩=>?_
    have J7':=J7.pinned (stat fr7) (T.obj _ _ t7)
    have back:∀ {σ8:St} {H8:Hp} {s8:Shared},Inv Y ([]++Zgn fp s7.heap) σ8 H8 s8->tn (i+1) s8.heap/\(∀ b∈fp,H8 b=none):=λ {σ8 H8 s8} J8=>by
     refine ⟨T.keep _ _ _ t7 λ b hb o e=>(J8.pin (b,o) (List.mem_append_right _ (List.mem_append_right _ (Za1 hb e)))).1,λ b hb=>?_⟩
     obtain ⟨o,e,_⟩:=T.obj _ _ t7 b hb
     exact (J8.pin (b,o) (List.mem_append_right _ (List.mem_append_right _ (Za1 hb e)))).2.1
    have hg':PG Y tg g:=by rw [← hY]; exact hg _ _ _ _
    have hi':PIfs Y ifs tc:=by rw [← hY]; exact hi _ _ _ _
    have he':PE Y elt te:=by rw [← hY]; exact he _ _ _ _
    have a7:=hg' _ s7 σ5 H7 x u _ J7' r7 (nxt x H7 y7)
    rw [ex] at a7
    refine thn a7 λ _ s8 ⟨σ8,H8,J8,q8⟩=>?_
    have a8:=hi' _ s8 σ8 H8 _ J8 q8
    rw [ex] at a8
    refine thn a8 λ ok s9 ⟨H9,J9,q9⟩=>?_
    cases ok with
    | false =>
      have q9':NB σ8 H9:=by simpa using q9
      obtain ⟨m',hm,w9⟩:=hB _ _ q9'
      obtain ⟨t9,fr9⟩:=back J9
      show ∃ m,m<n/\_
      exact ⟨m',hm,i+1,ys,σ8,H9,J9.unpinned,t9,fr9,w9⟩
    | true =>
      rw [if_pos rfl] at q9
      show wpAny _ _ (eval elt Y.env) _ _ s9
      have a9:=he' _ s9 σ8 H9 _ J9 q9
      rw [ex] at a9
      refine thn a9 λ xv s10 ⟨v,H10,J10,r10,q10⟩=>?_
      obtain ⟨hD10,hz,m',hm,w10⟩:=hA _ _ _ q10
      have a10:=Ua _ s10 σ8 H10 (.ref s.heap.objs.size) [v] (.ref s.heap.objs.size) [xv] (λ _ H'=>H'=upd H10 s.heap.objs.size (.lst (ys++[v]))) J10 rfl (.cons r10 .nil) ⟨_,ys,v,rfl,rfl,hD10,hz,rfl⟩
      rw [ex] at a10
      refine thn a10 λ _ s11 ⟨_,H11,J11,_,e11⟩=>?_
      subst e11
      obtain ⟨t11,fr11⟩:=back J11
      exact ⟨m',hm,i+1,ys++[v],σ8,_,J11.unpinned,t11,fr11,w10⟩
 exact codeAny_compStart_list (loop _ rfl) (T.self _ 0 _ _ _ t4 (loop _ rfl))
theorem Zko {pins:List (Addr×Obj)} {σ:St} {H:Hp} {s:Shared} (S:CompScope X N l scope) (I:Inv X pins σ H s) :
 ∃ cl,closureFor scope X.env=pure cl/\(∀ x c,cl.lookup x=some c->X.env.cells.lookup x=some c)/\∀ y∈scope.names,y.2=.free->∃ c,cl.lookup y.1=some c:=by
 refine Ztn λ y hy hf=>?_
 have q:=List.all_eq_true.mp S.fre y hy
 rw [hf] at q
 have q2:(X.env.scope.names.lookup y.1 == some .cell || X.env.scope.names.lookup y.1 == some .free)=true:=by simpa using q
 rw [Bool.or_eq_true] at q2
 rcases q2 with z | z
 · exact I.ok.has y.1 (.inl (show X.env.scope.names.lookup y.1=some .cell by simpa using z))
 · exact I.ok.has y.1 (.inr (show X.env.scope.names.lookup y.1=some .free by simpa using z))
theorem Zho (S:CompScope X N l scope):∀ y∈scope.names,y.2=.local->scope.names.lookup y.1=some .local:=λ y hy hl=>by
 have q:=List.all_eq_true.mp S.loc y hy
 rw [hl] at q
 simpa using q
theorem Xl (hc:X.calm=true) (S:CompScope X N l scope) (hw:PI X tg iter wi)
 (hg:∀ cl C s H ex,PG (Ws X N scope cl C s H ex) tg g) (hi:∀ cl C s H ex,PIfs (Ws X N scope cl C s H ex) ifs tc) (he:∀ cl C s H ex,PE (Ws X N scope cl C s H ex) elt te)
 (hs:∀ x,foldedSetIterable iter X.env x=pure x:=by intro _; rfl):PE X (.ListComp elt [⟨tg,iter,ifs,0⟩] scope pos) (Xg l wi g tc te):=by
 intro pins s σ H Q I h
 obtain ⟨cl,e1,c1,c2⟩:=Zko S I
 rw [eval_ListComp]
 refine wpAny_comprehension_free (use:=none) rfl hs e1 S.kind (Zho S) (thn (hw pins s σ H _ I h) λ v s1 h1=>thn h1 λ itv s2 h2=>?_)
 obtain ⟨it,fp,tn,J,H2,e,I2,T,st2,f2,hW⟩:=h2
 subst e
 refine Zkp hc S c1 c2 (hg cl) (hi cl) (he cl) I2 T st2 f2 hW λ D s0 H' s' I0 I' hf hns q=>?_
 obtain ⟨m,hm⟩:=hns
 exact ⟨m,hm,λ h'' sb=>⟨.ref D,H',Zml I0 hf I' sb,rfl,q⟩⟩
theorem Ul {i:Nat} {x:Str} {pos' pos2:Pos} (hc:X.calm=true) (hN:X.N.Nodup) (hi':X.N[i]?=some x) (hx:X.env.scope.names.lookup x=some .local) (S:CompScope X N l scope) (hw:PI X tg iter wi)
 (hg:∀ cl C s H ex,PG (Ws X N scope cl C s H ex) tg g) (hi:∀ cl C s H ex,PIfs (Ws X N scope cl C s H ex) ifs tc) (he:∀ cl C s H ex,PE (Ws X N scope cl C s H ex) elt te)
 (hsw:swapsWith (.ListComp elt [⟨tg,iter,ifs,0⟩] scope pos) (some (.Name x pos')) pos2.line X.env=pure true:=by rfl)
 (hs:∀ x,foldedSetIterable iter X.env x=pure x:=by intro _; rfl):PS X (.Assign [.Name x pos'] (.ListComp elt [⟨tg,iter,ifs,0⟩] scope pos) pos2) (Yi (Xg l wi g tc te) (Zo i)):=by
 intro pins s σ H D I h
 obtain ⟨cl,e1,c1,c2⟩:=Zko S I
 rw [exec_Assign_Name_used _ _ _ _ hsw]
 refine wpAny_bind (wpAny_standAt (wpAny_bind ?_))
 show wpAny _ X.A (comprehension (.ListComp elt [⟨tg,iter,ifs,0⟩] scope pos) scope X.env _ (newList []) false (eval iter X.env) (some (assign (.Name x pos') X.env)) >>= λ _=>_) _ _ s
 refine wpAny_bind (thn (wpAny_comprehension_free (use:=some (assign (.Name x pos') X.env)) (Q:=λ _ s'=>SP X pins D .next s') rfl hs e1 S.kind (Zho S) (thn (hw pins s σ H _ I h) λ v s1 h1=>thn h1 λ itv s2 h2=>?_)) λ _ s' hq=>wpAny_pure (wpAny_pure hq))
 obtain ⟨it,fp,tn,J,H2,e,I2,T,st2,f2,hW⟩:=h2
 subst e
 refine Zkp hc S c1 c2 (hg cl) (hi cl) (he cl) I2 T st2 f2 hW λ L s0 H' s' I0 I' hf hns q=>?_
 obtain ⟨m,hm⟩:=hns
 show wpAny _ X.A (assign (.Name x pos') X.env (.ref L)) _ _ s'
 refine wpAny_assign_Name (Zl7 I' hN hi' (.inl hx) (v:=.ref L) rfl (λ s2 I2 hsb=>?_) (.inr hx))
 obtain ⟨a,sb,ha⟩:=hsb
 have hne:s0.heap.objs.size≠a:=by
  rcases ha with z | z
  · rw [z]; exact Nat.ne_of_gt I0.lt
  · obtain ⟨v,cc⟩:=I0.cell x a z
    exact Nat.ne_of_gt cc.lt
 exact ⟨m,hm.sameBut sb hne,λ h'' sb2=>⟨_,H',Zml I0 hf I2 sb2,q⟩⟩
end
theorem Zkn {lo:Int} {n:Nat} {l:List (Option Nat)} {g:TG} {tc:TT} {te:TE} {σ:St} {H1:Hp} {Q:Hp->Prop} (D:Addr) (Pv:Nat->List V->St->Hp->Prop) (hn:n<=1000) (hy:∀ i ys σ H,Pv i ys σ H->ys.length<=i) (h0:Pv 0 [] (Xn l σ) (upd H1 D (.lst [])))
 (hs:∀ i ys σ H,i<n->Pv i ys σ H->H D=some (.lst ys)->g (.int (lo+i)) σ H λ σ2 H2=>tc σ2 H2 λ b H3 =>
  if b=true then te σ2 H3 λ v H4=>H4 D=some (.lst ys)/\Pv (i+1) (ys++[v]) σ2 (upd H4 D (.lst (ys++[v]))) else H3 D=some (.lst ys)/\Pv (i+1) ys σ2 H3)
 (hd:∀ ys σ H,Pv n ys σ H->H D=some (.lst ys)->Q H) :
 ∃ W:CompW,(∃ m,W 0 m [] (Xn l σ) (upd H1 D (.lst [])))/\Q7 (Itr lo n) g tc te D W Q:=by
 refine ⟨λ i m ys σ H=>m=n-i/\i<=n/\H D=some (.lst ys)/\Pv i ys σ H,⟨n,by simp,Nat.zero_le _,Zn,h0⟩,?_⟩
 rintro i m ys σ H ⟨rfl,hi,hD,p⟩
 refine ⟨hD,?_⟩
 by_cases hlt:i<n
 · refine .inr ⟨hlt,λ v σ2 H4=>H4 D=some (.lst ys)/\Pv (i+1) (ys++[v]) σ2 (upd H4 D (.lst (ys++[v]))),λ σ2 H3=>H3 D=some (.lst ys)/\Pv (i+1) ys σ2 H3,λ v σ2 H4 q=>?_,λ σ2 H3 q=>⟨n-(i+1),by omega,rfl,hlt,q⟩,λ x H' y=>?_⟩
   · exact ⟨q.1,Ql (Nat.le_trans (hy _ _ _ _ p) (by omega)),n-(i+1),by omega,rfl,hlt,Zn,q.2⟩
   · obtain ⟨e,y⟩:=y
     subst e y
     exact hs i ys σ _ hlt p hD
 · have e:i=n:=by omega
   subst e
   exact .inl ⟨Nat.le_refl _,hd ys σ H p hD⟩
theorem Zfd {J:It} {l:List (Option Nat)} {g:TG} {tc:TT} {te:TE} {σ:St} {H1:Hp} {Q:Hp->Prop} (D:Addr) (xs:List V) (Pv:Nat->List V->St->Hp->Prop) (hn:xs.length<=1000) (hy:∀ i ys σ H,Pv i ys σ H->ys.length<=i)
 (hJ:∀ i ys σ H,Pv i ys σ H->H D=some (.lst ys)->(∀ x,xs[i]?=some x->J.go i H/\∀ y H',J.yld i H y H'->H'=H/\y=x)/\(xs.length<=i->J.stop i H)) (h0:Pv 0 [] (Xn l σ) (upd H1 D (.lst [])))
 (hs:∀ i x ys σ H,xs[i]?=some x->Pv i ys σ H->H D=some (.lst ys)->g x σ H λ σ2 H2=>tc σ2 H2 λ b H3 =>
  if b=true then te σ2 H3 λ v H4=>H4 D=some (.lst ys)/\Pv (i+1) (ys++[v]) σ2 (upd H4 D (.lst (ys++[v]))) else H3 D=some (.lst ys)/\Pv (i+1) ys σ2 H3)
 (hd:∀ ys σ H,Pv xs.length ys σ H->H D=some (.lst ys)->Q H) :
 ∃ W:CompW,(∃ m,W 0 m [] (Xn l σ) (upd H1 D (.lst [])))/\Q7 J g tc te D W Q:=by
 refine ⟨λ i m ys σ H=>m=xs.length-i/\i<=xs.length/\H D=some (.lst ys)/\Pv i ys σ H,⟨xs.length,by simp,Nat.zero_le _,Zn,h0⟩,?_⟩
 rintro i m ys σ H ⟨rfl,hi,hD,p⟩
 refine ⟨hD,?_⟩
 by_cases hlt:i<xs.length
 · obtain ⟨hg,hyl⟩:=(hJ i ys σ H p hD).1 xs[i] (by simp [hlt])
   refine .inr ⟨hg,λ v σ2 H4=>H4 D=some (.lst ys)/\Pv (i+1) (ys++[v]) σ2 (upd H4 D (.lst (ys++[v]))),λ σ2 H3=>H3 D=some (.lst ys)/\Pv (i+1) ys σ2 H3,λ v σ2 H4 q=>?_,λ σ2 H3 q=>⟨xs.length-(i+1),by omega,rfl,hlt,q⟩,λ x H' y=>?_⟩
   · exact ⟨q.1,Ql (Nat.le_trans (hy _ _ _ _ p) (by omega)),xs.length-(i+1),by omega,rfl,hlt,Zn,q.2⟩
   · obtain ⟨e,e2⟩:=hyl x H' y
     subst e e2
     exact hs i _ ys σ _ (by simp [hlt]) p hD
 · have e:i=xs.length:=by omega
   subst e
   exact .inl ⟨(hJ _ ys σ H p hD).2 (Nat.le_refl _),hd ys σ H p hD⟩
theorem Z1p {K:Fq} {a:Addr} {xs:List V} {H:Hp} (hq:SqT K H a xs) (i:Nat) :
 (∀ x,xs[i]?=some x->(Itt K a).go i H/\∀ y H',(Itt K a).yld i H y H'->H'=H/\y=x)/\(xs.length<=i->(Itt K a).stop i H) :=
 ⟨λ x hx=>⟨⟨xs,x,hq,hx⟩,λ y H' h=>⟨h.1,by have:=h.2 xs hq; rw [hx] at this; exact (Option.some.inj this).symm⟩⟩,λ h=>⟨xs,hq,h⟩⟩
theorem Zj2 {K:Fq} {a:Addr} {xs:List V} {H:Hp} (hq:SqL K H a xs) (i:Nat) :
 (∀ x,xs[i]?=some x->(Itl K a).go i H/\∀ y H',(Itl K a).yld i H y H'->H'=H/\y=x)/\(xs.length<=i->(Itl K a).stop i H) :=
 ⟨λ x hx=>⟨⟨xs,x,hq,hx⟩,λ y H' h=>⟨h.1,by have:=h.2 xs hq; rw [hx] at this; exact (Option.some.inj this).symm⟩⟩,λ h=>⟨xs,hq,h⟩⟩
end L2
namespace L2
open PySem PySem.Spec PyProof.Rows
section
variable {X:Cx}
theorem Zzj:OpR X (binaryOp .Mult) (rI IntMulOk λ i j=>.int (i*j)):=opI λ _ _ _ _ _ _ _ hc q=>mul_int q hc
def CDivB (i j:Int):Prop:=0<j/\j.natAbs.log2<9000
theorem CDivB.of {i j:Int} (h0:0<j) (h:j<2 ^ 9000):CDivB i j:=by
 refine ⟨h0,(Nat.log2_lt (by omega)).mpr ?_⟩
 have e:((j.natAbs:Nat):Int)=j:=by omega
 have h':((j.natAbs:Nat):Int)<((2 ^ 9000:Nat):Int):=by
  rw [e]
  rw [Int.natCast_pow]; exact h
 exact Int.ofNat_lt.mp h'
theorem Zw3:OpR X (binaryOp .FloorDiv) (rI CDivB λ i j=>.int (i / j)):=opI λ i j _ _ _ _ _ hc q =>
 floordiv_int (by have:=hc.1; omega) (by rw [Int.fdiv_eq_ediv_of_nonneg i (Int.le_of_lt hc.1)]; exact q) (.inl (PyProof.noPylong_of_log2 hc.2))
theorem Zd4 {x:Int} {k:Nat} (h1:-(2 ^ k)<x) (h2:x<2 ^ k):Builtin.Int.intBits x<=k:=by
 unfold Builtin.Int.intBits
 split
 · exact Nat.zero_le _
 · rename_i hx
   have h0:x.natAbs≠0:=λ z=>hx (by simp; omega)
   have e2:((2 ^ k:Nat):Int)=(2:Int) ^ k:=by rw [Int.natCast_pow]; rfl
   have hn:x.natAbs<2 ^ k:=by
    have:((x.natAbs:Nat):Int)<((2 ^ k:Nat):Int):=by rw [e2]; omega
    exact Int.ofNat_lt.mp this
   have:=(Nat.log2_lt h0).mpr hn
   omega
theorem Z1d:OpR X (compareOp .Is) (λ x y H Q=>∃ i j,x=.bl i/\y=.bl j/\Q (.bl (i == j)) H):=by
 intro pins s σ H x y v u Q I rx ry h
 obtain ⟨i,j,rfl,rfl,q⟩:=h
 cases rx
 cases ry
 refine wpAny_is_plain rfl ⟨.bl (i == j),H,I,?_,q⟩
 show Value.bool _=Value.bool _
 cases i <;> cases j <;> rfl
theorem Zun:OpR X (compareOp .IsNot) (λ x y H Q=>∃ i j,x=.bl i/\y=.bl j/\Q (.bl (!(i == j))) H):=by
 intro pins s σ H x y v u Q I rx ry h
 obtain ⟨i,j,rfl,rfl,q⟩:=h
 cases rx
 cases ry
 refine wpAny_isNot_plain rfl ⟨.bl (!(i == j)),H,I,?_,q⟩
 show Value.bool _=Value.bool _
 cases i <;> cases j <;> rfl
theorem Inv.bigM {pins:List (Addr×Obj)} {σ:St} {H:Hp} {s:Shared} (I:Inv X pins σ H s):sysModules<s.heap.objs.size :=
 Nat.lt_trans (by decide) (I.mod.glob.keeps I.bk).lt
def Znd:TE:=λ _ H Q=>∀ p,H p=none->Q (.ref p) (upd H p (.dK []))
theorem Zrc {pos:Pos}:PE X (.Dict [] [] pos) Znd:=λ pins s σ H Q I h =>
 wpAny_Dict_empty ⟨.ref s.heap.objs.size,_,I.laid (a:=s.heap.objs.size) (o:=.dK []) (t':=s.toks) (λ _ _ q=>Heap.get?_push_of_some _ q) (Nat.le_refl _)
  ⟨Nat.zero_le _,beq_eq_false_iff_ne.mpr (Ne.symm (Nat.ne_of_lt I.bigM)),[],.nil,Heap.DictOf.new s.heap⟩,rfl,h _ (I.hok.fresh (Nat.le_refl _))⟩
def SqA (K:Fq) (H:Hp) (a:Addr) (xs:List V):Prop:=SqL K H a xs\/SqT K H a xs
theorem Zhr {pins:List (Addr×Obj)} {σ:St} {H:Hp} {s:Shared} {a:Addr} {xs:List V} {A:Around} {E:Value->Shared->Prop} {Q:Value->Shared->Prop} (hA:A.handled=none) (I:Inv X pins σ H s) (h:SqA X.K H a xs)
 (hq:∀ (its:List Value) (It:Addr) (fp wr:List Addr) (St:Nat->Heap->Prop) (s2:Shared),Vals xs its->Walks X.prog X.w A It fp wr its.length (λ i v=>its.toArray[i]?=some v) St->St 0 s2.heap->(∀ b∈fp,b<s2.heap.objs.size) ->
  (∀ h' tk,(∀ b o,b ∉ wr->s2.heap.get? b=some o->h'.get? b=some o)->Inv X pins σ H { s2 with heap:=h',toks:=tk })->Q (.ref It) s2) :
 wpAny (model X.prog X.w) A (pyIter (.ref a)) Q E s:=by
 rcases h with h | h
 · obtain ⟨its,rv,p,hz⟩:=I.list h
   have pl:=p.isList
   have hlt:a<s.heap.objs.size:=by obtain ⟨_,e,_⟩:=id pl; exact Heap.lt_size e
   refine wpAny_pyIter_list pl (hq its s.heap.objs.size _ _ _ { s with heap:=s.heap.push _ } rv (show Walks X.prog X.w A s.heap.objs.size _ _ its.toArray.size _ _ from Walks.list hA s.heap.objs.size a (Nat.ne_of_lt hlt) its.toArray) ⟨⟨_,Heap.get?_push_size _ rfl,rfl,rfl⟩,pl.push _⟩ (λ b hb=>?_) λ h' tk k=>?_)
   · show b<(s.heap.push _).objs.size
     rw [Heap.size_push]
     rcases List.mem_cons.mp hb with e | hb
     · rw [e]; exact Nat.lt_succ_self _
     · rw [List.mem_singleton.mp hb]; exact Nat.lt_succ_of_lt hlt
   · refine I.kept λ b o e=>k b o (λ z=>?_) (Heap.get?_push_of_some _ e)
     rw [List.mem_singleton.mp z] at e
     exact absurd (Heap.lt_size e) (Nat.lt_irrefl _)
 · obtain ⟨its,rv,p,hz⟩:=I.tuple h
   have pl:s.heap.IsTuple a its.toArray:=p
   have hlt:a<s.heap.objs.size:=by obtain ⟨_,e,_⟩:=id pl; exact Heap.lt_size e
   refine wpAny_pyIter_tuple pl (hq its s.heap.objs.size _ _ _ { s with heap:=s.heap.push _ } rv (show Walks X.prog X.w A s.heap.objs.size _ _ its.toArray.size _ _ from Walks.tuple hA s.heap.objs.size a (Nat.ne_of_lt hlt) its.toArray) ⟨⟨_,Heap.get?_push_size _ rfl,rfl,rfl⟩,?_⟩ (λ b hb=>?_) λ h' tk k=>?_)
   · obtain ⟨o,e,r⟩:=id pl
     exact ⟨o,Heap.get?_push_of_some _ e,r⟩
   · show b<(s.heap.push _).objs.size
     rw [Heap.size_push]
     rcases List.mem_cons.mp hb with e | hb
     · rw [e]; exact Nat.lt_succ_self _
     · rw [List.mem_singleton.mp hb]; exact Nat.lt_succ_of_lt hlt
   · refine I.kept λ b o e=>k b o (λ z=>?_) (Heap.get?_push_of_some _ e)
     rw [List.mem_singleton.mp z] at e
     exact absurd (Heap.lt_size e) (Nat.lt_irrefl _)
theorem Zmb (ns:List Int):∀ k,k<=ns.length->preSum (λ i=>ns.getD i 0) k=(ns.take k).sum
 | 0,_=>by simp [preSum]
 | k+1,h=>by
   have e:=Zmb ns k (by omega)
   show preSum _ k+ns.getD k 0=_
   rw [e,List.take_succ_eq_append_getElem (by omega:k<ns.length),List.sum_append]
   simp [List.getD,(by omega:k<ns.length)]
theorem Zd0 {ns:List Int} {its:List Value} (rv:Vals (ns.map V.int) its) {i:Nat} {v:Value} (h:its[i]?=some v):∃ t,v=.int (ns.getD i 0) t:=by
 have hl:=rv.length
 rw [List.length_map] at hl
 have hi:i<its.length:=(List.getElem?_eq_some_iff.mp h).1
 have hx:(ns.map V.int)[i]?=some (V.int (ns.getD i 0)):=by
  rw [List.getElem?_map,List.getD,List.getElem?_eq_getElem (by omega)]
  rfl
 obtain ⟨u,e1,t,e2⟩:=rv.get hx
 rw [h] at e1
 cases e1
 exact ⟨t,e2⟩
theorem Zvp (hc:X.calm=true):CallR X (.builtin "sum") (λ xs H Q=>∃ (p:Addr) (ns:List Int),xs=[.ref p]/\SqA X.K H p (ns.map V.int)/\Q (.int ns.sum) H):=by
 intro pins s σ H xs us Q I r h
 obtain ⟨p,ns,rfl,hs,q⟩:=h
 obtain ⟨u,rfl,ru⟩:=Ug r
 cases ru
 refine call_sum_walkG (Zhr (I.ok.hd hc) I hs λ its It fp wr St s2 rv W st hfp fin=>?_)
 refine ⟨It,fp,wr,its.length,_,St,λ i=>ns.getD i 0,rfl,W,st,hfp,λ i v hv=>Zd0 rv (by simpa using hv),λ h' tk t' k=>⟨.int ns.sum,H,fin h' tk k,⟨t',?_⟩,q⟩⟩
 have hl:=rv.length
 rw [List.length_map] at hl
 rw [Zmb ns its.length (by omega),← hl,List.take_length]
theorem G9 {ns:List Int} {i:Nat} (h:i<ns.length):ns.getD i 0∈ns:=by
 rw [List.getD,List.getElem?_eq_getElem h]
 exact List.getElem_mem _
theorem Zkx (ns:List Int):∀ k,argBest (λ i j=>decide (ns.getD i 0<ns.getD j 0)) k<=k/\∀ j,j<=k->ns.getD (argBest (λ i j=>decide (ns.getD i 0<ns.getD j 0)) k) 0<=ns.getD j 0
 | 0=>⟨Nat.le_refl _,λ j hj=>by have e:j=0:=by omega
                                rw [e]; exact Int.le_refl _⟩
 | k+1=>by
   obtain ⟨h1,h2⟩:=Zkx ns k
   show (if (decide _)=true then k+1 else _)<=k+1/\∀ j,j<=k+1->ns.getD (if (decide _)=true then k+1 else _) 0<=_
   split
   · rename_i c
     have c':=of_decide_eq_true c
     refine ⟨Nat.le_refl _,λ j hj=>?_⟩
     by_cases e:j=k+1
     · rw [e]; exact Int.le_refl _
     · exact Int.le_trans (Int.le_of_lt c') (h2 j (by omega))
   · rename_i c
     have c':¬ ns.getD (k+1) 0<_:=λ z=>c (decide_eq_true z)
     refine ⟨Nat.le_succ_of_le h1,λ j hj=>?_⟩
     by_cases e:j=k+1
     · rw [e]; exact Int.not_lt.mp c'
     · exact h2 j (by omega)
theorem Zvr (hc:X.calm=true):CallR X (.builtin "min") (λ xs H Q=>∃ (p:Addr) (ns:List Int),xs=[.ref p]/\SqA X.K H p (ns.map V.int)/\ns≠[]/\∀ m,m∈ns->(∀ y∈ns,m<=y)->Q (.int m) H):=by
 intro pins s σ H xs us Q I r h
 obtain ⟨p,ns,rfl,hs,ne,q⟩:=h
 obtain ⟨u,rfl,ru⟩:=Ug r
 cases ru
 have hpos:0<ns.length:=List.length_pos_iff.mpr ne
 refine call_min_walk (Zhr (I.ok.hd hc) I hs λ its It fp wr St s2 rv W st hfp fin=>?_)
 have hl:=rv.length
 rw [List.length_map] at hl
 refine ⟨It,fp,wr,its.length,_,St,λ i j=>decide (ns.getD i 0<ns.getD j 0),rfl,W,st,hfp,by omega,CmpOf.ints_lt (λ i=>ns.getD i 0) (λ i v hv=>Zd0 rv (by simpa using hv)),λ v h' tk hv k=>?_⟩
 obtain ⟨t,e⟩:=Zd0 rv (by rw [← List.getElem?_toArray]; exact hv)
 obtain ⟨b1,b2⟩:=Zkx ns (its.length-1)
 refine ⟨.int _,H,fin h' tk k,⟨t,e⟩,q _ ?_ λ y hy=>?_⟩
 · exact G9 (by omega)
 · obtain ⟨j,hj,ej⟩:=List.mem_iff_getElem.mp hy
   have:=b2 j (by omega)
   rw [show ns.getD j 0=y by rw [List.getD,List.getElem?_eq_getElem hj]; exact ej] at this
   exact this
end
end L2
namespace L2
open PySem PySem.Spec PyProof.Rows
def Fn (P:Program) (w:World) (K:Fq) (mg:Str->Option Value) (base:Heap) (CX:CXT) (x:Str) (k:Nat) (ps:List Str) (sp:Sp):Prop :=
 ∃ f fd,FnOk P w K mg base CX k f fd ps sp/\mg x=some (.ref f)/\PySem.W.keepIn K (.ref f)=true/\Binds K fd ps []
def Df (K:Fq) (mg:Str->Option Value) (x:Str) (st:Stmt):Prop:=∃ f fd,Fun K x x st f fd/\mg x=some (.ref f)
theorem Zyj {K:Fq} {mg:Str->Option Value} {h:Heap} {x:Str} {st:Stmt} {f:Addr} {oc:Value} {od an:Option Addr} {osl:Array (Option Value)} {kV doc pm cdv ct:Value} (X:K.In h) (G:h.Ns mainGlobals mg)
 (a:PySem.W.nsIn K mainGlobals x=some (some (.ref f))) (l:K.lookup f=some ⟨oc,od,.func (PySem.W.fnOf x x (Q4 st) (X7 st) (Zu st) .none kV doc pm an cdv ct),osl⟩)
 (c:PySem.W.codeIn K cdv x=true) (k:PySem.W.keepIn K (.ref f)=true):Df K mg x st:=⟨f,_,Z1r l c k,PySem.W.mg_of X G a⟩
section
variable {P:Program} {w:World} {K:Fq} {mg:Str->Option Value} {base:Heap}
theorem Df.to {CX:CXT} {x:Str} {st:Stmt} {ps:List Str} {k:Nat} {sp:Sp} (D:Df K mg x st) (h:∀ {f:Addr} {fd:FuncData},Fun K x x st f fd->FnOk P w K mg base CX k f fd ps sp)
 (hb:∀ (kV doc pm:Value) (an:Option Addr) (cdv ct:Value) (us:List Value),us.length=ps.length->bindArgs (PySem.W.fnOf x x (Q4 st) (X7 st) (Zu st) .none kV doc pm an cdv ct) ⟨us,[]⟩=pure (ps.zip us)):Fn P w K mg base CX x k ps sp:=by
 obtain ⟨f,fd,F,hm⟩:=D
 exact ⟨f,fd,h F,hm,F.kp,F.binds hb⟩
theorem Fun.bind1 {x p:Str} {st:Stmt} {f:Addr} {fd:FuncData} (F:Fun K x x st f fd)
 (hb:∀ (kV doc pm:Value) (an:Option Addr) (cdv ct:Value) (us:List Value),us.length=[p].length->bindArgs (PySem.W.fnOf x x (Q4 st) (X7 st) (Zu st) .none kV doc pm an cdv ct) ⟨us,[]⟩=pure ([p].zip us))
 (s:Shared) (u:Value):BindsTo s fd ⟨[u],[]⟩ [(p,u)]:=by
 obtain ⟨oc,od,kV,doc,pm,an,cdv,ct,osl,rfl,lk,hcd⟩:=F.ex
 exact .of_eq (hb kV doc pm an cdv ct [u] rfl)
end
def sp1 (f:V->Hp->VK->XK->Prop):Sp:=λ vs H Q E=>∃ a,vs=[a]/\f a H Q E
def sp2 (f:V->V->Hp->VK->XK->Prop):Sp:=λ vs H Q E=>∃ a b,vs=[a,b]/\f a b H Q E
def sp3 (f:V->V->V->Hp->VK->XK->Prop):Sp:=λ vs H Q E=>∃ a b c,vs=[a,b,c]/\f a b c H Q E
def sp4 (f:V->V->V->V->Hp->VK->XK->Prop):Sp:=λ vs H Q E=>∃ a b c d,vs=[a,b,c,d]/\f a b c d H Q E
def sp5 (f:V->V->V->V->V->Hp->VK->XK->Prop):Sp:=λ vs H Q E=>∃ a b c d e,vs=[a,b,c,d,e]/\f a b c d e H Q E
theorem Wa {f} {vs:List V} {H Q E} (h:sp1 f vs H Q E):vs.length=1:=by obtain ⟨_,rfl,_⟩:=h; rfl
theorem Y7 {f} {vs:List V} {H Q E} (h:sp2 f vs H Q E):vs.length=2:=by obtain ⟨_,_,rfl,_⟩:=h; rfl
theorem Je {f} {vs:List V} {H Q E} (h:sp3 f vs H Q E):vs.length=3:=by obtain ⟨_,_,_,rfl,_⟩:=h; rfl
theorem Zdn {f} {vs:List V} {H Q E} (h:sp4 f vs H Q E):vs.length=4:=by obtain ⟨_,_,_,_,rfl,_⟩:=h; rfl
theorem Zq2 {f} {vs:List V} {H Q E} (h:sp5 f vs H Q E):vs.length=5:=by obtain ⟨_,_,_,_,_,rfl,_⟩:=h; rfl
def Yz:Expr->Bool
 | .Starred _ _=>true
 | _=>false
theorem Yx {e:Expr} {es:List Expr} {env:Env} (h:Yz e=false):starEach (e::es) env=(false,eval e env)::starEach es env:=by
 cases e <;> first | rfl | (cases h)
theorem Gf {pos:Pos} {env:Env}:∀ {es:List Expr},es.all (λ e=>!Yz e)=true->(backTo pos (starEach es env)).any (·.1)=false
 | [],_=>rfl
 | e::es,h=>by
   rw [List.all_cons,Bool.and_eq_true] at h
   rw [Yx (by simpa using h.1)]
   show (false || (backTo pos (starEach es env)).any (·.1))=false
   rw [Gf h.2]; rfl
theorem Zwj {pos:Pos} {env:Env} {e:Expr} (h:Yz e=false):((backTo pos (starEach [e] env)).all (λ x=>!x.1) && (backToKw pos (keywordEach [] env)).all (λ x=>x.1.isSome)
 && decide ([e].length+([]:List Keyword).length+(if ([]:List Keyword).isEmpty then 0 else 1)<30))=true:=by
 rw [Yx h]
 rfl
section
variable {X:Cx} {CX:CXT} {k:Nat} {x:Str} {ps:List Str} {sp:Sp} {E:XK} {p pos:Pos} {e:Expr} {es:List Expr} {te:TE} {t:TA}
theorem Zw1 (ha:PE X e te) (hr:PA X es t) (h:Yz e=false:=by rfl):PA X (e::es) (Zd te t):=Zzh ha hr (Yx h)
theorem Z14 (G:Fn X.prog X.w X.K X.mg X.base CX x k ps sp) (hr:Room k X.A) (hg:Gl X x) (hx:Passes CX X E) (ha:PA X (e::es) t)
 (hdb:(x == ("__debug__":Str))=false:=by decide) (he:Yz e=false:=by rfl) (hpl:es.all (λ e=>!Yz e)=true:=by rfl) :
 PE X (.Call (.Name x p) (e::es) [] pos) (Zy sp [] E t):=by
 obtain ⟨f,fd,F,hm,hk,hb⟩:=G
 exact Zrd F hr hg hm hk hb .nil hx ha hdb (Yx he) (Gf hpl)
theorem Z15 {id:String} {r:List V->Hp->VK->Prop} (hc:CallR X (.builtin id) r) (hg:Gl X x) (hm:X.mg x=none) (hv:bootBuiltins x=some (.builtin id)) (ha:PA X (e::es) t) (hn:x≠"__name__":=by decide) (hdb:(x == ("__debug__":Str))=false:=by decide)
 (he:Yz e=false:=by rfl) (hpl:es.all (λ e=>!Yz e)=true:=by rfl):PE X (.Call (.Name x p) (e::es) [] pos) (tCB r t):=Zw0 hc hg hm hv ha hn hdb (Yx he) (Gf hpl)
theorem Z06 {T:String} {r:List V->Hp->VK->Prop} (hc:CallR X (.type T) r) (hg:Gl X x) (hm:X.mg x=none) (hv:bootBuiltins x=some (.type T)) (ha:PA X (e::es) t) (hn:x≠"__name__":=by decide) (hdb:(x == ("__debug__":Str))=false:=by decide)
 (he:Yz e=false:=by rfl) (hpl:es.all (λ e=>!Yz e)=true:=by rfl):PE X (.Call (.Name x p) (e::es) [] pos) (tCB r t):=Zuk hc hg hm hv ha hn hdb (Yx he) (Gf hpl)
theorem Z07 {o:Expr} {to:TE} {name:Str} {apos cpos:Pos} {T id:String} {r:V->List V->Hp->VK->Prop} (pa:PlainAttrs T) (slot:Slot T name id) (hty:typeOf (.builtin id)=pure (.type "method_descriptor")) (hm:MtR X id r) (ho:PE X o to) (ha:PA X [e] t)
 (he:Yz e=false:=by rfl) (hbase:attributeBase o name X.env (eval o X.env)=eval o X.env:=by rfl) (hline:(apos.endLine == cpos.line)=true:=by rfl):PE X (.Call (.Attribute o name apos) [e] [] cpos) (tBM X.K T r to t) :=
 Z16 pa slot hty hm ho ha hbase (Zwj he) hline (Yx he) rfl
end
theorem Ym:bootBuiltins "len"=some (.builtin "len"):=by decide +kernel
theorem Zks:bootBuiltins "sum"=some (.builtin "sum"):=by decide +kernel
theorem Zpr:bootBuiltins "min"=some (.builtin "min"):=by decide +kernel
theorem Zvz:bootBuiltins "max"=some (.builtin "max"):=by decide +kernel
theorem Zmn:bootBuiltins "sorted"=some (.builtin "sorted"):=by decide +kernel
theorem Qm:bootBuiltins "isinstance"=some (.builtin "isinstance"):=by decide +kernel
theorem Uc:bootBuiltins "tuple"=some (.type "tuple"):=by decide +kernel
theorem Zl0:bootBuiltins "list"=some (.type "list"):=by decide +kernel
theorem Zgz:bootBuiltins "int"=some (.type "int"):=by decide +kernel
theorem Z0d:bootBuiltins "bool"=some (.type "bool"):=by decide +kernel
section
variable {X:Cx} {pos:Pos}
theorem Za7 {x:Str} {i:Int} (h:∃ t,X.mg x=some (.int i t)) (hg:Gl X x:=by rfl) (hd:(x == ("__debug__":Str))=false:=by decide):PE X (.Name x pos) (tC (.int i)):=by
 obtain ⟨t,h⟩:=h
 exact Zze hg h ⟨t,rfl⟩ hd
theorem Ew {x:Str} {T:String} (hm:X.mg x=none) (hv:bootBuiltins x=some (.type T)) (hg:Gl X x:=by rfl) (hn:x≠"__name__":=by decide) (hd:(x == ("__debug__":Str))=false:=by decide):PE X (.Name x pos) (tC (.ty T)) :=
 Zzg hg hm hv rfl hn hd
theorem Jm {a b r:Int} {i j:Nat} {p q:Pos} (e:a ^ b.toNat=r) (h0:0<=b) (h1:b<=1000000) (h2:a.natAbs<2 ^ 64):PE X (.BinOp (.Constant (.int a) i p) .Pow (.Constant (.int b) j q) pos) (tC (.int r)):=by
 intro pins s σ H Q I h
 exact Zt Z1a Zi Zi pins s σ H Q I ⟨a,b,rfl,rfl,⟨h0,h1,h2⟩,by show Q (.int (a ^ b.toNat)) H; rw [e]; exact h⟩
def Qn (K:Fq) (t:TE):TT:=λ σ H Q=>t σ H λ x H'=>∃ k,TruV K x H' k/\Q k H'
theorem Xb {a:Expr} {ta:TE} (ha:PE X a ta) (he:∀ whole,isTrue a X.env whole=(do let v ← whole; standAt a.pos; holding [v] (truthy v))):PT X a (Qn X.K ta):=Zwt ha he
end
mutual
def Rep (H:Hp):V->PyData->Prop
 | v,.none=>v=.non
 | v,.bool b=>v=.bl b
 | v,.int i=>v=.int i
 | v,.str x=>v=.str x
 | v,.list ds=>∃ a xs,v=.ref a/\H a=some (.lst xs)/\Reps H xs ds
 | v,.tuple ds=>∃ a xs,v=.ref a/\H a=some (.tup xs)/\Reps H xs ds
 | v,.dict kvs=>kvs=[]/\∃ a,v=.ref a/\H a=some (.dK [])
def Reps (H:Hp):List V->List PyData->Prop
 | xs,[]=>xs=[]
 | xs,d::ds=>∃ x r,xs=x::r/\Rep H x d/\Reps H r ds
end
def Tu (H H':Hp):Prop:=∀ b xs,H b=some (.tup xs)->H' b=some (.tup xs)
theorem Same.tu {H H':Hp} (e:Same H H'):Tu H H':=λ b xs h=>e b _ h
theorem Tu.trans {H H1 H2:Hp} (a:Tu H H1) (b:Tu H1 H2):Tu H H2:=λ c o h=>b c o (a c o h)
theorem Tu.put {H:Hp} {p:Addr} {xs ys:List V} (h:H p=some (.lst xs)):Tu H (upd H p (.lst ys)):=λ b zs e=>by
 rw [Z5 (λ z=>by subst z; rw [h] at e; cases e)]; exact e
mutual
def noL:PyData->Bool
 | .none | .bool _ | .int _ | .str _=>true
 | .tuple ds=>noLs ds
 | .list _ | .dict _=>false
def noLs:List PyData->Bool
 | []=>true
 | d::ds=>noL d && noLs ds
end
mutual
theorem Rep.mono {H H':Hp} (e:Same H H'):∀ (d:PyData) (v:V),Rep H v d->Rep H' v d
 | .none,v,h=>by unfold Rep at h ⊢; exact h
 | .bool b,v,h=>by unfold Rep at h ⊢; exact h
 | .int i,v,h=>by unfold Rep at h ⊢; exact h
 | .str x,v,h=>by unfold Rep at h ⊢; exact h
 | .list ds,v,h=>by
   unfold Rep at h ⊢
   obtain ⟨a,xs,r,q,z⟩:=h
   exact ⟨a,xs,r,e _ _ q,Reps.mono e ds xs z⟩
 | .tuple ds,v,h=>by
   unfold Rep at h ⊢
   obtain ⟨a,xs,r,q,z⟩:=h
   exact ⟨a,xs,r,e _ _ q,Reps.mono e ds xs z⟩
 | .dict _,v,h=>by
   unfold Rep at h ⊢
   obtain ⟨z,a,r,q⟩:=h
   exact ⟨z,a,r,e _ _ q⟩
theorem Reps.mono {H H':Hp} (e:Same H H'):∀ (ds:List PyData) (xs:List V),Reps H xs ds->Reps H' xs ds
 | [],xs,h=>by unfold Reps at h ⊢; exact h
 | d::ds,xs,h=>by
   unfold Reps at h ⊢
   obtain ⟨x,r,q,z,y⟩:=h
   exact ⟨x,r,q,Rep.mono e d x z,Reps.mono e ds r y⟩
end
mutual
theorem Rep.tu {H H':Hp} (e:Tu H H'):∀ (d:PyData) (v:V),noL d=true->Rep H v d->Rep H' v d
 | .none,v,_,h=>by unfold Rep at h ⊢; exact h
 | .bool b,v,_,h=>by unfold Rep at h ⊢; exact h
 | .int i,v,_,h=>by unfold Rep at h ⊢; exact h
 | .str x,v,_,h=>by unfold Rep at h ⊢; exact h
 | .list ds,v,n,h=>by unfold noL at n; cases n
 | .tuple ds,v,n,h=>by
   unfold Rep at h ⊢
   unfold noL at n
   obtain ⟨a,xs,r,q,z⟩:=h
   exact ⟨a,xs,r,e _ _ q,Reps.tu e ds xs n z⟩
 | .dict _,v,n,h=>by unfold noL at n; cases n
theorem Reps.tu {H H':Hp} (e:Tu H H'):∀ (ds:List PyData) (xs:List V),noLs ds=true->Reps H xs ds->Reps H' xs ds
 | [],xs,_,h=>by unfold Reps at h ⊢; exact h
 | d::ds,xs,n,h=>by
   unfold Reps at h ⊢
   unfold noLs at n
   rw [Bool.and_eq_true] at n
   obtain ⟨x,r,q,z,y⟩:=h
   exact ⟨x,r,q,Rep.tu e d x n.1 z,Reps.tu e ds r n.2 y⟩
end
mutual
theorem Rep.reads {X:Cx} {pins:List (Addr×Obj)} {σ:St} {H:Hp} {s:Shared} (I:Inv X pins σ H s):∀ (d:PyData) (v:V) (u:Value),d.canLay0=true->Rep H v d->RelV v u->∃ as,Reads s.heap u d as
 | .none,v,u,_,h,r=>by unfold Rep at h; subst h; cases r; exact ⟨_,.none⟩
 | .bool b,v,u,_,h,r=>by unfold Rep at h; subst h; cases r; exact ⟨_,.bool b⟩
 | .int i,v,u,_,h,r=>by unfold Rep at h; subst h; obtain ⟨t,r⟩:=r; subst r; exact ⟨_,.int i t⟩
 | .str x,v,u,_,h,r=>by unfold Rep at h; subst h; obtain ⟨t,r⟩:=r; subst r; exact ⟨_,.str x t⟩
 | .list ds,v,u,c,h,r=>by
   unfold Rep at h
   obtain ⟨a,xs,e,q,z⟩:=h
   subst e
   cases r
   obtain ⟨its,rv,p,hz⟩:=I.list (SqL.of q)
   obtain ⟨as,ra⟩:=Reps.reads I ds xs its (by simpa only [PyData.canLay0] using c) z rv
   obtain ⟨o,e1,e2,n,e3⟩:=p.isList
   exact ⟨_,.list e1 e2 e3 ra⟩
 | .tuple ds,v,u,c,h,r=>by
   unfold Rep at h
   obtain ⟨a,xs,e,q,z⟩:=h
   subst e
   cases r
   obtain ⟨its,rv,p,hz⟩:=I.tuple (SqT.of q)
   obtain ⟨as,ra⟩:=Reps.reads I ds xs its (by simpa only [PyData.canLay0] using c) z rv
   obtain ⟨o,e1,e2,n,e3⟩:=p
   exact ⟨_,.tuple e1 e2 e3 ra⟩
 | .dict _,v,u,c,h,r=>by simp [PyData.canLay0] at c
theorem Reps.reads {X:Cx} {pins:List (Addr×Obj)} {σ:St} {H:Hp} {s:Shared} (I:Inv X pins σ H s):∀ (ds:List PyData) (xs:List V) (us:List Value),PyData.canLayAll0 ds=true->Reps H xs ds->Vals xs us->∃ as,ReadsAll s.heap us ds as
 | [],xs,us,_,h,r=>by unfold Reps at h; subst h; cases r; exact ⟨_,.nil⟩
 | d::ds,xs,us,c,h,r=>by
   unfold Reps at h
   obtain ⟨x,t,e,z,y⟩:=h
   subst e
   have c':d.canLay0=true/\PyData.canLayAll0 ds=true:=by simpa [PyData.canLayAll0] using c
   cases r with
   | cons r1 r2 =>
     obtain ⟨as,ra⟩:=Rep.reads I d x _ c'.1 z r1
     obtain ⟨bs,rb⟩:=Reps.reads I ds t _ c'.2 y r2
     exact ⟨_,.cons ra rb⟩
end
theorem Reps.length {H:Hp}:∀ {ds:List PyData} {xs:List V},Reps H xs ds->xs.length=ds.length
 | [],_,h=>by unfold Reps at h; rw [h]; rfl
 | _::_,_,h=>by
   unfold Reps at h
   obtain ⟨x,r,rfl,_,y⟩:=h
   simp [Reps.length y]
theorem Reps.get {H:Hp}:∀ {ds:List PyData} {xs:List V} {i:Nat} {x:V},Reps H xs ds->xs[i]?=some x->∃ d,ds[i]?=some d/\Rep H x d
 | [],_,_,_,h,e=>by unfold Reps at h; subst h; simp at e
 | d::ds,_,0,x,h,e=>by
   unfold Reps at h
   obtain ⟨y,r,rfl,q,_⟩:=h
   have:y=x:=by simpa using e
   subst this
   exact ⟨d,rfl,q⟩
 | d::ds,_,i+1,x,h,e=>by
   unfold Reps at h
   obtain ⟨y,r,rfl,_,q⟩:=h
   exact Reps.get (i:=i) q (by simpa using e)
theorem Reps.of {H:Hp}:∀ {ds:List PyData} {xs:List V},xs.length=ds.length->(∀ (i:Nat) x d,xs[i]?=some x->ds[i]?=some d->Rep H x d)->Reps H xs ds
 | [],xs,hl,_=>by unfold Reps; exact List.eq_nil_of_length_eq_zero hl
 | d::ds,[],hl,_=>by simp at hl
 | d::ds,x::xs,hl,h=>by
   unfold Reps
   exact ⟨x,xs,rfl,h 0 x d rfl rfl,Reps.of (by simpa using hl) λ i y e h1 h2=>h (i+1) y e (by simpa using h1) (by simpa using h2)⟩
theorem Reps.ints {H:Hp}:∀ (ns:List Int),Reps H (ns.map V.int) (ns.map PyData.int)
 | []=>by unfold Reps; rfl
 | n::ns=>by
   show Reps H (V.int n::ns.map V.int) (PyData.int n::ns.map PyData.int)
   unfold Reps
   exact ⟨_,_,rfl,by unfold Rep; rfl,Reps.ints ns⟩
abbrev rSubU:R2:=rI0 λ i j=>.int (i-j)
abbrev rDivU:R2:=rI CDivB λ i j=>.int (i / j)
abbrev rModU:R2:=rI (λ _ j=>0<j) λ i j=>.int (i % j)
abbrev rLtU:R2:=rI0 λ i j=>.bl (decide (i<j))
abbrev rLeU:R2:=rI0 λ i j=>.bl (decide (i<=j))
abbrev rGtU:R2:=rI0 λ i j=>.bl (decide (j<i))
abbrev rGeU:R2:=rI0 λ i j=>.bl (decide (j<=i))
abbrev rNegU:V->Hp->VK->Prop:=rU λ i=>.int (-i)
def rCatN (K:Fq):R2:=λ x y H Q=>∃ a b ys,x=.ref a/\y=.ref b/\SqT K H a []/\SqT K H b ys/\Q (.ref b) H
abbrev rAddU (K:Fq):R2:=λ x y H Q=>rI0 (λ i j=>.int (i+j)) x y H Q\/(λ x y H Q=>Zx8 K x y H Q\/(λ x y H Q=>rCatN K x y H Q\/rCat x y H Q) x y H Q) x y H Q
abbrev rMulU (K:Fq):R2:=λ x y H Q=>rI IntMulOk (λ i j=>.int (i*j)) x y H Q\/rRep x y H Q
def rEqD (K:Fq):R2:=λ x y H Q=>∃ d e,Rep H x d/\Rep H y e/\d.canLay0=true/\e.canLay0=true/\min d.depth e.depth<=64/\Q (.bl (PyData.eqv d e)) H
def rNeD (K:Fq):R2:=λ x y H Q=>∃ d e,Rep H x d/\Rep H y e/\d.canLay0=true/\e.canLay0=true/\min d.depth e.depth<=64/\Q (.bl (!PyData.eqv d e)) H
abbrev rEqU (K:Fq):R2:=λ x y H Q=>rEq x y H Q\/rEqD K x y H Q
abbrev rNeU (K:Fq):R2:=λ x y H Q=>rNe x y H Q\/rNeD K x y H Q
def rIsN:R2:=λ x y H Q=>y=.non/\Q (.bl (decide (x=.non))) H
def rIsnN:R2:=λ x y H Q=>y=.non/\Q (.bl (!decide (x=.non))) H
def rIsB:R2:=λ x y H Q=>∃ i j,x=.bl i/\y=.bl j/\Q (.bl (i == j)) H
def rIsnB:R2:=λ x y H Q=>∃ i j,x=.bl i/\y=.bl j/\Q (.bl (!(i == j))) H
abbrev rIsU:R2:=λ x y H Q=>rIsN x y H Q\/rIsB x y H Q
abbrev rIsNotU:R2:=λ x y H Q=>rIsnN x y H Q\/rIsnB x y H Q
section
variable {X:Cx}
theorem op_subU:OpR X (binaryOp .Sub) rSubU:=Z08
theorem op_divU:OpR X (binaryOp .FloorDiv) rDivU:=Zw3
theorem op_modU:OpR X (binaryOp .Mod) rModU:=Z1b
theorem op_catN:OpR X (binaryOp .Add) (rCatN X.K):=by
 intro pins s σ H x y v u Q I rx ry h
 obtain ⟨a,b,ys,rfl,rfl,ha,hb,q⟩:=h
 cases rx
 cases ry
 obtain ⟨its,r1,p1,_⟩:=I.tuple ha
 obtain ⟨its2,r2,p2,_⟩:=I.tuple hb
 cases r1
 obtain ⟨⟨cls,dd,data,sl⟩,ho,hc,n,hd⟩:=id p1
 obtain ⟨⟨cls2,dd2,data2,sl2⟩,ho2,hc2,n2,hd2⟩:=id p2
 simp only at hc hd hc2 hd2
 subst hc hd hc2 hd2
 exact concat_meets ⟨_,ho,rfl⟩ ⟨_,ho2,rfl⟩ noFill_tuple_add seq_tuple_add PySem.F.slot_tuple_add PySem.F.entry_tuple_add (PySem.F.args_tuple_add_2 _ _)
  (tuple_addW0 a b ([]:List Value).toArray its2.toArray n n2 dd dd2 sl sl2 (by simp)) ⟨ho,ho2,⟨.ref b,H,I,rfl,q⟩⟩
theorem op_addU:OpR X (binaryOp .Add) (rAddU X.K):=Z1f.or (Zzk.or (op_catN.or Z1e))
theorem op_mulU:OpR X (binaryOp .Mult) (rMulU X.K):=Zzj.or Z09
theorem op_eqD (hu:X.A.units+64<cLine):OpR X (compareOp .Eq) (rEqD X.K):=by
 intro pins s σ H x y v u Q I rx ry h
 obtain ⟨d,e,h1,h2,c1,c2,hm,q⟩:=h
 obtain ⟨as,ra⟩:=Rep.reads I d x v c1 h1 rx
 obtain ⟨bs,rb⟩:=Rep.reads I e y u c2 h2 ry
 exact SeqAt.compareEq_reads ra rb c1 c2 (by omega) ⟨.bl _,H,I,rfl,q⟩
theorem op_neD (hu:X.A.units+64<cLine):OpR X (compareOp .NotEq) (rNeD X.K):=by
 intro pins s σ H x y v u Q I rx ry h
 obtain ⟨d,e,h1,h2,c1,c2,hm,q⟩:=h
 obtain ⟨as,ra⟩:=Rep.reads I d x v c1 h1 rx
 obtain ⟨bs,rb⟩:=Rep.reads I e y u c2 h2 ry
 exact SeqAt.compareNe_reads ra rb c1 c2 (by omega) ⟨.bl _,H,I,rfl,q⟩
theorem op_eqU (hu:X.A.units+64<cLine):OpR X (compareOp .Eq) (rEqU X.K):=Z18.or (op_eqD hu)
theorem op_neU (hu:X.A.units+64<cLine):OpR X (compareOp .NotEq) (rNeU X.K):=Z17.or (op_neD hu)
theorem op_isU:OpR X (compareOp .Is) rIsU:=Z1c.or Z1d
theorem op_isnotU:OpR X (compareOp .IsNot) rIsNotU:=Zzi.or Zun
abbrev rSlU (K:Fq):V->Option Int->Option Int->Hp->VK->Prop:=λ x lo hi H Q=>rSlT K x lo hi H Q\/rSlL K x lo hi H Q
theorem sl_U:SlR X (rSlU X.K):=Z0t.or Zy1
def rIsinst (K:Fq):List V->Hp->VK->Prop:=λ xs H Q=>∃ x T t b,xs=[x,.ty T]/\TyOf K H x t/\PySem.W.kitOne K t (.type T)=some b/\Q (.bl b) H
theorem call_isinst:CallR X (.builtin "isinstance") (rIsinst X.K):=by
 intro pins s σ H xs us Q I r h
 obtain ⟨x,T,t,b,rfl,ty,e,q⟩:=h
 obtain ⟨u,w',rfl,rx,ry⟩:=Zsm r
 cases ry
 exact Zu4 I rx ty e λ tk=>⟨.bl b,H,I.tok tk,rfl,q⟩
def rLenU (K:Fq):List V->Hp->VK->Prop:=λ xs H Q=>∃ x n,xs=[x]/\LenV K x H n/\Q (.int (n:Nat)) H
theorem call_lenU:CallR X (.builtin "len") (rLenU X.K):=Zxu
def rSumU (K:Fq):List V->Hp->VK->Prop:=λ xs H Q=>∃ (p:Addr) (ns:List Int),xs=[.ref p]/\SqA K H p (ns.map V.int)/\Q (.int ns.sum) H
theorem call_sumU (hc:X.calm=true):CallR X (.builtin "sum") (rSumU X.K):=Zvp hc
def rMinU (K:Fq):List V->Hp->VK->Prop:=λ xs H Q=>∃ (p:Addr) (ns:List Int),xs=[.ref p]/\SqA K H p (ns.map V.int)/\ns≠[]/\∀ m,m∈ns->(∀ y∈ns,m<=y)->Q (.int m) H
theorem call_minU (hc:X.calm=true):CallR X (.builtin "min") (rMinU X.K):=Zvr hc
def rTy_int (K:Fq):List V->Hp->VK->Prop:=λ xs H Q=>(∃ i,xs=[.int i]/\Q (.int i) H)\/∃ k,xs=[.bl k]/\Q (.int (if k then 1 else 0)) H
theorem call_ty_int:CallR X (.type "int") (rTy_int X.K):=Zvy
def rTy_tuple (K:Fq):List V->Hp->VK->Prop:=λ xs H Q=>∃ p ys,xs=[.ref p]/\((SqL K H p ys/\∀ l,H l=none->Q (.ref l) (upd H l (.tup ys)))\/(SqT K H p ys/\Q (.ref p) H))
theorem call_ty_tuple:CallR X (.type "tuple") (rTy_tuple X.K):=Zm9
def iSeq (K:Fq) (tl:TE):TI:=λ σ H R=>tl σ H λ x H1=>∃ a,x=.ref a/\(((∃ xs,SqL K H1 a xs)/\R (Itl K a) H1)\/((∃ xs,SqT K H1 a xs)/\R (Itt K a) H1))
theorem pi_seq {tg l:Expr} {tl:TE} (hl:PE X l tl):PI X tg l (iSeq X.K tl):=by
 intro pins s σ H R I h
 refine thn (hl pins s σ H _ I h) λ v s1 ⟨x,H1,I1,r1,q1⟩=>?_
 obtain ⟨a,e,q⟩:=q1
 subst e
 cases r1
 rcases q with ⟨⟨xs,hq⟩,q⟩ | ⟨⟨xs,hq⟩,q⟩
 · obtain ⟨its,rv,p,hz⟩:=I1.list hq
   refine wpAny_pyIter_list p.isList ?_
   refine ⟨s1.heap.objs.size,[s1.heap.objs.size],_,_,H1,rfl,I1.kept (t':=s1.toks) λ b o e=>Heap.get?_push_of_some _ e,Ztz a _,⟨_,Heap.get?_push_size _ rfl,rfl,rfl⟩,λ b hb=>?_,q⟩
   have e:b=s1.heap.objs.size:=by simpa using hb
   subst e
   exact I1.fpOk (Nat.le_refl _) (I1.hok.fresh (Nat.le_refl _))
 · obtain ⟨its,rv,p,hz⟩:=I1.tuple hq
   refine wpAny_pyIter_tuple (show s1.heap.IsTuple a its.toArray from p) ?_
   refine ⟨s1.heap.objs.size,[s1.heap.objs.size],_,_,H1,rfl,I1.kept (t':=s1.toks) λ b o e=>Heap.get?_push_of_some _ e,Zsn a _,⟨_,Heap.get?_push_size _ rfl,rfl,rfl⟩,λ b hb=>?_,q⟩
   have e:b=s1.heap.objs.size:=by simpa using hb
   subst e
   exact I1.fpOk (Nat.le_refl _) (I1.hok.fresh (Nat.le_refl _))
end
theorem weight_mem:∀ {xs:List PySem.W.WData} {x:PySem.W.WData},x∈xs->x.weight<=PySem.W.WData.weightAll xs
 | [],_,h=>by simp at h
 | y::r,x,h=>by
   unfold PySem.W.WData.weightAll
   rcases List.mem_cons.mp h with e | e
   · subst e; omega
   · have:=weight_mem e
     omega
theorem bits_script {ns:List Int} (h:PySem.W.WData.layableAll [.list (ns.map .int)]=true):∀ n∈ns,Builtin.Int.intBits n<=1048576:=by
 intro n hn
 have h1:PySem.W.WData.layable (.list (ns.map .int))=true:=(PySem.W.layW_cons h).1
 unfold PySem.W.WData.layable at h1
 rw [Bool.and_eq_true,Bool.and_eq_true] at h1
 have h2:PySem.W.WData.weight (.list (ns.map .int))<=2 ^ 20:=of_decide_eq_true h1.2
 have h3:PySem.W.WData.weight (.list (ns.map .int))=PySem.W.WData.weightAll (ns.map .int):=by simp only [PySem.W.WData.weight]
 have h4:=weight_mem (x:=.int n) (List.mem_map.mpr ⟨n,hn,rfl⟩:PySem.W.WData.int n∈ns.map .int)
 have h5:PySem.W.WData.weight (.int n)=Builtin.Int.intBits n:=by simp only [PySem.W.WData.weight,Builtin.Int.intBits]
 have e:(2:Nat) ^ 20=1048576:=by decide
 omega
end L2
namespace L2
open PySem PySem.Spec PyProof.Rows
section
variable {K:Fq} {σ:St} {H:Hp} {Q:VK} {D:Ends} {t u:TS} {te ta tb tc:TE} {g:TG} {R:Bool->Hp->Prop} {c d:TT} {v x y:V} {i j:Int} {p:Addr} {xs:List V} {ns:List Int}
theorem Zr (h:t { D with nx:=u D } σ H):Zz t u D σ H:=h
theorem Z9 (h:te σ H λ x H1=>g x σ H1 D.nx):Yi te g D σ H:=h
theorem Zq {n:Nat} {R:St->Hp->Prop} (h:R (σ.set n (some v)) H):Zo n v σ H R:=h
theorem Yc (h:te σ H D.rt):Z7 te D σ H:=h
theorem J1 (h:te σ H λ _ H1=>D.nx σ H1):Wj te D σ H:=h
theorem Yp (h:c σ H λ b H1=>if b=true then t D σ H1 else u D σ H1):Yt c t u D σ H:=h
theorem Yk (h:D.nx σ H):Yo D σ H:=h
theorem Za {n:Nat} (e:σ[n]?=some (some v)) (h:Q v H):Zc n σ H Q:=⟨v,e,h⟩
theorem w_c (h:Q v H):tC v σ H Q:=h
theorem Zh {r:R2} (h:ta σ H λ x H1=>tb σ H1 λ y H2=>r x y H2 Q):tOp r ta tb σ H Q:=h
theorem Z0i {r:V->Hp->VK->Prop} (h:ta σ H λ x H1=>r x H1 Q):tUn r ta σ H Q:=h
theorem Yj (h:te σ H λ x H'=>∃ k,x=.bl k/\R k H'):Yn te σ H R:=h
theorem Yq {k:Bool} {R:Bool->Prop} (h:R k):∃ k',V.bl k=.bl k'/\R k':=⟨k,rfl,h⟩
theorem Xr (h:te σ H λ x H'=>∃ k,TruV K x H' k/\R k H'):Qn K te σ H R:=h
theorem Xa {b:Bool} {R:Bool->Prop} (h:R b):∃ k,TruV K (.bl b) H k/\R k:=⟨b,rfl,h⟩
theorem Ea (h:c σ H λ b H1=>if b=true then d σ H1 R else R false H1):Zbn c d σ H R:=h
theorem K8 (h:c σ H λ b H1=>if b=true then R true H1 else d σ H1 R):tOr c d σ H R:=h
theorem w_not (h:c σ H λ b H1=>R (!b) H1):Jx c σ H R:=h
theorem Zft (h:ta σ H λ x H1=>∃ c,x=.bl c/\if c=true then tb σ H1 Q else Q (.bl false) H1):Zco ta tb σ H Q:=h
theorem Z1z (h:ta σ H λ x H1=>∃ c,x=.bl c/\if c=true then Q (.bl true) H1 else tb σ H1 Q):Zwh ta tb σ H Q:=h
theorem Z0l (h:ta σ H λ x H1=>∃ c,x=.bl c/\Q (.bl (!c)) H1):Znb ta σ H Q:=h
theorem Zsj (h:c σ H λ b H1=>if b=true then ta σ H1 Q else tb σ H1 Q):tIf c ta tb σ H Q:=h
theorem Zqx {r r':R2} (h:ta σ H λ x H1=>tb σ H1 λ y H2=>r x y H2 λ z H3=>∃ k,z=.bl k/\if k=true then tc σ H3 λ w H4=>r' y w H4 Q else Q (.bl false) H3):Zi5 r r' ta tb tc σ H Q:=h
theorem Yl {r:List V->Hp->VK->Prop} {t:TA} (h:t σ H λ vs H1=>r vs H1 Q):tCB r t σ H Q:=h
theorem Ziw (h:R true H):Qd σ H R:=h
theorem Zg {R:List V->Hp->Prop} (h:R [] H):Zj σ H R:=h
theorem Zb {t:TA} {R:List V->Hp->Prop} (h:ta σ H λ x H1=>t σ H1 λ xs H2=>R (x::xs) H2):Zd ta t σ H R:=h
theorem Zv {sp:Sp} {E:XK} {t:TA} (h:t σ H λ vs H1=>sp vs H1 Q E):Zy sp [] E t σ H Q:=by
 show t σ H λ vs H1=>sp (vs++[]) H1 Q E
 simpa only [List.append_nil] using h
theorem Wh {t:TA} (h:t σ H λ xs H1=>xs.length<=sizeLine/\∀ p,H1 p=none->Q (.ref p) (upd H1 p (.tup xs))):Jw t σ H Q:=h
theorem Wi {t:TA} (h:t σ H λ xs H1=>xs.length<=sizeLine/\∀ p,H1 p=none->Q (.ref p) (upd H1 p (.lst xs))):Wy t σ H Q:=h
theorem Ztw (h:∀ p,H p=none->Q (.ref p) (upd H p (.dK []))):Znd σ H Q:=h
theorem Es {R:Option Int->Hp->Prop} (h:te σ H λ x H1=>∃ i,x=.int i/\R (some i) H1):Ed te σ H R:=h
theorem Hs {R:Option Int->Hp->Prop} (h:R none H):K5 σ H R:=h
theorem Zcm {R:Int->Prop} (h:R i):∃ i',V.int i=.int i'/\R i':=⟨i,rfl,h⟩
theorem Zhs {r:V->Option Int->Option Int->Hp->VK->Prop} {tl th:TO} (h:te σ H λ x H1=>tl σ H1 λ l H2=>th σ H2 λ u H3=>r x l u H3 Q):tSl r te tl th σ H Q:=h
theorem Z1y {a b:Nat} {t:TA} (h:t σ H λ vs H1=>∃ v w,vs=[v,w]/\D.nx ((σ.set a (some v)).set b (some w)) H1):Zwg a b t D σ H:=h
theorem Zna {to ti:TE} {t:TSet} {R:St->Hp->Prop} (h:to σ H λ o H1=>ti σ H1 λ i H2=>t o i v H2 λ H3=>R σ H3):Zii to ti t v σ H R:=h
theorem Uv {R:St->Hp->Prop} (h:R σ H):K4 [] σ H R:=⟨rfl,h⟩
theorem Xk {t:TG} {u:TGs} {R:St->Hp->Prop} (h:t v σ H λ σ' H'=>u xs σ' H' R):Xo t u (v::xs) σ H R:=⟨v,xs,rfl,h⟩
theorem Uu {n:Nat} {t:TGs} {R:St->Hp->Prop} (e:SqT K H p xs) (hn:xs.length=n) (h:t xs σ H R):K3 K n t (.ref p) σ H R:=⟨p,xs,rfl,e,hn,h⟩
theorem Zht {T:String} {r:V->List V->Hp->VK->Prop} {to:TE} {t:TA} (h:to σ H λ x H1=>tyV K T x H1/\t σ H1 λ xs H2=>r x xs H2 Q):tBM K T r to t σ H Q:=h
theorem Xd (h:Q (.int (i+j)) H):rAddU K (.int i) (.int j) H Q:=.inl ⟨i,j,rfl,rfl,h⟩
theorem Zbb (h:Q (.int (i-j)) H):rSubU (.int i) (.int j) H Q:=⟨i,j,rfl,rfl,h⟩
theorem Yu (hc:IntMulOk i j) (h:Q (.int (i*j)) H):rMulU K (.int i) (.int j) H Q:=.inl ⟨i,j,rfl,rfl,hc,h⟩
theorem Qv (h0:0<j) (h1:j<=100000000000000000000000000000000000000000000000000000000000000000000000000000000000000000000000000000000000000) (h:Q (.int (i / j)) H):rDivU (.int i) (.int j) H Q :=
 ⟨i,j,rfl,rfl,CDivB.of h0 (Int.lt_of_le_of_lt h1 (by decide +kernel)),h⟩
theorem Yv (h0:0<j) (h:Q (.int (i % j)) H):rModU (.int i) (.int j) H Q:=⟨i,j,rfl,rfl,h0,h⟩
theorem Ztu (h:Q (.int (-i)) H):rNegU (.int i) H Q:=⟨i,rfl,h⟩
theorem K9 (h:Q (.bl (decide (i<j))) H):rLtU (.int i) (.int j) H Q:=⟨i,j,rfl,rfl,h⟩
theorem Zsi (h:Q (.bl (decide (i<=j))) H):rLeU (.int i) (.int j) H Q:=⟨i,j,rfl,rfl,h⟩
theorem Zd6 (h:Q (.bl (decide (j<i))) H):rGtU (.int i) (.int j) H Q:=⟨i,j,rfl,rfl,h⟩
theorem Zx1 (h:Q (.bl (decide (j<=i))) H):rGeU (.int i) (.int j) H Q:=⟨i,j,rfl,rfl,h⟩
theorem Zpj:decide (V.int i=V.int j)=decide (i=j):=by
 by_cases e:i=j
 · subst e; simp
 · rw [decide_eq_false e,decide_eq_false (λ q=>e (V.int.inj q))]
theorem Xm (h:Q (.bl (decide (i=j))) H):rEqU K (.int i) (.int j) H Q:=.inl ⟨rfl,by rw [Zpj]; exact h⟩
theorem Zi0 (h:Q (.bl (!decide (i=j))) H):rNeU K (.int i) (.int j) H Q:=.inl ⟨rfl,by rw [Zpj]; exact h⟩
theorem Z10 (h:Q (.bl (decide (x=.non))) H):rIsU x .non H Q:=.inl ⟨rfl,h⟩
theorem Znp (h:Q (.bl (!decide (x=.non))) H):rIsNotU x .non H Q:=.inl ⟨rfl,h⟩
theorem Y9 (h:SqL K H p xs) (e:atI xs i=some v) (q:Q v H):rIx K (.ref p) (.int i) H Q:=.inl ⟨p,xs,i,v,rfl,rfl,h,e,q⟩
theorem Yd (h:SqT K H p xs) (e:atI xs i=some v) (q:Q v H):rIx K (.ref p) (.int i) H Q:=.inr (.inl ⟨p,xs,i,v,rfl,rfl,h,e,q⟩)
theorem Xp (h:SqL K H p xs) (q:Q (.int xs.length) H):rLenU K [.ref p] H Q:=⟨.ref p,xs.length,rfl,.inl ⟨xs,h,rfl⟩,q⟩
theorem X4 (h:SqT K H p xs) (q:Q (.int xs.length) H):rLenU K [.ref p] H Q:=⟨.ref p,xs.length,rfl,.inr ⟨xs,h,rfl⟩,q⟩
theorem Zi1 {b:Bool} (h:Q (.int (if b then 1 else 0)) H):rTy_int K [.bl b] H Q:=.inr ⟨b,rfl,h⟩
theorem Zix (h:SqL K H p xs) (q:∀ l,H l=none->Q (.ref l) (upd H l (.tup xs))):rTy_tuple K [.ref p] H Q:=⟨p,xs,rfl,.inl ⟨h,q⟩⟩
theorem Ziy (h:SqA K H p (ns.map V.int)) (q:Q (.int ns.sum) H):rSumU K [.ref p] H Q:=⟨p,ns,rfl,h,q⟩
theorem Ht {R:VK} (h:H p=some (.lst xs)) (hz:xs.length<sizeLine) (q:R .non (upd H p (.lst (xs++[v])))):K6 (.ref p) [v] H R:=⟨p,xs,v,rfl,rfl,h,hz,q⟩
theorem Ziz {k:Nat} {R:Hp->Prop} (h:H p=some (.lst xs)) (e:ixN xs.length i=some k) (q:R (upd H p (.lst (xs.set k v)))):Zew (.ref p) (.int i) v H R:=⟨p,xs,i,k,rfl,rfl,h,e,q⟩
theorem Hu (h:H p=some (.lst xs)):tyV K "list" (.ref p) H:=.inl ⟨rfl,_,SqL.of h⟩
theorem iteD {c A B:Prop} [Decidable c] (h1:c->A) (h2:¬ c->B):if decide c=true then A else B:=by
 by_cases h:c
 · rw [if_pos (decide_eq_true h)]; exact h1 h
 · rw [if_neg (by rw [decide_eq_false h]; decide)]; exact h2 h
theorem iteN {c A B:Prop} [Decidable c] (h1:¬ c->A) (h2:c->B):if (!decide c)=true then A else B:=by
 by_cases h:c
 · rw [if_neg (by rw [decide_eq_true h]; decide)]; exact h2 h
 · rw [if_pos (by rw [decide_eq_false h]; rfl)]; exact h1 h
theorem iteB {b:Bool} {A B:Prop} (h1:b=true->A) (h2:b=false->B):if b=true then A else B:=by
 cases b
 · exact iteF (h2 rfl)
 · exact iteT (h1 rfl)
theorem Eo {c A B:Prop} [Decidable c] (h:c) (h1:A):if decide c=true then A else B:=iteD (λ _=>h1) λ z=>absurd h z
theorem Ep {c A B:Prop} [Decidable c] (h:¬ c) (h1:B):if decide c=true then A else B:=iteD (λ z=>absurd z h) λ _=>h1
theorem Z2c {c A B:Prop} [Decidable c] (h:¬ c) (h1:A):if (!decide c)=true then A else B:=iteN (λ _=>h1) λ z=>absurd z h
theorem Ze8 {c A B:Prop} [Decidable c] (h:c) (h1:B):if (!decide c)=true then A else B:=iteN (λ z=>absurd h z) λ _=>h1
theorem Zg1 {α:Type} {xs:List α} {i:Int} {v:α} (h0:0<=i) (h:xs[i.toNat]?=some v):atI xs i=some v:=by
 have e:((i.toNat:Nat):Int)=i:=Int.toNat_of_nonneg h0
 rw [← e]; exact Xv h
theorem G8 {ns:List Int} {k:Nat} (h:k<ns.length):(ns.map V.int)[k]?=some (.int (ns.getD k 0)):=by
 rw [List.getElem?_map,List.getD,List.getElem?_eq_getElem h]; rfl
theorem Zxx {ns:List Int} (h0:0<=i) (h1:i<ns.length):atI (ns.map V.int) i=some (.int (ns.getD i.toNat 0)):=Zg1 h0 (G8 (by omega))
theorem Zj1 {n:Nat} (h0:0<=i) (h1:i<n):ixN n i=some i.toNat:=by unfold ixN; rw [if_pos h0,if_pos h1]
theorem Zfz {n:Nat} (h:n<=1000):n<=sizeLine:=Nat.le_of_lt (Ql h)
theorem Wg (h1:-18446744073709551616<i) (h2:i<18446744073709551616):IntMulOk i j:=IntMulOk.of_left (intBits_le_64 h1 h2)
theorem Za9 (h1:-18446744073709551616<j) (h2:j<18446744073709551616):IntMulOk i j:=IntMulOk.of_right (intBits_le_64 h1 h2)
theorem Zg0 (h1:-1000000000000000000000000000000000000000000000000000000000000000000000000000000000000000000000000000000000000000000000000000000000000000000000000000000000000000000000000000000000000<i)
 (h2:i<1000000000000000000000000000000000000000000000000000000000000000000000000000000000000000000000000000000000000000000000000000000000000000000000000000000000000000000000000000000000000):Builtin.Int.intBits i<=1000:=by
 have e:(1000000000000000000000000000000000000000000000000000000000000000000000000000000000000000000000000000000000000000000000000000000000000000000000000000000000000000000000000000000000000:Int)<=2 ^ 1000:=by decide +kernel
 exact Zd4 (by omega) (by omega)
theorem Zgq (h1:-1000000000000000000000000000000000000000000000000000000000000000000000000000000000000000000000000000000000000000000000000000000000000000000000000000000000000000000000000000000000000<i)
 (h2:i<1000000000000000000000000000000000000000000000000000000000000000000000000000000000000000000000000000000000000000000000000000000000000000000000000000000000000000000000000000000000000)
 (h3:-1000000000000000000000000000000000000000000000000000000000000000000000000000000000000000000000000000000000000000000000000000000000000000000000000000000000000000000000000000000000000<j)
 (h4:j<1000000000000000000000000000000000000000000000000000000000000000000000000000000000000000000000000000000000000000000000000000000000000000000000000000000000000000000000000000000000000):IntMulOk i j :=
 IntMulOk.of_le (Zg0 h1 h2) (Zg0 h3 h4) (by decide)
theorem Same.laid {o:HO} (h:H p=none):Same H (upd H p o):=λ b u e=>by
 rw [Z5 (Qi e h)]; exact e
theorem Same.laidT {H0:Hp} {o:HO} (s:Same H0 H) (h:H p=none):Same H0 (upd H p o):=s.trans (Same.laid h)
theorem Same.put {H0:Hp} {o:HO} (s:Same H0 H) (h:H0 p=none):Same H0 (upd H p o):=λ b u e=>by
 rw [Z5 (Qi e h)]; exact s b u e
theorem Qc {wi:TI} {tb:TS} (h:wi σ H λ J H1=>∃ W:Nat->Nat->St->Hp->Prop,(∃ m,W 0 m σ H1)/\∀ i m σ H,W i m σ H ->
 (J.stop i H/\D.nx σ H)\/(J.go i H/\∃ N:St->Hp->Prop,(∀ σ' H',N σ' H'->∃ m',m'<m/\W (i+1) m' σ' H')/\∀ x H',J.yld i H x H'->g x σ H' λ σ2 H2=>tb { D with nx:=N,ct:=N,bk:=D.nx } σ2 H2)):Qo wi g tb D σ H:=h
theorem Q8 {ta:TA} {R:It->Hp->Prop} (h:ta σ H λ vs H1=>∃ j:Int,vs=[.int j]/\-(2 ^ 62)<=j/\j<2 ^ 62/\R (Itr 0 j.toNat) H1):Xz ta σ H R:=h
theorem Yy {n:Nat} (h:n<=1000):-(2 ^ 62)<=(n:Int)/\(n:Int)<2 ^ 62:=by omega
theorem X3 {tl:TE} {R:It->Hp->Prop} (h:tl σ H λ x H1=>∃ a,x=.ref a/\(((∃ xs,SqL K H1 a xs)/\R (Itl K a) H1)\/((∃ xs,SqT K H1 a xs)/\R (Itt K a) H1))):iSeq K tl σ H R:=h
theorem Xy {l:List (Option Nat)} {wi:TI} (h:wi σ H λ J H1=>∀ D,H1 D=none->∃ W:CompW,(∃ m,W 0 m [] (Xn l σ) (upd H1 D (.lst [])))/\Q7 J g c te D W λ H'=>Q (.ref D) H'):Xg l wi g c te σ H Q:=h
end
theorem Wq {n:Nat} {g:TG} {tb:TS} {D:Ends} {σ:St} {H:Hp} (Pv:Nat->St->Hp->Prop) (h0:Pv 0 σ H)
 (hs:∀ i σ H,i<n->Pv i σ H->g (.int (i:Nat)) σ H λ σ2 H2=>tb { D with nx:=Pv (i+1),ct:=Pv (i+1),bk:=D.nx } σ2 H2) (hd:∀ σ H,Pv n σ H->D.nx σ H) :
 ∃ W:Nat->Nat->St->Hp->Prop,(∃ m,W 0 m σ H)/\∀ i m σ H,W i m σ H ->
   ((Itr 0 n).stop i H/\D.nx σ H)\/((Itr 0 n).go i H/\∃ N:St->Hp->Prop,(∀ σ' H',N σ' H'->∃ m',m'<m/\W (i+1) m' σ' H')/\∀ x H',(Itr 0 n).yld i H x H'->g x σ H' λ σ2 H2=>tb { D with nx:=N,ct:=N,bk:=D.nx } σ2 H2) :=
 Zvb Pv h0 (λ i σ H hi p=>by rw [Int.zero_add]; exact hs i σ H hi p) hd
theorem ixi {ns:List Int} {i:Nat} (h:i<ns.length):atI (ns.map V.int) ((i:Nat):Int)=some (.int (ns.getD i 0)):=Xv (G8 h)
theorem Q3 {ns:List Int} {i:Nat} (h:i<ns.length):ns.getD i 0∈ns:=G9 h
theorem Znv:∀ {ns:List Int},(∀ x∈ns,0<=x)->0<=ns.sum
 | [],_=>by simp
 | n::ns,h=>by
   have h1:=h n (by simp)
   have h2:=Znv (ns:=ns) λ x hx=>h x (by simp [hx])
   rw [List.sum_cons]; omega
theorem Zi6:∀ {ns:List Int} {x:Int},(∀ y∈ns,0<=y)->x∈ns->0<x->0<ns.sum
 | [],_,_,hx,_=>by simp at hx
 | n::ns,x,h,hx,h0=>by
   rw [List.sum_cons]
   have h1:=h n (by simp)
   have h2:=Znv (ns:=ns) λ x hx=>h x (by simp [hx])
   rcases List.mem_cons.mp hx with e | e
   · subst e; omega
   · have:=Zi6 (ns:=ns) (λ x hx=>h x (by simp [hx])) e h0
     omega
theorem Zju:∀ {ns:List Int},(∀ y∈ns,0<=y)->ns.sum≠0->∃ x∈ns,0<x
 | [],_,h=>by simp at h
 | n::ns,h,hs=>by
   by_cases hn:0<n
   · exact ⟨n,by simp,hn⟩
   · have h1:=h n (by simp)
     have e:n=0:=by omega
     subst e
     rw [List.sum_cons,Int.zero_add] at hs
     obtain ⟨x,hx,p⟩:=Zju (ns:=ns) (λ y hy=>h y (by simp [hy])) hs
     exact ⟨x,by simp [hx],p⟩
theorem Zdk {ns:List Int} {k:Nat} {x:Int}:(ns.map V.int).set k (.int x)=(ns.set k x).map V.int:=by rw [List.map_set]
section
variable {l:List (Option Nat)} {te:TE} {σ σr:St} {H1:Hp} {Q:Hp->Prop}
theorem Ww {n:Nat} (D:Addr) (P:Nat->V->Hp->Prop) (hP:∀ i v H H',Tu H H'->P i v H->P i v H') (hn:n<=1000) (hD:H1 D=none) (hini:∃ r0,Xn l σ=r0::σr)
 (hs:∀ i H (R:VK),i<n->Same H1 H->(∀ v H4,Same H H4->P i v H4->R v H4)->te (some (.int (i:Nat))::σr) H R)
 (hd:∀ ys H,ys.length=n->(∀ i v,ys[i]?=some v->P i v H)->Same H1 H->H D=some (.lst ys)->Q H) :
 ∃ W:CompW,(∃ m,W 0 m [] (Xn l σ) (upd H1 D (.lst [])))/\Q7 (Itr 0 n) (Zo 0) Qd te D W Q:=by
 obtain ⟨r0,hini⟩:=hini
 refine Zkn D (λ i ys σ2 H=>ys.length=i/\(∀ j v,ys[j]?=some v->P j v H)/\Same H1 H/\∃ r0,σ2=r0::σr) hn (λ i ys σ H h=>Nat.le_of_eq h.1) ⟨rfl,λ j v e=>by simp at e,Same.laid hD,r0,hini⟩ ?_ ?_
 · rintro i ys σ2 H hi ⟨hl,hp,hs1,r1,rfl⟩ hH
   refine Zq (Ziw (iteT ?_))
   show te (some (.int (0+(i:Nat)))::σr) H _
   rw [Int.zero_add]
   refine hs i H _ hi hs1 λ v H4 h4 hv=>?_
   have hD4:H4 D=some (.lst ys):=h4 _ _ hH
   refine ⟨hD4,by simp [hl],λ j u e=>?_,(hs1.trans h4).put hD,some (.int (i:Nat)),by simp⟩
   by_cases hj:j<ys.length
   · rw [List.getElem?_append_left hj] at e
     exact hP _ _ _ _ (Tu.put hD4) (hP _ _ _ _ h4.tu (hp j u e))
   · rw [List.getElem?_append_right (by omega)] at e
     have hj2:j-ys.length=0:=by
      by_cases z:j-ys.length=0
      · exact z
      · rw [List.getElem?_eq_none (by simp; omega)] at e; cases e
     rw [hj2] at e
     have e':v=u:=by simpa using e
     have ej:j=i:=by omega
     rw [← e',ej]
     exact hP _ _ _ _ (Tu.put hD4) hv
 · rintro ys σ2 H ⟨hl,hp,hs1,_⟩ hH
   exact hd ys H hl hp hs1 hH
theorem Ey {K:Fq} {J:It} {a:Addr} {xs:List V} (hJ:(J=Itt K a/\H1 a=some (.tup xs))\/(J=Itl K a/\H1 a=some (.lst xs))) (D:Addr) (P:Nat->V->Hp->Prop) (hP:∀ i v H H',Tu H H'->P i v H->P i v H') (hn:xs.length<=1000) (hD:H1 D=none) (hini:∃ r0,Xn l σ=r0::σr)
 (hs:∀ i x H (R:VK),xs[i]?=some x->Same H1 H->(∀ v H4,Same H H4->P i v H4->R v H4)->te (some x::σr) H R)
 (hd:∀ ys H,ys.length=xs.length->(∀ i v,ys[i]?=some v->P i v H)->Same H1 H->H D=some (.lst ys)->Q H) :
 ∃ W:CompW,(∃ m,W 0 m [] (Xn l σ) (upd H1 D (.lst [])))/\Q7 J (Zo 0) Qd te D W Q:=by
 obtain ⟨r0,hini⟩:=hini
 refine Zfd D xs (λ i ys σ2 H=>ys.length=i/\(∀ j v,ys[j]?=some v->P j v H)/\Same H1 H/\∃ r0,σ2=r0::σr) hn (λ i ys σ H h=>Nat.le_of_eq h.1) ?_ ⟨rfl,λ j v e=>by simp at e,Same.laid hD,r0,hini⟩ ?_ ?_
 · rintro i ys σ2 H ⟨_,_,hs1,_⟩ _
   rcases hJ with ⟨rfl,e⟩ | ⟨rfl,e⟩
   · exact Z1p (SqT.of (hs1 _ _ e)) i
   · exact Zj2 (SqL.of (hs1 _ _ e)) i
 · rintro i x ys σ2 H hi ⟨hl,hp,hs1,r1,rfl⟩ hH
   refine Zq (Ziw (iteT ?_))
   refine hs i x H _ hi hs1 λ v H4 h4 hv=>?_
   have hD4:H4 D=some (.lst ys):=h4 _ _ hH
   refine ⟨hD4,by simp [hl],λ j u e=>?_,(hs1.trans h4).put hD,some x,rfl⟩
   by_cases hj:j<ys.length
   · rw [List.getElem?_append_left hj] at e
     exact hP _ _ _ _ (Tu.put hD4) (hP _ _ _ _ h4.tu (hp j u e))
   · rw [List.getElem?_append_right (by omega)] at e
     have hj2:j-ys.length=0:=by
      by_cases z:j-ys.length=0
      · exact z
      · rw [List.getElem?_eq_none (by simp; omega)] at e; cases e
     rw [hj2] at e
     have e':v=u:=by simpa using e
     have ej:j=i:=by omega
     rw [← e',ej]
     exact hP _ _ _ _ (Tu.put hD4) hv
 · rintro ys σ2 H ⟨hl,hp,hs1,_⟩ hH
   exact hd ys H hl hp hs1 hH
theorem Zse {α:Type} {f:α->V}:∀ {ys:List V} {P:Nat->α->Prop},(∀ (i:Nat) v,ys[i]?=some v->∃ x,v=f x/\P i x)->∃ rs:List α,ys=rs.map f/\∀ (i:Nat) x,rs[i]?=some x->∃ y,f y=f x/\P i y
 | [],P,_=>⟨[],rfl,λ i x e=>by simp at e⟩
 | y::ys,P,h=>by
   obtain ⟨x,hx,px⟩:=h 0 y rfl
   obtain ⟨rs,e,hr⟩:=Zse (ys:=ys) (P:=λ i=>P (i+1)) (λ i v hv=>h (i+1) v (by simpa using hv))
   refine ⟨x::rs,by rw [e,hx]; rfl,λ i z hz=>?_⟩
   cases i with
   | zero =>
     have:x=z:=by simpa using hz
     subst this
     exact ⟨x,rfl,px⟩
   | succ i=>exact hr i z (by simpa using hz)
theorem Zp1 {ys:List V} {P:Nat->Int->Prop} (h:∀ (i:Nat) v,ys[i]?=some v->∃ x,v=.int x/\P i x):∃ rs:List Int,ys=rs.map V.int/\∀ (i:Nat) x,rs[i]?=some x->P i x:=by
 obtain ⟨rs,e,hr⟩:=Zse h
 exact ⟨rs,e,λ i x hx=>by obtain ⟨y,ey,p⟩:=hr i x hx; cases ey; exact p⟩
end
end L2
namespace L2
open PySem PySem.W PySem.Calls PyProof.Rows
theorem Zqt {l:OpenLaw} {n:Nat} {q:Program} {loose:List Str} {XP:(Str->Option Value)->Heap->Prop} {YP:World->Heap->Prop} {d:DefRec}
 (hn:l.most=some n) (hdf:d.params.defaults=[])
 (call:∀ (w:World) (s₀ s₁:Shared) (mg mb:Str->Option Value) (fa:Addr) (a:Addr) (vs:List Value) (ns:List Int),
  Ground q loose [] XP w s₀ mg mb s₁.heap->YP w s₁.heap->mg d.name=some (.ref fa) ->
  s₁.heap.get? a=some { cls:=.type "list",data:=.seq vs.toArray }->IntsAre vs ns->ns.length<=n->(∀ i∈ns,Builtin.Int.intBits i<=1048576)->s₁.gens=#[] ->
  codeAny (model l.prog w) callerA (.call (.ref fa) ⟨[.ref a],[]⟩) (λ r s'=>r=.ok (.ret (.bool true))/\OldK s₁.heap s'.heap/\s'.os=s₁.os/\AllBare s'.gens) s₁) :
 WalkO q loose XP YP l.row.toRowW d [] (λ f vs=>PySem.call f vs):=by
 intro w s₀ s₁ mg mb G Y fa o pm cd doc dV kV ho hd hcd hD hmg hg args vals as hpre hlay hrd hwl hlo
 obtain ⟨a,vs,ns,rfl,rfl,hobj,hints,hlen⟩:=Att.Zt5 hn hpre hwl
 refine enter_call (codeAny_mono (call w s₀ s₁ mg mb fa a vs ns G Y hmg hobj hints hlen (bits_script hlay) hg) λ r s' hq=>?_)
 obtain ⟨rfl,h2,h3,h4⟩:=hq
 exact ⟨.inl ⟨.bool true,.bool true,[],rfl,λ _=>rfl,.bool true,Att.Zug l _,λ _=>⟨List.Pairwise.nil,λ _ hm=>(nomatch hm)⟩⟩,h2,h3,h4⟩
def Zn1 (K:Fq) (a:V) (H:Hp) (Q:VK) (E:XK):Prop:=∃ (l:Addr) (ns:List Int),a=.ref l/\SqL K H l (ns.map V.int)/\(∀ n∈ns,Builtin.Int.intBits n<=1048576)/\ns.length<=63/\∀ H',Q (.bl true) H'
theorem Zyq {l:OpenLaw} {q:Program} {loose:List Str} {XP:(Str->Option Value)->Heap->Prop} {YP:World->Heap->Prop} {d:DefRec} {K:Params->Frag} {x:Str} (k:Nat)
 (hn:l.most=some 63) (hdf:d.params.defaults=[]) (hk:k<=40)
 (hY:∀ (w:World) (h:Heap),YP w h->(K w.params).In h)
 (F:∀ (w:World) (mg:Str->Option Value) (h:Heap),(K w.params).In h->h.Ns mainGlobals mg->∃ f fd,mg d.name=some (.ref f)/\(∀ (s:Shared) (u:Value),BindsTo s fd ⟨[u],[]⟩ [(x,u)]) /\
  ∀ base:Heap,(K w.params).In base->base.Ns mainGlobals mg->FnOk l.prog w (K w.params) mg base CX0 k f fd [x] (sp1 (Zn1 (K w.params)))) :
 WalkO q loose XP YP l.row.toRowW d [] (λ f vs=>PySem.call f vs):=by
 refine Zqt hn hdf λ w s₀ s₁ mg mb fa a vs ns G Y hmg hobj hints hlen hbits hg=>?_
 have KX:=hY w _ Y
 obtain ⟨f,fd,hf,hb,hF⟩:=F w mg _ KX G.T.g
 rw [hmg] at hf
 cases hf
 have hr:Room 40 callerA:=⟨rfl,by decide,by decide⟩
 exact Zxa KX G.T.g G.T.b G.T.builtins G.T.nolimit hg hobj hints (Nat.le_trans hlen (by decide)) (hr.mono hk) hF hb
  (λ H hO hS=>⟨_,rfl,a,ns,rfl,hS,hbits,hlen,λ _=>rfl⟩) λ H e s' h=>h
end L2
namespace L2
open PySem PySem.Spec PyProof.Rows
theorem ObjOk.ob {P:Program} {w:World} {H:Hp} {h:Heap} {a:Addr} {o:HO} (x:ObjOk P w H h a o):∃ ob,h.get? a=some ob:=by
 cases o with
 | lst xs=>obtain ⟨_,_,_,_,e⟩:=x; exact ⟨_,e⟩
 | tup xs=>obtain ⟨_,_,_,ob,e,_⟩:=x; exact ⟨ob,e⟩
 | dK kvs=>obtain ⟨_,_,_,_,o,_,_,e,_⟩:=x; exact ⟨o,e⟩
 | dT kvs=>obtain ⟨_,_,_,_,o,_,_,e,_⟩:=x; exact ⟨o,e⟩
 | set S n=>obtain ⟨o,_,_,_,e,_⟩:=x; exact ⟨o,e⟩
 | ins C dx fs=>obtain ⟨_,_,_,e,_⟩:=x; exact ⟨_,e⟩
 | own y=>exact x
 | xd fs=>obtain ⟨_,⟨_,_,_,e,_⟩,_⟩:=x; exact ⟨_,e⟩
 | rng lo hi=>obtain ⟨_,_,_,e⟩:=x; exact ⟨_,e⟩
 | frz ob u=>exact ⟨_,x.1⟩
 | tbl ps=>exact ⟨_,x⟩
 | met f y=>exact ⟨_,x⟩
 | ext φ=>exact x.2.1
structure Flown (P:Program) (w:World) (base:Heap) (outer:List Env) (H:Hp) (s s':Shared) (e:Addr) (cls:Value) (H':Hp) (B:Heap) (a0:Value):Prop where
 os:s'.os=s.os
 bare:AllBare s'.gens
 fly:Heap.FlyingW B outer e cls a0 s'.heap
 hok:HOk P w H' B
 bst:base.StaysIn B
 noe:H' e=none
 keep:∀ b o,s.heap.get? b=some o->H b=none->b ∉ frs outer->B.get? b=some o
 slot:∀ b o,s.heap.get? b=some o->H b=none->b∈frs outer->∃ sl,s'.heap.get? b=some { o with slots:=sl }
 free:∀ b o,s.heap.get? b=some o->H b=none->H' b=none
 there:∀ b o,s.heap.get? b=some o->b ∉ frs outer->∃ o',B.get? b=some o'
 tups:∀ b xs,H b=some (.tup xs)->H' b=some (.tup xs)
 frzs:∀ b o u,H b=some (.frz o u)->H' b=some (.frz o u)
 tbls:∀ b ps,H b=some (.tbl ps)->∃ more,H' b=some (.tbl (ps++more))
def CXr (P:Program) (w:World) (base:Heap):CXT:=λ outer H s E x s'=>∃ e cls H' B a0,x=.ref e/\Flown P w base outer H s s' e cls H' B a0/\E cls none H'
section
variable {P:Program} {w:World} {base:Heap} {outer:List Env} {H H':Hp} {s s':Shared} {e:Addr} {cls:Value} {B:Heap} {a0:Value}
end
section
variable {X:Cx} {pins:List (Addr×Obj)} {σ:St} {H:Hp} {s:Shared}
theorem Inv.hide (I:Inv X pins σ H s):HOk X.prog X.w H (PySem.W.hideAll s.heap (frs X.stack)):=λ a o q =>
 (I.hok a o q).stay (λ b u hb r=>PySem.W.hideAll_get _ r λ hm=>by
  have n:=I.stkFree b hm
  rcases hb with z | z
  · rw [z,q] at n; cases n
  · rw [z] at n; cases n) (λ _ z=>z) λ _ _ z=>z
end
section
variable {P:Program} {w:World} {K:Fq} {mg:Str->Option Value} {base:Heap} {N:List Str} {qual:Str} {scope:Scope} {f:Addr} {cd:Value} {A:Around} {outer:List Env} {s:Shared} {H:Hp} {E:XK}
abbrev cxR (P:Program) (w:World) (K:Fq) (mg:Str->Option Value) (base:Heap) (N:List Str) (qual:Str) (scope:Scope) (f:Addr) (cd:Value) (A:Around) (outer:List Env) (s:Shared) (H:Hp) (E:XK):Cx :=
 cxOf (CXr P w base) P w K mg base N qual scope f cd A outer s H E
theorem Zkc {pins:List (Addr×Obj)} {σ:St} {H1:Hp} {s1:Shared} (I:Inv (cxR P w K mg base N qual scope f cd A outer s H E) pins σ H1 s1) {b:Addr} (hb:b<s.heap.objs.size) (n:b ∉ frs outer) :
 b ∉ frs (cxR P w K mg base N qual scope f cd A outer s H E).stack:=λ z=>by
 rcases List.mem_cons.mp (I.stkSub b z) with q | q
 · have q':b=s.heap.objs.size:=q
   exact absurd hb (by rw [q']; exact Nat.lt_irrefl _)
 · exact n q
theorem Zyo {pins:List (Addr×Obj)} {σ:St} {H1:Hp} {s1:Shared} {e:Addr} {cls:Value} {args:List Value} {h':Heap} (I:Inv (cxR P w K mg base N qual scope f cd A outer s H E) pins σ H1 s1)
 (hx:Heap.MadeExcOf s1.heap h' e cls args) (hE:E cls none H1):(cxR P w K mg base N qual scope f cd A outer s H E).xe (.ref e) { s1 with heap:=h' }:=by
 show wpAny (model P w) (A.deeper (envOfC qual scope s.heap.objs.size f cd)) (leaving (envOfC qual scope s.heap.objs.size f cd) (.ref e)) _ _ _
 have fun1:=I.stack
 refine wpAny_leaves_madeW (base:=PySem.W.hideAll s1.heap (frs (cxR P w K mg base N qual scope f cd A outer s H E).stack)) (h:=s1.heap) I.ok.frames rfl (λ b o q=>PySem.W.of_hideAll _ q)
  (PySem.W.funFrames_hide fun1 λ env he b hb=>List.mem_filterMap.mpr ⟨env,he,hb⟩) hx λ h2 t fl _ _ up=>?_
 have inB:∀ b o,s1.heap.get? b=some o->b ∉ frs (cxR P w K mg base N qual scope f cd A outer s H E).stack->(PySem.W.hideAll s1.heap (frs (cxR P w K mg base N qual scope f cd A outer s H E).stack)).get? b=some o:=λ b o q n=>PySem.W.hideAll_get _ q n
 refine ⟨e,cls,H1,_,_,rfl,⟨I.os,I.bare,fl,I.hide,λ b o q=>inB b o (I.bk b o q) λ hm=>?_,?_,λ b o q n hb=>?_,λ b o q n hb=>?_,λ b o q n=>I.base.free b o q n (by intro z; cases z),λ b o q hb=>?_,I.base.tups,I.base.frzs,I.base.tbls⟩,hE⟩
 · have z:base.get? b=none:=(fun1.mem hm).1
   rw [q] at z; cases z
 · cases q:H1 e with
   | none=>rfl
   | some u =>
     obtain ⟨ob,z⟩:=(I.hok e u q).ob
     rw [hx.new] at z; cases z
 · exact inB b o (I.base.keep b o q n hb (by intro z; cases z)) (Zkc I (Heap.lt_size q) hb)
 · obtain ⟨sl,r⟩:=I.base.slot b o q n hb (by intro z; cases z)
   obtain ⟨_,o2,q2,nf⟩:=I.ok.funs.mem hb
   have q3:s.heap.get? b=some o2:=q2
   rw [q] at q3
   cases q3
   obtain ⟨sl2,r2⟩:=up b _ (hx.keeps _ _ r) λ vs=>nf vs
   exact ⟨sl2,r2⟩
 · obtain ⟨o',r⟩:=I.base.there b o q (by intro z; cases z)
   exact ⟨o',inB b o' r (Zkc I (Heap.lt_size q) hb)⟩
theorem Em:Passes (CXr P w base) (cxR P w K mg base N qual scope f cd A outer s H E) E:=by
 intro pins σ H1 s1 x s' I h
 obtain ⟨e,cls,H2,B,a0,rfl,F,hE⟩:=h
 show wpAny (model P w) (A.deeper (envOfC qual scope s.heap.objs.size f cd)) (leaving (envOfC qual scope s.heap.objs.size f cd) (.ref e)) _ _ _
 refine wpAny_leaves_onW I.ok.frames rfl F.fly λ h2 fl up=>⟨e,cls,H2,B,a0,rfl,⟨F.os.trans I.os,F.bare,fl,F.hok,F.bst,F.noe,λ b o q n hb=>?_,λ b o q n hb=>?_,λ b o q n=>?_,λ b o q hb=>?_,λ b xs q=>F.tups b xs (I.base.tups b xs q),λ b o u q=>F.frzs b o u (I.base.frzs b o u q),λ b ps q=>?_⟩,hE⟩
 · exact F.keep b o (I.base.keep b o q n hb (by intro z; cases z)) (I.base.free b o q n (by intro z; cases z)) (Zkc I (Heap.lt_size q) hb)
 · obtain ⟨sl,r⟩:=I.base.slot b o q n hb (by intro z; cases z)
   have hb2:b∈frs (cxR P w K mg base N qual scope f cd A outer s H E).stack:=by
    show b∈(envOfC qual scope s.heap.objs.size f cd::outer).filterMap (·.frame)
    rw [List.filterMap_cons]
    exact List.mem_cons_of_mem _ hb
   obtain ⟨sl2,r2⟩:=F.slot b _ r (I.base.free b o q n (by intro z; cases z)) hb2
   obtain ⟨_,o2,q2,nf⟩:=I.ok.funs.mem hb
   have q3:s.heap.get? b=some o2:=q2
   rw [q] at q3
   cases q3
   obtain ⟨sl3,r3⟩:=up b _ r2 λ vs=>nf vs
   exact ⟨sl3,r3⟩
 · obtain ⟨o1,r⟩:=I.base.there b o q (by intro z; cases z)
   exact F.free b o1 r (I.base.free b o q n (by intro z; cases z))
 · obtain ⟨o1,r⟩:=I.base.there b o q (by intro z; cases z)
   exact F.there b o1 r (Zkc I (Heap.lt_size q) hb)
 · obtain ⟨m1,e1⟩:=I.base.tbls b ps q
   obtain ⟨m2,e2⟩:=F.tbls b _ e1
   exact ⟨m1++m2,by rw [e2,Array.append_assoc]⟩
theorem Fun.okR {x:Str} {st:Stmt} {fd:FuncData} {ps:List Str} {k:Nat} {sp:Sp} {f:Addr} (F:Fun K x qual st f fd) (S:FnScope N ps (Zu st)) (len:∀ vs H Q E,sp vs H Q E->vs.length=ps.length)
 (hbody:∀ (cdv:Value) (A:Around) (outer:List Env) (s:Shared) (H:Hp) (vs:List V) (Q:VK) (E:XK),Room k (A.deeper (envOfC qual (Zu st) s.heap.objs.size f cdv))->sp vs H Q E ->
  ∃ t,PSs (cxR P w K mg base N qual (Zu st) f cdv A outer s H E) (X7 st) t/\t { nx:=λ _ H'=>Q .non H',rt:=Q } (start N vs) H):FnOk P w K mg base (CXr P w base) (k+1) f fd ps sp:=by
 obtain ⟨oc,od,kV,doc,pm,an,cdv,ct,osl,rfl,lk,hcd⟩:=F.ex
 exact Ztb lk hcd S len λ A outer s H vs Q E hr hsp=>hbody cdv A outer s H vs Q E hr hsp
end
def bmV:List Value:=[.type "ValueError",.type "Exception",.type "BaseException",.type "object"]
structure ExC (K:Fq) (mg:Str->Option Value) (x:Str) (C:Addr):Prop where
 bound:mg x=some (.ref C)
 q:PySem.W.excIn K C bmV "ValueError.__new__"=true
theorem Zz9 {K:Fq} {h:Heap} {C:Addr} {bmB:List Value} {newId:String} (X:K.In h) (q:PySem.W.excIn K C bmB newId=true) :
 ∃ bm N nm q bs hdct sn sub ab col dd k0 k1 k2 k3 k5 mN,h.get? C=some (excClassObj nm q C N bs bm hdct sn sub ab col dd k0 k1 k2 k3 k5 newId)/\h.Ns N mN/\mN "__init__"=none/\OwnTail h bmB bm /\
   ∃ cd:ClassData,PySem.W.clsIn K C=some cd/\cd.mro=.ref C::bm:=by
 unfold PySem.W.excIn at q
 split at q
 · rename_i dd cd sl ho
   split at q
   · rename_i C' bm k0 k1 k2 k3 n k5 hm hs
     simp only [Bool.and_eq_true,beq_iff_eq,Bool.not_eq_true'] at q
     obtain ⟨⟨⟨⟨⟨rfl,rfl⟩,hdel⟩,ht⟩,hok⟩,hni⟩:=q
     have hcl:PySem.W.clsIn K C'=some cd:=by unfold PySem.W.clsIn; rw [ho]
     have hm0:=hm
     obtain ⟨nm,bs,mro,ns,qn,hd,sn,sub,ab,col,del⟩:=cd
     dsimp only at hm hdel hok hni
     subst hm hdel
     have hsl:sl=#[k0,k1,k2,k3,some (.builtin n),k5]:=by
      obtain ⟨l⟩:=sl
      simp only at hs
      rw [hs]
     subst hsl
     exact ⟨bm,ns,nm,qn,bs,hd,sn,sub,ab,col,dd,k0,k1,k2,k3,k5,_,X _ _ ho,.of_isNs (PySem.W.isNs_of_in X hok),PySem.W.nsMap_none_of_in X hok hni,PySem.W.tail_of_in X ht,_,hcl,hm0⟩
   · cases q
 · cases q
end L2
namespace L2
open PySem PySem.Spec PyProof.Rows
def Zfw (E:XK) (C:Value) (t:TA):TS:=λ _ σ H=>t σ H λ vs H1=>vs.length<=sizeLine/\E C none H1
def Made (X:Cx) (E:XK) (C:Value):Prop:=∀ (pins:List (Addr×Obj)) (σ:St) (H1:Hp) (s1:Shared) (e:Addr) (args:List Value) (h':Heap),Inv X pins σ H1 s1->Heap.MadeExcOf s1.heap h' e C args->E C none H1->X.xe (.ref e) { s1 with heap:=h' }
theorem Zyc {P:Program} {w:World} {K:Fq} {mg:Str->Option Value} {base:Heap} {N:List Str} {qual:Str} {scope:Scope} {f:Addr} {cd:Value} {A:Around} {outer:List Env} {s:Shared} {H:Hp} {E:XK} {C:Value} :
 Made (cxR P w K mg base N qual scope f cd A outer s H E) E C:=λ _ _ _ _ _ _ _ I hx hE=>Zyo I hx hE
section
variable {X:Cx} {x:Str} {C:Addr} {E:XK} {e:Expr} {es:List Expr} {t:TA} {np cpos pos:Pos}
theorem Zwu (hX:Made X E (.ref C)) (hc:X.calm=true) (T:ExC X.K X.mg x C) (hg:Gl X x) (ha:PA X (e::es) t) (hd:(x == ("__debug__":Str))=false:=by decide)
 (he:starEach (e::es) X.env=(false,eval e X.env)::starEach es X.env:=by rfl) (hpl:(backTo cpos (starEach es X.env)).any (·.1)=false:=by rfl) :
 PS X (.Raise (some (.Call (.Name x np) (e::es) [] cpos)) none pos) (Zfw E (.ref C) t):=by
 intro pins s σ H D I h
 obtain ⟨tl,N,nm,q,bs,hdct,sn,sub,ab,col,dd,k0,k1,k2,k3,k5,mN,hC,hN,hni,TL,_⟩:=Zz9 I.mod.kin T.q
 refine wpAny_Raise_call_subT (C:=C) (nm:=nm) (q:=q) (N:=N) (bs:=bs) (bm:=tl) (hdct:=hdct) (sn:=sn) (sub:=sub) (ab:=ab) (col:=col) (dd:=dd) (k0:=k0) (k1:=k1) (k2:=k2) (k3:=k3) (k5:=k5)
  PySem.F.excBase_ValueError (mN:=mN) (TL.hasType PySem.F.excBase_ValueError.hasBase) (I.ok.hd hc) ?_ hni (Zlj I hg T.bound ⟨rfl,?_⟩ hd)
 · rw [he]
   show (false || (backTo cpos (starEach es X.env)).any (·.1))=false
   rw [hpl]; rfl
 · have a:=ha cpos pins s σ H _ I h
   rw [he] at a ⊢
   refine Calls.evalArgs_plain (thn a λ us s2 ⟨vs,H2,I2,r,hz,hE⟩=>⟨rfl,by rw [← r.length]; exact hz,I2.bk _ _ hC,hN.keeps I2.bk,TL.keeps I2.bk,λ h' e' hm=>hX pins σ H2 s2 e' us h' I2 hm hE⟩)
end
abbrev Cx.suite (X:Cx) (e:Addr):Cx:={ X with A:=X.A.mark (some (.ref e)),calm:=false,xe:=λ _ _=>False }
theorem Inv.track {X:Cx} {pins:List (Addr×Obj)} {σ:St} {H:Hp} {s:Shared} {e:Addr} {u:HO} (I:Inv X pins σ H s) (hn:H e=none) (hnew:∀ b o,X.s₀.heap.get? b=some o->X.H₀ b=none->b ∉ X.ex->b≠e) (hL:X.env.locals≠e)
 (hc:∀ x c,X.env.cells.lookup x=some c->c≠e) (hp:∀ p∈X.pn++pins,p.1≠e) (new:ObjOk X.prog X.w (upd H e u) s.heap e u):Inv X pins σ (upd H e u) s:=by
 have ne:∀ {b:Addr} {o:HO},H b=some o->b≠e:=λ q=>Qi q hn
 refine ⟨I.ok,I.os,I.bare,⟨I.base.keep,I.base.slot,λ b o q n hx=>?_,I.base.there,λ b xs q=>?_,λ b o v q=>?_,λ b ps q=>?_⟩,I.loc,I.cell,?_,λ x c q=>?_,λ p q=>?_,λ b v q=>?_,I.len⟩
 · rw [Z5 (hnew b o q n hx)]; exact I.base.free b o q n hx
 · have z:=I.base.tups b xs q
   rw [Z5 (ne z)]; exact z
 · have z:=I.base.frzs b o v q
   rw [Z5 (ne z)]; exact z
 · obtain ⟨m,z⟩:=I.base.tbls b ps q
   exact ⟨m,by rw [Z5 (ne z)]; exact z⟩
 · rw [Z5 hL]; exact I.free
 · rw [Z5 (hc x c q)]; exact I.freeC x c q
 · obtain ⟨a,b,c⟩:=I.pin p q
   exact ⟨a,by rw [Z5 (hp p q)]; exact b,c⟩
 · by_cases hb:b=e
   · subst hb
     rw [Zn] at q
     cases q
     exact new
   · rw [Z5 hb] at q
     exact (I.hok b v q).stay (λ _ _ _ r=>r) (λ c z=>by rw [Z5 (ne z)]; exact z) λ c xs z=>by rw [Z5 (ne z)]; exact z
section
variable {X:Cx} {pins:List (Addr×Obj)} {σ:St} {H1 H2:Hp} {s1 s':Shared} {e C:Addr} {B:Heap} {a0:Value}
end
section
variable {X:Cx} {k:Nat} {g x n:Str} {ps:List Str} {sp:Sp} {p np cpos epos hpos pos:Pos} {e:Expr} {es:List Expr} {t:TA} {ts:TS} {D:Addr} {b₀:Stmt} {suite:List Stmt} {i:Nat}
end
end L2
namespace L2
open PySem PySem.Spec PyProof.Rows
section
variable {prog:Program} {w:World} {A:Around} {E:Value->Shared->Prop} {s:Shared}
theorem Zs3 {it t:Addr} {i:Nat} {items:Array Value} {x:Value} {Q:Value->Shared->Prop} (hit:s.heap.IsTupleIter it t i) (ht:s.heap.IsTuple t items) (hx:items[i]?=some x)
 (hQ:∀ h',h'.IsTupleIter it t (i+1)->Heap.SameBut it s.heap h'->Q x { s with heap:=h' }):wpAny (model prog w) A (Builtin.SmallTypes.nextOf (.ref it)) Q E s:=by
 obtain ⟨o,p1,p2,p3⟩:=id hit
 obtain ⟨u,r1,r2,r3,r4⟩:=ht
 unfold Builtin.SmallTypes.nextOf
 refine wpAny_bind (wpAny_callSpecial?_slot (name:=Str.ofString "__next__") hit.typeIs F.slot_tuple_iterator_next (wpAny_call_entry F.slot_tuple_iterator_next hit.typeIs F.entry_tuple_iterator_next ?_ (F.args_tuple_iterator_next_1 _)))
 show wpAny _ _ (field (.ref it) 0 >>= _) _ _ s
 refine wpAny_bind (wpAny_field p1 p3 (x:=.ref t) rfl ?_)
 show wpAny _ _ (if (Value.ref t == Value.none)=true then _ else _) _ _ s
 rw [if_neg (λ z=>by cases z)]
 show wpAny _ _ (field (.ref it) 1 >>= _) _ _ s
 refine wpAny_bind (wpAny_field p1 p3 (x:=.int i 0) rfl ?_)
 show wpAny _ _ (seqItems? (.ref t) >>= _) _ _ s
 refine wpAny_bind (wpAny_seqItems r1 r4 ?_)
 simp only [Int.toNat_natCast,hx]
 refine wpAny_bind (wpAny_setField p1 p3 (by simp) (wpAny_pure ⟨x,rfl,wpAny_pure (hQ _ ⟨_,Heap.get?_update_self _ p1 (Obj.isFreed_of_fields (Obj.data_mapFields p3 _)),(Obj.cls_mapFields ..).trans p2,?_⟩ (Heap.SameBut.update ..))⟩))
 rw [Obj.data_mapFields p3]
 simp [rawInt]
theorem Zur {it t:Addr} {i:Nat} {items:Array Value} {Q:Value->Shared->Prop} (hh:A.handled=none) (hit:s.heap.IsTupleIter it t i) (ht:s.heap.IsTuple t items) (hx:items[i]?=none)
 (hE:∀ h' e,Heap.ExtBut it s.heap h'->(∃ o,h'.get? e=some o/\o.cls=.type "StopIteration")->E (.ref e) { s with heap:=h' }):wpAny (model prog w) A (Builtin.SmallTypes.nextOf (.ref it)) Q E s:=by
 obtain ⟨o,p1,p2,p3⟩:=id hit
 obtain ⟨u,r1,r2,r3,r4⟩:=ht
 unfold Builtin.SmallTypes.nextOf
 refine wpAny_bind (wpAny_callSpecial?_slot (name:=Str.ofString "__next__") hit.typeIs F.slot_tuple_iterator_next (wpAny_call_entry F.slot_tuple_iterator_next hit.typeIs F.entry_tuple_iterator_next ?_ (F.args_tuple_iterator_next_1 _)))
 show wpAny _ _ (field (.ref it) 0 >>= _) _ _ s
 refine wpAny_bind (wpAny_field p1 p3 (x:=.ref t) rfl ?_)
 show wpAny _ _ (if (Value.ref t == Value.none)=true then _ else _) _ _ s
 rw [if_neg (λ z=>by cases z)]
 show wpAny _ _ (field (.ref it) 1 >>= _) _ _ s
 refine wpAny_bind (wpAny_field p1 p3 (x:=.int i 0) rfl ?_)
 show wpAny _ _ (seqItems? (.ref t) >>= _) _ _ s
 refine wpAny_bind (wpAny_seqItems r1 r4 ?_)
 simp only [Int.toNat_natCast,hx]
 refine wpAny_bind (wpAny_rule (wpAny_bind (wpAny_setField p1 p3 (by simp) ?_)))
 show wpAny _ _ (newExc (.type "StopIteration") [] >>= _) _ _ _
 refine wpAny_bind ?_
 simp only [newExc,newTuple]
 refine wpAny_bind (wpAny_newObj_type ?_ (by size_fits))
 refine wpAny_bind (m:=firstArgMember _ _) (wpAny_of_eq (a:=Value.none) (by first | rfl | (simp only [firstArgMember]; rfl)) ?_)
 refine wpAny_newObj_type ?_ (by size_fits)
 simp only [raiseNew]
 refine wpAny_bind (wpAny_handled ?_)
 first | rw [show A.in1.handled=none from hh] | rw [hh]
 exact wpAny_bind (wpAny_pure (wpAny_throw (hE _ _ (((Heap.SameBut.update ..).extBut.push _).push _) ⟨_,Heap.get?_push_size _ rfl,rfl⟩)))
end
def SqB (b:Bool) (h:Heap) (a:Addr) (xs:Array Value):Prop:=if b=true then h.IsTuple a xs else h.IsList a xs
def ItB (b:Bool) (h:Heap) (it a:Addr) (k:Nat):Prop:=if b=true then h.IsTupleIter it a k else h.IsListIter it a k
def Ze9 (b:Bool) (a:Addr):Obj:=if b=true then { cls:=.type "tuple_iterator",data:=.fields #[.ref a,.int 0 0] } else { cls:=.type "list_iterator",data:=.fields #[.ref a,.int 0 0] }
theorem ItB.at {b:Bool} {h h':Heap} {it a:Addr} {k:Nat} (x:ItB b h it a k) (f:∀ o,h.get? it=some o->h'.get? it=some o):ItB b h' it a k:=by
 cases b with
 | true=>exact Heap.IsTupleIter.at (show h.IsTupleIter it a k from x) f
 | false=>exact Heap.IsListIter.at (show h.IsListIter it a k from x) f
theorem ItB.ob {b:Bool} {h:Heap} {it a:Addr} {k:Nat} (x:ItB b h it a k):∃ o,h.get? it=some o/\∀ v,o.data≠.cell v:=by
 cases b with
 | true=>obtain ⟨o,e,c,d⟩:=(show h.IsTupleIter it a k from x); exact ⟨o,e,λ v z=>by rw [d] at z; cases z⟩
 | false=>obtain ⟨o,e,c,d⟩:=(show h.IsListIter it a k from x); exact ⟨o,e,λ v z=>by rw [d] at z; cases z⟩
theorem ItB.new {b:Bool} {h:Heap} {it a:Addr} (e:h.get? it=some (Ze9 b a)):ItB b h it a 0:=by
 cases b with
 | true=>exact ⟨_,e,rfl,rfl⟩
 | false=>exact ⟨_,e,rfl,rfl⟩
theorem SqB.at {b:Bool} {h h':Heap} {a:Addr} {xs:Array Value} (x:SqB b h a xs) (f:∀ o,h.get? a=some o->h'.get? a=some o):SqB b h' a xs:=by
 cases b with
 | true=>obtain ⟨o,e,r⟩:=(show h.IsTuple a xs from x); exact ⟨o,f o e,r⟩
 | false=>obtain ⟨o,e,r⟩:=(show h.IsList a xs from x); exact ⟨o,f o e,r⟩
section
variable {prog:Program} {w:World} {A:Around} {E:Value->Shared->Prop} {s:Shared}
theorem Ze3 {b:Bool} {it a:Addr} {k:Nat} {xs:Array Value} {x:Value} {Q:Value->Shared->Prop} (hi:ItB b s.heap it a k) (hs:SqB b s.heap a xs) (hx:xs[k]?=some x)
 (hQ:∀ h',ItB b h' it a (k+1)->Heap.SameBut it s.heap h'->Q x { s with heap:=h' }):wpAny (model prog w) A (Builtin.SmallTypes.nextOf (.ref it)) Q E s:=by
 cases b with
 | true=>exact Zs3 hi hs hx λ h' i' sb=>hQ h' i' sb
 | false=>exact wpAny_nextOf_list_item hi hs hx λ h' i' sb=>hQ h' i' sb
theorem Zmc {b:Bool} {it a:Addr} {k:Nat} {xs:Array Value} {Q:Value->Shared->Prop} (hh:A.handled=none) (hi:ItB b s.heap it a k) (hs:SqB b s.heap a xs) (hx:xs[k]?=none)
 (hE:∀ h' e,Heap.ExtBut it s.heap h'->(∃ o,h'.get? e=some o/\o.cls=.type "StopIteration")->E (.ref e) { s with heap:=h' }):wpAny (model prog w) A (Builtin.SmallTypes.nextOf (.ref it)) Q E s:=by
 cases b with
 | true=>exact Zur hh hi hs hx hE
 | false=>exact wpAny_nextOf_list_end hh hi hs hx hE
theorem Zyh {b:Bool} {a:Addr} {xs:Array Value} {Q:Value->Shared->Prop} (hs:SqB b s.heap a xs) (hQ:Q (.ref s.heap.objs.size) { s with heap:=s.heap.push (Ze9 b a) }):wpAny (model prog w) A (pyIter (.ref a)) Q E s:=by
 cases b with
 | true=>exact wpAny_pyIter_tuple hs hQ
 | false=>exact wpAny_pyIter_list hs hQ
structure Apz (z TI TO i1 i2:Addr):Prop where
 a1:TI≠z
 a2:TO≠z
 a3:i1≠z
 a4:i2≠z
 a5:TI≠TO
 a6:TI≠i1
 a7:TI≠i2
 a8:TO≠i1
 a9:TO≠i2
 b1:i1≠i2
theorem Znl {b1 b2:Bool} {z TI TO i1 i2 l1 l2:Addr} {k:Nat} {xs ys:Array Value} {x y a b:Value} {Q:Option Value->Shared->Prop} (D:Apz z TI TO i1 i2)
 (hz:IsZip s.heap z TI TO .none) (hTI:IsPair s.heap TI (.ref i1) (.ref i2)) (hTO:IsPair s.heap TO a b) (h1:ItB b1 s.heap i1 l1 k) (h2:ItB b2 s.heap i2 l2 k) (hl1:SqB b1 s.heap l1 xs) (hl2:SqB b2 s.heap l2 ys)
 (n1:∀ c∈[z,TO,i1,i2],l1≠c/\l2≠c) (hx:xs[k]?=some x) (hy:ys[k]?=some y)
 (hQ:∀ h',IsZip h' z TI TO (rawInt s.heap.objs.size)->IsPair h' TO x y->ItB b1 h' i1 l1 (k+1)->ItB b2 h' i2 l2 (k+1)->IsPair h' s.heap.objs.size x y->h'.objs.size=s.heap.objs.size+1 ->
  (∀ c o,c≠z->c≠TO->c≠i1->c≠i2->s.heap.get? c=some o->h'.get? c=some o)->Q (some (.ref s.heap.objs.size)) { s with heap:=h' }) :
 wpAny (model prog w) A (pyNext (.ref z)) Q E s:=by
 have hT:s.TypeIs (.ref z) "zip":=⟨_,hz,rfl⟩
 have m1:=n1 z (by simp)
 have m2:=n1 TO (by simp)
 have m3:=n1 i1 (by simp)
 have m4:=n1 i2 (by simp)
 unfold pyNext
 refine wpAny_bind (wpAny_attempt (wpAny_callSpecial?_slot (name:=Str.ofString "__next__") hT F.slot_zip_next (wpAny_call_entry F.slot_zip_next hT F.entry_zip_next (?_:wpAny _ _ (Builtin.«zip.__next__» ⟨[.ref z],[]⟩) _ _ s) (F.args_zip_next_1 _))))
 show wpAny _ _ (field (.ref z) 2 >>= _) _ _ _
 refine wpAny_bind (wpAny_field hz rfl (x:=.bool false) rfl ?_)
 show wpAny _ _ (field (.ref z) 3 >>= _) _ _ _
 refine wpAny_bind (wpAny_field hz rfl (x:=.ref TI) rfl (wpAny_bind (wpAny_seqItems hTI rfl ?_)))
 show wpAny _ _ (Builtin.SmallTypes.ownedTupleIsFree (.ref z) >>= _) _ _ _
 refine wpAny_bind ?_
 unfold Builtin.SmallTypes.ownedTupleIsFree
 refine wpAny_bind (wpAny_field hz rfl (x:=.none) rfl (wpAny_pure ?_))
 simp only [if_true]
 refine wpAny_bind (wpAny_rule (wpAny_bind (wpAny_field hz rfl (x:=.ref TO) rfl (wpAny_bind (wpAny_setField_rec hz (by simp) λ g1 z1 s1=>?_)))))
 replace z1:IsZip g1 z TI TO .ellipsis:=z1
 refine wpAny_bind ?_
 simp only [List.zipIdx_cons,List.zipIdx_nil,List.forIn_cons,List.forIn_nil]
 refine wpAny_bind (wpAny_bind (wpAny_onRaise ?_))
 show wpAny _ _ (Builtin.SmallTypes.nextOf (.ref i1) >>= _) _ _ _
 refine wpAny_bind (Ze3 (h1.at λ o q=>s1.extBut _ _ D.a3 q) (hl1.at λ o q=>s1.extBut _ _ m1.1 q) hx λ g2 j1 s2=>wpAny_pure ?_)
 have t2:IsPair g2 TO a b:=s2.extBut _ _ D.a8 (s1.extBut _ _ D.a2 hTO)
 refine wpAny_bind (wpAny_seqItems t2 rfl (wpAny_bind (wpAny_updateSeq_pair t2 λ g3 t3 s3=>wpAny_bind (wpAny_letGo (wpAny_pure ?_)))))
 replace t3:IsPair g3 TO x b:=t3
 refine wpAny_bind (wpAny_bind (wpAny_onRaise ?_))
 show wpAny _ _ (Builtin.SmallTypes.nextOf (.ref i2) >>= _) _ _ _
 refine wpAny_bind (Ze3 (h2.at λ o q=>s3.extBut _ _ D.a9.symm (s2.extBut _ _ D.b1.symm (s1.extBut _ _ D.a4 q))) (hl2.at λ o q=>s3.extBut _ _ m2.2 (s2.extBut _ _ m3.2 (s1.extBut _ _ m1.2 q))) hy λ g4 j2 s4=>wpAny_pure ?_)
 have t4:IsPair g4 TO x b:=s4.extBut _ _ D.a9 t3
 refine wpAny_bind (wpAny_seqItems t4 rfl (wpAny_bind (wpAny_updateSeq_pair t4 λ g5 t5 s5=>wpAny_bind (wpAny_letGo (wpAny_pure (wpAny_pure ?_))))))
 replace t5:IsPair g5 TO x y:=t5
 refine wpAny_bind (wpAny_seqItems t5 rfl (wpAny_bind (wpAny_newTuple ?_)))
 have hsz:g5.objs.size=s.heap.objs.size:=by rw [s5.1,s4.1,s3.1,s2.1,s1.1]
 have z5:IsZip g5 z TI TO .ellipsis:=s5.extBut _ _ D.a2.symm (s4.extBut _ _ D.a4.symm (s3.extBut _ _ D.a2.symm (s2.extBut _ _ D.a3.symm z1)))
 have k5:∀ c o,c≠z->c≠TO->c≠i1->c≠i2->s.heap.get? c=some o->g5.get? c=some o:=λ c o c1 c2 c3 c4 q=>s5.extBut _ _ c2 (s4.extBut _ _ c4 (s3.extBut _ _ c2 (s2.extBut _ _ c3 (s1.extBut _ _ c1 q))))
 have j15:ItB b1 g5 i1 l1 (k+1):=j1.at λ o q=>s5.extBut _ _ D.a8.symm (s4.extBut _ _ D.b1 (s3.extBut _ _ D.a8.symm q))
 have j25:ItB b2 g5 i2 l2 (k+1):=j2.at λ o q=>s5.extBut _ _ D.a9.symm q
 have zlt:z<g5.objs.size:=Heap.lt_size z5
 show wpAny _ _ (Builtin.SmallTypes.ownedTupleHandOut (.ref z) (.ref g5.objs.size) >>= _) _ _ _
 refine wpAny_bind ?_
 unfold Builtin.SmallTypes.ownedTupleHandOut
 have z6:IsZip (g5.push { cls:=.type "tuple",data:=.seq #[x,y] }) z TI TO .ellipsis:=Heap.get?_push_of_some _ z5
 refine wpAny_bind (wpAny_setField_rec z6 (by simp) λ g7 z7 s7=>?_)
 replace z7:IsZip g7 z TI TO (rawInt g5.objs.size):=z7
 refine wpAny_setField_rec z7 (by simp) λ g8 z8 s8=>?_
 replace z8:IsZip g8 z TI TO (rawInt g5.objs.size):=z8
 have up:∀ c o,c≠z->g5.get? c=some o->g8.get? c=some o:=λ c o c1 q=>s8.extBut _ _ c1 (s7.extBut _ _ c1 (Heap.get?_push_of_some _ q))
 have T8:IsPair g8 g5.objs.size x y:=s8.extBut _ _ (Nat.ne_of_gt zlt) (s7.extBut _ _ (Nat.ne_of_gt zlt) (Heap.get?_push_size _ rfl))
 have sz8:g8.objs.size=g5.objs.size+1:=by rw [s8.1,s7.1,Heap.size_push]
 rw [hsz] at z8 T8 sz8
 refine wpAny_pure ⟨_,rfl,wpAny_pure ?_⟩
 show Q (some (.ref g5.objs.size)) _
 rw [hsz]
 exact hQ g8 z8 (up _ _ D.a2 t5) (j15.at λ o q=>up _ o D.a3 q) (j25.at λ o q=>up _ o D.a4 q) T8 sz8 λ c o c1 c2 c3 c4 q=>up c o c1 (k5 c o c1 c2 c3 c4 q)
theorem Znk {b1 b2:Bool} {z TI TO i1 i2 l1 l2:Addr} {k:Nat} {xs ys:Array Value} {a b:Value} {Q:Option Value->Shared->Prop} (hh:A.handled=none) (D:Apz z TI TO i1 i2)
 (hz:IsZip s.heap z TI TO .none) (hTI:IsPair s.heap TI (.ref i1) (.ref i2)) (hTO:IsPair s.heap TO a b) (h1:ItB b1 s.heap i1 l1 k) (h2:ItB b2 s.heap i2 l2 k) (hl1:SqB b1 s.heap l1 xs) (hl2:SqB b2 s.heap l2 ys)
 (n1:∀ c∈[z,TO,i1,i2],l1≠c/\l2≠c) (hend:xs[k]?=none\/ys[k]?=none)
 (hQ:∀ h',(∀ c o,c≠z->c≠TO->c≠i1->c≠i2->s.heap.get? c=some o->h'.get? c=some o)->Q none { s with heap:=h' }):wpAny (model prog w) A (pyNext (.ref z)) Q E s:=by
 have hT:s.TypeIs (.ref z) "zip":=⟨_,hz,rfl⟩
 have m1:=n1 z (by simp)
 have m2:=n1 TO (by simp)
 have m3:=n1 i1 (by simp)
 have m4:=n1 i2 (by simp)
 unfold pyNext
 have fin:∀ (e:Addr) (h':Heap),(∀ c o,c≠z->c≠TO->c≠i1->c≠i2->s.heap.get? c=some o->h'.get? c=some o)->(∃ o,h'.get? e=some o/\o.cls=.type "StopIteration") ->
  wpAny (model prog w) A (do if ← isInstance (.ref e) (.type "StopIteration") then pure none else throw (Value.ref e):Sem (Option Value)) Q E { s with heap:=h' }:=by
  rintro e h' kk ⟨o,q1,q2⟩
  exact wpAny_bind (wpAny_isInstance (T:="StopIteration") (b:=true) ⟨o,q1,q2⟩ isSubtype_stop (wpAny_pure (hQ _ kk)))
 refine wpAny_bind (wpAny_attempt (wpAny_callSpecial?_slot (name:=Str.ofString "__next__") hT F.slot_zip_next (wpAny_call_entry F.slot_zip_next hT F.entry_zip_next (?_:wpAny _ _ (Builtin.«zip.__next__» ⟨[.ref z],[]⟩) _ _ s) (F.args_zip_next_1 _))))
 show wpAny _ _ (field (.ref z) 2 >>= _) _ _ _
 refine wpAny_bind (wpAny_field hz rfl (x:=.bool false) rfl ?_)
 show wpAny _ _ (field (.ref z) 3 >>= _) _ _ _
 refine wpAny_bind (wpAny_field hz rfl (x:=.ref TI) rfl (wpAny_bind (wpAny_seqItems hTI rfl ?_)))
 show wpAny _ _ (Builtin.SmallTypes.ownedTupleIsFree (.ref z) >>= _) _ _ _
 refine wpAny_bind ?_
 unfold Builtin.SmallTypes.ownedTupleIsFree
 refine wpAny_bind (wpAny_field hz rfl (x:=.none) rfl (wpAny_pure ?_))
 simp only [if_true]
 refine wpAny_bind (wpAny_rule (wpAny_bind (wpAny_field hz rfl (x:=.ref TO) rfl (wpAny_bind (wpAny_setField_rec hz (by simp) λ g1 z1 s1=>?_)))))
 replace z1:IsZip g1 z TI TO .ellipsis:=z1
 refine wpAny_bind ?_
 simp only [List.zipIdx_cons,List.zipIdx_nil,List.forIn_cons,List.forIn_nil]
 refine wpAny_bind (wpAny_bind (wpAny_onRaise ?_))
 show wpAny _ _ (Builtin.SmallTypes.nextOf (.ref i1) >>= _) _ _ _
 cases hx:xs[k]? with
 | none =>
   refine wpAny_bind (Zmc hh (h1.at λ o q=>s1.extBut _ _ D.a3 q) (hl1.at λ o q=>s1.extBut _ _ m1.1 q) hx λ g2 e s2 he=>?_)
   obtain ⟨oe,p1,p2⟩:=he
   have z2:IsZip g2 z TI TO .ellipsis:=s2 _ _ D.a3.symm z1
   have nez:e≠z:=λ q=>by subst q; rw [z2] at p1; cases p1; simp at p2
   exact wpAny_setField_rec z2 (by simp) λ g3 _ s3=>fin e g3 (λ c o c1 _ c3 _ q=>s3.extBut _ _ c1 (s2 _ _ c3 (s1.extBut _ _ c1 q))) ⟨oe,s3.extBut _ _ nez p1,p2⟩
 | some x =>
   have hy:ys[k]?=none:=by
    rcases hend with q | q
    · rw [hx] at q; cases q
    · exact q
   refine wpAny_bind (Ze3 (h1.at λ o q=>s1.extBut _ _ D.a3 q) (hl1.at λ o q=>s1.extBut _ _ m1.1 q) hx λ g2 j1 s2=>wpAny_pure ?_)
   have t2:IsPair g2 TO a b:=s2.extBut _ _ D.a8 (s1.extBut _ _ D.a2 hTO)
   refine wpAny_bind (wpAny_seqItems t2 rfl (wpAny_bind (wpAny_updateSeq_pair t2 λ g3 t3 s3=>wpAny_bind (wpAny_letGo (wpAny_pure ?_)))))
   refine wpAny_bind (wpAny_bind (wpAny_onRaise ?_))
   show wpAny _ _ (Builtin.SmallTypes.nextOf (.ref i2) >>= _) _ _ _
   refine wpAny_bind (Zmc hh (h2.at λ o q=>s3.extBut _ _ D.a9.symm (s2.extBut _ _ D.b1.symm (s1.extBut _ _ D.a4 q))) (hl2.at λ o q=>s3.extBut _ _ m2.2 (s2.extBut _ _ m3.2 (s1.extBut _ _ m1.2 q))) hy λ g4 e s4 he=>?_)
   obtain ⟨oe,p1,p2⟩:=he
   have z4:IsZip g4 z TI TO .ellipsis:=s4 _ _ D.a4.symm (s3.extBut _ _ D.a2.symm (s2.extBut _ _ D.a3.symm z1))
   have nez:e≠z:=λ q=>by subst q; rw [z4] at p1; cases p1; simp at p2
   exact wpAny_setField_rec z4 (by simp) λ g5 _ s5=>fin e g5 (λ c o c1 c2 c3 c4 q=>s5.extBut _ _ c1 (s4 _ _ c4 (s3.extBut _ _ c2 (s2.extBut _ _ c3 (s1.extBut _ _ c1 q))))) ⟨oe,s5.extBut _ _ nez p1,p2⟩
abbrev zp1 (b1:Bool) (h:Heap) (l1:Addr):Heap:=h.push (Ze9 b1 l1)
abbrev zp2 (b1 b2:Bool) (h:Heap) (l1 l2:Addr):Heap:=(zp1 b1 h l1).push (Ze9 b2 l2)
abbrev zp3 (b1 b2:Bool) (h:Heap) (l1 l2:Addr):Heap:=(zp2 b1 b2 h l1 l2).push { cls:=.type "tuple",data:=.seq #[.ref h.objs.size,.ref (zp1 b1 h l1).objs.size] }
abbrev zp4 (b1 b2:Bool) (h:Heap) (l1 l2:Addr):Heap:=(zp3 b1 b2 h l1 l2).push { cls:=.type "tuple",data:=.seq #[.none,.none] }
abbrev zp5 (b1 b2:Bool) (h:Heap) (l1 l2:Addr):Heap:=(zp4 b1 b2 h l1 l2).push { cls:=.type "zip",data:=.fields #[.none,.bool false,.bool false,.ref (zp2 b1 b2 h l1 l2).objs.size,.ref (zp3 b1 b2 h l1 l2).objs.size] }
theorem Ztp {b1 b2:Bool} (l1 l2:Addr) (xs ys:Array Value) :
 Meets (Builtin.«zip.__new__» ⟨[.type "zip",.ref l1,.ref l2],[]⟩) (λ _ R s=>SqB b1 s.heap l1 xs/\SqB b2 s.heap l2 ys/\R (.ok (.ret (.ref (zp4 b1 b2 s.heap l1 l2).objs.size))) { s with heap:=zp5 b1 b2 s.heap l1 l2 }) :=
 .of_wp λ prog w A R s h=>by
  obtain ⟨hp,g,d,tk,os⟩:=s
  obtain ⟨q1,q2,h⟩:=h
  have hsub:=sub_zip
  have L1:SqB b1 (Shared.heap ⟨hp,g,d,tk,os⟩) l1 xs:=q1
  have L2:SqB b2 (Shared.heap ⟨hp.push (Ze9 b1 l1),g,d,tk,os⟩) l2 ys:=q2.at λ o e=>Heap.get?_push_of_some _ e
  wp_walk using Zyh L1,Zyh L2
  exact ⟨_,rfl,h⟩
theorem Znm {b1 b2:Bool} {l1 l2:Addr} {xs ys:Array Value} {Q:Value->Shared->Prop} (q1:SqB b1 s.heap l1 xs) (q2:SqB b2 s.heap l2 ys)
 (h:∀ h',IsZip h' (s.heap.objs.size+4) (s.heap.objs.size+2) (s.heap.objs.size+3) .none->IsPair h' (s.heap.objs.size+2) (.ref s.heap.objs.size) (.ref (s.heap.objs.size+1)) ->
  IsPair h' (s.heap.objs.size+3) .none .none->ItB b1 h' s.heap.objs.size l1 0->ItB b2 h' (s.heap.objs.size+1) l2 0->(∀ c o,s.heap.get? c=some o->h'.get? c=some o)->Q (.ref (s.heap.objs.size+4)) { s with heap:=h' }) :
 wpAny (model prog w) A (call (.type "zip") [.ref l1,.ref l2]) Q E s:=by
 refine callType_new F.called_zip (by decide) (F.typeCall_zip_2 _ _) (F.newCall_zip_2 _ _) (λ obj=>F.args_object_init_3 obj _ _) F.entry_zip_new (Ztp l1 l2 xs ys) ⟨q1,q2,?_⟩
 have y1:(zp1 b1 s.heap l1).objs.size=s.heap.objs.size+1:=Heap.size_push ..
 have y2:(zp2 b1 b2 s.heap l1 l2).objs.size=s.heap.objs.size+2:=by rw [Heap.size_push,y1]
 have y3:(zp3 b1 b2 s.heap l1 l2).objs.size=s.heap.objs.size+3:=by rw [Heap.size_push,y2]
 have y4:(zp4 b1 b2 s.heap l1 l2).objs.size=s.heap.objs.size+4:=by rw [Heap.size_push,y3]
 have u5:(zp5 b1 b2 s.heap l1 l2).get? (zp4 b1 b2 s.heap l1 l2).objs.size=some _:=Heap.get?_push_size _ rfl
 have u4:(zp5 b1 b2 s.heap l1 l2).get? (zp3 b1 b2 s.heap l1 l2).objs.size=some _:=Heap.get?_push_of_some _ (Heap.get?_push_size _ rfl)
 have u3:(zp5 b1 b2 s.heap l1 l2).get? (zp2 b1 b2 s.heap l1 l2).objs.size=some _:=Heap.get?_push_of_some _ (Heap.get?_push_of_some _ (Heap.get?_push_size _ rfl))
 have u2:(zp5 b1 b2 s.heap l1 l2).get? (zp1 b1 s.heap l1).objs.size=some (Ze9 b2 l2):=Heap.get?_push_of_some _ (Heap.get?_push_of_some _ (Heap.get?_push_of_some _ (Heap.get?_push_size _ (by cases b2 <;> rfl))))
 have u1:(zp5 b1 b2 s.heap l1 l2).get? s.heap.objs.size=some (Ze9 b1 l1):=Heap.get?_push_of_some _ (Heap.get?_push_of_some _ (Heap.get?_push_of_some _ (Heap.get?_push_of_some _ (Heap.get?_push_size _ (by cases b1 <;> rfl)))))
 show _/\_
 rw [y2,y3,y4] at u5
 rw [y1,y2] at u3
 rw [y3] at u4
 rw [y1] at u2
 rw [y4]
 exact ⟨⟨_,u5,rfl⟩,h _ u5 u3 u4 (ItB.new u1) (ItB.new u2) λ c o x=>Heap.get?_push_of_some _ (Heap.get?_push_of_some _ (Heap.get?_push_of_some _ (Heap.get?_push_of_some _ (Heap.get?_push_of_some _ x))))⟩
end
theorem Inv.turnedN {X:Cx} {pins:List (Addr×Obj)} {σ:St} {H:Hp} {s:Shared} {h':Heap} {t':Nat} {fp:List Addr} (I:Inv X pins σ H s) (k:∀ b o,b ∉ fp->s.heap.get? b=some o->h'.get? b=some o) (hf:∀ b∈fp,FpOk X pins H b) :
 Inv X pins σ H { s with heap:=h',toks:=t' }:=by
 have nit:∀ b u,H b=some u->b ∉ fp:=λ b u e z=>by rw [(hf b z).1] at e; cases e
 refine I.step (g':=s.gens) (d':=s.drawn) (ch:=fp) (λ b hb=>?_) (λ b o _ _ hc e _=>k b o hc e) (λ b o _ _ hc e _=>⟨o.slots,k b o hc e⟩) (λ _ _ _ _ n=>n)
  (λ b o hc e=>⟨o,k b o hc e⟩) (λ _ _ e=>e) (λ _ _ _ e=>e) (λ b ps e=>⟨#[],by rw [e]; simp⟩) (λ m hm=>?_) (λ b u e=>?_) I.bare
 · obtain ⟨f0,f1,f2,f3,f4,f5⟩:=hf b hb
   exact ⟨f3,f1,f4,f5⟩
 · obtain ⟨o,es,ep,ho,r⟩:=hm
   exact ⟨o,es,ep,k _ o (λ z=>(hf _ z).2.1 rfl) ho,r⟩
 · refine (I.hok b u e).stay (λ c v hc q=>k c v ?_ q) (λ _ q=>q) λ _ _ q=>q
   rcases hc with z | z
   · rw [z]; exact nit b u e
   · exact nit c _ z
def Itz (K:Fq) (a1 a2:Addr):It :=
 ⟨λ i H=>∃ xs ys x y,SqT K H a1 xs/\SqT K H a2 ys/\xs[i]?=some x/\ys[i]?=some y,
  λ i H v H'=>∃ p x y,H p=none/\v=.ref p/\(∀ xs,SqT K H a1 xs->xs[i]?=some x)/\(∀ ys,SqT K H a2 ys->ys[i]?=some y)/\H'=upd H p (.tup [x,y]),
  λ i H=>∃ xs ys,SqT K H a1 xs/\SqT K H a2 ys/\(xs.length<=i\/ys.length<=i)⟩
def Tnz (z TI TO i1 i2 l1 l2:Addr) (i:Nat) (h:Heap):Prop:=IsZip h z TI TO .none/\IsPair h TI (.ref i1) (.ref i2)/\(∃ a b,IsPair h TO a b)/\ItB true h i1 l1 i/\ItB true h i2 l2 i
theorem Zwd {P:Program} {w:World} {K:Fq} {elts:List Expr} {x1} {pos:Pos} {z TI TO i1 i2 l1 l2:Addr} (D:Apz z TI TO i1 i2) (n1:∀ c∈[z,TO,i1,i2],l1≠c/\l2≠c) :
 Turn P w K (.Tuple elts x1 pos) (Itz K l1 l2) [z,TI,TO,i1,i2] z (Tnz z TI TO i1 i2 l1 l2) where
 mem:=by simp
 obj:=λ i h st b hb=>by
  obtain ⟨q1,q2,⟨a,b',q3⟩,q4,q5⟩:=st
  have hb':b=z\/b=TI\/b=TO\/b=i1\/b=i2:=by simpa using hb
  rcases hb' with e | e | e | e | e <;> subst e
  · exact ⟨_,q1,λ v z=>by cases z⟩
  · exact ⟨_,q2,λ v z=>by cases z⟩
  · exact ⟨_,q3,λ v z=>by cases z⟩
  · exact q4.ob
  · exact q5.ob
 keep:=λ i h h' st k=>by
  obtain ⟨q1,q2,⟨a,b',q3⟩,q4,q5⟩:=st
  exact ⟨k z (by simp) _ q1,k TI (by simp) _ q2,⟨a,b',k TO (by simp) _ q3⟩,q4.at λ o e=>k i1 (by simp) o e,q5.at λ o e=>k i2 (by simp) o e⟩
 item:=by
  intro X hP hw hK hc i pins s σ H E I hf st hg
  subst hP hw hK
  obtain ⟨xs,ys,x,y,h1,h2,hx,hy⟩:=hg
  obtain ⟨its,rv,p,hz⟩:=I.tuple h1
  obtain ⟨jts,rv',p',hz'⟩:=I.tuple h2
  obtain ⟨u,hu,ru⟩:=rv.get hx
  obtain ⟨u',hu',ru'⟩:=rv'.get hy
  obtain ⟨q1,q2,⟨a,b,q3⟩,q4,q5⟩:=st
  refine Znl D q1 q2 q3 q4 q5 (show s.heap.IsTuple l1 its.toArray from p) (show s.heap.IsTuple l2 jts.toArray from p') n1 (x:=u) (y:=u') (by simpa using hu) (by simpa using hu') λ h' a1 a2 a3 a4 a5 a6 kk=>?_
  have lt:∀ {c o},s.heap.get? c=some o->s.heap.objs.size≠c:=λ e=>Nat.ne_of_gt (Heap.lt_size e)
  refine ⟨_,rfl,wpAny_letOwnedTupleGo_zip a1 λ hh2 z2 s2=>?_⟩
  have kk2:∀ c o,c ∉ [z,TI,TO,i1,i2]->s.heap.get? c=some o->hh2.get? c=some o:=λ c o hc e =>
   s2.extBut _ _ (λ x=>hc (by simp [x])) (kk c o (λ x=>hc (by simp [x])) (λ x=>hc (by simp [x])) (λ x=>hc (by simp [x])) (λ x=>hc (by simp [x])) e)
  have I1:Inv X pins σ H { s with heap:=hh2 }:=I.turnedN (t':=s.toks) kk2 hf
  have T2:IsPair hh2 s.heap.objs.size u u':=s2.extBut _ _ (lt q1) a5
  have hn:H s.heap.objs.size=none:=I.hok.fresh (Nat.le_refl _)
  have fr:=I.fpOk (H':=H) (Nat.le_refl _) hn
  have I2:Inv X pins σ (upd H s.heap.objs.size (.tup [x,y])) { s with heap:=hh2 }:=by
   refine I1.track hn (λ b o q _ _=>?_) fr.2.1.symm fr.2.2.2.2.1 fr.2.2.2.2.2 ?_
   · exact Nat.ne_of_lt (Nat.lt_of_lt_of_le (Heap.lt_size q) I.sz)
   · exact ⟨by simp [sizeLine],[u,u'],.cons ru (.cons ru' .nil),⟨_,T2,rfl,_,rfl⟩⟩
  refine ⟨.ref s.heap.objs.size,_,I2,rfl,⟨_,x,y,hn,rfl,λ zs hzs=>?_,λ zs hzs=>?_,rfl⟩,?_,λ b hb=>?_⟩
  · rw [I.tuple_inj hzs h1]; exact hx
  · rw [I.tuple_inj hzs h2]; exact hy
  · exact ⟨z2,s2.extBut _ _ D.a1 (kk _ _ D.a1 D.a5 D.a6 D.a7 q2),⟨_,_,s2.extBut _ _ D.a2 a2⟩,a3.at λ o e=>s2.extBut _ _ D.a3 e,a4.at λ o e=>s2.extBut _ _ D.a4 e⟩
  · have e:b≠s.heap.objs.size:=by
     have hb':b=z\/b=TI\/b=TO\/b=i1\/b=i2:=by simpa using hb
     rcases hb' with e | e | e | e | e <;> subst e
     · exact (lt q1).symm
     · exact (lt q2).symm
     · exact (lt q3).symm
     · obtain ⟨o,e,_⟩:=q4.ob; exact (lt e).symm
     · obtain ⟨o,e,_⟩:=q5.ob; exact (lt e).symm
    rw [Z5 e]
    exact (hf b hb).1
 done:=by
  intro X hP hw hK hc i pins s σ H E I hf st hg
  subst hP hw hK
  obtain ⟨xs,ys,h1,h2,hx⟩:=hg
  obtain ⟨its,rv,p,hz⟩:=I.tuple h1
  obtain ⟨jts,rv',p',hz'⟩:=I.tuple h2
  have e1:=rv.length
  have e2:=rv'.length
  obtain ⟨q1,q2,⟨a,b,q3⟩,q4,q5⟩:=st
  refine Znk (I.ok.hd hc) D q1 q2 q3 q4 q5 (show s.heap.IsTuple l1 its.toArray from p) (show s.heap.IsTuple l2 jts.toArray from p') n1 (by rcases hx with q | q; (· left; simp; omega); (· right; simp; omega)) λ h' kk=>⟨rfl,?_⟩
  exact I.turnedN (t':=s.toks) (λ c o hc e=>kk c o (λ x=>hc (by simp [x])) (λ x=>hc (by simp [x])) (λ x=>hc (by simp [x])) (λ x=>hc (by simp [x])) e) hf
 self:=λ _ _ _ _ _ st h=>wpAny_pyIter_zip st.1 h
theorem Zsd (n:Nat):Apz (n+4:Nat) (n+2:Nat) (n+3:Nat) n (n+1:Nat):=by
 constructor <;> (intro h; have h':(_:Nat)=_:=h; omega)
section
variable {X:Cx}
def Zj7 (K:Fq) (ta:TA):TI:=λ σ H R=>ta σ H λ vs H1=>∃ a b,vs=[.ref a,.ref b]/\(∃ xs,SqT K H1 a xs)/\(∃ ys,SqT K H1 b ys)/\R (Itz K a b) H1
theorem Zps:bootBuiltins "zip"=some (.type "zip"):=by decide +kernel
theorem Zzc {a b:Expr} {ta:TA} {p pos tpos:Pos} {elts:List Expr} {x1} (hg:Gl X "zip") (hm:X.mg "zip"=none) (ha:PA X [a,b] ta) (hs:starEach [a,b] X.env=[(false,eval a X.env),(false,eval b X.env)]:=by rfl) (hs2:starEach [b] X.env=[(false,eval b X.env)]:=by rfl) :
 PI X (.Tuple elts x1 tpos) (.Call (.Name "zip" p) [a,b] [] pos) (Zj7 X.K ta):=by
 intro pins s σ H R I h
 refine Call_ (U5 I hg hm Zps (PyProof.Rows.callWith_type1 (thn (ha pos pins s σ H _ I h) λ us s1 ⟨vs,H1,I1,r1,q1⟩=>?_) (by rw [hs,hs2]) (by rw [hs2]; rfl)))
 obtain ⟨l1,l2,e,⟨xs,h1⟩,⟨ys,h2⟩,q⟩:=q1
 subst e
 cases r1 with
 | cons r rr =>
   cases rr with
   | cons r' rr =>
     cases rr
     cases r
     cases r'
     obtain ⟨its,rv,p,hz⟩:=I1.tuple h1
     obtain ⟨jts,rv',p',hz'⟩:=I1.tuple h2
     have hl1:l1<s1.heap.objs.size:=by obtain ⟨o,e,_⟩:=(show s1.heap.IsTuple l1 its.toArray from p); exact Heap.lt_size e
     have hl2:l2<s1.heap.objs.size:=by obtain ⟨o,e,_⟩:=(show s1.heap.IsTuple l2 jts.toArray from p'); exact Heap.lt_size e
     refine Znm (b1:=true) (b2:=true) (show s1.heap.IsTuple l1 its.toArray from p) (show s1.heap.IsTuple l2 jts.toArray from p') λ h' a1 a2 a3 a4 a5 kk=>wpAny_pyIter_zip a1 ?_
     refine ⟨s1.heap.objs.size+4,_,_,_,H1,rfl,I1.kept (t':=s1.toks) kk,Zwd (Zsd s1.heap.objs.size) (l1:=l1) (l2:=l2) λ c hc=>?_,⟨a1,a2,⟨_,_,a3⟩,a4,a5⟩,λ b hb=>?_,q⟩
     · have hc':c=s1.heap.objs.size+4\/c=s1.heap.objs.size+3\/c=s1.heap.objs.size\/c=s1.heap.objs.size+1:=by simpa using hc
       have hle:s1.heap.objs.size<=c:=by rcases hc' with e | e | e | e <;> rw [e] <;> first | exact Nat.le_refl _ | exact Nat.le_add_right _ _
       exact ⟨Nat.ne_of_lt (Nat.lt_of_lt_of_le hl1 hle),Nat.ne_of_lt (Nat.lt_of_lt_of_le hl2 hle)⟩
     · have hb':b=s1.heap.objs.size+4\/b=s1.heap.objs.size+2\/b=s1.heap.objs.size+3\/b=s1.heap.objs.size\/b=s1.heap.objs.size+1:=by simpa using hb
       have hle:s1.heap.objs.size<=b:=by rcases hb' with e | e | e | e | e <;> rw [e] <;> first | exact Nat.le_refl _ | exact Nat.le_add_right _ _
       exact I1.fpOk hle (I1.hok.fresh hle)
end
end L2
namespace L2
open PySem PySem.Spec PyProof.Rows
def clsA (mg:Str->Option Value) (x:Str):Addr:=match mg x with | some (.ref a)=>a | _=>0
theorem Wr {X:Cx} {P:Program} {w:World} {base:Heap}:Passes (CXr P w base) X E0:=λ _ _ _ _ _ _ _ h=>by
 obtain ⟨_,_,_,_,_,_,_,z⟩:=h
 exact z.elim
section
variable {X:Cx} {pins:List (Addr×Obj)} {σ:St} {H:Hp} {s:Shared}
end
section
variable {X:Cx} {k:Nat} {g x n:Str} {ps:List Str} {sp:Sp} {p np cpos epos hpos pos:Pos} {e:Expr} {es:List Expr} {t:TA} {ts:TS} {D:Addr} {b₀:Stmt} {suite:List Stmt} {i:Nat}
end
section
open PySem.W PySem.Calls
end
end L2
namespace L2
open PySem PySem.Spec PyProof.Rows PySem.W PySem.Calls PySem.Builtin PySem.Builtin.ObjectAttr PySem.Builtin.Getset_descriptor
section
variable {prog:Program} {w:World} {A:Around} {E:Value->Shared->Prop} {s:Shared} {K:Frag} {x C:Addr} {ox:Obj}
end
end L2
namespace L2
open PySem PySem.Spec PyProof.Rows
section
variable {P:Program} {w:World} {K:Fq} {mg:Str->Option Value} {base:Heap} {N ps:List Str} {qual:Str} {f:Addr}
end
end L2
namespace L2
open PySem PySem.Spec PyProof.Rows
end L2
namespace L2
open PySem PySem.Spec PyProof.Rows
structure PB (X:Cx) (es:List Expr) (t:TA):Prop where
 ok:PA X es t
section
variable {X:Cx} {e a b:Expr} {es:List Expr} {te:TE} {t ta:TA} {p pos np cpos epos hpos tpos:Pos} {x n g:Str} {k i:Nat} {ps:List Str} {sp:Sp} {CX:CXT} {E:XK}
theorem Zf:PB X [] Zj:=⟨Zum⟩
theorem Ze (ha:PE X e te) (hr:PB X es t) (h:Yz e=false:=by rfl):PB X (e::es) (Zd te t):=⟨Zw1 ha hr.ok h⟩
theorem Jk (h:PB X es t):PE X (.List es pos) (Wy t):=Z05 h.ok
theorem Jt {x1} (h:PB X es t):PE X (.Tuple es x1 pos) (Jw t):=Z03 h.ok
theorem Z1 (G:Fn X.prog X.w X.K X.mg X.base CX x k ps sp) (hr:Room k X.A) (hg:Gl X x) (hx:Passes CX X E) (ha:PB X (e::es) t)
 (hdb:(x == ("__debug__":Str))=false:=by decide) (he:Yz e=false:=by rfl) (hpl:es.all (λ e=>!Yz e)=true:=by rfl):PE X (.Call (.Name x p) (e::es) [] pos) (Zy sp [] E t):=Z14 G hr hg hx ha.ok hdb he hpl
theorem Yh {id:String} {r:List V->Hp->VK->Prop} (hc:CallR X (.builtin id) r) (hg:Gl X x) (hm:X.mg x=none) (hv:bootBuiltins x=some (.builtin id)) (ha:PB X (e::es) t) (hn:x≠"__name__":=by decide) (hdb:(x == ("__debug__":Str))=false:=by decide)
 (he:Yz e=false:=by rfl) (hpl:es.all (λ e=>!Yz e)=true:=by rfl):PE X (.Call (.Name x p) (e::es) [] pos) (tCB r t):=Z15 hc hg hm hv ha.ok hn hdb he hpl
theorem U6 {T:String} {r:List V->Hp->VK->Prop} (hc:CallR X (.type T) r) (hg:Gl X x) (hm:X.mg x=none) (hv:bootBuiltins x=some (.type T)) (ha:PB X (e::es) t) (hn:x≠"__name__":=by decide) (hdb:(x == ("__debug__":Str))=false:=by decide)
 (he:Yz e=false:=by rfl) (hpl:es.all (λ e=>!Yz e)=true:=by rfl):PE X (.Call (.Name x p) (e::es) [] pos) (tCB r t):=Z06 hc hg hm hv ha.ok hn hdb he hpl
theorem Zci {o:Expr} {to:TE} {name:Str} {apos:Pos} {T id:String} {r:V->List V->Hp->VK->Prop} (pa:PlainAttrs T) (slot:Slot T name id) (hty:typeOf (.builtin id)=pure (.type "method_descriptor")) (hm:MtR X id r) (ho:PE X o to) (ha:PB X [e] t)
 (he:Yz e=false:=by rfl) (hbase:attributeBase o name X.env (eval o X.env)=eval o X.env:=by rfl) (hline:(apos.endLine == cpos.line)=true:=by rfl):PE X (.Call (.Attribute o name apos) [e] [] cpos) (tBM X.K T r to t) :=
 Z07 pa slot hty hm ho ha.ok he hbase hline
theorem Y4 {tg:Expr} (hg:Gl X "range") (hm:X.mg "range"=none) (ha:PB X [a] ta) (he:Yz a=false:=by rfl):PI X tg (.Call (.Name "range" p) [a] [] pos) (Xz ta):=Zui hg hm ha.ok (Yx he)
theorem Zr1 {elts:List Expr} {x1} (hg:Gl X "zip") (hm:X.mg "zip"=none) (ha:PB X [a,b] ta) (he:Yz a=false:=by rfl) (hf:Yz b=false:=by rfl):PI X (.Tuple elts x1 tpos) (.Call (.Name "zip" p) [a,b] [] pos) (Zj7 X.K ta) :=
 Zzc hg hm ha.ok (by rw [Yx he,Yx hf]; rfl) (by rw [Yx hf]; rfl)
theorem Zpg {C:Addr} (hX:Made X E (.ref C)) (hc:X.calm=true) (T:ExC X.K X.mg x C) (hg:Gl X x) (ha:PB X (e::es) t) (hd:(x == ("__debug__":Str))=false:=by decide)
 (he:Yz e=false:=by rfl) (hpl:es.all (λ e=>!Yz e)=true:=by rfl):PS X (.Raise (some (.Call (.Name x np) (e::es) [] cpos)) none pos) (Zfw E (.ref C) t):=Zwu hX hc T hg ha.ok hd (Yx he) (Gf hpl)
end
end L2
namespace L2
open PySem PySem.Spec PyProof.Rows
def Itv (K:Fq) (a:Addr) (n:Nat):It :=
 ⟨λ i H=>i<n/\∃ xs,SqL K H a xs/\xs.length=n,λ i H x H'=>H'=H/\∀ xs,SqL K H a xs->xs[n-1-i]?=some x,λ i _=>i=n⟩
theorem Zwe {P:Program} {w:World} {K:Fq} {tg:Expr} (a it:Addr) (n:Nat):Turn P w K tg (Itv K a n) [it] it (λ i h=>h.IsRevIter it a ((n:Int)-1-(i:Int))) where
 mem:=by simp
 obj:=λ i h st b hb=>by
  have e:b=it:=by simpa using hb
  subst e
  obtain ⟨o,e,c,d⟩:=st
  exact ⟨o,e,λ v z=>by rw [d] at z; cases z⟩
 keep:=λ i h h' st k=>st.at λ o e=>k it (by simp) o e
 item:=by
  intro X hP hw hK hc i pins s σ H E I hf st hg
  subst hP hw hK
  obtain ⟨hi,xs,hq,hn⟩:=hg
  have hx:xs[n-1-i]?=some (xs[n-1-i]'(by omega)):=by simp
  obtain ⟨its,rv,p,hz⟩:=I.list hq
  obtain ⟨u,hu,ru⟩:=rv.get hx
  obtain ⟨f0,f1,f2,f3,f4,f5⟩:=hf it (by simp)
  have e:(n:Int)-1-(i:Int)=((n-1-i:Nat):Int):=by omega
  have e2:((n-1-i:Nat):Int)-1=(n:Int)-1-((i+1:Nat):Int):=by omega
  replace st:s.heap.IsRevIter it a ((n:Int)-1-(i:Int)):=st
  rw [e] at st
  refine wpAny_pyNext_rev_item st p.isList (x:=u) (by simpa using hu) λ h' st' sb=>?_
  rw [e2] at st'
  have I1:Inv X pins σ H { s with heap:=h' }:=I.turned (t':=s.toks) (λ b o hb e=>(sb.2 b hb).trans e) f0 f1 f3 f4 f5
  obtain ⟨o,e,c,d⟩:=id st'
  exact ⟨u,rfl,Zkb (s:={ s with heap:=h' }) e c d (by decide) ⟨_,H,I1,ru,⟨rfl,λ ys hy=>by rw [I.list_inj hy hq]; exact hx⟩,st',λ b hb=>(hf b hb).1⟩⟩
 done:=by
  intro X hP hw hK hc i pins s σ H E I hf st hg
  subst hP hw hK
  obtain ⟨f0,f1,f2,f3,f4,f5⟩:=hf it (by simp)
  have hg':i=n:=hg
  subst hg'
  replace st:s.heap.IsRevIter it a ((i:Int)-1-(i:Int)):=st
  rw [show (i:Int)-1-(i:Int)=-1 by omega] at st
  exact wpAny_pyNext_rev_end (I.ok.hd hc) st λ h' eb=>⟨rfl,I.turned (t':=s.toks) (λ b o hb e=>eb b o hb e) f0 f1 f3 f4 f5⟩
 self:=λ _ _ _ _ _ st h=>wpAny_pyIter_revIter st h
section
variable {X:Cx} {tg:Expr}
def iRev (K:Fq) (ta:TA):TI:=λ σ H R=>ta σ H λ vs H1=>∃ a xs,vs=[.ref a]/\SqL K H1 a xs/\R (Itv K a xs.length) H1
theorem Zfp:bootBuiltins "reversed"=some (.type "reversed"):=by decide +kernel
theorem Z01 {a:Expr} {ta:TA} {p pos:Pos} (hg:Gl X "reversed") (hm:X.mg "reversed"=none) (ha:PA X [a] ta) (hs:starEach [a] X.env=[(false,eval a X.env)]:=by rfl) :
 PI X tg (.Call (.Name "reversed" p) [a] [] pos) (iRev X.K ta):=by
 intro pins s σ H R I h
 refine Call_ (U5 I hg hm Zfp (PyProof.Rows.callWith_type1 (thn (ha pos pins s σ H _ I h) λ us s1 ⟨vs,H1,I1,r1,q1⟩=>?_) hs rfl))
 obtain ⟨l,xs,e,hq,q⟩:=q1
 subst e
 cases r1 with
 | cons r rr =>
   cases rr
   cases r
   obtain ⟨its,rv,p,hz⟩:=I1.list hq
   have hl:=rv.length
   refine call_reversed_list p.isList (wpAny_pyIter_revIter (l:=l) (i:=((its.toArray.size:Int)-1)) ⟨_,Heap.get?_push_size _ rfl,rfl,rfl⟩ ?_)
   refine ⟨s1.heap.objs.size,[s1.heap.objs.size],_,_,H1,rfl,I1.kept (t':=s1.toks) λ b o e=>Heap.get?_push_of_some _ e,Zwe l _ xs.length,?_,λ b hb=>?_,q⟩
   · refine ⟨_,Heap.get?_push_size _ rfl,rfl,?_⟩
     show Data.fields #[.ref l,rawInt ((its.toArray.size:Int)-1)]=Data.fields #[.ref l,rawInt ((xs.length:Int)-1-((0:Nat):Int))]
     rw [show ((its.toArray.size:Nat):Int)-1=(xs.length:Int)-1-((0:Nat):Int) by simp; omega]
   · have e:b=s1.heap.objs.size:=by simpa using hb
     subst e
     exact I1.fpOk (Nat.le_refl _) (I1.hok.fresh (Nat.le_refl _))
theorem Z1s {a:Expr} {ta:TA} {p pos:Pos} (hg:Gl X "reversed") (hm:X.mg "reversed"=none) (ha:PB X [a] ta) (he:Yz a=false:=by rfl) :
 PI X tg (.Call (.Name "reversed" p) [a] [] pos) (iRev X.K ta):=Z01 hg hm ha.ok (Yx he)
end
theorem Zz5 {K:Fq} {a:Addr} {xs:List V} {g:TG} {tb:TS} {D:Ends} {σ:St} {H:Hp} (Pv:Nat->St->Hp->Prop) (h0:Pv 0 σ H) (hl:∀ i σ H,i<=xs.length->Pv i σ H->SqL K H a xs)
 (hs:∀ i x σ H,i<xs.length->xs[xs.length-1-i]?=some x->Pv i σ H->g x σ H λ σ2 H2=>tb { D with nx:=Pv (i+1),ct:=Pv (i+1),bk:=D.nx } σ2 H2) (hd:∀ σ H,Pv xs.length σ H->D.nx σ H) :
 ∃ W:Nat->Nat->St->Hp->Prop,(∃ m,W 0 m σ H)/\∀ i m σ H,W i m σ H ->
   ((Itv K a xs.length).stop i H/\D.nx σ H)\/((Itv K a xs.length).go i H/\∃ N:St->Hp->Prop,(∀ σ' H',N σ' H'->∃ m',m'<m/\W (i+1) m' σ' H')/\∀ x H',(Itv K a xs.length).yld i H x H'->g x σ H' λ σ2 H2=>tb { D with nx:=N,ct:=N,bk:=D.nx } σ2 H2):=by
 refine ⟨λ i m σ H=>m=xs.length-i/\i<=xs.length/\Pv i σ H,⟨xs.length,by simp,Nat.zero_le _,h0⟩,?_⟩
 rintro i m σ H ⟨rfl,hi,p⟩
 have q:=hl i σ H hi p
 by_cases hlt:i<xs.length
 · refine .inr ⟨⟨hlt,xs,q,rfl⟩,Pv (i+1),λ σ' H' p'=>⟨xs.length-(i+1),by omega,rfl,hlt,p'⟩,λ x H' y=>?_⟩
   obtain ⟨e,y⟩:=y
   subst e
   exact hs i x σ _ hlt (y xs q) p
 · have e:i=xs.length:=by omega
   subst e
   exact .inl ⟨rfl,hd σ H p⟩
theorem Z1x {K:Fq} {ta:TA} {σ:St} {H:Hp} {R:It->Hp->Prop} (h:ta σ H λ vs H1=>∃ a xs,vs=[.ref a]/\SqL K H1 a xs/\R (Itv K a xs.length) H1):iRev K ta σ H R:=h
end L2
namespace LB
open PySem L2
inductive IsI:Value->Bool->Prop
 | non:IsI (.type "NoneType") false
 | bl:IsI (.type "bool") false
 | int:IsI (.type "int") true
 | str:IsI (.type "str") false
 | lst:IsI (.type "list") false
 | tup:IsI (.type "tuple") false
 | dct:IsI (.type "dict") false
theorem Zzv {K:Fq} {t:Value} {b:Bool} (h:IsI t b):∃ c,PySem.W.kitOne K t (.type "int")=some c/\(c=false->b=false)/\(c=true->∃ d,PySem.W.kitOne K t (.type "bool")=some d/\b=!d):=by
 cases h
 · exact ⟨false,by kernel_rfl,λ _=>rfl,λ z=>by cases z⟩
 · exact ⟨true,by kernel_rfl,λ z=>(by cases z),λ _=>⟨true,by kernel_rfl,rfl⟩⟩
 · exact ⟨true,by kernel_rfl,λ z=>(by cases z),λ _=>⟨false,by kernel_rfl,rfl⟩⟩
 · exact ⟨false,by kernel_rfl,λ _=>rfl,λ z=>by cases z⟩
 · exact ⟨false,by kernel_rfl,λ _=>rfl,λ z=>by cases z⟩
 · exact ⟨false,by kernel_rfl,λ _=>rfl,λ z=>by cases z⟩
 · exact ⟨false,by kernel_rfl,λ _=>rfl,λ z=>by cases z⟩
def Zf5 (K:Fq) (a:V) (H:Hp) (Q:VK) (E:XK):Prop:=∃ t b,TyOf K H a t/\IsI t b/\Q (.bl b) H
def Jc (K:Fq):Sp:=sp1 (Zf5 K)
def Zji (K:Fq) (a b:V) (H:Hp) (Q:VK) (E:XK):Prop:=∃ m n:Nat,a=.int m/\b=.int n/\Q (.int (Nat.gcd m n:Nat)) H
def Wz (K:Fq):Sp:=sp2 (Zji K)
def J3 (K:Fq):Sp:=sp2 (Zji K)
def sb_share_of (K:Fq) (a b:V) (H:Hp) (Q:VK) (E:XK):Prop:=∃ m n:Nat,a=.int m/\b=.int n/\0<m/\0<n/\(m:Int)<=100000000000000000000000000000000000000000000000000000000000000000000000000000000000000000000 /\
 ∀ p,H p=none->Q (.ref p) (upd H p (.tup [.int ((m / Nat.gcd m n:Nat):Int),.int ((n / Nat.gcd m n:Nat):Int)]))
def Wu (K:Fq):Sp:=sp2 (sb_share_of K)
def Uq (ns:List Int) (k:Nat):Int :=
 if k<ns.length then (ns.getD k 0+104729)*2718281828459045235360287471352662497757 % 10000000000000000000000000000000000000000
 else
  let n:Int:=(k:Int)*k*7919+5+(if 0<ns.length then ns.getD (k*7 % ns.length) 0 % 10000000000000000000000000000000000000000*48271 else 0)
  n*n % 2147483629*2718281828459045235360287471352662497757 % 10000000000000000000000000000000000000000
theorem Zit (ns:List Int) (k:Nat):0<=Uq ns k:=by unfold Uq; dsimp only; split <;> exact Int.emod_nonneg _ (by decide)
theorem Ziu (ns:List Int) (k:Nat):Uq ns k<10000000000000000000000000000000000000000:=by unfold Uq; dsimp only; split <;> exact Int.emod_lt_of_pos _ (by decide)
def Zga (K:Fq) (a b:V) (H:Hp) (Q:VK) (E:XK):Prop:=∃ (l:Addr) (ns:List Int) (k:Nat),a=.ref l/\b=.int k/\SqL K H l (ns.map V.int)/\(∀ n∈ns,Builtin.Int.intBits n<=1048576)/\k<=1000/\Q (.int (Uq ns k)) H
def Qw (K:Fq):Sp:=sp2 (Zga K)
def Zl6 (K:Fq):TS :=
 (Z7 (Zco (tCB (rIsinst K) (Zd (Zc 0) (Zd (tC (.ty "int")) Zj))) (Znb (tCB (rIsinst K) (Zd (Zc 0) (Zd (tC (.ty "bool")) Zj))))))
def Wx (K:Fq):TS :=
 (Zz (Yi (Zc 0) (Zo 2))
  (Zz (Yi (Zc 1) (Zo 3))
  (Zz (Zfv (Yn (tOp rGtU (Zc 3) (tC (.int 0)))) (Zz (Yi (tOp rModU (Zc 2) (Zc 3)) (Zo 4))
  (Zz (Yi (Zc 3) (Zo 2))
  (Yi (Zc 4) (Zo 3)))))
  (Z7 (Zc 2)))))
def Zc0 (K:Fq):TS :=
 (Zz (Yi (Zy (Wz K) [] E0 (Zd (Zc 0) (Zd (Zc 1) Zj))) (Zo 2))
  (Z7 (Jw (Zd (tOp rDivU (Zc 0) (Zc 2)) (Zd (tOp rDivU (Zc 1) (Zc 2)) Zj)))))
def Zbj (K:Fq):TS :=
 (Zz (Yt (Yn (tOp rLtU (Zc 1) (tCB (rLenU K) (Zd (Zc 0) Zj)))) (Z7 (tOp rModU (tOp (rMulU K) (tOp (rAddU K) (tOp (rIx K) (Zc 0) (Zc 1)) (tC (.int 104729))) (tC (.int 2718281828459045235360287471352662497757))) (tC (.int 10000000000000000000000000000000000000000)))) Yo)
  (Zz (Yi (tOp (rAddU K) (tOp (rMulU K) (tOp (rMulU K) (Zc 1) (Zc 1)) (tC (.int 7919))) (tC (.int 5))) (Zo 2))
  (Zz (Yt (Yn (tOp rGtU (tCB (rLenU K) (Zd (Zc 0) Zj)) (tC (.int 0)))) (Yi (tOp (rAddU K) (Zc 2) (tOp (rMulU K) (tOp rModU (tOp (rIx K) (Zc 0) (tOp rModU (tOp (rMulU K) (Zc 1) (tC (.int 7))) (tCB (rLenU K) (Zd (Zc 0) Zj)))) (tC (.int 10000000000000000000000000000000000000000))) (tC (.int 48271)))) (Zo 2)) Yo)
  (Z7 (tOp rModU (tOp (rMulU K) (tOp rModU (tOp (rMulU K) (Zc 2) (Zc 2)) (tC (.int 2147483629))) (tC (.int 2718281828459045235360287471352662497757))) (tC (.int 10000000000000000000000000000000000000000)))))))
def Zhi (K:Fq):TS :=
 (Z7 (Zco (tCB (rIsinst K) (Zd (Zc 0) (Zd (tC (.ty "int")) Zj))) (Znb (tCB (rIsinst K) (Zd (Zc 0) (Zd (tC (.ty "bool")) Zj))))))
def Gd (K:Fq):TS :=
 (Zz (Zfv (Yn (tOp rGtU (Zc 1) (tC (.int 0)))) (Zwg 0 1 (Zd (Zc 1) (Zd (tOp rModU (Zc 0) (Zc 1)) Zj))))
  (Z7 (Zc 0)))
abbrev Rt (Q:VK):Ends:={ nx:=λ _ H'=>Q .non H',rt:=Q }
theorem Zue {K:Fq} {a:V} {H:Hp} {Q:VK} {E:XK} (h:Zf5 K a H Q E):Zl6 K (Rt Q) [some a] H:=by
 obtain ⟨t,b,ty,hi,q⟩:=h
 obtain ⟨c,e,h1,h2⟩:=Zzv (K:=K) hi
 unfold Zl6
 refine Yc (Zft (Yl (Zb (Za rfl (Zb (w_c (Zg ?_)))))))
 refine ⟨a,"int",t,c,rfl,ty,e,Yq ?_⟩
 refine iteB (λ z=>?_) (λ z=>?_)
 · obtain ⟨d,e2,hb⟩:=h2 z
   refine Z0l (Yl (Zb (Za rfl (Zb (w_c (Zg ?_))))))
   refine ⟨a,"bool",t,d,rfl,ty,e2,Yq ?_⟩
   rw [← hb]; exact q
 · rw [← h1 z]; exact q
theorem Zqc {K:Fq} {a:V} {H:Hp} {Q:VK} {E:XK} (h:Zf5 K a H Q E):Zhi K (Rt Q) [some a] H:=Zue h
theorem Zo5 (x y:Nat):Nat.gcd y (x % y)=Nat.gcd x y:=by rw [Nat.gcd_comm y (x % y),← Nat.gcd_rec y x,Nat.gcd_comm]
theorem Zfq {K:Fq} {a b:V} {H:Hp} {Q:VK} {E:XK} (h:Zji K a b H Q E):Wx K (Rt Q) [some a,some b,none,none,none] H:=by
 obtain ⟨m,n,rfl,rfl,q⟩:=h
 unfold Wx
 refine Zr (Z9 (Za rfl (Zq ?_)))
 refine Zr (Z9 (Za rfl (Zq ?_)))
 refine Zr ⟨λ k σ H2=>∃ (x y:Nat) (r:Option V),σ=[some (.int m),some (.int n),some (.int x),some (.int y),r]/\H2=H/\Nat.gcd x y=Nat.gcd m n/\k=y,⟨_,m,n,none,rfl,rfl,rfl,rfl⟩,?_⟩
 rintro k σ H2 ⟨x,y,r,rfl,rfl,hg,rfl⟩
 refine Yj (Zh (Za rfl (w_c (Zd6 (Yq (iteD (λ hy=>?_) λ hy=>?_))))))
 · refine ⟨λ σ' H'=>∃ z,z<k/\∃ (x y:Nat) (r:Option V),σ'=[some (.int m),some (.int n),some (.int x),some (.int y),r]/\H'=H2/\Nat.gcd x y=Nat.gcd m n/\z=y,λ _ _ z=>z,?_⟩
   refine Zr (Z9 (Zh (Za rfl (Za rfl (Yv hy (Zq ?_))))))
   refine Zr (Z9 (Za rfl (Zq ?_)))
   refine Z9 (Za rfl (Zq ?_))
   exact ⟨x % k,Nat.mod_lt _ (by omega),k,x % k,_,rfl,rfl,by rw [Zo5]; exact hg,rfl⟩
 · refine Yc (Za rfl ?_)
   have e:k=0:=by omega
   subst e
   rw [Nat.gcd_zero_right] at hg
   rw [hg]; exact q
theorem Zle {K:Fq} {a b:V} {H:Hp} {Q:VK} {E:XK} (h:Zji K a b H Q E):Gd K (Rt Q) [some a,some b] H:=by
 obtain ⟨m,n,rfl,rfl,q⟩:=h
 unfold Gd
 refine Zr ⟨λ k σ H2=>∃ (x y:Nat),σ=[some (.int x),some (.int y)]/\H2=H/\Nat.gcd x y=Nat.gcd m n/\k=y,⟨_,m,n,rfl,rfl,rfl,rfl⟩,?_⟩
 rintro k σ H2 ⟨x,y,rfl,rfl,hg,rfl⟩
 refine Yj (Zh (Za rfl (w_c (Zd6 (Yq (iteD (λ hy=>?_) λ hy=>?_))))))
 · refine ⟨λ σ' H'=>∃ z,z<k/\∃ (x y:Nat),σ'=[some (.int x),some (.int y)]/\H'=H2/\Nat.gcd x y=Nat.gcd m n/\z=y,λ _ _ z=>z,?_⟩
   refine Z1y (Zb (Za rfl (Zb (Zh (Za rfl (Za rfl (Yv hy (Zg ?_))))))))
   exact ⟨_,_,rfl,x % k,Nat.mod_lt _ (by omega),k,x % k,rfl,rfl,by rw [Zo5]; exact hg,rfl⟩
 · refine Yc (Za rfl ?_)
   have e:k=0:=by omega
   subst e
   rw [Nat.gcd_zero_right] at hg
   rw [hg]; exact q
theorem Zx0 {n:Int} (h:Builtin.Int.intBits n<=1048576):Builtin.Int.intBits (n+104729)<=1048600:=by
 have h1:n.natAbs<2 ^ 1048576:=by
  unfold Builtin.Int.intBits at h
  split at h
  · rename_i e
    have:n=0:=by simpa using e
    subst this
    exact Nat.two_pow_pos _
  · rename_i e
    have h0:n.natAbs≠0:=λ z=>e (by simp; omega)
    exact (Nat.log2_lt h0).mp (by omega)
 unfold Builtin.Int.intBits
 split
 · omega
 · rename_i e
   have h0:(n+104729).natAbs≠0:=λ z=>e (by simp; omega)
   have h2:(n+104729).natAbs<2 ^ 1048599:=by
    have e1:(2:Nat) ^ 1048599=2 ^ 1048576*2 ^ 23:=by rw [← Nat.pow_add]
    have e2:(2:Nat) ^ 23=8388608:=by decide
    have e3:1<=(2:Nat) ^ 1048576:=Nat.one_le_two_pow
    rw [e1,e2]
    generalize (2:Nat) ^ 1048576=z at h1 e3 ⊢
    omega
   have:=(Nat.log2_lt h0).mpr h2
   omega
theorem Zxt {n:Int} (h:Builtin.Int.intBits n<=1048576):IntMulOk (n+104729) 2718281828459045235360287471352662497757 :=
 IntMulOk.of_le (Zx0 h) (Zg0 (by decide) (by decide)) (by decide)
theorem Zof {K:Fq} {a b:V} {H:Hp} {Q:VK} {E:XK} (h:Zga K a b H Q E):Zbj K (Rt Q) [some a,some b,none] H:=by
 obtain ⟨l,ns,k,rfl,rfl,hl,hb,hk,q⟩:=h
 unfold Zbj
 refine Zr (Yp (Yj (Zh (Za rfl (Yl (Zb (Za rfl (Zg (Xp hl (K9 (Yq ?_)))))))))))
 rw [List.length_map]
 refine iteD (λ hlt=>?_) (λ hge=>?_)
 · have hlt':k<ns.length:=by omega
   refine Yc (Zh (Zh (Zh (Zh (Za rfl (Za rfl (Y9 hl (Zxx (by omega) hlt) (w_c (Xd (w_c (Yu ?_ (w_c (Yv (by decide) ?_)))))))))))))
   · exact Zxt (hb _ (by rw [Int.toNat_natCast]; exact L2.G9 hlt'))
   · unfold Uq at q
     rw [if_pos hlt'] at q
     rw [Int.toNat_natCast]; exact q
 · have hge':¬ k<ns.length:=by omega
   unfold Uq at q
   rw [if_neg hge'] at q
   dsimp only at q
   have kk:(k:Int)<=1000:=by omega
   have kn:(0:Int)<=k:=by omega
   have k2:(k:Int)*k<=1000*1000:=Int.mul_le_mul kk kk kn (by decide)
   have k3:0<=(k:Int)*k:=Int.mul_nonneg kn kn
   refine Yk (Zr (Z9 (Zh (Zh (Zh (Za rfl (Za rfl (Yu (Wg (by omega) (by omega)) (w_c (Yu (Za9 (by decide) (by decide)) (w_c (Xd (Zq ?_)))))))))))))
   have fin:∀ N:Int,0<=N->N<=1000000000000000000000000000000000000000000000000000->N*N % 2147483629*2718281828459045235360287471352662497757 % 10000000000000000000000000000000000000000=N*N % 2147483629*2718281828459045235360287471352662497757 % 10000000000000000000000000000000000000000 ->
    Q (.int (N*N % 2147483629*2718281828459045235360287471352662497757 % 10000000000000000000000000000000000000000)) H ->
    (Z7 (tOp rModU (tOp (rMulU K) (tOp rModU (tOp (rMulU K) (Zc 2) (Zc 2)) (tC (.int 2147483629))) (tC (.int 2718281828459045235360287471352662497757))) (tC (.int 10000000000000000000000000000000000000000)))) (Rt Q) [some (.ref l),some (.int k),some (.int N)] H:=by
    intro N h0 h1 _ hq
    have r0:=Int.emod_nonneg (N*N) (show (2147483629:Int)≠0 by decide)
    have r1:=Int.emod_lt_of_pos (N*N) (show (0:Int)<2147483629 by decide)
    refine Yc (Zh (Zh (Zh (Zh (Za rfl (Za rfl (Yu (Zgq (by omega) (by omega) (by omega) (by omega)) (w_c (Yv (by decide) (w_c (Yu (Wg (by omega) (by omega)) (w_c (Yv (by decide) ?_)))))))))))))
    exact hq
   refine Zr (Yp (Yj (Zh (Yl (Zb (Za rfl (Zg (Xp hl (w_c (Zd6 (Yq ?_)))))))))))
   rw [List.length_map]
   refine iteD (λ hp=>?_) (λ hz=>?_)
   · have hp':0<ns.length:=by omega
     rw [if_pos hp'] at q
     refine Z9 (Zh (Za rfl (Zh (Zh (Zh (Za rfl (Zh (Zh (Za rfl (w_c (Yu (Za9 (by decide) (by decide)) (Yl (Zb (Za rfl (Zg (Xp hl (Yv ?_ (Y9 (v:=.int (ns.getD (k*7 % ns.length) 0)) hl ?_ (w_c (Yv (by decide) (w_c (Yu (Za9 (by decide) (by decide)) (Xd (Zq ?_))))))))))))))))))))))))
     · rw [List.length_map]; omega
     · rw [List.length_map]
       have e:(k:Int)*7 % (ns.length:Int)=((k*7 % ns.length:Nat):Int):=by simp
       rw [e]
       exact Xv (G8 (Nat.mod_lt _ hp'))
     · have r0:=Int.emod_nonneg (ns.getD (k*7 % ns.length) 0) (show (10000000000000000000000000000000000000000:Int)≠0 by decide)
       have r1:=Int.emod_lt_of_pos (ns.getD (k*7 % ns.length) 0) (show (0:Int)<10000000000000000000000000000000000000000 by decide)
       exact fin _ (by omega) (by omega) rfl q
   · have hz':¬ 0<ns.length:=by omega
     rw [if_neg hz'] at q
     rw [Int.add_zero] at q
     exact Yk (fin _ (by omega) (by omega) rfl q)
theorem Zg9 {K:Fq}:PySem.W.kitOne K (.type "tuple") (.type "tuple")=some true:=by kernel_rfl
theorem at2 {a b:V} {i:Int} (h0:0<=i) (h1:i<2):∃ v,atI [a,b] i=some v/\(v=a\/v=b):=by
 rcases (by omega:i=0\/i=1) with rfl | rfl
 · exact ⟨a,rfl,.inl rfl⟩
 · exact ⟨b,rfl,.inr rfl⟩
end LB
namespace LB
open PySem L2
end LB
namespace LB
open PySem L2
def Zf6 (K:Fq) (a:V) (H:Hp) (Q:VK) (E:XK):Prop:=∃ c:Int,a=.int c/\∀ c',0<=c'->c'<10000000000000000000000000000000000000000->Q (.int c') H
def W7 (K:Fq):Sp:=sp1 (Zf6 K)
def Zfk (K:Fq) (a b:V) (H:Hp) (Q:VK) (E:XK):Prop:=∃ (c:Int) (n:Nat),a=.int c/\b=.int n/\1<=n/\n<=8 /\
 ∀ p (ns:List Int) H',H p=none->Same H H'->H' p=some (.lst (ns.map V.int))->ns.length=n->(∀ x∈ns,0<=x/\x<4)->0<ns.sum->Q (.ref p) H'
def Zae (K:Fq):Sp:=sp2 (Zfk K)
def Zgc (K:Fq) (a b c:V) (H:Hp) (Q:VK) (E:XK):Prop:=∃ (p1 p2:Addr) (ps ss:List Int) (j:Nat),a=.ref p1/\b=.ref p2/\c=.int j/\H p1=some (.lst (ps.map V.int))/\H p2=some (.lst (ss.map V.int))/\ss.length=ps.length/\ps.length<=8/\j<ps.length /\
 (∀ x∈ps,0<=x/\x<=1000000000)/\(∀ x∈ss,0<=x/\x<4)/\∀ r:Int,(r=0\/r=1)->Q (.int r) H
def Zbr (K:Fq):Sp:=sp3 (Zgc K)
def Zdv (K:Fq) (a b c d e:V) (H:Hp) (Q:VK) (E:XK):Prop:=∃ (w t:Int) (p1 p2 p3:Addr) (ps as ss:List Int),a=.int w/\b=.ref p1/\c=.ref p2/\d=.ref p3/\e=.int t /\
 H p1=some (.lst (ps.map V.int))/\H p2=some (.lst (as.map V.int))/\H p3=some (.lst (ss.map V.int))/\as.length=ps.length/\ss.length=ps.length/\ps.length<=8/\1<=ps.length /\
 (∀ x∈ps,1<=x/\x<=1000000000)/\(∀ x∈as,0<=x/\x<=1000000000)/\(∀ x∈ss,0<=x/\x<4)/\1<=t/\t<=5/\(w=7->∀ x∈ps,x<=8) /\
 ∀ p (rs:List Int) H',(p=p2\/H p=none)->Same H H'->H' p=some (.lst (rs.map V.int))->rs.length=ps.length->(∀ x∈rs,0<=x/\x<=1000000001)->Q (.ref p) H'
def Uj (K:Fq):Sp:=sp5 (Zdv K)
def Zfl (K:Fq) (a b:V) (H:Hp) (Q:VK) (E:XK):Prop:=∃ (w h:Int),a=.int w/\b=.int h/\∀ (r:Int) H',Same H H'->1<=r->r<=1000000000->(w=7->r<=8)->Q (.int r) H'
def Zaf (K:Fq):Sp:=sp2 (Zfl K)
def dayD (d:List Int×List Int):PyData:=.tuple [.tuple (d.1.map .int),.tuple (d.2.map .int)]
def Xj (B:List (List Int×List Int)):PyData:=.tuple (B.map dayD)
structure GoodDay (n:Nat) (d:List Int×List Int):Prop where
 l1:d.1.length=n
 l2:d.2.length=n
 pr:∀ x∈d.1,1<=x/\x<=1000000000
 am:∀ x∈d.2,0<=x/\x<=1000000000000000000
 ps:∃ x∈d.2,0<x
structure GoodBook (m n:Nat) (B:List (List Int×List Int)):Prop where
 n1:1<=n
 n6:n<=6
 m1:1<=B.length
 m8:B.length<=m
 dy:∀ d∈B,GoodDay n d
def Zhm (K:Fq) (a b c:V) (H:Hp) (Q:VK) (E:XK):Prop:=∃ (cc w:Int) (p:Addr) (ss:List Int),a=.int cc/\b=.int w/\c=.ref p/\0<=cc/\cc<10000000000000000000000000000000000000000/\H p=some (.lst (ss.map V.int))/\1<=ss.length/\ss.length<=8/\(∀ x∈ss,0<=x/\x<4) /\
 ∀ v d H',Same H H'->Rep H' v (dayD d)->GoodDay ss.length d->(∀ x∈d.2,x<=1000000001)->Q v H'
def Uz (K:Fq):Sp:=sp3 (Zhm K)
def Zgb (K:Fq) (a b c d:V) (H:Hp) (Q:VK) (E:XK):Prop:=∃ (l:Addr) (ns:List Int) (s m n:Nat),a=.ref l/\b=.int s/\c=.int m/\d=.int n/\SqL K H l (ns.map V.int)/\(∀ n∈ns,Builtin.Int.intBits n<=1048576)/\s<=900/\1<=m/\m<=8/\1<=n/\n<=6 /\
 ∀ v B k H',Same H H'->Rep H' v (Xj B)->GoodBook m k B->k<=n->(∀ d∈B,∀ x∈d.2,x<=1000000002)->Q v H'
def Zbq (K:Fq):Sp:=sp4 (Zgb K)
def Zbf (K:Fq):TS :=
 (Z7 (tOp rModU (tOp (rAddU K) (tOp (rMulU K) (Zc 0) (tC (.int 6364136223846793007))) (tC (.int 1442695040888963407))) (tC (.int 10000000000000000000000000000000000000000))))
def Zaa (K:Fq):TS :=
 (Zz (Yi (Wy Zj) (Zo 2))
  (Zz (Qo (Xz (Zd (Zc 1) Zj)) (Zo 3) (Zz (Yi (Zy (W7 K) [] E0 (Zd (Zc 0) Zj)) (Zo 0))
  (Wj (tBM K "list" K6 (Zc 2) (Zd (tOp rModU (tOp rDivU (Zc 0) (tC (.int 1000000000000000))) (tC (.int 4))) Zj)))))
  (Zz (Yt (Yn (tOp (rEqU K) (tCB (rSumU K) (Zd (Zc 2) Zj)) (tC (.int 0)))) (Yi (tC (.int 1)) (Zii (Zc 2) (tC (.int 0)) Zew)) Yo)
  (Z7 (Zc 2)))))
def Zbl (K:Fq):TS :=
 (Zz (Qo (Xz (Zd (tCB (rLenU K) (Zd (Zc 0) Zj)) Zj)) (Zo 3) (Yt (Yn (tOp rGtU (tOp (rMulU K) (tOp (rAddU K) (tC (.int 1)) (tOp (rIx K) (Zc 1) (Zc 3))) (tOp (rIx K) (Zc 0) (Zc 2))) (tOp (rMulU K) (tOp (rAddU K) (tC (.int 1)) (tOp (rIx K) (Zc 1) (Zc 2))) (tOp (rIx K) (Zc 0) (Zc 3))))) (Z7 (tC (.int 0))) Yo))
  (Z7 (tC (.int 1))))
def Ge (K:Fq):TS :=
 (Zz (Yt (Yn (tOp (rEqU K) (Zc 0) (tC (.int 3)))) (Z7 (Xg [none,some 4,some 3] (Xz (Zd (tCB (rLenU K) (Zd (Zc 1) Zj)) Zj)) (Zo 0) Qd (tOp (rMulU K) (Zc 1) (tOp (rIx K) (Zc 2) (Zc 0))))) Yo)
  (Zz (Yt (Yn (tOp (rEqU K) (Zc 0) (tC (.int 4)))) (Z7 (Xg [none,some 4,some 3,some 1] (Xz (Zd (tCB (rLenU K) (Zd (Zc 1) Zj)) Zj)) (Zo 0) Qd (tOp rDivU (tOp (rMulU K) (tOp (rMulU K) (Zc 1) (tOp (rIx K) (Zc 2) (Zc 0))) (tC (.int 12))) (tOp (rIx K) (Zc 3) (Zc 0))))) Yo)
  (Zz (Yt (Yn (tOp (rEqU K) (Zc 0) (tC (.int 5)))) (Z7 (Xg [none,some 2,some 1,some 3] (Xz (Zd (tCB (rLenU K) (Zd (Zc 1) Zj)) Zj)) (Zo 0) Qd (tOp (rMulU K) (tOp (rAddU K) (tC (.int 1)) (tOp (rIx K) (Zc 1) (Zc 0))) (Zy (Zbr K) [] E0 (Zd (Zc 2) (Zd (Zc 3) (Zd (Zc 0) Zj))))))) Yo)
  (Zz (Yt (Yn (tOp (rEqU K) (Zc 0) (tC (.int 6)))) (Z7 (Xg [none,some 2,some 1] (Xz (Zd (tCB (rLenU K) (Zd (Zc 1) Zj)) Zj)) (Zo 0) Qd (tOp (rMulU K) (tOp (rAddU K) (tC (.int 1)) (tOp (rIx K) (Zc 1) (Zc 0))) (tCB (rTy_int K) (Zd (tOp (rEqU K) (tOp (rIx K) (Zc 2) (Zc 0)) (tCB (rMinU K) (Zd (Zc 2) Zj))) Zj))))) Yo)
  (Zz (Yt (Yn (tOp (rEqU K) (Zc 0) (tC (.int 7)))) (Z7 (Xg [none] (iSeq K (Zc 1)) (Zo 0) Qd (tOp rSubU (tC (.int 9)) (Zc 0)))) Yo)
  (Z7 (Zc 2)))))))
def Zab (K:Fq):TS :=
 (Zz (Yt (Yn (tOp (rEqU K) (Zc 0) (tC (.int 0)))) (Z7 (tOp (rAddU K) (tC (.int 1)) (tOp rModU (Zc 1) (tC (.int 3))))) Yo)
  (Zz (Yt (Yn (tOp (rEqU K) (Zc 0) (tC (.int 1)))) (Z7 (tOp (rAddU K) (tC (.int 1)) (tOp rModU (Zc 1) (tC (.int 5))))) Yo)
  (Zz (Yt (Yn (tOp (rEqU K) (Zc 0) (tC (.int 2)))) (Z7 (tOp (rAddU K) (tC (.int 1)) (tOp rModU (Zc 1) (tC (.int 1000000000))))) Yo)
  (Zz (Yt (Yn (tOp (rEqU K) (Zc 0) (tC (.int 4)))) (Z7 (tOp (rIx K) (Wy (Zd (tC (.int 1)) (Zd (tC (.int 2)) (Zd (tC (.int 3)) (Zd (tC (.int 4)) (Zd (tC (.int 6)) (Zd (tC (.int 12)) Zj))))))) (tOp rModU (Zc 1) (tC (.int 6))))) Yo)
  (Z7 (tOp (rAddU K) (tC (.int 1)) (tOp rModU (Zc 1) (tC (.int 8)))))))))
def Zc2 (K:Fq):TS :=
 (Zz (Yi (Wy Zj) (Zo 3))
  (Zz (Yi (Wy Zj) (Zo 4))
  (Zz (Qo (Xz (Zd (tCB (rLenU K) (Zd (Zc 2) Zj)) Zj)) (Zo 5) (Zz (Yi (Zy (W7 K) [] E0 (Zd (Zc 0) Zj)) (Zo 0))
  (Zz (Yi (tOp rDivU (Zc 0) (tC (.int 1000000000000000))) (Zo 6))
  (Zz (Wj (tBM K "list" K6 (Zc 3) (Zd (Zy (Zaf K) [] E0 (Zd (Zc 1) (Zd (Zc 6) Zj))) Zj)))
  (Wj (tBM K "list" K6 (Zc 4) (Zd (tOp (rIx K) (Wy (Zd (tOp rModU (tOp rDivU (Zc 6) (tC (.int 420))) (tC (.int 4))) (Zd (tOp rModU (tOp rDivU (Zc 6) (tC (.int 1000000000))) (tC (.int 1000000000))) Zj))) (tCB (rTy_int K) (Zd (tOp (rEqU K) (Zc 1) (tC (.int 2))) Zj))) Zj)))))))
  (Zz (Yt (Yn (tOp (rEqU K) (Zc 1) (tC (.int 8)))) (Zz (Yi (tOp rModU (tOp rDivU (Zc 0) (tC (.int 10000000000000000000000000))) (tCB (rLenU K) (Zd (Zc 3) Zj))) (Zo 7))
  (Zz (Yi (Xg [none,some 0,some 7,some 2] (Xz (Zd (tCB (rLenU K) (Zd (Zc 2) Zj)) Zj)) (Zo 0) Qd (tOp (rIx K) (Wy (Zd (tC (.int 9)) (Zd (tOp (rAddU K) (tC (.int 2)) (tOp rModU (Zc 1) (tC (.int 2)))) Zj))) (tCB (rTy_int K) (Zd (tOp (rEqU K) (Zc 0) (tOp rModU (tOp (rAddU K) (Zc 2) (tC (.int 1))) (tCB (rLenU K) (Zd (Zc 3) Zj)))) Zj)))) (Zo 3))
  (Zz (Yi (tC (.int 3)) (Zii (Zc 3) (Zc 7) Zew))
  (Yi (Xg [none,some 7] (Xz (Zd (tCB (rLenU K) (Zd (Zc 2) Zj)) Zj)) (Zo 0) Qd (tCB (rTy_int K) (Zd (tOp (rEqU K) (Zc 0) (Zc 1)) Zj))) (Zo 4))))) Yo)
  (Zz (Yi (Zy (Uj K) [] E0 (Zd (Zc 1) (Zd (Zc 3) (Zd (Zc 4) (Zd (Zc 2) (Zd (tOp (rAddU K) (tC (.int 1)) (tOp rModU (tOp rDivU (Zc 0) (tC (.int 1000000000000000000000000000000))) (tC (.int 5)))) Zj)))))) (Zo 4))
  (Zz (Yt (Yn (tOp (rEqU K) (tCB (rSumU K) (Zd (Zc 4) Zj)) (tC (.int 0)))) (Yi (tC (.int 1)) (Zii (Zc 4) (tC (.int 0)) Zew)) Yo)
  (Z7 (Jw (Zd (tCB (rTy_tuple K) (Zd (Zc 3) Zj)) (Zd (tCB (rTy_tuple K) (Zd (Zc 4) Zj)) Zj))))))))))
def Zbk (K:Fq):TS :=
 (Zz (Yi (Zy (Qw K) [] E0 (Zd (Zc 0) (Zd (Zc 1) Zj))) (Zo 4))
  (Zz (Yi (tOp (rIx K) (Wy (Zd (tC (.int 0)) (Zd (tC (.int 1)) (Zd (tC (.int 0)) (Zd (tC (.int 2)) (Zd (tC (.int 8)) (Zd (tC (.int 3)) (Zd (tC (.int 4)) (Zd (tC (.int 5)) (Zd (tC (.int 6)) (Zd (tC (.int 7)) Zj))))))))))) (tOp rModU (tOp rDivU (Zc 4) (tC (.int 8))) (tC (.int 10)))) (Zo 5))
  (Zz (Yi (Zy (Zae K) [] E0 (Zd (Zc 4) (Zd (tOp (rAddU K) (tC (.int 1)) (tOp rModU (Zc 4) (Zc 3))) Zj))) (Zo 6))
  (Zz (Yi (Xg [none,some 0,some 1,some 5,some 6] (Xz (Zd (tOp (rAddU K) (tC (.int 1)) (tOp rModU (tOp rDivU (Zc 4) (tC (.int 80))) (Zc 2))) Zj)) (Zo 0) Qd (Zy (Uz K) [] E0 (Zd (Zy (Qw K) [] E0 (Zd (Zc 1) (Zd (tOp (rAddU K) (tOp (rAddU K) (Zc 2) (tC (.int 1))) (Zc 0)) Zj))) (Zd (Zc 3) (Zd (Zc 4) Zj))))) (Zo 7))
  (Zz (Yt (Yn (tOp (rEqU K) (tOp rModU (tOp rDivU (Zc 4) (tC (.int 1000))) (tC (.int 4))) (tC (.int 0)))) (Zz (Yi (tOp rModU (tOp rDivU (Zc 4) (tC (.int 4000))) (tCB (rLenU K) (Zd (Zc 7) Zj))) (Zo 8))
  (Zz (Yi (tOp rModU (tOp rDivU (Zc 4) (tC (.int 40000))) (tCB (rLenU K) (Zd (Zc 6) Zj))) (Zo 9))
  (Zz (Yi (tOp (rAddU K) (tOp (rAddU K) (tSl (rSlU K) (tOp (rIx K) (tOp (rIx K) (Zc 7) (Zc 8)) (tC (.int 1))) K5 (Ed (Zc 9))) (Jw (Zd (tOp (rAddU K) (tOp (rIx K) (tOp (rIx K) (tOp (rIx K) (Zc 7) (Zc 8)) (tC (.int 1))) (Zc 9)) (tC (.int 1))) Zj))) (tSl (rSlU K) (tOp (rIx K) (tOp (rIx K) (Zc 7) (Zc 8)) (tC (.int 1))) (Ed (tOp (rAddU K) (Zc 9) (tC (.int 1)))) K5)) (Zo 10))
  (Yi (Jw (Zd (tOp (rIx K) (tOp (rIx K) (Zc 7) (Zc 8)) (tC (.int 0))) (Zd (Zc 10) Zj))) (Zii (Zc 7) (Zc 8) Zew))))) Yo)
  (Z7 (tCB (rTy_tuple K) (Zd (Zc 7) Zj))))))))
theorem Zob {K:Fq} {a:V} {H:Hp} {Q:VK} {E:XK} (h:Zf6 K a H Q E):Zbf K (Rt Q) [some a] H:=by
 obtain ⟨c,rfl,q⟩:=h
 unfold Zbf
 exact Yc (Zh (Zh (Zh (Za rfl (w_c (Yu (Za9 (by decide) (by decide)) (w_c (Xd (w_c (Yv (by decide) (q _ (Int.emod_nonneg _ (by decide)) (Int.emod_lt_of_pos _ (by decide)))))))))))))
theorem Zmz {K:Fq} {a b:V} {H:Hp} {Q:VK} {E:XK} (h:Zfk K a b H Q E):Zaa K (Rt Q) [some a,some b,none,none] H:=by
 obtain ⟨c,n,rfl,rfl,n1,n8,q⟩:=h
 unfold Zaa
 refine Zr (Z9 (Wi (Zg ⟨Nat.zero_le _,λ p hp=>Zq ?_⟩)))
 refine Zr (Qc (Q8 (Zb (Za rfl (Zg (⟨_,rfl,(Yy (by omega)).1,(Yy (by omega)).2,(Wq (λ i σ H2=>∃ (c:Int) (ns:List Int) (r:Option V),σ=[some (.int c),some (.int n),some (.ref p),r]/\Same H H2/\H2 p=some (.lst (ns.map V.int))/\ns.length=i/\∀ x∈ns,0<=x/\x<4)
  ⟨c,[],none,rfl,Same.laid hp,Zn,rfl,λ x hx=>by simp at hx⟩ ?_ ?_)⟩))))))
 · rintro i σ H2 hi ⟨c,ns,r,rfl,s,hp2,hl,hx⟩
   refine Zq (Zr (Z9 (Zv (Zb (Za rfl (Zg ⟨_,rfl,c,rfl,λ c' d0 d1=>Zq ?_⟩))))))
   refine J1 (Zht (Za rfl ⟨Hu hp2,Zb (Zh (Zh (Za rfl (w_c (Qv (by decide) (by decide) (w_c (Yv (by decide) (Zg (Ht hp2 (Ql (by rw [List.length_map]; omega)) ?_)))))))))⟩))
   refine ⟨c',ns++[c' / 1000000000000000 % 4],_,rfl,s.put hp,by rw [Zn,List.map_append]; rfl,by simp [hl],λ x hx'=>?_⟩
   rcases List.mem_append.mp hx' with e | e
   · exact hx x e
   · rw [List.mem_singleton.mp e]
     exact ⟨Int.emod_nonneg _ (by decide),Int.emod_lt_of_pos _ (by decide)⟩
 · rintro σ H2 ⟨c,ns,r,rfl,s,hp2,hl,hx⟩
   refine Zr (Yp (Yj (Zh (Yl (Zb (Za rfl (Zg (Ziy (.inl (SqL.of hp2)) (w_c (Xm (Yq (iteD (λ hz=>?_) λ hz=>?_))))))))))))
   · refine Z9 (w_c (Zna (Za rfl (w_c (Ziz hp2 (Zj1 (by decide) (by rw [List.length_map]; omega)) ?_)))))
     refine Yc (Za rfl (q p (ns.set 0 1) _ hp (s.put hp) (by rw [Zn,Zdk]; rfl) (by rw [List.length_set]; exact hl) (λ x hx'=>?_) ?_))
     · rcases List.mem_or_eq_of_mem_set hx' with e | e
       · exact hx x e
       · subst e; decide
     · refine Zi6 (x:=1) (λ y hy=>?_) ?_ (by decide)
       · rcases List.mem_or_eq_of_mem_set hy with e | e
         · exact (hx y e).1
         · subst e; decide
       · exact List.mem_set (by omega) 1
   · refine Yk (Yc (Za rfl (q p ns H2 hp s hp2 hl hx ?_)))
     have:=Znv (ns:=ns) λ x h=>(hx x h).1
     omega
theorem Zoh {K:Fq} {a b c:V} {H:Hp} {Q:VK} {E:XK} (h:Zgc K a b c H Q E):Zbl K (Rt Q) [some a,some b,some c,none] H:=by
 obtain ⟨p1,p2,ps,ss,j,rfl,rfl,rfl,h1,h2,hl,hn,hj,hps,hss,q⟩:=h
 unfold Zbl
 refine Zr (Qc (Q8 (Zb (Yl (Zb (Za rfl (Zg (Xp (SqL.of h1) (Zg (⟨_,rfl,(Yy (by rw [List.length_map]; omega)).1,(Yy (by rw [List.length_map]; omega)).2,(Wq (λ i σ H2=>H2=H/\∃ r,σ=[some (.ref p1),some (.ref p2),some (.int j),r]) ⟨rfl,none,rfl⟩ ?_ ?_)⟩))))))))))
 · rintro i σ H2 hi ⟨rfl,r,rfl⟩
   rw [List.length_map] at hi
   have b1:=hps _ (Q3 hj)
   have b2:=hps _ (Q3 hi)
   have c1:=hss _ (Q3 (show j<ss.length by omega))
   have c2:=hss _ (Q3 (show i<ss.length by omega))
   refine Zq (Yp (Yj (Zh (Zh (Zh (w_c (Zh (Za rfl (Za rfl (Y9 (SqL.of h2) (ixi (by omega)) (Xd (Zh (Za rfl (Za rfl (Y9 (SqL.of h1) (ixi hj) (Yu (Wg (by omega) (by omega)) ?_))))))))))))))))
   refine Zh (Zh (w_c (Zh (Za rfl (Za rfl (Y9 (SqL.of h2) (ixi (by omega)) (Xd (Zh (Za rfl (Za rfl (Y9 (SqL.of h1) (ixi hi) (Yu (Wg (by omega) (by omega)) (Zd6 (Yq (iteB (λ _=>Yc (w_c (q 0 (.inl rfl)))) λ _=>Yk ⟨rfl,_,rfl⟩)))))))))))))))
 · rintro σ H2 ⟨rfl,r,rfl⟩
   exact q 1 (.inr rfl)
theorem Gx {K:Fq} {H:Hp} {σ σr:St} {l:List (Option Nat)} {te:TE} {p1:Addr} {ps:List Int} {m:Nat} {Q:VK} (hσ:σ[m]?=some (some (.ref p1))) (h1:H p1=some (.lst (ps.map V.int))) (hn:ps.length<=8) (hini:∃ r0,Xn l σ=r0::σr) (Good:Nat->Int->Prop)
 (hs:∀ i H1 (R:VK),i<ps.length->Same H H1->(∀ x H2,Same H1 H2->Good i x->R (.int x) H2)->te (some (.int (i:Nat))::σr) H1 R)
 (q:∀ p (rs:List Int) H',H p=none->Same H H'->H' p=some (.lst (rs.map V.int))->rs.length=ps.length->(∀ (i:Nat) x,rs[i]?=some x->Good i x)->Q (.ref p) H') :
 Xg l (Xz (Zd (tCB (rLenU K) (Zd (Zc m) Zj)) Zj)) (Zo 0) Qd te σ H Q:=by
 refine Xy (Q8 (Zb (Yl (Zb (Za hσ (Zg (Xp (SqL.of h1) (Zg (⟨_,rfl,(Yy (by rw [List.length_map]; omega)).1,(Yy (by rw [List.length_map]; omega)).2,λ D hD=>?_⟩)))))))))
 rw [List.length_map]
 refine Ww D (λ i v _=>∃ x,v=.int x/\Good i x) (λ _ _ _ _ _ z=>z) (by omega) hD hini (λ i H1 R hi s1 k=>hs i H1 R hi s1 λ x H2 s2 g=>k _ H2 s2 ⟨x,rfl,g⟩) (λ ys H1 hy hall s1 hD1=>?_)
 obtain ⟨rs,rfl,hr⟩:=Zp1 hall
 exact q D rs H1 hD s1 hD1 (by simpa using hy) hr
theorem Zfh {rs:List Int} {P:Int->Prop} (h:∀ (i:Nat) x,rs[i]?=some x->P x):∀ x∈rs,P x:=λ x hx=>by
 obtain ⟨i,hi,e⟩:=List.mem_iff_getElem.mp hx
 exact h i x (by rw [List.getElem?_eq_getElem hi,e])
theorem Zlf {K:Fq} {a b c d e:V} {H:Hp} {Q:VK} {E:XK} (h:Zdv K a b c d e H Q E):Ge K (Rt Q) [some a,some b,some c,some d,some e] H:=by
 obtain ⟨w,t,p1,p2,p3,ps,as,ss,rfl,rfl,rfl,rfl,rfl,h1,h2,h3,l2,l3,n8,n1,hps,has,hss,t1,t5,h7,q⟩:=h
 unfold Ge
 have fin:∀ p (rs:List Int) H',H p=none->Same H H'->H' p=some (.lst (rs.map V.int))->rs.length=ps.length->(∀ (i:Nat) x,rs[i]?=some x->0<=x/\x<=1000000001)->Q (.ref p) H':=λ p rs H' hp s hp' hl hr=>q p rs H' (.inr hp) s hp' hl (Zfh hr)
 refine Zr (Yp (Yj (Zh (Za rfl (w_c (Xm (Yq (iteD (λ _=>?_) λ _=>Yk ?_))))))))
 · refine Yc (Gx rfl h1 n8 ⟨_,rfl⟩ (λ _ x=>0<=x/\x<=1000000001) (λ i H1 R hi s1 k=>?_) fin)
   have b:=hss _ (Q3 (show i<ss.length by omega))
   refine Zh (Za rfl (Zh (Za rfl (Za rfl (Y9 (SqL.of (s1 _ _ h3)) (ixi (by omega)) (Yu (Wg (by omega) (by omega)) (k _ _ (Same.refl _) ?_)))))))
   have e1:t*ss.getD i 0<=5*3:=Int.mul_le_mul t5 (by omega) b.1 (by decide)
   exact ⟨Int.mul_nonneg (by omega) b.1,by omega⟩
 refine Zr (Yp (Yj (Zh (Za rfl (w_c (Xm (Yq (iteD (λ _=>?_) λ _=>Yk ?_))))))))
 · refine Yc (Gx rfl h1 n8 ⟨_,rfl⟩ (λ _ x=>0<=x/\x<=1000000001) (λ i H1 R hi s1 k=>?_) fin)
   have b:=hss _ (Q3 (show i<ss.length by omega))
   have c:=hps _ (Q3 hi)
   have e1:t*ss.getD i 0<=5*3:=Int.mul_le_mul t5 (by omega) b.1 (by decide)
   have e0:0<=t*ss.getD i 0:=Int.mul_nonneg (by omega) b.1
   refine Zh (Zh (Zh (Za rfl (Zh (Za rfl (Za rfl (Y9 (SqL.of (s1 _ _ h3)) (ixi (by omega)) (Yu (Wg (by omega) (by omega)) (w_c (Yu (Wg (by omega) (by omega)) ?_))))))))))
   refine Zh (Za rfl (Za rfl (Y9 (SqL.of (s1 _ _ h1)) (ixi hi) (Qv (by omega) (by omega) (k _ _ (Same.refl _) ?_)))))
   refine ⟨Int.ediv_nonneg (by omega) (by omega),Int.le_trans (Int.ediv_le_self _ (by omega)) (by omega)⟩
 refine Zr (Yp (Yj (Zh (Za rfl (w_c (Xm (Yq (iteD (λ _=>?_) λ _=>Yk ?_))))))))
 · refine Yc (Gx rfl h1 n8 ⟨_,rfl⟩ (λ _ x=>0<=x/\x<=1000000001) (λ i H1 R hi s1 k=>?_) fin)
   have b:=has _ (Q3 (show i<as.length by omega))
   refine Zh (Zh (w_c (Zh (Za rfl (Za rfl (Y9 (SqL.of (s1 _ _ h2)) (ixi (by omega)) (Xd ?_)))))))
   refine Zv (Zb (Za rfl (Zb (Za rfl (Zb (Za rfl (Zg ?_)))))))
   refine ⟨_,_,_,rfl,p1,p3,ps,ss,i,rfl,rfl,rfl,s1 _ _ h1,s1 _ _ h3,l3,n8,hi,λ x hx=>⟨by have:=(hps x hx).1; omega,(hps x hx).2⟩,hss,λ r hr=>Yu (Wg (by omega) (by omega)) (k _ _ (Same.refl _) ?_)⟩
   rcases hr with rfl | rfl <;> omega
 refine Zr (Yp (Yj (Zh (Za rfl (w_c (Xm (Yq (iteD (λ _=>?_) λ _=>Yk ?_))))))))
 · refine Yc (Gx rfl h1 n8 ⟨_,rfl⟩ (λ _ x=>0<=x/\x<=1000000001) (λ i H1 R hi s1 k=>?_) fin)
   have b:=has _ (Q3 (show i<as.length by omega))
   refine Zh (Zh (w_c (Zh (Za rfl (Za rfl (Y9 (SqL.of (s1 _ _ h2)) (ixi (by omega)) (Xd ?_)))))))
   refine Yl (Zb (Zh (Zh (Za rfl (Za rfl (Y9 (SqL.of (s1 _ _ h1)) (ixi hi) (Yl (Zb (Za rfl (Zg ?_))))))))))
   refine ⟨p1,ps,rfl,.inl (SqL.of (s1 _ _ h1)),λ z=>by subst z; simp at n1,λ mm _ _=>Xm (Zg (Zi1 (Yu (Wg (by omega) (by omega)) (k _ _ (Same.refl _) ?_))))⟩
   split <;> omega
 refine Zr (Yp (Yj (Zh (Za rfl (w_c (Xm (Yq (iteD (λ hw=>?_) λ _=>Yk ?_))))))))
 · refine Yc (Xy (X3 (Za rfl (⟨_,rfl,.inl ⟨⟨_,SqL.of h1⟩,λ D hD=>?_⟩⟩))))
   refine Ey (K:=K) (a:=p1) (.inr ⟨rfl,h1⟩) D (λ i v _=>∃ x,v=.int x/\0<=x/\x<=1000000001) (λ _ _ _ _ _ z=>z) (by rw [List.length_map]; omega) hD ⟨_,rfl⟩ (λ i x H1 R hi s1 k=>?_) (λ ys H1 hy hall s1 hD1=>?_)
   · have hi':i<ps.length:=by have:=(List.getElem?_eq_some_iff.mp hi).1; simpa using this
     rw [G8 hi'] at hi
     cases hi
     have b:=hps _ (Q3 hi')
     have b8:=h7 hw _ (Q3 hi')
     exact Zh (w_c (Za rfl (Zbb (k _ _ (Same.refl _) ⟨_,rfl,by omega,by omega⟩))))
   · obtain ⟨rs,rfl,hr⟩:=Zp1 hall
     exact fin D rs H1 hD s1 hD1 (by simpa using hy) hr
 exact Yc (Za rfl (q p2 as H (.inl rfl) (Same.refl _) h2 l2 λ x hx=>⟨(has x hx).1,by have:=(has x hx).2; omega⟩))
theorem Zm0 {K:Fq} {a b:V} {H:Hp} {Q:VK} {E:XK} (h:Zfl K a b H Q E):Zab K (Rt Q) [some a,some b] H:=by
 obtain ⟨w,h,rfl,rfl,q⟩:=h
 unfold Zab
 refine Zr (Yp (Yj (Zh (Za rfl (w_c (Xm (Yq (iteD (λ hw=>?_) λ _=>Yk ?_))))))))
 · refine Yc (Zh (w_c (Zh (Za rfl (w_c (Yv (by decide) (Xd (q _ _ (Same.refl _) (by omega) (by omega) (by omega)))))))))
 refine Zr (Yp (Yj (Zh (Za rfl (w_c (Xm (Yq (iteD (λ hw=>?_) λ _=>Yk ?_))))))))
 · refine Yc (Zh (w_c (Zh (Za rfl (w_c (Yv (by decide) (Xd (q _ _ (Same.refl _) (by omega) (by omega) (by omega)))))))))
 refine Zr (Yp (Yj (Zh (Za rfl (w_c (Xm (Yq (iteD (λ hw=>?_) λ _=>Yk ?_))))))))
 · refine Yc (Zh (w_c (Zh (Za rfl (w_c (Yv (by decide) (Xd (q _ _ (Same.refl _) (by omega) (by omega) (by omega)))))))))
 refine Zr (Yp (Yj (Zh (Za rfl (w_c (Xm (Yq (iteD (λ hw=>?_) λ _=>Yk ?_))))))))
 · refine Yc (Zh (Wi (Zb (w_c (Zb (w_c (Zb (w_c (Zb (w_c (Zb (w_c (Zb (w_c (Zg ⟨by show 6<=sizeLine; decide,λ p hp=>?_⟩)))))))))))))))
   refine Zh (Za rfl (w_c (Yv (by decide) ?_)))
   have r0:=Int.emod_nonneg h (show (6:Int)≠0 by decide)
   have r1:=Int.emod_lt_of_pos h (show (0:Int)<6 by decide)
   generalize h % 6=m at r0 r1 ⊢
   have:∃ r:Int,atI [V.int 1,.int 2,.int 3,.int 4,.int 6,.int 12] m=some (.int r)/\1<=r/\r<=12:=by
    rcases (by omega:m=0\/m=1\/m=2\/m=3\/m=4\/m=5) with rfl | rfl | rfl | rfl | rfl | rfl
    · exact ⟨1,rfl,by decide,by decide⟩
    · exact ⟨2,rfl,by decide,by decide⟩
    · exact ⟨3,rfl,by decide,by decide⟩
    · exact ⟨4,rfl,by decide,by decide⟩
    · exact ⟨6,rfl,by decide,by decide⟩
    · exact ⟨12,rfl,by decide,by decide⟩
   obtain ⟨r,e,r1,r2⟩:=this
   exact Y9 (SqL.of Zn) e (q r _ (Same.laid hp) r1 (by omega) (by omega))
 refine Yc (Zh (w_c (Zh (Za rfl (w_c (Yv (by decide) (Xd (q _ _ (Same.refl _) (by omega) (by omega) (by omega)))))))))
end LB
namespace LB
open PySem L2
theorem Zsl {K:Fq} {H:Hp} {Q:VK} {a b:Addr} {xs ys:List V} (h1:H a=some (.tup xs)) (h2:H b=some (.tup ys)) (hz:xs.length+ys.length<=1000) (k:∀ p H',Same H H'->H' p=some (.tup (xs++ys))->Q (.ref p) H'):rAddU K (.ref a) (.ref b) H Q:=by
 by_cases hx:xs=[]
 · subst hx
   exact .inr (.inr (.inl ⟨a,b,ys,rfl,rfl,SqT.of h1,SqT.of h2,k b H (Same.refl _) (by simpa using h2)⟩))
 · exact .inr (.inl ⟨a,b,xs,ys,rfl,rfl,SqT.of h1,SqT.of h2,hx,Zfz hz,λ z=>k a H (Same.refl _) (by subst z; simpa using h1),λ _ p hp=>k p _ (Same.laid hp) Zn⟩)
theorem Zqw {K:Fq} {H:Hp} {Q:VK} {a:Addr} {xs:List V} {j:Nat} (h:H a=some (.tup xs)) (hj:j<xs.length) (k:∀ p H',Same H H'->H' p=some (.tup (xs.take j))->Q (.ref p) H'):rSlU K (.ref a) none (some (j:Int)) H Q:=by
 have e1:HT.sIx xs.length xs.length (some (j:Int))=j:=by rw [HT.Za5]; omega
 have e0:HT.sIx xs.length 0 none=0:=rfl
 refine .inl ⟨a,xs,rfl,SqT.of h,λ z=>by rw [e1] at z; omega,λ p hp=>k p _ (Same.laid hp) ?_⟩
 rw [Zn]
 unfold cutV
 rw [e1,e0]; simp
theorem Zl5 {K:Fq} {H:Hp} {Q:VK} {a:Addr} {xs:List V} {j:Nat} {i:Int} (h:H a=some (.tup xs)) (hi:i=(j:Int)) (h0:0<j) (hj:j<=xs.length) (k:∀ p H',Same H H'->H' p=some (.tup (xs.drop j))->Q (.ref p) H'):rSlU K (.ref a) (some i) none H Q:=by
 subst hi
 have e1:HT.sIx xs.length 0 (some (j:Int))=j:=by rw [HT.Za5]; omega
 have e0:HT.sIx xs.length xs.length none=xs.length:=rfl
 refine .inl ⟨a,xs,rfl,SqT.of h,λ z=>by rw [e1] at z; omega,λ p hp=>k p _ (Same.laid hp) ?_⟩
 rw [Zn]
 unfold cutV
 rw [e1,e0,List.take_of_length_le (by rw [List.length_drop]; omega)]
theorem Zq7 {H:Hp} {p p1 p2:Addr} {d:List Int×List Int} (h:H p=some (.tup [.ref p1,.ref p2])) (h1:H p1=some (.tup (d.1.map V.int))) (h2:H p2=some (.tup (d.2.map V.int))):Rep H (.ref p) (dayD d):=by
 unfold dayD Rep
 refine ⟨p,_,rfl,h,?_⟩
 unfold Reps
 refine ⟨_,_,rfl,by unfold Rep; exact ⟨p1,_,rfl,h1,Reps.ints _⟩,?_⟩
 unfold Reps
 refine ⟨_,_,rfl,by unfold Rep; exact ⟨p2,_,rfl,h2,Reps.ints _⟩,?_⟩
 unfold Reps
 rfl
theorem Zgk {H:Hp}:∀ {ns:List Int} {xs:List V},Reps H xs (ns.map PyData.int)->xs=ns.map V.int
 | [],xs,h=>by unfold List.map Reps at h; exact h
 | n::ns,xs,h=>by
   rw [List.map_cons] at h
   unfold Reps at h
   obtain ⟨x,r,rfl,h1,h2⟩:=h
   unfold Rep at h1
   rw [h1,Zgk h2]; rfl
theorem Zlx {H:Hp} {v:V} {d:List Int×List Int} (h:Rep H v (dayD d)):∃ p p1 p2,v=.ref p/\H p=some (.tup [.ref p1,.ref p2])/\H p1=some (.tup (d.1.map V.int))/\H p2=some (.tup (d.2.map V.int)):=by
 unfold dayD Rep at h
 obtain ⟨p,xs,rfl,hp,rs⟩:=h
 unfold Reps at rs
 obtain ⟨x0,r1,rfl,rd0,rs⟩:=rs
 unfold Reps at rs
 obtain ⟨x1,r2,rfl,rd1,rs⟩:=rs
 unfold Reps at rs
 subst rs
 unfold Rep at rd0 rd1
 obtain ⟨p1,ys1,rfl,h1,q1⟩:=rd0
 obtain ⟨p2,ys2,rfl,h2,q2⟩:=rd1
 rw [Zgk q1] at h1
 rw [Zgk q2] at h2
 exact ⟨p,p1,p2,rfl,hp,h1,h2⟩
theorem Zor:∀ (ns:List Int),noLs (ns.map PyData.int)=true
 | []=>rfl
 | n::ns=>by
   show (noL (.int n) && noLs (ns.map PyData.int))=true
   rw [Zor ns]; rfl
theorem Zrg (d:List Int×List Int):noL (dayD d)=true:=by
 unfold dayD
 simp only [noL,noLs,Zor,Bool.and_self]
theorem Zqd {K:Fq} {a b c:V} {H:Hp} {Q:VK} {E:XK} (h:Zhm K a b c H Q E):Zc2 K (Rt Q) [some a,some b,some c,none,none,none,none,none] H:=by
 obtain ⟨cc,w,p,ss,rfl,rfl,rfl,c0,c1,hp,n1,n8,hss,q⟩:=h
 unfold Zc2
 refine Zr (Z9 (Wi (Zg ⟨Nat.zero_le _,λ a1 ha1=>Zq ?_⟩)))
 refine Zr (Z9 (Wi (Zg ⟨Nat.zero_le _,λ a2 ha2=>Zq ?_⟩)))
 have n12:a1≠a2:=Qi Zn ha2
 have ha2':H a2=none:=(Same.laid ha1).free ha2
 have tail:∀ (c:Int) (b1 b2:Addr) (ps as:List Int) (r5 r6 r7:Option V) (H2:Hp),Same H H2->H b1=none->H b2=none->b1≠b2->H2 b1=some (.lst (ps.map V.int))->H2 b2=some (.lst (as.map V.int))->ps.length=ss.length->as.length=ss.length ->
  (∀ x∈ps,1<=x/\x<=1000000000)->(w=7->∀ x∈ps,x<=8)->(∀ x∈as,0<=x/\x<=1000000000) ->
  (Zz (Yi (Zy (Uj K) [] E0 (Zd (Zc 1) (Zd (Zc 3) (Zd (Zc 4) (Zd (Zc 2) (Zd (tOp (rAddU K) (tC (.int 1)) (tOp rModU (tOp rDivU (Zc 0) (tC (.int 1000000000000000000000000000000))) (tC (.int 5)))) Zj)))))) (Zo 4))
   (Zz (Yt (Yn (tOp (rEqU K) (tCB (rSumU K) (Zd (Zc 4) Zj)) (tC (.int 0)))) (Yi (tC (.int 1)) (Zii (Zc 4) (tC (.int 0)) Zew)) Yo)
   (Z7 (Jw (Zd (tCB (rTy_tuple K) (Zd (Zc 3) Zj)) (Zd (tCB (rTy_tuple K) (Zd (Zc 4) Zj)) Zj)))))) (Rt Q) [some (.int c),some (.int w),some (.ref p),some (.ref b1),some (.ref b2),r5,r6,r7] H2:=by
  intro c b1 b2 ps as r5 r6 r7 H2 s2 f1 f2 nb h1 h2 l1 l2 hps h7 has
  have t0:=Int.emod_nonneg (c / 1000000000000000000000000000000) (show (5:Int)≠0 by decide)
  have t1:=Int.emod_lt_of_pos (c / 1000000000000000000000000000000) (show (0:Int)<5 by decide)
  refine Zr (Z9 (Zv (Zb (Za rfl (Zb (Za rfl (Zb (Za rfl (Zb (Za rfl (Zb (Zh (w_c (Zh (Zh (Za rfl (w_c (Qv (by decide) (by decide) (w_c (Yv (by decide) (Xd (Zg ?_))))))))))))))))))))))
  refine ⟨_,_,_,_,_,rfl,w,_,b1,b2,p,ps,as,ss,rfl,rfl,rfl,rfl,rfl,h1,h2,s2 _ _ hp,by omega,by omega,by omega,by omega,hps,has,hss,by omega,by omega,h7,λ p4 rs H3 hp4 s3 h4 hl hr=>Zq ?_⟩
  have f4:H p4=none:=by
   rcases hp4 with e | e
   · rw [e]; exact f2
   · exact s2.free e
  have n4:b1≠p4:=by
   rcases hp4 with e | e
   · rw [e]; exact nb
   · exact Qi h1 e
  have fin:∀ (rs:List Int) (H4:Hp),Same H H4->H4 b1=some (.lst (ps.map V.int))->H4 p4=some (.lst (rs.map V.int))->rs.length=ss.length->(∀ x∈rs,0<=x/\x<=1000000001)->(∃ x∈rs,0<x) ->
   (Z7 (Jw (Zd (tCB (rTy_tuple K) (Zd (Zc 3) Zj)) (Zd (tCB (rTy_tuple K) (Zd (Zc 4) Zj)) Zj)))) (Rt Q) [some (.int c),some (.int w),some (.ref p),some (.ref b1),some (.ref p4),r5,r6,r7] H4:=by
   intro rs H4 s4 g1 g4 hl hr hpos
   refine Yc (Wh (Zb (Yl (Zb (Za rfl (Zg (Zix (SqL.of g1) λ u1 hu1=>?_)))))))
   have e4:upd H4 u1 (.tup (ps.map V.int)) p4=some (.lst (rs.map V.int)):=Same.laid hu1 _ _ g4
   refine Zb (Yl (Zb (Za rfl (Zg (Zix (SqL.of e4) λ u2 hu2=>Zg ⟨by show 2<=sizeLine; decide,λ u3 hu3=>?_⟩)))))
   refine q _ (ps,rs) _ ((s4.laidT hu1).laidT hu2 |>.laidT hu3) (Zq7 Zn ?_ ?_) ⟨l1,hl,hps,λ x hx=>⟨(hr x hx).1,by have:=(hr x hx).2; omega⟩,hpos⟩ λ x hx=>(hr x hx).2
   · exact Same.laid hu3 _ _ (Same.laid hu2 _ _ Zn)
   · exact Same.laid hu3 _ _ Zn
  refine Zr (Yp (Yj (Zh (Yl (Zb (Za rfl (Zg (Ziy (.inl (SqL.of h4)) (w_c (Xm (Yq (iteD (λ hz=>?_) λ hz=>?_))))))))))))
  · refine Z9 (w_c (Zna (Za rfl (w_c (Ziz h4 (Zj1 (by decide) (by rw [List.length_map]; omega)) ?_)))))
    refine fin (rs.set 0 1) _ ((s2.trans s3).put f4) (by rw [Z5 n4]; exact s3 _ _ h1) (by rw [Zn,Zdk]; rfl) (by rw [List.length_set]; omega) (λ x hx=>?_) ⟨1,List.mem_set (by omega) 1,by decide⟩
    rcases List.mem_or_eq_of_mem_set hx with e | e
    · exact hr x e
    · subst e; decide
  · exact Yk (fin rs H3 (s2.trans s3) (s3 _ _ h1) h4 (by omega) hr (Zju (λ y hy=>(hr y hy).1) hz))
 refine Zr (Qc (Q8 (Zb (Yl (Zb (Za rfl (Zg (Xp (xs:=ss.map V.int) (SqL.of ?hp1) (Zg (⟨_,rfl,(Yy (by rw [List.length_map]; omega)).1,(Yy (by rw [List.length_map]; omega)).2,(Wq (λ i σ H2=>∃ (c:Int) (ps as:List Int) (r5 r6:Option V),σ=[some (.int c),some (.int w),some (.ref p),some (.ref a1),some (.ref a2),r5,r6,none]/\0<=c/\Same H H2 /\
  H2 a1=some (.lst (ps.map V.int))/\H2 a2=some (.lst (as.map V.int))/\ps.length=i/\as.length=i/\(∀ x∈ps,1<=x/\x<=1000000000)/\(w=7->∀ x∈ps,x<=8)/\∀ x∈as,0<=x/\x<=1000000000) ⟨cc,[],[],none,none,rfl,c0,(Same.laid ha1).laidT ha2,by rw [Z5 n12]; exact Zn,Zn,rfl,rfl,λ x hx=>by simp at hx,λ _ x hx=>by simp at hx,λ x hx=>by simp at hx⟩ ?step ?done)⟩))))))))))
 case hp1=>exact Same.laid ha2 _ _ (Same.laid ha1 _ _ hp)
 case step =>
  rintro i σ H2 hi ⟨c,ps,as,r5,r6,rfl,d0,s,h1,h2,l1,l2,hps,h7,has⟩
  rw [List.length_map] at hi
  refine Zq (Zr (Z9 (Zv (Zb (Za rfl (Zg ⟨_,rfl,c,rfl,λ c' e0 e1=>Zq ?_⟩))))))
  refine Zr (Z9 (Zh (Za rfl (w_c (Qv (by decide) (by decide) (Zq ?_))))))
  have g0:0<=c' / 1000000000000000:=Int.ediv_nonneg e0 (by decide)
  generalize c' / 1000000000000000=hh at g0 ⊢
  refine Zr (J1 (Zht (Za rfl ⟨Hu h1,Zb (Zv (Zb (Za rfl (Zb (Za rfl (Zg ⟨_,_,rfl,w,hh,rfl,rfl,λ r H3 s3 r1 r2 r7=>Zg (Ht (s3 _ _ h1) (Ql (by rw [List.length_map]; omega)) ?_)⟩))))))⟩)))
  have h2':upd H3 a1 (.lst (ps.map V.int++[.int r])) a2=some (.lst (as.map V.int)):=by rw [Z5 n12.symm]; exact s3 _ _ h2
  have sB:Same H (upd H3 a1 (.lst (ps.map V.int++[.int r]))):=(s.trans s3).put ha1
  refine J1 (Zht (Za rfl ⟨Hu h2',Zb (Zh (Wi (Zb (Zh (Zh (Za rfl (w_c (Qv (by decide) (by decide) (w_c (Yv (by decide) ?_))))))))))⟩))
  refine Zb (Zh (Zh (Za rfl (w_c (Qv (by decide) (by decide) (w_c (Yv (by decide) (Zg ⟨by show 2<=sizeLine; decide,λ a3 ha3=>?_⟩))))))))
  refine Yl (Zb (Zh (Za rfl (w_c (Xm (Zg (Zi1 ?_)))))))
  have x0:=Int.emod_nonneg (hh / 420) (show (4:Int)≠0 by decide)
  have x1:=Int.emod_lt_of_pos (hh / 420) (show (0:Int)<4 by decide)
  have y0:=Int.emod_nonneg (hh / 1000000000) (show (1000000000:Int)≠0 by decide)
  have y1:=Int.emod_lt_of_pos (hh / 1000000000) (show (0:Int)<1000000000 by decide)
  have i0:0<=(if decide (w=2)=true then (1:Int) else 0):=by split <;> decide
  have i1:(if decide (w=2)=true then (1:Int) else 0)<2:=by split <;> decide
  obtain ⟨v,ev,hv⟩:=at2 (a:=.int (hh / 420 % 4)) (b:=.int (hh / 1000000000 % 1000000000)) i0 i1
  obtain ⟨x,rfl,hx0,hx1⟩:∃ x:Int,v=.int x/\0<=x/\x<=1000000000:=by
   rcases hv with rfl | rfl
   · exact ⟨_,rfl,by omega,by omega⟩
   · exact ⟨_,rfl,by omega,by omega⟩
  refine Y9 (SqL.of Zn) ev (Zg (Ht (Same.laid ha3 _ _ h2') (Ql (by rw [List.length_map]; omega)) ?_))
  refine ⟨c',ps++[r],as++[x],_,_,rfl,e0,(sB.laidT ha3).put ha2',?_,by rw [Zn,List.map_append]; rfl,by simp [l1],by simp [l2],λ z hz=>?_,λ w7 z hz=>?_,λ z hz=>?_⟩
  · rw [Z5 n12]
    have:=Same.laid (o:=.lst [.int (hh / 420 % 4),.int (hh / 1000000000 % 1000000000)]) ha3 _ _ (Zn (H:=H3) (a:=a1) (o:=.lst (ps.map V.int++[.int r])))
    rw [this,List.map_append]; rfl
  · rcases List.mem_append.mp hz with e | e
    · exact hps z e
    · rw [List.mem_singleton.mp e]; exact ⟨r1,r2⟩
  · rcases List.mem_append.mp hz with e | e
    · exact h7 w7 z e
    · rw [List.mem_singleton.mp e]; exact r7 w7
  · rcases List.mem_append.mp hz with e | e
    · exact has z e
    · rw [List.mem_singleton.mp e]; exact ⟨hx0,hx1⟩
 case done =>
  rintro σ H2 ⟨c,ps,as,r5,r6,rfl,d0,s,h1,h2,l1,l2,hps,h7,has⟩
  rw [List.length_map] at l1 l2
  refine Zr (Yp (Yj (Zh (Za rfl (w_c (Xm (Yq (iteD (λ hw=>?_) λ _=>Yk (tail c a1 a2 ps as r5 r6 none H2 s ha1 ha2' n12 h1 h2 l1 l2 hps h7 has)))))))))
  refine Zr (Z9 (Zh (Zh (Za rfl (w_c (Qv (by decide) (by decide) (Yl (Zb (Za rfl (Zg (Xp (SqL.of h1) (Yv (by rw [List.length_map]; omega) (Zq ?_)))))))))))))
  rw [List.length_map]
  obtain ⟨at',eat,hat⟩:∃ k:Nat,c / 10000000000000000000000000 % (ps.length:Int)=(k:Int)/\k<ss.length:=by
   have r0:=Int.emod_nonneg (c / 10000000000000000000000000) (show (ps.length:Int)≠0 by omega)
   have r1:=Int.emod_lt_of_pos (c / 10000000000000000000000000) (show (0:Int)<ps.length by omega)
   exact ⟨(c / 10000000000000000000000000 % (ps.length:Int)).toNat,by omega,by omega⟩
  rw [eat]
  refine Zr (Z9 (Gx (p1:=p) (ps:=ss) rfl (s _ _ hp) n8 ⟨_,rfl⟩ (λ _ x=>1<=x/\x<=9) (λ i H3 R hi s3 k=>?_) λ b1 qs H3 hb1 s3 g1 gl gq=>Zq ?_))
  · refine Zh (Wi (Zb (w_c (Zb (Zh (w_c (Zh (Za rfl (w_c (Yv (by decide) (Xd (Zg ⟨by show 2<=sizeLine; decide,λ a3 ha3=>?_⟩))))))))))))
    have hp3:upd H3 a3 (.lst [.int 9,.int (2+c % 2)]) p=some (.lst (ss.map V.int)):=Same.laid ha3 _ _ (s3 _ _ (s _ _ hp))
    refine Yl (Zb (Zh (Za rfl (Zh (Zh (Za rfl (w_c (Xd (Yl (Zb (Za rfl (Zg (Xp (SqL.of hp3) (Yv (by rw [List.length_map]; omega) (Xm (Zg (Zi1 ?_)))))))))))))))))
    generalize (decide ((i:Int)=((at':Int)+1) % ((ss.map V.int).length:Int)))=bb
    have i0:0<=(if bb=true then (1:Int) else 0):=by split <;> decide
    have i1:(if bb=true then (1:Int) else 0)<2:=by split <;> decide
    obtain ⟨v,ev,hv⟩:=at2 (a:=.int 9) (b:=.int (2+c % 2)) i0 i1
    refine Y9 (SqL.of Zn) ev ?_
    rcases hv with rfl | rfl
    · exact k _ _ (Same.laid ha3) (by decide)
    · exact k _ _ (Same.laid ha3) (by omega)
  have sb:Same H H3:=s.trans s3
  refine Zr (Z9 (w_c (Zna (Za rfl (Za rfl (Ziz g1 (Zj1 (by omega) (by rw [List.length_map]; omega)) ?_))))))
  have fb1:H b1=none:=s.free hb1
  have sb2:Same H (upd H3 b1 (.lst ((qs.map V.int).set (at':Int).toNat (.int 3)))):=sb.put fb1
  have gb:upd H3 b1 (.lst ((qs.map V.int).set (at':Int).toNat (.int 3))) b1=some (.lst ((qs.set at' 3).map V.int)):=by rw [Zn,Int.toNat_natCast,Zdk]
  refine Z9 (Gx (p1:=p) (ps:=ss) rfl (sb2 _ _ hp) n8 ⟨_,rfl⟩ (λ _ x=>0<=x/\x<=1) (λ i H4 R hi s4 k=>?_) λ b2 zs H4 hb2 s4 g2 gl2 gz=>Zq ?_)
  · refine Yl (Zb (Zh (Za rfl (Za rfl (Xm (Zg (Zi1 (k _ _ (Same.refl _) ?_))))))))
    split <;> decide
  have nb12:b1≠b2:=Qi gb hb2
  refine tail c b1 b2 (qs.set at' 3) zs _ _ _ H4 (sb2.trans s4) fb1 (sb2.free hb2) nb12 (s4 _ _ gb) g2 (by rw [List.length_set]; exact gl) gl2 (λ x hx=>?_) (λ w7=>by omega) (λ x hx=>?_)
  · rcases List.mem_or_eq_of_mem_set hx with e | e
    · have:=Zfh gq x e
      omega
    · subst e; decide
  · have:=Zfh gz x hx
    omega
theorem Zr8 {H:Hp} {G:List Int×List Int->Prop}:∀ {ys:List V},(∀ (i:Nat) v,ys[i]?=some v->∃ d,Rep H v (dayD d)/\G d)->∃ B:List (List Int×List Int),Reps H ys (B.map dayD)/\∀ d∈B,G d
 | [],_=>⟨[],by unfold List.map Reps; rfl,λ d hd=>by simp at hd⟩
 | y::ys,h=>by
   obtain ⟨d,h1,h2⟩:=h 0 y rfl
   obtain ⟨B,h3,h4⟩:=Zr8 (ys:=ys) λ i v e=>h (i+1) v (by simpa using e)
   refine ⟨d::B,?_,λ e he=>?_⟩
   · rw [List.map_cons]
     unfold Reps
     exact ⟨y,ys,rfl,h1,h3⟩
   · rcases List.mem_cons.mp he with z | z
     · rw [z]; exact h2
     · exact h4 e z
theorem Reps.set {H:Hp}:∀ {ds:List PyData} {xs:List V} (k:Nat) {x:V} {d:PyData},Reps H xs ds->Rep H x d->Reps H (xs.set k x) (ds.set k d)
 | [],_,k,_,_,h,_=>by unfold Reps at h; subst h; unfold List.set Reps; rfl
 | e::ds,_,0,x,d,h,r=>by
   unfold Reps at h
   obtain ⟨y,t,rfl,h1,h2⟩:=h
   show Reps H (x::t) (d::ds)
   unfold Reps
   exact ⟨x,t,rfl,r,h2⟩
 | e::ds,_,k+1,x,d,h,r=>by
   unfold Reps at h
   obtain ⟨y,t,rfl,h1,h2⟩:=h
   show Reps H (y::t.set k x) (e::ds.set k d)
   unfold Reps
   exact ⟨y,_,rfl,h1,Reps.set k h2 r⟩
theorem Zos:∀ (B:List (List Int×List Int)),noLs (B.map dayD)=true
 | []=>rfl
 | d::B=>by
   show (noL (dayD d) && noLs (B.map dayD))=true
   rw [Zrg,Zos B]; rfl
theorem Zog {K:Fq} {a b c d:V} {H:Hp} {Q:VK} {E:XK} (h:Zgb K a b c d H Q E):Zbk K (Rt Q) [some a,some b,some c,some d,none,none,none,none,none,none,none] H:=by
 obtain ⟨l,ns,st,m,n,rfl,rfl,rfl,rfl,hl,hb,hst,m1,m8,n1,n6,q⟩:=h
 unfold Zbk
 refine Zr (Z9 (Zv (Zb (Za rfl (Zb (Za rfl (Zg ⟨_,_,rfl,l,ns,st,rfl,rfl,hl,hb,by omega,Zq ?_⟩)))))))
 have c0:=Zit ns st
 have c1:=Ziu ns st
 generalize Uq ns st=c at c0 c1 ⊢
 refine Zr (Z9 (Zh (Wi (Zb (w_c (Zb (w_c (Zb (w_c (Zb (w_c (Zb (w_c (Zb (w_c (Zb (w_c (Zb (w_c (Zb (w_c (Zb (w_c (Zg ⟨by show 10<=sizeLine; decide,λ a1 ha1=>?_⟩))))))))))))))))))))))))
 refine Zh (Zh (Za rfl (w_c (Qv (by decide) (by decide) (w_c (Yv (by decide) ?_))))))
 have way:∃ w:Int,atI [V.int 0,.int 1,.int 0,.int 2,.int 8,.int 3,.int 4,.int 5,.int 6,.int 7] (c / 8 % 10)=some (.int w):=by
  have r0:=Int.emod_nonneg (c / 8) (show (10:Int)≠0 by decide)
  have r1:=Int.emod_lt_of_pos (c / 8) (show (0:Int)<10 by decide)
  generalize c / 8 % 10=z at r0 r1 ⊢
  rcases (by omega:z=0\/z=1\/z=2\/z=3\/z=4\/z=5\/z=6\/z=7\/z=8\/z=9) with rfl | rfl | rfl | rfl | rfl | rfl | rfl | rfl | rfl | rfl <;> exact ⟨_,rfl⟩
 obtain ⟨w,ew⟩:=way
 refine Y9 (SqL.of Zn) ew (Zq ?_)
 have s1:Same H (upd H a1 (.lst [.int 0,.int 1,.int 0,.int 2,.int 8,.int 3,.int 4,.int 5,.int 6,.int 7])):=Same.laid ha1
 generalize upd H a1 (.lst [.int 0,.int 1,.int 0,.int 2,.int 8,.int 3,.int 4,.int 5,.int 6,.int 7])=H1 at s1 ⊢
 obtain ⟨k,ek,k1,k2⟩:∃ k:Nat,1+c % (n:Int)=(k:Int)/\1<=k/\k<=n:=by
  have r0:=Int.emod_nonneg c (show (n:Int)≠0 by omega)
  have r1:=Int.emod_lt_of_pos c (show (0:Int)<n by omega)
  exact ⟨(1+c % (n:Int)).toNat,by omega,by omega,by omega⟩
 refine Zr (Z9 (Zv (Zb (Za rfl (Zb (Zh (w_c (Zh (Za rfl (Za rfl (Yv (by omega) (Xd (Zg ?_)))))))))))))
 rw [ek]
 refine ⟨_,_,rfl,c,k,rfl,rfl,k1,by omega,λ p ss H2 hp2 s2 hp hl2 hss hsum=>Zq ?_⟩
 have s12:=s1.trans s2
 obtain ⟨g,eg,g1,g2⟩:∃ g:Nat,1+c / 80 % (m:Int)=(g:Int)/\1<=g/\g<=m:=by
  have r0:=Int.emod_nonneg (c / 80) (show (m:Int)≠0 by omega)
  have r1:=Int.emod_lt_of_pos (c / 80) (show (0:Int)<m by omega)
  exact ⟨(1+c / 80 % (m:Int)).toNat,by omega,by omega,by omega⟩
 refine Zr (Z9 (Xy (Q8 (Zb (Zh (w_c (Zh (Zh (Za rfl (w_c (Qv (by decide) (by decide) (Za rfl (Yv (by omega) (Xd (Zg ?_)))))))))))))))
 rw [eg]
 refine ⟨_,rfl,(Yy (by omega)).1,(Yy (by omega)).2,λ D hD=>?_⟩
 refine Ww D (λ i v H=>∃ d,Rep H v (dayD d)/\GoodDay k d/\∀ x∈d.2,x<=1000000001) (λ i v H H' t ⟨d,r,z⟩=>⟨d,Rep.tu t _ _ (Zrg d) r,z⟩) (by omega) hD ⟨_,rfl⟩ (λ i H3 R hi s3 kk=>?_) (λ ys H3 hy hall s3 hD3=>Zq ?_)
 · have s13:=s12.trans s3
   refine Zv (Zb (Zv (Zb (Za rfl (Zb (Zh (Zh (Za rfl (w_c (Xd (Za rfl (Xd (Zg ?_)))))))))))))
   refine ⟨_,_,rfl,l,ns,st+1+i,rfl,by simp,s13.seq hl,hb,by omega,?_⟩
   have e0:=Zit ns (st+1+i)
   have e1:=Ziu ns (st+1+i)
   refine Zb (Za rfl (Zb (Za rfl (Zg ⟨_,_,_,rfl,_,w,p,ss,rfl,rfl,rfl,e0,e1,s3 _ _ hp,by omega,by omega,hss,λ v d H4 s4 r gd gx=>kk v H4 s4 ⟨d,r,?_,gx⟩⟩))))
   rw [← hl2]; exact gd
 obtain ⟨B,rB,gB⟩:=Zr8 (G:=λ d=>GoodDay k d/\∀ x∈d.2,x<=1000000001) (λ i v e=>by obtain ⟨d,h1,h2⟩:=hall i v e; exact ⟨d,h1,h2⟩)
 have lB:B.length=g:=by have:=rB.length; rw [List.length_map] at this; omega
 have s13:=s12.trans s3
 have fD:H D=none:=s12.free hD
 have fin:∀ (B:List (List Int×List Int)) (ys:List V) (H4:Hp) r8 r9 r10,Same H H4->H4 D=some (.lst ys)->Reps H4 ys (B.map dayD)->B.length=g->(∀ d∈B,GoodDay k d/\∀ x∈d.2,x<=1000000002) ->
  (Z7 (tCB (rTy_tuple K) (Zd (Zc 7) Zj))) (Rt Q) [some (.ref l),some (.int st),some (.int m),some (.int n),some (.int c),some (.int w),some (.ref p),some (.ref D),r8,r9,r10] H4:=by
  intro B ys H4 r8 r9 r10 s4 hD4 r4 l4 g4
  refine Yc (Yl (Zb (Za rfl (Zg (Zix (SqL.of hD4) λ u hu=>?_)))))
  refine q _ B k _ (s4.laidT hu) ?_ ⟨k1,by omega,by omega,by omega,λ d hd=>(g4 d hd).1⟩ k2 λ d hd=>(g4 d hd).2
  unfold Xj Rep
  exact ⟨u,ys,rfl,Zn,Reps.mono (Same.laid hu) _ _ r4⟩
 have gB2:∀ d∈B,GoodDay k d/\∀ x∈d.2,x<=1000000002:=λ d hd=>⟨(gB d hd).1,λ x hx=>by have:=(gB d hd).2 x hx; omega⟩
 refine Zr (Yp (Yj (Zh (Zh (Zh (Za rfl (w_c (Qv (by decide) (by decide) (w_c (Yv (by decide) (w_c (Xm (Yq (iteD (λ _=>?_) λ _=>Yk (fin B ys H3 _ _ _ s13 hD3 rB lB gB2)))))))))))))))
 refine Zr (Z9 (Zh (Zh (Za rfl (w_c (Qv (by decide) (by decide) (Yl (Zb (Za rfl (Zg (Xp (SqL.of hD3) (Yv (by omega) (Zq ?_)))))))))))))
 have hpp:H3 p=some (.lst (ss.map V.int)):=s3 _ _ hp
 refine Zr (Z9 (Zh (Zh (Za rfl (w_c (Qv (by decide) (by decide) (Yl (Zb (Za rfl (Zg (Xp (SqL.of hpp) (Yv (by rw [List.length_map]; omega) (Zq ?_)))))))))))))
 rw [List.length_map]
 obtain ⟨kk,ekk,hkk⟩:∃ z:Nat,c / 4000 % (ys.length:Int)=(z:Int)/\z<ys.length:=by
  have r0:=Int.emod_nonneg (c / 4000) (show (ys.length:Int)≠0 by omega)
  have r1:=Int.emod_lt_of_pos (c / 4000) (show (0:Int)<ys.length by omega)
  exact ⟨(c / 4000 % (ys.length:Int)).toNat,by omega,by omega⟩
 obtain ⟨j,ej,hj⟩:∃ z:Nat,c / 40000 % (ss.length:Int)=(z:Int)/\z<ss.length:=by
  have r0:=Int.emod_nonneg (c / 40000) (show (ss.length:Int)≠0 by omega)
  have r1:=Int.emod_lt_of_pos (c / 40000) (show (0:Int)<ss.length by omega)
  exact ⟨(c / 40000 % (ss.length:Int)).toNat,by omega,by omega⟩
 rw [ekk,ej]
 obtain ⟨d,hd⟩:∃ d,B[kk]?=some d:=⟨B[kk]'(by omega),by simp [show kk<B.length by omega]⟩
 obtain ⟨v,hv⟩:∃ v,ys[kk]?=some v:=⟨ys[kk],by simp [hkk]⟩
 obtain ⟨d',hd',rd⟩:=rB.get hv
 rw [List.getElem?_map,hd] at hd'
 cases hd'
 obtain ⟨pd,p1,p2,rfl,e1,e2,e3⟩:=Zlx rd
 have gd:=(gB d (List.mem_of_getElem? hd)).1
 have gx:=(gB d (List.mem_of_getElem? hd)).2
 have l2:=gd.l2
 refine Zr (Z9 (Zh (Zh (Zhs (Zh (Zh (Za rfl (Za rfl (Y9 (SqL.of hD3) (Xv hv) (w_c (Yd (SqT.of e1) (v:=.ref p2) rfl (Hs (Es (Za rfl (Zcm (Zqw e3 (by rw [List.length_map]; omega) λ t1 H4 s4 f1=>?_))))))))))))))))
 have hD4:=s4 _ _ hD3
 have e1':=s4 _ _ e1
 have e3':=s4 _ _ e3
 refine Wh (Zb (Zh (Zh (Zh (Zh (Za rfl (Za rfl (Y9 (SqL.of hD4) (Xv hv) (w_c (Yd (SqT.of e1') (v:=.ref p2) rfl (Za rfl (Yd (SqT.of e3') (ixi (by omega)) (w_c (Xd (Zg ⟨by show 1<=sizeLine; decide,λ t2 ht2=>?_⟩)))))))))))))))
 have f1':upd H4 t2 (.tup [.int (d.2.getD j 0+1)]) t1=some (.tup ((d.2.map V.int).take j)):=Same.laid ht2 _ _ f1
 have s5:Same H4 (upd H4 t2 (.tup [.int (d.2.getD j 0+1)])):=Same.laid ht2
 refine Zsl f1' Zn (by rw [List.length_take,List.length_map]; show min j d.2.length+1<=1000; omega) λ t3 H6 s6 f3=>?_
 have hD6:=s6 _ _ (s5 _ _ hD4)
 have e1'':=s6 _ _ (s5 _ _ e1')
 have e3'':=s6 _ _ (s5 _ _ e3')
 refine Zhs (Zh (Zh (Za rfl (Za rfl (Y9 (SqL.of hD6) (Xv hv) (w_c (Yd (SqT.of e1'') (v:=.ref p2) rfl (Es (Zh (Za rfl (w_c (Xd (Zcm (Hs (Zl5 (j:=j+1) e3'' (by simp) (by omega) (by rw [List.length_map]; omega) λ t4 H7 s7 f4=>?_)))))))))))))))
 refine Zsl (s7 _ _ f3) f4 (by simp; omega) λ t5 H8 s8 f5=>Zq ?_
 have s38:Same H3 H8:=(((s4.trans s5).trans s6).trans s7).trans s8
 have hD8:=s38 _ _ hD3
 have e18:=s38 _ _ e1
 refine Z9 (Wh (Zb (Zh (Zh (Za rfl (Za rfl (Y9 (SqL.of hD8) (Xv hv) (w_c (Yd (SqT.of e18) (v:=.ref p1) rfl (Zb (Za rfl (Zg ⟨by show 2<=sizeLine; decide,λ t6 ht6=>?_⟩))))))))))))
 have s9:Same H8 (upd H8 t6 (.tup [.ref p1,.ref t5])):=Same.laid ht6
 refine Zna (Za rfl (Za rfl (Ziz (s9 _ _ hD8) (Zj1 (by omega) (by omega)) ?_)))
 rw [Int.toNat_natCast]
 have eam:(d.2.map V.int).take j++[V.int (d.2.getD j 0+1)]++(d.2.map V.int).drop (j+1)=(d.2.set j (d.2.getD j 0+1)).map V.int:=by
  rw [List.map_set,List.set_eq_take_append_cons_drop,if_pos (by rw [List.length_map]; omega)]
  simp
 rw [eam] at f5
 have tu:=Tu.put (ys:=ys.set kk (.ref t6)) (s9 _ _ hD8)
 refine fin (B.set kk (d.1,d.2.set j (d.2.getD j 0+1))) (ys.set kk (.ref t6)) _ _ _ _ ?_ Zn ?_ (by rw [List.length_set]; exact lB) (λ e he=>?_)
 · exact ((s13.trans s38).trans s9).put fD
 · have r1:Reps (upd (upd H8 t6 (.tup [.ref p1,.ref t5])) D (.lst (ys.set kk (.ref t6)))) ys (B.map dayD):=Reps.tu ((s38.trans s9).tu.trans tu) _ _ (Zos B) rB
   have:=Reps.set kk (x:=.ref t6) (d:=dayD (d.1,d.2.set j (d.2.getD j 0+1))) r1 (Zq7 (p1:=p1) (p2:=t5) (tu _ _ Zn) (tu _ _ (s9 _ _ (s38 _ _ e2))) (tu _ _ (s9 _ _ f5)))
   rw [List.map_set]; exact this
 · rcases List.mem_or_eq_of_mem_set he with z | z
   · exact gB2 e z
   · subst z
     have hg:=gd.am _ (Q3 (show j<d.2.length by omega))
     have hg2:=gx _ (Q3 (show j<d.2.length by omega))
     refine ⟨⟨gd.l1,by rw [List.length_set]; exact l2,gd.pr,λ x hx=>?_,⟨_,List.mem_set (by omega) _,by omega⟩⟩,λ x hx=>?_⟩
     · rcases List.mem_or_eq_of_mem_set hx with z | z
       · exact gd.am x z
       · subst z; omega
     · rcases List.mem_or_eq_of_mem_set hx with z | z
       · have:=gx x z
         omega
       · subst z; omega
end LB
namespace LB
open PySem L2
def dotF (ps as:List Int):Int:=(List.zipWith (· * ·) ps as).sum
def Qj (B:List (List Int×List Int)) (i j:Nat):Int:=dotF (B.getD i ([],[])).1 (B.getD j ([],[])).2
def InB (B:List (List Int×List Int)) (x:Int):Prop:=0<=x/\x<(B.length:Int)
abbrev NoD (mg:Str->Option Value):Value:=.ref (clsA mg "NoDay")
def Zby (K:Fq) (mg:Str->Option Value) (a b:V) (H:Hp) (Q:VK) (E:XK):Prop:=∃ (B:List (List Int×List Int)) (x:Int),Rep H a (Xj B)/\b=.int x/\(InB B x->Q .non H)/\(¬ InB B x->E (NoD mg) none H)
def Xe (K:Fq) (mg:Str->Option Value):Sp:=sp2 (Zby K mg)
def Zjj (K:Fq) (a b:V) (H:Hp) (Q:VK) (E:XK):Prop:=∃ (p q:Addr) (ps as:List Int),a=.ref p/\b=.ref q/\H p=some (.tup (ps.map V.int))/\H q=some (.tup (as.map V.int))/\as.length=ps.length/\ps.length<=8/\(∀ x∈ps,1<=x/\x<=1000000000)/\∀ H',Same H H'->Q (.int (dotF ps as)) H'
def Jp (K:Fq):Sp:=sp2 (Zjj K)
def Zk6 (K:Fq) (mg:Str->Option Value) (a b c:V) (H:Hp) (Q:VK) (E:XK):Prop:=∃ (B:List (List Int×List Int)) (m n:Nat) (x y:Int),Rep H a (Xj B)/\GoodBook m n B/\b=.int x/\c=.int y /\
 (InB B x->InB B y->∀ H',Same H H'->Q (.int (Qj B x.toNat y.toNat)) H')/\(¬ (InB B x/\InB B y)->E (NoD mg) none H)
def Gi (K:Fq) (mg:Str->Option Value):Sp:=sp3 (Zk6 K mg)
def Zhz (K:Fq) (mg:Str->Option Value) (a b:V) (H:Hp) (Q:VK) (E:XK):Prop:=∃ (B:List (List Int×List Int)) (m n:Nat) (x:Int),Rep H a (Xj B)/\GoodBook m n B/\b=.int x /\
 (InB B x->∀ H',Same H H'->Q (.int (Qj B x.toNat x.toNat)) H')/\(¬ InB B x->E (NoD mg) none H)
def Km (K:Fq) (mg:Str->Option Value):Sp:=sp2 (Zhz K mg)
def Zf9 (K:Fq) (a b c:V) (H:Hp) (Q:VK) (E:XK):Prop:=∃ (B:List (List Int×List Int)) (m n:Nat) (x y:Int),Rep H a (Xj B)/\GoodBook m n B/\b=.int x/\c=.int y/\InB B x/\InB B y/\∀ H',Same H H'->Q (.int (Qj B x.toNat y.toNat)) H'
def Ji (K:Fq):Sp:=sp3 (Zf9 K)
def Jz (g:Int):Int:=if g<0 then 2 else if g=0 then 1 else 0
def Za0 (B:List (List Int×List Int)) (i j:Nat):Int:=Jz (Qj B i j-Qj B i i)
def Zjg (K:Fq) (a:V) (H:Hp) (Q:VK) (E:XK):Prop:=∃ g:Int,a=.int g/\Q (.int (Jz g)) H
def Vm (K:Fq):Sp:=sp1 (Zjg K)
def Zel (K:Fq) (mg:Str->Option Value) (a b c:V) (H:Hp) (Q:VK) (E:XK):Prop:=∃ (B:List (List Int×List Int)) (m n:Nat) (x y:Int),Rep H a (Xj B)/\GoodBook m n B/\b=.int x/\c=.int y /\
 (InB B x->InB B y->∀ H',Same H H'->Q (.int (Za0 B x.toNat y.toNat)) H')/\(¬ (InB B x/\InB B y)->E (NoD mg) none H)
def Zeg (K:Fq) (mg:Str->Option Value):Sp:=sp3 (Zel K mg)
def Ve (K:Fq) (mg:Str->Option Value) (E:XK):TS :=
 (Yt (Jx (Yn (Zi5 rLeU rLtU (tC (.int 0)) (Zc 1) (tCB (rLenU K) (Zd (Zc 0) Zj))))) (Zfw E (.ref (clsA mg "NoDay")) (Zd (tC (.str "the book has no day of this number")) Zj)) Yo)
def Zeb (K:Fq):TS :=
 (Z7 (tCB (rSumU K) (Zd (Xg [none,none] (Zj7 K (Zd (Zc 0) (Zd (Zc 1) Zj))) (K3 K 2 (Xo (Zo 0) (Xo (Zo 1) K4))) Qd (tOp (rMulU K) (Zc 0) (Zc 1))) Zj)))
def Zg4 (K:Fq) (mg:Str->Option Value) (E:XK):TS :=
 (Zz (Wj (Zy (Xe K mg) [] E (Zd (Zc 0) (Zd (Zc 1) Zj))))
  (Zz (Wj (Zy (Xe K mg) [] E (Zd (Zc 0) (Zd (Zc 2) Zj))))
  (Z7 (Zy (Jp K) [] E0 (Zd (tOp (rIx K) (tOp (rIx K) (Zc 0) (Zc 1)) (tC (.int 0))) (Zd (tOp (rIx K) (tOp (rIx K) (Zc 0) (Zc 2)) (tC (.int 1))) Zj))))))
def Zd8 (K:Fq) (mg:Str->Option Value) (E:XK):TS :=
 (Z7 (Zy (Gi K mg) [] E (Zd (Zc 0) (Zd (Zc 1) (Zd (Zc 1) Zj)))))
def Zbi (K:Fq):TS :=
 (Z7 (tCB (rSumU K) (Zd (Xg [none,none] (Zj7 K (Zd (tOp (rIx K) (tOp (rIx K) (Zc 0) (Zc 1)) (tC (.int 0))) (Zd (tOp (rIx K) (tOp (rIx K) (Zc 0) (Zc 2)) (tC (.int 1))) Zj))) (K3 K 2 (Xo (Zo 0) (Xo (Zo 1) K4))) Qd (tOp (rMulU K) (Zc 0) (Zc 1))) Zj)))
def Zd9 (K:Fq):TS :=
 (Zz (Yt (Yn (tOp rLtU (Zc 0) (tC (.int 0)))) (Z7 (tC (.int 2))) Yo)
  (Zz (Yt (Yn (tOp (rEqU K) (Zc 0) (tC (.int 0)))) (Z7 (tC (.int 1))) Yo)
  (Z7 (tC (.int 0)))))
def Zaw (K:Fq) (mg:Str->Option Value) (E:XK):TS :=
 (Zz (Wj (Zy (Xe K mg) [] E (Zd (Zc 0) (Zd (Zc 1) Zj))))
  (Zz (Wj (Zy (Xe K mg) [] E (Zd (Zc 0) (Zd (Zc 2) Zj))))
  (Z7 (Zy (Vm K) [] E0 (Zd (tOp rSubU (Zy (Gi K mg) [] E (Zd (Zc 0) (Zd (Zc 1) (Zd (Zc 2) Zj)))) (Zy (Km K mg) [] E (Zd (Zc 0) (Zd (Zc 1) Zj)))) Zj)))))
theorem Z0k {te:TE} {D:Ends} {r:VK} {b c:St->Hp->Prop} {σ:St} {H:Hp} (h:te σ H D.rt):Yo { nx:=Z7 te D,rt:=r,bk:=b,ct:=c } σ H:=h
theorem Zts {K:Fq} {ta:TA} {σ:St} {H:Hp} {R:It->Hp->Prop} (h:ta σ H λ vs H1=>∃ a b,vs=[.ref a,.ref b]/\(∃ xs,SqT K H1 a xs)/\(∃ ys,SqT K H1 b ys)/\R (Itz K a b) H1):Zj7 K ta σ H R:=h
theorem Zkz {E:XK} {C:Value} {t:TA} {D:Ends} {σ:St} {H:Hp} (h:t σ H λ vs H1=>vs.length<=sizeLine/\E C none H1):Zfw E C t D σ H:=h
theorem Zpn {K:Fq} {a b:Addr} {ps as:List Int} {H1:Hp} {σ:St} {l:List (Option Nat)} {Q:Hp->Prop} (D:Addr) (ha:H1 a=some (.tup (ps.map V.int))) (hb:H1 b=some (.tup (as.map V.int))) (hl:as.length=ps.length) (hn:ps.length<=8)
 (hp:∀ x∈ps,1<=x/\x<=1000000000) (hD:H1 D=none) (hini:∃ r0 r1,Xn l σ=[r0,r1]) (hd:∀ H,Same H1 H->H D=some (.lst ((List.zipWith (· * ·) ps as).map V.int))->Q H) :
 ∃ W:CompW,(∃ m,W 0 m [] (Xn l σ) (upd H1 D (.lst [])))/\Q7 (Itz K a b) (K3 K 2 (Xo (Zo 0) (Xo (Zo 1) K4))) Qd (tOp (rMulU K) (Zc 0) (Zc 1)) D W Q:=by
 obtain ⟨r0,r1,hini⟩:=hini
 refine ⟨λ i m ys σ H=>m=ps.length-i/\i<=ps.length/\H D=some (.lst ys)/\Same H1 H/\ys=((List.zipWith (· * ·) ps as).take i).map V.int/\∃ r0 r1,σ=[r0,r1],⟨_,rfl,Nat.zero_le _,Zn,Same.laid hD,by simp,r0,r1,hini⟩,?_⟩
 rintro i m ys σ H ⟨rfl,hi,hH,s1,rfl,q0,q1,rfl⟩
 refine ⟨hH,?_⟩
 have ea:=SqT.of (K:=K) (s1 _ _ ha)
 have eb:=SqT.of (K:=K) (s1 _ _ hb)
 by_cases hlt:i<ps.length
 · have hx:(ps.map V.int)[i]?=some (.int (ps.getD i 0)):=G8 hlt
   have hy:(as.map V.int)[i]?=some (.int (as.getD i 0)):=G8 (by omega)
   have hz:(List.zipWith (· * ·) ps as)[i]?=some (ps.getD i 0*as.getD i 0):=by
    rw [List.getElem?_map] at hx hy
    have hx':ps[i]?=some (ps.getD i 0):=by cases e:ps[i]? with
     | none=>rw [e] at hx; cases hx
     | some z=>rw [e] at hx; simpa using hx
    have hy':as[i]?=some (as.getD i 0):=by cases e:as[i]? with
     | none=>rw [e] at hy; cases hy
     | some z=>rw [e] at hy; simpa using hy
    rw [List.getElem?_zipWith,hx',hy']
   refine .inr ⟨⟨_,_,_,_,ea,eb,hx,hy⟩,λ v σ2 H4=>v=.int (ps.getD i 0*as.getD i 0)/\Same H1 H4/\H4 D=some (.lst (((List.zipWith (· * ·) ps as).take i).map V.int))/\∃ r0 r1,σ2=[r0,r1],λ _ _=>False,?_,λ _ _ z=>z.elim,?_⟩
   · rintro v σ2 H4 ⟨rfl,s4,h4,z⟩
     refine ⟨h4,Ql (by simp; omega),ps.length-(i+1),by omega,rfl,hlt,Zn,s4.put hD,?_,z⟩
     rw [List.take_succ,hz,List.map_append]; rfl
   · rintro v H' ⟨p,x,y,hp0,rfl,gx,gy,rfl⟩
     have e1:x=.int (ps.getD i 0):=by have:=gx _ ea; rw [hx] at this; cases this; rfl
     have e2:y=.int (as.getD i 0):=by have:=gy _ eb; rw [hy] at this; cases this; rfl
     subst e1 e2
     have hb:=hp _ (Q3 hlt)
     refine Uu (SqT.of Zn) rfl (Xk (Zq (Xk (Zq (Uv (Ziw (iteT ?_)))))))
     exact Zh (Za rfl (Za rfl (Yu (Wg (by omega) (by omega)) ⟨rfl,s1.laidT hp0,Same.laid hp0 _ _ hH,_,_,rfl⟩)))
 · have e:i=ps.length:=by omega
   subst e
   refine .inl ⟨⟨_,_,ea,eb,.inl (by simp)⟩,hd H s1 ?_⟩
   rw [hH,List.take_of_length_le (by simp; omega)]
theorem Qs {H:Hp} {v:V} {B:List (List Int×List Int)} (h:Rep H v (Xj B)):∃ p xs,v=.ref p/\H p=some (.tup xs)/\xs.length=B.length /\
 ∀ i,i<B.length->∃ q p1 p2,xs[i]?=some (.ref q)/\H q=some (.tup [.ref p1,.ref p2])/\H p1=some (.tup ((B.getD i ([],[])).1.map V.int))/\H p2=some (.tup ((B.getD i ([],[])).2.map V.int)):=by
 unfold Xj Rep at h
 obtain ⟨p,xs,rfl,hp,rs⟩:=h
 have hl:xs.length=B.length:=by have:=rs.length; rwa [List.length_map] at this
 refine ⟨p,xs,rfl,hp,hl,λ i hi=>?_⟩
 obtain ⟨d,hd,rd⟩:=rs.get (i:=i) (x:=xs[i]'(by omega)) (by simp)
 rw [List.getElem?_map] at hd
 have e:B[i]?=some (B.getD i ([],[])):=by simp [hi]
 rw [e] at hd
 have e2:dayD (B.getD i ([],[]))=d:=by simpa using hd
 rw [← e2] at rd
 obtain ⟨q,p1,p2,e3,h1,h2,h3⟩:=Zlx rd
 exact ⟨q,p1,p2,by rw [← e3]; simp,h1,h2,h3⟩
theorem Xq {n:Nat} {B:List (List Int×List Int)} {i:Nat} (h:∀ d∈B,GoodDay n d) (hi:i<B.length):GoodDay n (B.getD i ([],[])):=by
 have e:B.getD i ([],[])=B[i]:=by simp [hi]
 rw [e]; exact h _ (List.getElem_mem hi)
theorem Zb9 {K:Fq} {mg:Str->Option Value} {a b:V} {H:Hp} {Q:VK} {E:XK} (h:Zby K mg a b H Q E):Ve K mg E (Rt Q) [some a,some b] H:=by
 obtain ⟨B,x,r,rfl,q1,q2⟩:=h
 obtain ⟨p,xs,rfl,hp,hl,_⟩:=Qs r
 unfold Ve
 refine Yp (w_not (Yj (Zqx (w_c (Za rfl (Zsi ⟨_,rfl,iteD (λ h0=>?_) λ h0=>?_⟩))))))
 · refine Yl (Zb (Za rfl (Zg (X4 (SqT.of hp) (K9 (Yq (iteN (λ h1=>?_) λ h1=>?_)))))))
   · exact Zkz (Zb (w_c (Zg ⟨by show 1<=sizeLine; decide,q2 λ z=>h1 (by rw [hl]; exact z.2)⟩)))
   · exact Yk (q1 ⟨h0,by rw [hl] at h1; exact h1⟩)
 · refine Yq (iteT ?_)
   exact Zkz (Zb (w_c (Zg ⟨by show 1<=sizeLine; decide,q2 λ z=>h0 z.1⟩)))
theorem Zsz {K:Fq} {a b:V} {H:Hp} {Q:VK} {E:XK} (h:Zjj K a b H Q E):Zeb K (Rt Q) [some a,some b] H:=by
 obtain ⟨u1,v2,ps,as,rfl,rfl,e3,f4,hl,hn,hp,q⟩:=h
 unfold Zeb
 refine Yc (Yl (Zb (Xy (Zts (Zb (Za rfl (Zb (Za rfl (Zg ⟨u1,v2,rfl,⟨_,SqT.of e3⟩,⟨_,SqT.of f4⟩,λ D hD=>?_⟩)))))))))
 refine Zpn D e3 f4 hl hn hp hD ⟨_,_,rfl⟩ λ H' s' hD'=>?_
 exact Zg (Ziy (.inl (SqL.of hD')) (q H' s'))
theorem Zla {K:Fq} {mg:Str->Option Value} {a b c:V} {H:Hp} {Q:VK} {E:XK} (h:Zk6 K mg a b c H Q E):Zg4 K mg E (Rt Q) [some a,some b,some c] H:=by
 obtain ⟨B,m,n,x,y,r,gB,rfl,rfl,q1,q2⟩:=h
 unfold Zg4
 refine Zr (J1 (Zv (Zb (Za rfl (Zb (Za rfl (Zg ⟨_,_,rfl,B,x,r,rfl,λ okx=>?_,λ bad=>q2 λ z=>bad z.1⟩)))))))
 refine Zr (J1 (Zv (Zb (Za rfl (Zb (Za rfl (Zg ⟨_,_,rfl,B,y,r,rfl,λ oky=>?_,λ bad=>q2 λ z=>bad z.2⟩)))))))
 obtain ⟨p,xs,rfl,hp,hl,dd⟩:=Qs r
 have lx:x.toNat<B.length:=by have:=okx.1; have:=okx.2; omega
 have ly:y.toNat<B.length:=by have:=oky.1; have:=oky.2; omega
 obtain ⟨u,u1,u2,e1,e2,e3,e4⟩:=dd _ lx
 obtain ⟨v,v1,v2,f1,f2,f3,f4⟩:=dd _ ly
 have gx:=Xq gB.dy lx
 have gy:=Xq gB.dy ly
 refine Yc (Zv (Zb (Zh (Zh (Za rfl (Za rfl (Yd (SqT.of hp) (Zg1 okx.1 e1) (w_c (Yd (v:=.ref u1) (SqT.of e2) rfl ?_)))))))))
 refine Zb (Zh (Zh (Za rfl (Za rfl (Yd (SqT.of hp) (Zg1 oky.1 f1) (w_c (Yd (v:=.ref v2) (SqT.of f2) rfl ?_)))))))
 exact Zg ⟨_,_,rfl,u1,v2,_,_,rfl,rfl,e3,f4,by rw [gx.l1,gy.l2],by rw [gx.l1]; have:=gB.n6; omega,gx.pr,λ H' s'=>q1 okx oky H' s'⟩
theorem Zh6 {K:Fq} {mg:Str->Option Value} {a b:V} {H:Hp} {Q:VK} {E:XK} (h:Zhz K mg a b H Q E):Zd8 K mg E (Rt Q) [some a,some b] H:=by
 obtain ⟨B,m,n,x,r,gB,rfl,q1,q2⟩:=h
 unfold Zd8
 exact Yc (Zv (Zb (Za rfl (Zb (Za rfl (Zb (Za rfl (Zg ⟨_,_,_,rfl,B,m,n,x,x,r,gB,rfl,rfl,λ o _=>q1 o,λ bad=>q2 λ z=>bad ⟨z,z⟩⟩))))))))
theorem Zoe {K:Fq} {a b c:V} {H:Hp} {Q:VK} {E:XK} (h:Zf9 K a b c H Q E):Zbi K (Rt Q) [some a,some b,some c] H:=by
 obtain ⟨B,m,n,x,y,r,gB,rfl,rfl,okx,oky,q⟩:=h
 unfold Zbi
 obtain ⟨p,xs,rfl,hp,hl,dd⟩:=Qs r
 have lx:x.toNat<B.length:=by have:=okx.1; have:=okx.2; omega
 have ly:y.toNat<B.length:=by have:=oky.1; have:=oky.2; omega
 obtain ⟨u,u1,u2,e1,e2,e3,e4⟩:=dd _ lx
 obtain ⟨v,v1,v2,f1,f2,f3,f4⟩:=dd _ ly
 have gx:=Xq gB.dy lx
 have gy:=Xq gB.dy ly
 refine Yc (Yl (Zb (Xy (Zts ?_))))
 refine Zb (Zh (Zh (Za rfl (Za rfl (Yd (SqT.of hp) (Zg1 okx.1 e1) (w_c (Yd (v:=.ref u1) (SqT.of e2) rfl ?_)))))))
 refine Zb (Zh (Zh (Za rfl (Za rfl (Yd (SqT.of hp) (Zg1 oky.1 f1) (w_c (Yd (v:=.ref v2) (SqT.of f2) rfl ?_)))))))
 refine Zg ⟨u1,v2,rfl,⟨_,SqT.of e3⟩,⟨_,SqT.of f4⟩,λ D hD=>?_⟩
 refine Zpn D e3 f4 (by rw [gx.l1,gy.l2]) (by rw [gx.l1]; have:=gB.n6; omega) gx.pr hD ⟨_,_,rfl⟩ λ H' s' hD'=>?_
 exact Zg (Ziy (.inl (SqL.of hD')) (q H' s'))
theorem Zsx {K:Fq} {a:V} {H:Hp} {Q:VK} {E:XK} (h:Zjg K a H Q E):Zd9 K (Rt Q) [some a] H:=by
 obtain ⟨g,rfl,q⟩:=h
 unfold Zd9
 refine Zr (Yp (Yj (Zh (Za rfl (w_c (K9 (Yq (iteD (λ h0=>?_) λ h0=>?_))))))))
 · refine Yc (w_c ?_)
   have e:Jz g=2:=by unfold Jz; rw [if_pos h0]
   rw [← e]; exact q
 refine Yk (Zr (Yp (Yj (Zh (Za rfl (w_c (Xm (Yq (iteD (λ h1=>?_) λ h1=>?_)))))))))
 · refine Yc (w_c ?_)
   have e:Jz g=1:=by unfold Jz; rw [if_neg h0,if_pos h1]
   rw [← e]; exact q
 refine Z0k ((w_c ?_))
 have e:Jz g=0:=by unfold Jz; rw [if_neg h0,if_neg h1]
 rw [← e]; exact q
theorem Zeu {K:Fq} {mg:Str->Option Value} {a b c:V} {H:Hp} {Q:VK} {E:XK} (h:Zel K mg a b c H Q E):Zaw K mg E (Rt Q) [some a,some b,some c] H:=by
 obtain ⟨B,m,n,x,y,r,gB,rfl,rfl,q1,q2⟩:=h
 unfold Zaw
 refine Zr (J1 (Zv (Zb (Za rfl (Zb (Za rfl (Zg ⟨_,_,rfl,B,x,r,rfl,λ okx=>?_,λ bad=>q2 λ z=>bad z.1⟩)))))))
 refine Zr (J1 (Zv (Zb (Za rfl (Zb (Za rfl (Zg ⟨_,_,rfl,B,y,r,rfl,λ oky=>?_,λ bad=>q2 λ z=>bad z.2⟩)))))))
 refine Yc (Zv (Zb (Zh (Zv (Zb (Za rfl (Zb (Za rfl (Zb (Za rfl (Zg ⟨_,_,_,rfl,B,m,n,x,y,r,gB,rfl,rfl,λ _ _ H1 s1=>?_,λ bad=>absurd ⟨okx,oky⟩ bad⟩)))))))))))
 refine Zv (Zb (Za rfl (Zb (Za rfl (Zg ⟨_,_,rfl,B,m,n,x,Rep.mono s1 _ _ r,gB,rfl,λ _ H2 s2=>?_,λ bad=>absurd okx bad⟩)))))
 exact Zbb (Zg ⟨_,rfl,_,rfl,q1 okx oky H2 (s1.trans s2)⟩)
theorem Zg5 {H:Hp} {p:Addr} {xs:List V} {ds:List PyData} (h:H p=some (.tup xs)) (r:Reps H xs ds):Rep H (.ref p) (.tuple ds):=by
 unfold Rep; exact ⟨p,xs,rfl,h,r⟩
theorem Zy8 {H:Hp} {p:Addr} {xs:List V} {ds:List PyData} (h:H p=some (.lst xs)) (r:Reps H xs ds):Rep H (.ref p) (.list ds):=by
 unfold Rep; exact ⟨p,xs,rfl,h,r⟩
theorem Zn8 {H:Hp}:Reps H [] []:=by unfold Reps; rfl
theorem Et {H:Hp} {x:V} {xs:List V} {d:PyData} {ds:List PyData} (h:Rep H x d) (r:Reps H xs ds):Reps H (x::xs) (d::ds):=by
 unfold Reps; exact ⟨x,xs,rfl,h,r⟩
theorem Zn9 {H:Hp}:∀ {xs ys:List V} {ds es:List PyData},Reps H xs ds->Reps H ys es->Reps H (xs++ys) (ds++es)
 | xs,ys,[],es,h,g=>by unfold Reps at h; subst h; exact g
 | xs,ys,d::ds,es,h,g=>by
   unfold Reps at h
   obtain ⟨x,r,rfl,h1,h2⟩:=h
   exact Et h1 (Zn9 h2 g)
theorem Zq6 {H:Hp} {i:Int}:Rep H (.int i) (.int i):=by unfold Rep; rfl
theorem Zlw {c:Int} {n:Nat} (h:0<n):∃ i:Nat,c % (n:Int)=(i:Int)/\i<n:=by
 have a:=Int.emod_nonneg c (show (n:Int)≠0 by omega)
 have b:=Int.emod_lt_of_pos c (show (0:Int)<n by omega)
 exact ⟨(c % (n:Int)).toNat,by omega,by omega⟩
end LB
namespace L2
open PySem PySem.Spec PyProof.Rows
section
variable {κ:Type} [DecidableEq κ]
def valV (kvs:List (κ×V)) (k:κ):Option V:=(kvs.find? λ kv=>decide (kv.1=k)).map (·.2)
def putK (kvs:List (κ×V)) (k:κ) (v:V):List (κ×V) :=
 if (kvs.any λ kv=>decide (kv.1=k))=true then kvs.map (λ kv=>if kv.1=k then (kv.1,v) else kv) else kvs++[(k,v)]
theorem Zbc {p:κ×V} {r:List (κ×V)} {k:κ} (e:p.1=k):valV (p::r) k=some p.2:=by simp [valV,List.find?_cons,e]
theorem Zbd {p:κ×V} {r:List (κ×V)} {k:κ} (e:¬ p.1=k):valV (p::r) k=valV r k:=by simp [valV,List.find?_cons,e]
theorem Zhu (k:κ):∀ kvs:List (κ×V),(kvs.any λ kv=>decide (kv.1=k))=(valV kvs k).isSome
 | []=>rfl
 | p::r=>by
   rw [List.any_cons]
   by_cases e:p.1=k
   · simp only [Zbc e,decide_eq_true e,Bool.true_or,Option.isSome_some]
   · rw [Zbd e,decide_eq_false e,Bool.false_or]; exact Zhu k r
theorem Zdl (kvs:List (κ×V)) (k:κ) (v:V):(putK kvs k v).length<=kvs.length+1:=by
 unfold putK
 split
 · rw [List.length_map]; omega
 · rw [List.length_append,List.length_cons,List.length_nil]; omega
theorem Zib {kvs:List (κ×V)} {k:κ} (v:V) (h:valV kvs k=none):putK kvs k v=kvs++[(k,v)]:=by
 unfold putK
 rw [Zhu,h]
 exact if_neg (by decide)
theorem RelO.isSome_eq {o:Option V} {u:Option Value} (r:RelO o u):o.isSome=u.isSome:=by
 cases o with
 | none=>cases u with
   | none=>rfl
   | some _=>exact (show False from r).elim
 | some _=>cases u with
   | none=>exact (show False from r).elim
   | some _=>rfl
theorem KV.val {kvs:List (κ×V)} {vs:List (κ×Value)} (r:KV kvs vs) (k:κ):RelO (valV kvs k) (valueAt vs k):=by
 unfold KV at r
 induction r with
 | nil=>exact True.intro
 | @cons p q ps qs h t ih =>
   obtain ⟨h1,h2⟩:=h
   by_cases e:p.1=k
   · have e':q.1=k:=h1.symm.trans e
     have b:valueAt (q::qs) k=some q.2:=by simp [valueAt,List.find?_cons,e']
     rw [Zbc e,b]; exact h2
   · have e':¬ q.1=k:=λ z=>e (h1.trans z)
     have b:valueAt (q::qs) k=valueAt qs k:=by simp [valueAt,List.find?_cons,e']
     rw [Zbd e,b]; exact ih
theorem KV.any {kvs:List (κ×V)} {vs:List (κ×Value)} (r:KV kvs vs) (k:κ):(kvs.any λ kv=>decide (kv.1=k))=vs.any λ kv=>decide (kv.1=k):=by
 unfold KV at r
 induction r with
 | nil=>rfl
 | cons h t ih=>rw [List.any_cons,List.any_cons,ih,h.1]
theorem KV.repl {kvs:List (κ×V)} {vs:List (κ×Value)} (r:KV kvs vs) (k:κ) {y:V} {u:Value} (ry:RelV y u) :
 KV (kvs.map λ kv=>if kv.1=k then (kv.1,y) else kv) (vs.map λ kv=>if kv.1=k then (kv.1,u) else kv):=by
 unfold KV at r ⊢
 induction r with
 | nil=>exact .nil
 | @cons p q ps qs h t ih =>
   rw [List.map_cons,List.map_cons]
   refine .cons ?_ ih
   obtain ⟨h1,h2⟩:=h
   by_cases e:p.1=k
   · rw [if_pos e,if_pos (h1.symm.trans e)]; exact ⟨h1,ry⟩
   · rw [if_neg e,if_neg (λ z=>e (h1.trans z))]; exact ⟨h1,h2⟩
theorem KV.put {kvs:List (κ×V)} {vs:List (κ×Value)} (r:KV kvs vs) (k:κ) {y:V} {u:Value} (ry:RelV y u):KV (putK kvs k y) (stored vs k u):=by
 unfold putK stored
 rw [r.any k]
 by_cases e:(vs.any λ kv=>decide (kv.1=k))=true
 · rw [if_pos e,if_pos e]; exact r.repl k ry
 · rw [if_neg e,if_neg e]; exact Paired.snoc r ⟨rfl,ry⟩
theorem KV.keys {kvs:List (κ×V)} {vs:List (κ×Value)} (r:KV kvs vs):kvs.map (·.1)=vs.map (·.1):=by
 unfold KV at r
 induction r with
 | nil=>rfl
 | cons h t ih=>rw [List.map_cons,List.map_cons,ih,h.1]
theorem KV.length {kvs:List (κ×V)} {vs:List (κ×Value)} (r:KV kvs vs):kvs.length=vs.length:=Paired.length r
end
theorem Zhb {P:Program} {w:World} {k:Key} {u:Value} (r:RelV (kV k) u):(Y8 P w).is k u=true:=by
 cases k with
 | inl i=>obtain ⟨t,e⟩:=(show ∃ t,u=Value.int i t from r); subst e; exact Zqf P w i t
 | inr x=>obtain ⟨t,e⟩:=(show ∃ t,u=Value.str x t from r); subst e; exact Zqe P w x t
theorem Zmi {P:Program} {w:World}:∀ {ks:List Key} {us:List Value},Vals (ks.map kV) us->ItemsAre (Y8 P w) ks us
 | [],_,r=>by rw [List.map_nil] at r; cases r; exact .nil
 | k::ks,_,r=>by
   rw [List.map_cons] at r
   cases r with
   | cons h t=>exact .cons (Zhb h) (Zmi t)
abbrev KT (H:Hp):List (List Key×V)->List (List Key×Addr×Value)->Prop:=Paired λ p q=>p.1=q.1/\H q.2.1=some (.tup (p.1.map kV))/\RelV p.2 q.2.2
theorem KT.val {H:Hp} {kvs:List (List Key×V)} {xs:List (List Key×Addr×Value)} (r:KT H kvs xs) (k:List Key):RelO (valV kvs k) ((atKey xs k).map (·.2)):=by
 induction r with
 | nil=>exact True.intro
 | @cons p q ps qs h t ih =>
   obtain ⟨h1,_,h2⟩:=h
   by_cases e:p.1=k
   · have e':q.1=k:=h1.symm.trans e
     have b:atKey (q::qs) k=some q.2:=by simp [atKey,List.find?_cons,e']
     rw [Zbc e,b]; exact h2
   · have e':¬ q.1=k:=λ z=>e (h1.trans z)
     have b:atKey (q::qs) k=atKey qs k:=by simp [atKey,List.find?_cons,e']
     rw [Zbd e,b]; exact ih
theorem KT.repl {H:Hp} {kvs:List (List Key×V)} {xs:List (List Key×Addr×Value)} (r:KT H kvs xs) (k:List Key) {y:V} {u:Value} (ry:RelV y u) :
 KT H (kvs.map λ kv=>if kv.1=k then (kv.1,y) else kv) (xs.map (putAt k u)):=by
 induction r with
 | nil=>exact .nil
 | @cons p q ps qs h t ih =>
   rw [List.map_cons,List.map_cons]
   refine .cons ?_ ih
   obtain ⟨h1,h2,h3⟩:=h
   unfold putAt
   by_cases e:p.1=k
   · rw [if_pos e,if_pos (h1.symm.trans e)]; exact ⟨h1,h2,ry⟩
   · rw [if_neg e,if_neg (λ z=>e (h1.trans z))]; exact ⟨h1,h2,h3⟩
theorem KT.put {H:Hp} {kvs:List (List Key×V)} {xs:List (List Key×Addr×Value)} (r:KT H kvs xs) (k:List Key) {b:Addr} {y:V} {u:Value} (hb:H b=some (.tup (k.map kV))) (ry:RelV y u) :
 KT H (putK kvs k y) (storedH xs k b u):=by
 have e:(kvs.any λ kv=>decide (kv.1=k))=(atKey xs k).isSome:=by
  rw [Zhu,(r.val k).isSome_eq,Option.isSome_map]
 unfold putK storedH
 rw [e]
 by_cases q:(atKey xs k).isSome=true
 · rw [if_pos q,if_pos q]; exact r.repl k ry
 · rw [if_neg q,if_neg q]; exact Paired.snoc r ⟨rfl,hb,ry⟩
theorem KT.keeps {H H':Hp} {kvs:List (List Key×V)} {xs:List (List Key×Addr×Value)} (r:KT H kvs xs) (ht:∀ b ys,H b=some (.tup ys)->H' b=some (.tup ys)):KT H' kvs xs :=
 Paired.mapP r λ _ _ z=>⟨z.1,ht _ _ z.2.1,z.2.2⟩
section
variable {P:Program} {w:World} {H:Hp} {h:Heap} {a:Addr}
theorem Zx2 {u:HO} (ok:HOk P w H h) (e:Rd H a u):ObjOk P w H h a u:=e.ok ok
theorem Zhc {kvs:List (Key×V)} (ok:HOk P w H h) (e:Rd H a (.dK kvs)):kvs.length<=sizeLine/\(a == sysModules)=false/\∃ vs,KV kvs vs/\h.DictOf (Y8 P w) a vs :=
 show ObjOk P w H h a (.dK kvs) from Zx2 ok e
theorem Ztj {kvs:List (Key×V)} (ok:HOk P w H h) (e:H a=some (.dK kvs)):kvs.length<=sizeLine/\(a == sysModules)=false/\∃ vs,KV kvs vs/\h.DictOf (Y8 P w) a vs:=Zhc ok (.inl e)
theorem Zgv {ks:List Key} (ok:HOk P w H h) (e:H a=some (.tup (ks.map kV))):(tupleKind (Y8 P w)).is h ks a:=by
 obtain ⟨_,its,r,o,h1,h2,n,h3⟩:=(show ObjOk P w H h a (.tup (ks.map kV)) from ok a _ e)
 exact ⟨o,its.toArray,n,h1,h2,h3,by simpa using Zmi r⟩
theorem Zkm {kvs:List (List Key×V)} (ok:HOk P w H h) (e:Rd H a (.dT kvs)):kvs.length<=sizeLine/\(a == sysModules)=false /\
 ∃ xs,KT H kvs xs/\h.DictOfH (tupleKind (Y8 P w)) a xs:=by
 obtain ⟨z,y,xs,r,o,es,ep,h1,h2,h3,h4,h5⟩:=(show ObjOk P w H h a (.dT kvs) from Zx2 ok e)
 refine ⟨z,y,xs,r,o,es,ep,h1,h2,h3,h4,λ x hx=>?_,h5⟩
 have all:∀ {l:List (List Key×V)} {m:List (List Key×Addr×Value)},KT H l m->∀ x∈m,(tupleKind (Y8 P w)).is h x.1 x.2.1:=by
  intro l m q
  induction q with
  | nil=>intro x hx; exact nomatch hx
  | @cons p q ps qs hq t ih =>
    intro x hx
    rcases List.mem_cons.mp hx with e | hx
    · subst e
      exact Zgv ok (by rw [← hq.1]; exact hq.2.1)
    · exact ih x hx
 exact all r x hx
theorem Z2f {kvs:List (List Key×V)} (ok:HOk P w H h) (e:H a=some (.dT kvs)):kvs.length<=sizeLine/\(a == sysModules)=false /\
 ∃ xs,KT H kvs xs/\h.DictOfH (tupleKind (Y8 P w)) a xs:=Zkm ok (.inl e)
end
def DGet (H:Hp) (a:Addr) (y:V) (r:Option V):Prop :=
 (∃ kvs k,Rd H a (.dK kvs)/\y=kV k/\r=valV kvs k)\/∃ kvs k b,Rd H a (.dT kvs)/\y=.ref b/\H b=some (.tup (k.map kV))/\r=valV kvs k
def DPut (H:Hp) (a:Addr) (y v:V) (H':Hp):Prop :=
 (∃ kvs k,H a=some (.dK kvs)/\y=kV k/\kvs.length<sizeLine/\H'=upd H a (.dK (putK kvs k v))) \/
 ∃ kvs k b,H a=some (.dT kvs)/\y=.ref b/\H b=some (.tup (k.map kV))/\kvs.length<sizeLine/\H'=upd H a (.dT (putK kvs k v))
theorem DGet.k {H:Hp} {a:Addr} {kvs:List (Key×V)} {k:Key} (e:H a=some (.dK kvs)):DGet H a (kV k) (valV kvs k):=.inl ⟨kvs,k,.inl e,rfl,rfl⟩
theorem DPut.k {H:Hp} {a:Addr} {kvs:List (Key×V)} {k:Key} {v:V} (e:H a=some (.dK kvs)) (hl:kvs.length<sizeLine):DPut H a (kV k) v (upd H a (.dK (putK kvs k v))):=.inl ⟨kvs,k,e,rfl,hl,rfl⟩
section
variable {X:Cx} {pins:List (Addr×Obj)} {σ:St} {H:Hp} {s:Shared} {a:Addr} {y v:V} {u r:Value} {o:Option V} {A:Around} {E:Value->Shared->Prop}
theorem Inv.big (I:Inv X pins σ H s):sysModules<s.heap.objs.size:=by
 have h:mainGlobals<s.heap.objs.size:=(I.mod.glob.keeps I.bk).lt
 exact Nat.lt_trans (by decide) h
theorem Zvk {Q:Value->Shared->Prop} (hu:A.units+1<cLine) (I:Inv X pins σ H s) (g:DGet H a y (some v)) (ry:RelV y u) (h:∀ w' s',Inv X pins σ H s'->RelV v w'->Q w' s') :
 wpAny (model X.prog X.w) A (getItem (.ref a) u) Q E s:=by
 rcases g with ⟨kvs,k,e,ey,l⟩ | ⟨kvs,k,b,e,ey,eb,l⟩
 · subst ey
   obtain ⟨z,hd,vs,rel,dd⟩:=Zhc I.hok e
   obtain ⟨w',hw,rw'⟩:=RelO.some_of (v:=v) (o:=valueAt vs k) (by rw [l]; exact rel.val k)
   exact wpAny_getItem_of (Zhb ry) dd.mapOf hw (h w' _ (I.tok _) rw')
 · subst ey
   cases (show u=Value.ref b from ry)
   obtain ⟨z,hd,xs,rel,dd⟩:=Zkm I.hok e
   obtain ⟨w',hw,rw'⟩:=RelO.some_of (v:=v) (o:=(atKey xs k).map (·.2)) (by rw [l]; exact rel.val k)
   obtain ⟨p,hp,hp2⟩:=Option.map_eq_some_iff.mp hw
   refine wpAny_getItem_heap (tupleKind_room_in1 hu) (Zgv I.hok eb) dd hp ?_
   rw [hp2]
   exact h w' _ (I.tok _) rw'
theorem Z2j {Q:Value->Shared->Prop} (hu:A.units+1<cLine) (I:Inv X pins σ H s) (g:DGet H a y o) (ry:RelV y u) (h:∀ s',Inv X pins σ H s'->Q (.bool o.isSome) s') :
 wpAny (model X.prog X.w) A (compareOp .In u (.ref a)) Q E s:=by
 rcases g with ⟨kvs,k,e,ey,l⟩ | ⟨kvs,k,b,e,ey,eb,l⟩
 · subst ey
   obtain ⟨z,hd,vs,rel,dd⟩:=Zhc I.hok e
   refine wpAny_in_of (Zhb ry) hd dd.mapOf ?_
   rw [← (rel.val k).isSome_eq,← l]
   exact h _ (I.tok _)
 · subst ey
   cases (show u=Value.ref b from ry)
   obtain ⟨z,hd,xs,rel,dd⟩:=Zkm I.hok e
   refine wpAny_in_heap (tupleKind_room_in1 hu) (Zgv I.hok eb) hd dd ?_
   have q:=(rel.val k).isSome_eq
   rw [Option.isSome_map] at q
   rw [← q,← l]
   exact h _ (I.tok _)
theorem Z0b {Q:Value->Shared->Prop} (hu:A.units+1<cLine) (I:Inv X pins σ H s) (g:DGet H a y o) (ry:RelV y u) (h:∀ s',Inv X pins σ H s'->Q (.bool (!o.isSome)) s') :
 wpAny (model X.prog X.w) A (compareOp .NotIn u (.ref a)) Q E s:=by
 rcases g with ⟨kvs,k,e,ey,l⟩ | ⟨kvs,k,b,e,ey,eb,l⟩
 · subst ey
   obtain ⟨z,hd,vs,rel,dd⟩:=Zhc I.hok e
   refine wpAny_notIn_of (Zhb ry) hd dd.mapOf ?_
   rw [← (rel.val k).isSome_eq,← l]
   exact h _ (I.tok _)
 · subst ey
   cases (show u=Value.ref b from ry)
   obtain ⟨z,hd,xs,rel,dd⟩:=Zkm I.hok e
   refine wpAny_notIn_heap (tupleKind_room_in1 hu) (Zgv I.hok eb) hd dd ?_
   have q:=(rel.val k).isSome_eq
   rw [Option.isSome_map] at q
   rw [← q,← l]
   exact h _ (I.tok _)
theorem Zly {h':Heap} {t':Nat} {ob:HO} (I:Inv X pins σ H s) (mu:Mut (H a)) (hs:Heap.SameBut a s.heap h') (he:∃ q,h'.get? a=some q) (new:ObjOk X.prog X.w (upd H a ob) h' a ob) :
 Inv X pins σ (upd H a ob) { s with heap:=h',toks:=t' } :=
 I.write (x:=a) (e:=a) mu (.inl rfl) (λ b q hb z=>(hs.2 b hb).trans z) he new
theorem Zvh {P:Program} {w:World} {H':Hp} {h':Heap} {kvs:List (Key×V)} {vs:List (Key×Value)} (z:kvs.length<=sizeLine) (hd:(a == sysModules)=false) (rel:KV kvs vs) (dd:h'.DictOf (Y8 P w) a vs) :
 ObjOk P w H' h' a (.dK kvs):=⟨z,hd,vs,rel,dd⟩
theorem Zvj {H':Hp} {Q:Unit->Shared->Prop} (hu:A.units+1<cLine) (I:Inv X pins σ H s) (g:DPut H a y v H') (ry:RelV y u) (rv:RelV v r) (h:∀ s',Inv X pins σ H' s'->Q () s') :
 wpAny (model X.prog X.w) A (setItem (.ref a) u r) Q E s:=by
 rcases g with ⟨kvs,k,e,ey,l,eH⟩ | ⟨kvs,k,b,e,ey,eb,l,eH⟩
 · subst ey eH
   obtain ⟨z,hd,vs,rel,dd⟩:=Ztj I.hok e
   have hz:vs.length<=sizeLine:=by rw [← rel.length]; exact z
   have hl:(putK kvs k v).length<=sizeLine:=by have:=Zdl kvs k v; omega
   refine wpAny_setItem_pairs (hsz:=hz) (Zhb ry) dd λ h' dd' hs=>h _ ?_
   have he:∃ q,h'.get? a=some q:=let ⟨q,_,_,hq,_⟩:=dd'; ⟨q,hq⟩
   exact Zly I (by rw [e]; exact True.intro) hs he (Zvh hl hd (rel.put k rv) dd')
 · subst ey eH
   cases (show u=Value.ref b from ry)
   obtain ⟨z,hd,xs,rel,dd⟩:=Z2f I.hok e
   have hz:xs.length<=sizeLine:=by rw [← Paired.length rel]; exact z
   have hl:(putK kvs k v).length<=sizeLine:=by have:=Zdl kvs k v; omega
   refine wpAny_setItem_heap (hsz:=hz) (tupleKind_room_in1 hu) (Zgv I.hok eb) dd λ h' dd' hs=>h _ ?_
   obtain ⟨q,es,ep,hq,h2,h3,h4,_,h5⟩:=dd'
   refine Zly I (by rw [e]; exact True.intro) hs ⟨q,hq⟩ ⟨hl,hd,_,(rel.put k eb rv).keeps λ c ys ec=>?_,q,es,ep,hq,h2,h3,h4,h5⟩
   rw [Z5 (Z19 ec e (λ z=>nomatch z))]
   exact ec
end
section
variable {X:Cx} {pins:List (Addr×Obj)} {σ:St} {H:Hp} {s:Shared} {a:Addr} {kvs:List (Key×V)} {k:Key} {u:Value} {A:Around} {E:Value->Shared->Prop}
theorem Z2g {Q:Value->Shared->Prop} (I:Inv X pins σ H s) (e:Rd H a (.dK kvs)) (h:∀ t s',Inv X pins σ H s'->Q (.int kvs.length t) s'):wpAny (model X.prog X.w) A (call (.builtin "len") [.ref a]) Q E s:=by
 obtain ⟨z,hd,vs,rel,dd⟩:=Zhc I.hok e
 refine call_len_dict hd dd (by rw [← rel.length]; rw [sizeLine_eq] at z; omega) ?_
 rw [← rel.length]
 exact h _ _ (I.tok _)
end
def NoSl (i:Expr):Prop:=∀ ov iv,subscripted i false ov iv=operate [ov,iv] (getItem ov iv)
theorem Zyx {prog:Program} {w:World} {A:Around} {E:Value->Shared->Prop} {s:Shared} {env:Env} {value slice:Expr} {pos:Pos} {T id:String} {Q:Value->Shared->Prop}
 (hl:typeLookup (.type T) "__getitem__"=pure (some (.builtin id))) (hs:NoSl slice)
 (h:wpAny (model prog w) A (eval value env) (λ o s₁=>wpAny (model prog w) A (eval slice env) (λ i s₂=>s₂.TypeIs o T/\wpAny (model prog w) A (getItem o i) Q E s₂) E s₁) E s) :
 wpAny (model prog w) A (eval (.Subscript value slice pos) env) Q E s:=by
 refine Subscript_ (wpAny_mono h (λ o s₁ h₁=>wpAny_mono h₁ (λ i s₂ h₂=>?_) λ _ _ x=>x) λ _ _ x=>x)
 obtain ⟨hT,h₂⟩:=h₂
 unfold subscriptTail
 refine wpAny_bind ?_
 rw [getitemInPython_of_ne hT.not_modules]
 refine wpAny_bind (wpAny_specialOf hT hl ?_)
 have fin:wpAny (model prog w) A (subscripted slice false o i) (λ r s₃=>wpAny (model prog w) A (letTemporaryGo value o r >>= λ _=>pure r) Q E s₃) E s₂:=by
  rw [hs o i]
  exact wpAny_operating (wpAny_mono h₂ (λ r s₃ h₃=>wpAny_bind (wpAny_letTemporaryGo (wpAny_pure h₃))) λ _ _ x=>x)
 first
  | exact wpAny_pure (wpAny_bind fin)
  | exact wpAny_bind (wpAny_pure (wpAny_bind fin))
  | exact wpAny_bind fin
theorem Zqp {X:Cx} {pins:List (Addr×Obj)} {σ:St} {H:Hp} {s:Shared} {a:Addr} {y:V} {o:Option V} (I:Inv X pins σ H s) (g:DGet H a y o):s.TypeIs (.ref a) "dict":=by
 rcases g with ⟨kvs,k,e,_,_⟩ | ⟨kvs,k,b,e,_,_,_⟩
 · obtain ⟨_,_,vs,_,dd⟩:=Zhc I.hok e
   exact dd.typeIs
 · obtain ⟨_,_,xs,_,dd⟩:=Zkm I.hok e
   exact dd.typeIs
def U8 (td ty:TE):TE:=λ σ H Q=>td σ H λ x H1=>ty σ H1 λ y H2=>∃ a v,x=.ref a/\DGet H2 a y (some v)/\Q v H2
def Znu (ty td:TE):TE:=λ σ H Q=>ty σ H λ y H1=>td σ H1 λ x H2=>∃ a o,x=.ref a/\DGet H2 a y o/\Q (.bl o.isSome) H2
def Zk2 (ty td:TE):TE:=λ σ H Q=>ty σ H λ y H1=>td σ H1 λ x H2=>∃ a o,x=.ref a/\DGet H2 a y o/\Q (.bl (!o.isSome)) H2
def Zjk (td ty tv:TE):TS:=λ D σ H=>tv σ H λ v H1=>td σ H1 λ x H2=>ty σ H2 λ y H3=>∃ a H4,x=.ref a/\DPut H3 a y v H4/\D.nx σ H4
section
variable {X:Cx} {o i e value:Expr} {pos pos' tpos:Pos} {td ty tv:TE}
theorem Uo (hu:X.A.units+1<cLine) (ho:PE X o td) (hi:PE X i ty) (hs:NoSl i):PE X (.Subscript o i pos) (U8 td ty):=by
 intro pins s σ H Q I h
 refine Zyx PySem.F.slot_dict_getitem.lookup hs (thn (ho pins s σ H _ I h) λ u s1 ⟨x,H1,I1,rx,q1⟩=>thn (hi pins s1 σ H1 _ I1 q1) λ iv s2 ⟨y,H2,I2,ry,a,v,ex,g,q2⟩=>?_)
 subst ex
 obtain rfl:u=Value.ref a:=rx
 exact ⟨Zqp I2 g,Zvk hu I2 g ry λ w' s3 I3 rw'=>⟨v,H2,I3,rw',q2⟩⟩
theorem Zon (hu:X.A.units+1<cLine) (hi:PE X i ty) (ho:PE X o td):PC X .In i o (Znu ty td):=by
 intro pins s σ H Q I h
 refine thn (hi pins s σ H _ I h) λ iv s1 ⟨y,H1,I1,ry,q1⟩=>thn (ho pins s1 σ H1 _ I1 q1) λ u s2 ⟨x,H2,I2,rx,a,ov,ex,g,q2⟩=>?_
 subst ex
 obtain rfl:u=Value.ref a:=rx
 exact Z2j hu I2 g ry λ s3 I3=>⟨.bl ov.isSome,H2,I3,rfl,q2⟩
theorem Zul (hu:X.A.units+1<cLine) (hi:PE X i ty) (ho:PE X o td):PC X .NotIn i o (Zk2 ty td):=by
 intro pins s σ H Q I h
 refine thn (hi pins s σ H _ I h) λ iv s1 ⟨y,H1,I1,ry,q1⟩=>thn (ho pins s1 σ H1 _ I1 q1) λ u s2 ⟨x,H2,I2,rx,a,ov,ex,g,q2⟩=>?_
 subst ex
 obtain rfl:u=Value.ref a:=rx
 exact Z0b hu I2 g ry λ s3 I3=>⟨.bl (!ov.isSome),H2,I3,rfl,q2⟩
theorem Zlg (hu:X.A.units+1<cLine) (ho:PE X o td) (hi:PE X i ty) (hv:PE X value tv) (hs:swapsWith value (some (.Subscript o i pos')) pos.line X.env=pure false) :
 PS X (.Assign [.Subscript o i pos'] value pos) (Zjk td ty tv):=by
 intro pins s σ H D I h
 refine wpAny_Assign_Subscript (thn (hv pins s σ H _ I h) λ r s1 ⟨v,H1,I1,rv,q1⟩=>thn (ho pins s1 σ H1 _ I1 q1) λ u s2 ⟨x,H2,I2,rx,q2⟩=>thn (hi pins s2 σ H2 _ I2 q2) λ iv s3 ⟨y,H3,I3,ry,a,H4,ex,g,q3⟩=>?_) hs
 subst ex
 obtain rfl:u=Value.ref a:=rx
 exact Zvj hu I3 g ry rv λ s4 I4=>⟨σ,H4,I4,q3⟩
end
theorem Zxn {P:Program} {w:World} {H:Hp} (h:Heap) (hb:sysModules<h.objs.size):ObjOk P w H (h.push { cls:=.type "dict",data:=.dict #[] }) h.objs.size (.dK []) :=
 ⟨Nat.zero_le _,beq_eq_false_iff_ne.mpr (Ne.symm (Nat.ne_of_lt hb)),[],.nil,Heap.DictOf.new h⟩
section
variable {X:Cx} {pos:Pos}
end
def Znt:List (TE×TE)->St->Hp->(List (V×V)->Hp->Prop)->Prop
 | [],_,H,Q=>Q [] H
 | (tk,tv)::r,σ,H,Q=>tk σ H λ x H1=>tv σ H1 λ y H2=>Znt r σ H2 λ ps H3=>Q ((x,y)::ps) H3
abbrev VV:List (V×V)->List (Value×Value)->Prop:=Paired λ p q=>RelV p.1 q.1/\RelV p.2 q.2
def PPs (X:Cx) (pos:Pos) (keys:List (Option Expr)) (values:List Expr) (trs:List (TE×TE)):Prop :=
 ∀ (pins:List (Addr×Obj)) (s:Shared) (σ:St) (H:Hp) (Q:List (V×V)->Hp->Prop),Inv X pins σ H s->Znt trs σ H Q ->
   wpAny (model X.prog X.w) X.A (evalPairs (pairTrees keys values X.env pos)) (λ vs s'=>∃ ps H',Inv X pins σ H' s'/\VV ps vs/\Q ps H') X.xe s
theorem Zzb {X:Cx} {pos:Pos}:PPs X pos [] [] []:=λ pins s σ H Q I h=>pairTrees_nil_walk ⟨[],H,I,.nil,h⟩
theorem Zwv {X:Cx} {pos:Pos} {k v:Expr} {ks:List (Option Expr)} {vs:List Expr} {tk tv:TE} {trs:List (TE×TE)} (hk:PE X k tk) (hv:PE X v tv) (hr:PPs X pos ks vs trs) :
 PPs X pos (some k::ks) (v::vs) ((tk,tv)::trs):=λ pins s σ H Q I h =>
 pairTrees_cons_walk (thn (hk pins s σ H _ I h) λ u s1 ⟨x,H1,I1,rx,q1⟩=>thn (hv pins s1 σ H1 _ I1 q1) λ w2 s2 ⟨y,H2,I2,ry,q2⟩ =>
  thn (hr pins s2 σ H2 _ I2 q2) λ ws s3 ⟨ps,H3,I3,rel,q3⟩=>⟨(x,y)::ps,H3,I3,.cons ⟨rx,ry⟩ rel,q3⟩)
def U4 (kvs more:List (Key×V)):List (Key×V):=more.foldl (λ acc kv=>putK acc kv.1 kv.2) kvs
theorem KV.merge:∀ {more:List (Key×V)} {rs:List (Key×Value)} {kvs:List (Key×V)} {vs:List (Key×Value)},KV more rs->KV kvs vs->KV (U4 kvs more) (merged vs rs):=by
 intro more rs kvs vs r
 unfold KV at r
 induction r generalizing kvs vs with
 | nil=>intro q; exact q
 | @cons p q ps qs h t ih =>
   intro r0
   have e:KV (putK kvs p.1 p.2) (stored vs q.1 q.2):=by
    have:=r0.put p.1 h.2
    rw [← h.1]; exact this
   exact ih e
theorem Zfn:∀ (more kvs:List (Key×V)),(U4 kvs more).length<=kvs.length+more.length
 | [],kvs=>by show kvs.length<=kvs.length+0; omega
 | p::r,kvs=>by
   have h1:=Zfn r (putK kvs p.1 p.2)
   have h2:=Zdl kvs p.1 p.2
   show (U4 (putK kvs p.1 p.2) r).length<=_
   rw [List.length_cons]; omega
theorem Zkr {P:Program} {w:World}:∀ {kvs:List (Key×V)} {ws:List (Value×Value)},VV (kvs.map λ kv=>(kV kv.1,kv.2)) ws->∃ rs,Carries (Y8 P w) ws rs/\KV kvs rs
 | [],_,r=>by rw [List.map_nil] at r; cases r; exact ⟨[],True.intro,.nil⟩
 | p::kvs,_,r=>by
   rw [List.map_cons] at r
   cases r with
   | @cons a b as bs h t =>
     obtain ⟨rs,c,q⟩:=Zkr (P:=P) (w:=w) t
     obtain ⟨b1,b2⟩:=b
     exact ⟨(p.1,b2)::rs,⟨Zhb h.1,rfl,c⟩,.cons ⟨rfl,h.2⟩ q⟩
def Zsp (trs:List (TE×TE)):TE:=λ σ H Q=>∀ p,H p=none->Znt trs σ (upd H p (.dK [])) λ ps H2=>H2 p=some (.dK [])/\∃ kvs:List (Key×V),ps=kvs.map (λ kv=>(kV kv.1,kv.2))/\kvs.length<=15/\Q (.ref p) (upd H2 p (.dK (U4 [] kvs)))
theorem Zzf {X:Cx} {pos:Pos} {keys:List (Option Expr)} {values:List Expr} {trs:List (TE×TE)} (h:PPs X pos keys values trs) (hall:keys.all (·.isSome)=true) (hl:keys.length=values.length) (h0:keys≠[])
 (h15:keys.length<=15):PE X (.Dict keys values pos) (Zsp trs):=by
 intro pins s σ H Q I q
 have hn:=I.hok.fresh (Nat.le_refl s.heap.objs.size)
 have I1:=I.laid (a:=s.heap.objs.size) (o:=.dK []) (h':=s.heap.push { cls:=.type "dict",data:=.dict #[] }) (t':=s.toks) (λ _ _ q=>Heap.get?_push_of_some _ q) (Nat.le_refl _) (Zxn s.heap I.big)
 refine wpAny_Dict_walk (knd:=Y8 X.prog X.w) hall hl h0 h15 (thn (h pins _ σ _ _ I1 (q _ hn)) λ ws s2 ⟨ps,H2,I2,rel,e,kvs,ep,lk,q2⟩=>?_)
 subst ep
 obtain ⟨rs,c,rk⟩:=Zkr (P:=X.prog) (w:=X.w) rel
 obtain ⟨z,hd,vs0,r0,dd⟩:=Ztj I2.hok e
 cases r0
 refine ⟨rs,c,dd,λ h' dd' hs=>⟨.ref s.heap.objs.size,_,?_,rfl,q2⟩⟩
 have hz:(U4 [] kvs).length<=sizeLine:=by
  have h1:=Zfn kvs []
  rw [List.length_nil] at h1
  rw [sizeLine_eq]; omega
 have he:∃ q,h'.get? s.heap.objs.size=some q:=let ⟨q,_,_,hq,_⟩:=dd'; ⟨q,hq⟩
 exact Zly I2 (by rw [e]; exact True.intro) hs he (Zvh hz hd (rk.merge .nil) dd')
section
variable {X:Cx} {pins:List (Addr×Obj)} {σ:St} {H:Hp} {s:Shared} {a:Addr} {y d:V} {u r:Value} {o:Option V} {A:Around} {E:Value->Shared->Prop}
end
section
variable {X:Cx} {o e f:Expr} {apos cpos:Pos} {td ty tx:TE}
end
section
variable {X:Cx} {pins:List (Addr×Obj)} {σ:St} {H:Hp} {s:Shared} {a:Addr} {kvs:List (Key×V)} {A:Around} {E:Value->Shared->Prop}
end
section
variable {X:Cx} {pins:List (Addr×Obj)} {σ:St} {H:Hp} {s:Shared} {a:Addr} {y:V} {u:Value} {A:Around} {E:Value->Shared->Prop}
end
end L2
namespace L2
open PySem PySem.Spec PyProof.Rows
def Ite (K:Fq) (a:Addr):It :=
 ⟨λ i H=>∃ xs x,SqL K H a xs/\xs[i]?=some x,
  λ i H v H'=>∃ p x,H p=none/\v=.ref p/\(∀ xs,SqL K H a xs->xs[i]?=some x)/\H'=upd H p (.tup [.int (i:Nat),x]),
  λ i H=>∃ xs,SqL K H a xs/\xs.length<=i⟩
def Tne (e it l:Addr) (i:Nat) (h:Heap):Prop:=(∃ old,IsEnum h e it (i:Nat) old)/\h.IsListIter it l i
theorem Zt0 {P:Program} {w:World} {K:Fq} {elts:List Expr} {x1} {pos:Pos} {e it l:Addr} (hne:e≠it):Turn P w K (.Tuple elts x1 pos) (Ite K l) [e,it] e (Tne e it l) where
 mem:=by simp
 obj:=λ i h st b hb=>by
  obtain ⟨⟨old,q1⟩,q2⟩:=st
  have hb':b=e\/b=it:=by simpa using hb
  rcases hb' with z | z <;> subst z
  · exact ⟨_,q1,λ v z=>by cases z⟩
  · obtain ⟨o,e1,c,d⟩:=q2
    exact ⟨o,e1,λ v z=>by rw [d] at z; cases z⟩
 keep:=λ i h h' st k=>by
  obtain ⟨⟨old,q1⟩,q2⟩:=st
  exact ⟨⟨old,k e (by simp) _ q1⟩,q2.at λ o z=>k it (by simp) o z⟩
 item:=by
  intro X hP hw hK hc i pins s σ H E I hf st hg
  subst hP hw hK
  obtain ⟨xs,x,h1,hx⟩:=hg
  obtain ⟨its,rv,p,hz⟩:=I.list h1
  obtain ⟨u,hu,ru⟩:=rv.get hx
  obtain ⟨⟨old,q1⟩,q2⟩:=st
  refine wpAny_pyNext_enum_item q1 q2 p.isList (x:=u) (by simpa using hu) hne λ h' a1 a2 a3 a4 kk=>?_
  have lt:∀ {c o},s.heap.get? c=some o->s.heap.objs.size≠c:=λ z=>Nat.ne_of_gt (Heap.lt_size z)
  refine ⟨_,rfl,wpAny_letOwnedTupleGo_enum a1 λ hh2 z2 s2=>?_⟩
  have kk2:∀ c o,c ∉ [e,it]->s.heap.get? c=some o->hh2.get? c=some o:=λ c o hc z=>s2.extBut _ _ (λ w=>hc (by simp [w])) (kk c o (λ w=>hc (by simp [w])) (λ w=>hc (by simp [w])) z)
  have I1:Inv X pins σ H { s with heap:=hh2,toks:=s.toks+1 }:=I.turnedN (t':=s.toks+1) kk2 hf
  have T2:hh2.get? s.heap.objs.size=some { cls:=.type "tuple",data:=.seq #[.int i s.toks,u] }:=s2.extBut _ _ (lt q1) a3
  have hn:H s.heap.objs.size=none:=I.hok.fresh (Nat.le_refl _)
  have fr:=I.fpOk (H':=H) (Nat.le_refl _) hn
  have I2:Inv X pins σ (upd H s.heap.objs.size (.tup [.int (i:Nat),x])) { s with heap:=hh2,toks:=s.toks+1 }:=by
   refine I1.track hn (λ b o q _ _=>?_) fr.2.1.symm fr.2.2.2.2.1 fr.2.2.2.2.2 ?_
   · exact Nat.ne_of_lt (Nat.lt_of_lt_of_le (Heap.lt_size q) I.sz)
   · exact ⟨by simp [sizeLine],[.int i s.toks,u],.cons ⟨_,rfl⟩ (.cons ru .nil),⟨_,T2,rfl,_,rfl⟩⟩
  refine ⟨.ref s.heap.objs.size,_,I2,rfl,⟨_,x,hn,rfl,λ zs hzs=>?_,rfl⟩,?_,λ b hb=>?_⟩
  · rw [I.list_inj hzs h1]; exact hx
  · have e1:(i:Int)+1=((i+1:Nat):Int):=by omega
    rw [e1] at z2
    exact ⟨⟨_,z2⟩,a2.at λ o z=>s2.extBut _ _ (Ne.symm hne) z⟩
  · have z:b≠s.heap.objs.size:=by
     have hb':b=e\/b=it:=by simpa using hb
     rcases hb' with z | z <;> subst z
     · exact (lt q1).symm
     · obtain ⟨o,e1,_⟩:=q2; exact (lt e1).symm
    rw [Z5 z]
    exact (hf b hb).1
 done:=by
  intro X hP hw hK hc i pins s σ H E I hf st hg
  subst hP hw hK
  obtain ⟨xs,h1,hx⟩:=hg
  obtain ⟨its,rv,p,hz⟩:=I.list h1
  have e1:=rv.length
  obtain ⟨⟨old,q1⟩,q2⟩:=st
  refine wpAny_pyNext_enum_end (I.ok.hd hc) q1 q2 p.isList (by simp; omega) λ h' kk=>⟨rfl,?_⟩
  exact I.turnedN (t':=s.toks) (λ c o hc z=>kk c o (λ w=>hc (by simp [w])) z) hf
 self:=λ _ _ _ _ _ st h=>by
  obtain ⟨⟨old,q1⟩,q2⟩:=st
  exact wpAny_pyIter_enum q1 h
section
variable {X:Cx}
def Zch (K:Fq) (ta:TA):TI:=λ σ H R=>ta σ H λ vs H1=>∃ a,vs=[.ref a]/\(∃ xs,SqL K H1 a xs)/\R (Ite K a) H1
theorem Zl1:bootBuiltins "enumerate"=some (.type "enumerate"):=by decide +kernel
theorem Zwz {a:Expr} {ta:TA} {p pos tpos:Pos} {elts:List Expr} {x1} (hg:Gl X "enumerate") (hm:X.mg "enumerate"=none) (ha:PA X [a] ta) (hs:starEach [a] X.env=[(false,eval a X.env)]:=by rfl) :
 PI X (.Tuple elts x1 tpos) (.Call (.Name "enumerate" p) [a] [] pos) (Zch X.K ta):=by
 intro pins s σ H R I h
 refine Call_ (U5 I hg hm Zl1 (PyProof.Rows.callWith_type1 (thn (ha pos pins s σ H _ I h) λ us s1 ⟨vs,H1,I1,r1,q1⟩=>?_) hs rfl))
 obtain ⟨l,e,⟨xs,h1⟩,q⟩:=q1
 subst e
 cases r1 with
 | cons r rr =>
   cases rr
   cases r
   obtain ⟨its,rv,p,hz⟩:=I1.list h1
   refine call_enumerate_list p.isList λ h' a1 a2 a3 kk=>wpAny_pyIter_enum a1 ?_
   have ne:(s1.heap.objs.size+1:Nat)≠s1.heap.objs.size:=Nat.succ_ne_self _
   refine ⟨s1.heap.objs.size+1,_,_,_,H1,rfl,I1.kept (t':=s1.toks) kk,Zt0 (l:=l) (it:=s1.heap.objs.size) ne,⟨⟨_,a1⟩,a2⟩,λ b hb=>?_,q⟩
   have hb':b=s1.heap.objs.size+1\/b=s1.heap.objs.size:=by simpa using hb
   have hle:s1.heap.objs.size<=b:=by rcases hb' with e | e <;> rw [e] <;> first | exact Nat.le_refl _ | exact Nat.le_add_right _ _
   exact I1.fpOk hle (I1.hok.fresh hle)
theorem Zfb {a:Expr} {ta:TA} {p pos tpos:Pos} {elts:List Expr} {x1} (hg:Gl X "enumerate") (hm:X.mg "enumerate"=none) (ha:PB X [a] ta) (he:Yz a=false:=by rfl) :
 PI X (.Tuple elts x1 tpos) (.Call (.Name "enumerate" p) [a] [] pos) (Zch X.K ta):=Zwz hg hm ha.ok (Yx he)
end
theorem Zi2 {K:Fq} {ta:TA} {σ:St} {H:Hp} {R:It->Hp->Prop} (h:ta σ H λ vs H1=>∃ a,vs=[.ref a]/\(∃ xs,SqL K H1 a xs)/\R (Ite K a) H1):Zch K ta σ H R:=h
theorem Zij {K:Fq} {a:Addr} {xs:List V} {g:TG} {tb:TS} {D:Ends} {σ:St} {H:Hp} (Pv:Nat->St->Hp->Prop) (h0:Pv 0 σ H) (hl:∀ i σ H,i<=xs.length->Pv i σ H->SqL K H a xs)
 (hs:∀ i x σ H p,xs[i]?=some x->Pv i σ H->H p=none->g (.ref p) σ (upd H p (.tup [.int (i:Nat),x])) λ σ2 H2=>tb { D with nx:=Pv (i+1),ct:=Pv (i+1),bk:=D.nx } σ2 H2) (hd:∀ σ H,Pv xs.length σ H->D.nx σ H) :
 ∃ W:Nat->Nat->St->Hp->Prop,(∃ m,W 0 m σ H)/\∀ i m σ H,W i m σ H ->
   ((Ite K a).stop i H/\D.nx σ H)\/((Ite K a).go i H/\∃ N:St->Hp->Prop,(∀ σ' H',N σ' H'->∃ m',m'<m/\W (i+1) m' σ' H')/\∀ x H',(Ite K a).yld i H x H'->g x σ H' λ σ2 H2=>tb { D with nx:=N,ct:=N,bk:=D.nx } σ2 H2):=by
 refine ⟨λ i m σ H=>m=xs.length-i/\i<=xs.length/\Pv i σ H,⟨xs.length,by simp,Nat.zero_le _,h0⟩,?_⟩
 rintro i m σ H ⟨rfl,hi,p⟩
 have q:=hl i σ H hi p
 by_cases hlt:i<xs.length
 · refine .inr ⟨⟨xs,xs[i],q,by simp [hlt]⟩,Pv (i+1),λ σ' H' p'=>⟨xs.length-(i+1),by omega,rfl,hlt,p'⟩,λ x H' y=>?_⟩
   obtain ⟨t,y1,ht,rfl,y2,rfl⟩:=y
   exact hs i y1 σ H t (y2 xs q) p ht
 · have e:i=xs.length:=by omega
   subst e
   exact .inl ⟨⟨xs,q,Nat.le_refl _⟩,hd σ H p⟩
end L2
namespace L2
open PySem PySem.Spec PyProof.Rows
theorem Zmj {P:Program} {w:World}:∀ {ns:List Int} {vs:List (Key×Value)} {us:List Value},vs.map (·.1)=ns.map Sum.inl->us.length=vs.length ->
 (∀ (j:Nat) u,us[j]?=some u->∃ k x,vs[j]?=some (k,x)/\(Y8 P w).is k u=true)->IntsAre us ns
 | [],vs,us,hk,hl,_=>by
   have e:vs=[]:=by simpa using hk
   subst e
   have e2:us=[]:=List.eq_nil_of_length_eq_zero hl
   subst e2
   exact .nil
 | n::ns,[],us,hk,_,_=>by simp at hk
 | n::ns,v::vs,[],hk,hl,_=>by simp at hl
 | n::ns,v::vs,u::us,hk,hl,h=>by
   rw [List.map_cons,List.map_cons] at hk
   obtain ⟨e1,e2⟩:=List.cons.inj hk
   obtain ⟨k,x,ev,hi⟩:=h 0 u rfl
   have ek:v=(k,x):=by simpa using ev
   subst ek
   replace e1:k=Sum.inl n:=e1
   subst e1
   rw [Zjz] at hi
   have hu:∃ t,u=.int n t:=by
    cases u with
    | int i t =>
      have hi':Value.isInt n (.int i t)=true:=hi
      first
       | exact ⟨t,by have:=of_decide_eq_true hi'; rw [this]⟩
       | (simp [Value.isInt] at hi'; exact ⟨t,by rw [hi']⟩)
    | _=>simp [Za2,Value.isInt] at hi
   obtain ⟨t,rfl⟩:=hu
   exact .cons n t (Zmj e2 (by simpa using hl) λ j u hj=>h (j+1) u (by simpa using hj))
def Zev:List V->Hp->VK->Prop:=λ xs H Q=>∃ (a:Addr) (kvs:List (Key×V)) (ns:List Int),xs=[.ref a]/\H a=some (.dK kvs)/\kvs.map (·.1)=ns.map Sum.inl/\ns.length<64 /\
 ∀ ns':List Int,ns'.Perm ns->ns'.Pairwise (·<=·)->∀ p,H p=none->Q (.ref p) (upd H p (.lst (ns'.map V.int)))
theorem Zgy {X:Cx} (hc:X.calm=true):CallR X (.builtin "sorted") Zev:=by
 intro pins s σ H xs us Q I r h
 obtain ⟨a,kvs,ns,rfl,ha,hk,h64,q⟩:=h
 obtain ⟨u,rfl,rx⟩:=Ug r
 cases rx
 obtain ⟨hz,hsys,vs,kv,hd⟩:=Ztj I.hok ha
 obtain ⟨ep,hat⟩:=hd.dictAt
 have ek:vs.map (·.1)=ns.map Sum.inl:=by rw [← KV.keys kv]; exact hk
 have el:vs.length=ns.length:=by have:=congrArg List.length ek; simpa using this
 refine Calls.call_function_entry kind_sorted plain_sorted entry_sorted (args_sorted1 _) ?_
 unfold Builtin.«sorted»
 refine wpAny_bind (m:=checkCount "sorted" 1 1 _) (wpAny_pure ?_)
 refine wpAny_bind (PySem.W.kdu_collect (A:=X.A.in1) (PySem.W.kdl_dict (knd:=Y8 X.prog X.w) (kvs:=vs) (ep:=ep) hsys) (I.ok.hd hc) hat (by rw [el]; exact Nat.le_of_lt (Nat.lt_of_lt_of_le h64 (by decide))) λ h' tk acc hk' hacc=>?_)
 have hl:acc.toList.length=vs.length:=by rw [Array.length_toList]; exact hacc.1
 have hI:IntsAre acc.toList ns:=Zmj (P:=X.prog) (w:=X.w) ek hl λ j v e=>hacc.2 j v (by rw [← Array.getElem?_toList]; exact e)
 refine wpAny_bind (wpAny_newList ?_ (by rw [hl,el]; exact Nat.le_of_lt (Nat.lt_of_lt_of_le h64 (by decide))))
 have I':Inv X pins σ H { s with heap:=h',toks:=tk }:=I.kept hk'
 have hoL:(h'.push { cls:=.type "list",data:=.seq acc.toList.toArray }).get? h'.objs.size=some (seqObj "list" acc.toList.toArray 0):=Heap.get?_push_size _ rfl
 refine wpAny_bind (wpAny_holding (wpAny_call_entry slot_list_sort ⟨_,hoL,rfl⟩ entry_list_sort (list_sort_tree hoL hI (by rw [hl,el]; exact h64) λ out ns' a1 a2 a3=>⟨_,rfl,?_⟩) (args_list_sort _)))
 refine wpAny_pure ⟨_,rfl,?_⟩
 obtain ⟨e,he⟩:=sortedHeap_at (out:=out) hoL
 have hn:H h'.objs.size=none:=I'.hok.fresh (Nat.le_refl _)
 refine ⟨.ref h'.objs.size,_,I'.laid (o:=.lst (ns'.map V.int)) (t':=tk) (λ b o z=>?_) (Nat.le_refl _) ?_,rfl,q ns' a2 a3 _ hn⟩
 · have lt:=Heap.lt_size z
   rw [sortedHeap_old (Nat.ne_of_lt lt) (by rw [size_push']; exact Nat.lt_succ_of_lt lt),Heap.get?_push_ne _ _ _ (Nat.ne_of_lt lt)]
   exact z
 · refine ⟨?_,out.toList,e,Zcn a1,?_⟩
   · rw [List.length_map,a2.length_eq]; exact Nat.le_of_lt (Nat.lt_of_lt_of_le h64 (by decide))
   · rw [Array.toArray_toList]; exact he
theorem Zl4 {H:Hp} {Q:VK} {a:Addr} {kvs:List (Key×V)} {ns:List Int} (ha:H a=some (.dK kvs)) (hk:kvs.map (·.1)=ns.map Sum.inl) (h:ns.length<64)
 (q:∀ ns':List Int,ns'.Perm ns->ns'.Pairwise (·<=·)->∀ p,H p=none->Q (.ref p) (upd H p (.lst (ns'.map V.int)))):Zev [.ref a] H Q:=⟨a,kvs,ns,rfl,ha,hk,h,q⟩
end L2
namespace L2
open PySem PySem.Spec PyProof.Rows
def Itzl (K:Fq) (a1 a2:Addr):It :=
 ⟨λ i H=>∃ xs ys x y,SqL K H a1 xs/\SqL K H a2 ys/\xs[i]?=some x/\ys[i]?=some y,
  λ i H v H'=>∃ p x y,H p=none/\v=.ref p/\(∀ xs,SqL K H a1 xs->xs[i]?=some x)/\(∀ ys,SqL K H a2 ys->ys[i]?=some y)/\H'=upd H p (.tup [x,y]),
  λ i H=>∃ xs ys,SqL K H a1 xs/\SqL K H a2 ys/\(xs.length<=i\/ys.length<=i)⟩
def Tnzl (z TI TO i1 i2 l1 l2:Addr) (i:Nat) (h:Heap):Prop:=IsZip h z TI TO .none/\IsPair h TI (.ref i1) (.ref i2)/\(∃ a b,IsPair h TO a b)/\ItB false h i1 l1 i/\ItB false h i2 l2 i
theorem Zty {P:Program} {w:World} {K:Fq} {elts:List Expr} {x1} {pos:Pos} {z TI TO i1 i2 l1 l2:Addr} (D:Apz z TI TO i1 i2) (n1:∀ c∈[z,TO,i1,i2],l1≠c/\l2≠c) :
 Turn P w K (.Tuple elts x1 pos) (Itzl K l1 l2) [z,TI,TO,i1,i2] z (Tnzl z TI TO i1 i2 l1 l2) where
 mem:=by simp
 obj:=λ i h st b hb=>by
  obtain ⟨q1,q2,⟨a,b',q3⟩,q4,q5⟩:=st
  have hb':b=z\/b=TI\/b=TO\/b=i1\/b=i2:=by simpa using hb
  rcases hb' with e | e | e | e | e <;> subst e
  · exact ⟨_,q1,λ v z=>by cases z⟩
  · exact ⟨_,q2,λ v z=>by cases z⟩
  · exact ⟨_,q3,λ v z=>by cases z⟩
  · exact q4.ob
  · exact q5.ob
 keep:=λ i h h' st k=>by
  obtain ⟨q1,q2,⟨a,b',q3⟩,q4,q5⟩:=st
  exact ⟨k z (by simp) _ q1,k TI (by simp) _ q2,⟨a,b',k TO (by simp) _ q3⟩,q4.at λ o e=>k i1 (by simp) o e,q5.at λ o e=>k i2 (by simp) o e⟩
 item:=by
  intro X hP hw hK hc i pins s σ H E I hf st hg
  subst hP hw hK
  obtain ⟨xs,ys,x,y,h1,h2,hx,hy⟩:=hg
  obtain ⟨its,rv,p,hz⟩:=I.list h1
  obtain ⟨jts,rv',p',hz'⟩:=I.list h2
  obtain ⟨u,hu,ru⟩:=rv.get hx
  obtain ⟨u',hu',ru'⟩:=rv'.get hy
  obtain ⟨q1,q2,⟨a,b,q3⟩,q4,q5⟩:=st
  refine Znl D q1 q2 q3 q4 q5 p.isList p'.isList n1 (x:=u) (y:=u') (by simpa using hu) (by simpa using hu') λ h' a1 a2 a3 a4 a5 a6 kk=>?_
  have lt:∀ {c o},s.heap.get? c=some o->s.heap.objs.size≠c:=λ e=>Nat.ne_of_gt (Heap.lt_size e)
  refine ⟨_,rfl,wpAny_letOwnedTupleGo_zip a1 λ hh2 z2 s2=>?_⟩
  have kk2:∀ c o,c ∉ [z,TI,TO,i1,i2]->s.heap.get? c=some o->hh2.get? c=some o:=λ c o hc e =>
   s2.extBut _ _ (λ x=>hc (by simp [x])) (kk c o (λ x=>hc (by simp [x])) (λ x=>hc (by simp [x])) (λ x=>hc (by simp [x])) (λ x=>hc (by simp [x])) e)
  have I1:Inv X pins σ H { s with heap:=hh2 }:=I.turnedN (t':=s.toks) kk2 hf
  have T2:IsPair hh2 s.heap.objs.size u u':=s2.extBut _ _ (lt q1) a5
  have hn:H s.heap.objs.size=none:=I.hok.fresh (Nat.le_refl _)
  have fr:=I.fpOk (H':=H) (Nat.le_refl _) hn
  have I2:Inv X pins σ (upd H s.heap.objs.size (.tup [x,y])) { s with heap:=hh2 }:=by
   refine I1.track hn (λ b o q _ _=>?_) fr.2.1.symm fr.2.2.2.2.1 fr.2.2.2.2.2 ?_
   · exact Nat.ne_of_lt (Nat.lt_of_lt_of_le (Heap.lt_size q) I.sz)
   · exact ⟨by simp [sizeLine],[u,u'],.cons ru (.cons ru' .nil),⟨_,T2,rfl,_,rfl⟩⟩
  refine ⟨.ref s.heap.objs.size,_,I2,rfl,⟨_,x,y,hn,rfl,λ zs hzs=>?_,λ zs hzs=>?_,rfl⟩,?_,λ b hb=>?_⟩
  · rw [I.list_inj hzs h1]; exact hx
  · rw [I.list_inj hzs h2]; exact hy
  · exact ⟨z2,s2.extBut _ _ D.a1 (kk _ _ D.a1 D.a5 D.a6 D.a7 q2),⟨_,_,s2.extBut _ _ D.a2 a2⟩,a3.at λ o e=>s2.extBut _ _ D.a3 e,a4.at λ o e=>s2.extBut _ _ D.a4 e⟩
  · have e:b≠s.heap.objs.size:=by
     have hb':b=z\/b=TI\/b=TO\/b=i1\/b=i2:=by simpa using hb
     rcases hb' with e | e | e | e | e <;> subst e
     · exact (lt q1).symm
     · exact (lt q2).symm
     · exact (lt q3).symm
     · obtain ⟨o,e,_⟩:=q4.ob; exact (lt e).symm
     · obtain ⟨o,e,_⟩:=q5.ob; exact (lt e).symm
    rw [Z5 e]
    exact (hf b hb).1
 done:=by
  intro X hP hw hK hc i pins s σ H E I hf st hg
  subst hP hw hK
  obtain ⟨xs,ys,h1,h2,hx⟩:=hg
  obtain ⟨its,rv,p,hz⟩:=I.list h1
  obtain ⟨jts,rv',p',hz'⟩:=I.list h2
  have e1:=rv.length
  have e2:=rv'.length
  obtain ⟨q1,q2,⟨a,b,q3⟩,q4,q5⟩:=st
  refine Znk (I.ok.hd hc) D q1 q2 q3 q4 q5 p.isList p'.isList n1 (by rcases hx with q | q; (· left; simp; omega); (· right; simp; omega)) λ h' kk=>⟨rfl,?_⟩
  exact I.turnedN (t':=s.toks) (λ c o hc e=>kk c o (λ x=>hc (by simp [x])) (λ x=>hc (by simp [x])) (λ x=>hc (by simp [x])) (λ x=>hc (by simp [x])) e) hf
 self:=λ _ _ _ _ _ st h=>wpAny_pyIter_zip st.1 h
section
variable {X:Cx}
def Zj6 (K:Fq) (ta:TA):TI:=λ σ H R=>ta σ H λ vs H1=>∃ a b,vs=[.ref a,.ref b]/\(∃ xs,SqL K H1 a xs)/\(∃ ys,SqL K H1 b ys)/\R (Itzl K a b) H1
theorem Zwy {a b:Expr} {ta:TA} {p pos tpos:Pos} {elts:List Expr} {x1} (hg:Gl X "zip") (hm:X.mg "zip"=none) (ha:PA X [a,b] ta) (hs:starEach [a,b] X.env=[(false,eval a X.env),(false,eval b X.env)]:=by rfl) (hs2:starEach [b] X.env=[(false,eval b X.env)]:=by rfl) :
 PI X (.Tuple elts x1 tpos) (.Call (.Name "zip" p) [a,b] [] pos) (Zj6 X.K ta):=by
 intro pins s σ H R I h
 refine Call_ (U5 I hg hm Zps (PyProof.Rows.callWith_type1 (thn (ha pos pins s σ H _ I h) λ us s1 ⟨vs,H1,I1,r1,q1⟩=>?_) (by rw [hs,hs2]) (by rw [hs2]; rfl)))
 obtain ⟨l1,l2,e,⟨xs,h1⟩,⟨ys,h2⟩,q⟩:=q1
 subst e
 cases r1 with
 | cons r rr =>
   cases rr with
   | cons r' rr =>
     cases rr
     cases r
     cases r'
     obtain ⟨its,rv,p,hz⟩:=I1.list h1
     obtain ⟨jts,rv',p',hz'⟩:=I1.list h2
     have hl1:l1<s1.heap.objs.size:=by obtain ⟨o,e,_⟩:=p.isList; exact Heap.lt_size e
     have hl2:l2<s1.heap.objs.size:=by obtain ⟨o,e,_⟩:=p'.isList; exact Heap.lt_size e
     refine Znm (b1:=false) (b2:=false) p.isList p'.isList λ h' a1 a2 a3 a4 a5 kk=>wpAny_pyIter_zip a1 ?_
     refine ⟨s1.heap.objs.size+4,_,_,_,H1,rfl,I1.kept (t':=s1.toks) kk,Zty (Zsd s1.heap.objs.size) (l1:=l1) (l2:=l2) λ c hc=>?_,⟨a1,a2,⟨_,_,a3⟩,a4,a5⟩,λ b hb=>?_,q⟩
     · have hc':c=s1.heap.objs.size+4\/c=s1.heap.objs.size+3\/c=s1.heap.objs.size\/c=s1.heap.objs.size+1:=by simpa using hc
       have hle:s1.heap.objs.size<=c:=by rcases hc' with e | e | e | e <;> rw [e] <;> first | exact Nat.le_refl _ | exact Nat.le_add_right _ _
       exact ⟨Nat.ne_of_lt (Nat.lt_of_lt_of_le hl1 hle),Nat.ne_of_lt (Nat.lt_of_lt_of_le hl2 hle)⟩
     · have hb':b=s1.heap.objs.size+4\/b=s1.heap.objs.size+2\/b=s1.heap.objs.size+3\/b=s1.heap.objs.size\/b=s1.heap.objs.size+1:=by simpa using hb
       have hle:s1.heap.objs.size<=b:=by rcases hb' with e | e | e | e | e <;> rw [e] <;> first | exact Nat.le_refl _ | exact Nat.le_add_right _ _
       exact I1.fpOk hle (I1.hok.fresh hle)
theorem Zxm {a b:Expr} {ta:TA} {p pos tpos:Pos} {elts:List Expr} {x1} (hg:Gl X "zip") (hm:X.mg "zip"=none) (ha:PB X [a,b] ta) (he:Yz a=false:=by rfl) (hf:Yz b=false:=by rfl):PI X (.Tuple elts x1 tpos) (.Call (.Name "zip" p) [a,b] [] pos) (Zj6 X.K ta) :=
 Zwy hg hm ha.ok (by rw [Yx he,Yx hf]; rfl) (by rw [Yx hf]; rfl)
theorem Zky (ns:List Int):∀ k,argBest (λ i j=>decide (ns.getD i 0 > ns.getD j 0)) k<=k/\∀ j,j<=k->ns.getD j 0<=ns.getD (argBest (λ i j=>decide (ns.getD i 0 > ns.getD j 0)) k) 0
 | 0=>⟨Nat.le_refl _,λ j hj=>by have e:j=0:=by omega
                                rw [e]; exact Int.le_refl _⟩
 | k+1=>by
   obtain ⟨h1,h2⟩:=Zky ns k
   show (if (decide _)=true then k+1 else _)<=k+1/\∀ j,j<=k+1->_<=ns.getD (if (decide _)=true then k+1 else _) 0
   split
   · rename_i c
     have c':=of_decide_eq_true c
     refine ⟨Nat.le_refl _,λ j hj=>?_⟩
     by_cases e:j=k+1
     · rw [e]; exact Int.le_refl _
     · exact Int.le_trans (h2 j (by omega)) (Int.le_of_lt c')
   · rename_i c
     have c':¬ ns.getD (k+1) 0 > _:=λ z=>c (decide_eq_true z)
     refine ⟨Nat.le_succ_of_le h1,λ j hj=>?_⟩
     by_cases e:j=k+1
     · rw [e]; exact Int.not_lt.mp c'
     · exact h2 j (by omega)
theorem Zvu (hc:X.calm=true):CallR X (.builtin "max") (λ xs H Q=>∃ (p:Addr) (ns:List Int),xs=[.ref p]/\SqA X.K H p (ns.map V.int)/\ns≠[]/\∀ m,m∈ns->(∀ y∈ns,y<=m)->Q (.int m) H):=by
 intro pins s σ H xs us Q I r h
 obtain ⟨p,ns,rfl,hs,ne,q⟩:=h
 obtain ⟨u,rfl,ru⟩:=Ug r
 cases ru
 have hpos:0<ns.length:=List.length_pos_iff.mpr ne
 refine call_max_walk (Zhr (I.ok.hd hc) I hs λ its It fp wr St s2 rv W st hfp fin=>?_)
 have hl:=rv.length
 rw [List.length_map] at hl
 refine ⟨It,fp,wr,its.length,_,St,λ i j=>decide (ns.getD i 0 > ns.getD j 0),rfl,W,st,hfp,by omega,CmpOf.ints_gt (λ i=>ns.getD i 0) (λ i v hv=>Zd0 rv (by simpa using hv)),λ v h' tk hv k=>?_⟩
 obtain ⟨t,e⟩:=Zd0 rv (by rw [← List.getElem?_toArray]; exact hv)
 obtain ⟨b1,b2⟩:=Zky ns (its.length-1)
 refine ⟨.int _,H,fin h' tk k,⟨t,e⟩,q _ ?_ λ y hy=>?_⟩
 · exact G9 (by omega)
 · obtain ⟨j,hj,ej⟩:=List.mem_iff_getElem.mp hy
   have:=b2 j (by omega)
   rw [show ns.getD j 0=y by rw [List.getD,List.getElem?_eq_getElem hj]; exact ej] at this
   exact this
def Zx4 (K:Fq):List V->Hp->VK->Prop:=λ xs H Q=>∃ (p:Addr) (ns:List Int),xs=[.ref p]/\SqA K H p (ns.map V.int)/\ns≠[]/\∀ m,m∈ns->(∀ y∈ns,y<=m)->Q (.int m) H
theorem Zvt (hc:X.calm=true):CallR X (.builtin "max") (Zx4 X.K):=Zvu hc
end
theorem Zyr {K:Fq} {ta:TA} {σ:St} {H:Hp} {R:It->Hp->Prop} (h:ta σ H λ vs H1=>∃ a b,vs=[.ref a,.ref b]/\(∃ xs,SqL K H1 a xs)/\(∃ ys,SqL K H1 b ys)/\R (Itzl K a b) H1):Zj6 K ta σ H R:=h
end L2
namespace L2
open PySem PySem.Spec PyProof.Rows
theorem Zut (ns:List Int) (nd:ns.Nodup):∀ i,i<=ns.length->(firstMet (λ i=>ns.getD i 0) i).length=i/\∀ k,(firstMet (λ i=>ns.getD i 0) i).any (· == k)=((List.range i).map λ i=>ns.getD i 0).any (· == k):=by
 intro i
 induction i with
 | zero=>exact λ _=>⟨rfl,λ k=>firstMet_any _ 0 k⟩
 | succ i ih =>
   intro hi
   obtain ⟨h1,_⟩:=ih (by omega)
   refine ⟨?_,λ k=>firstMet_any _ (i+1) k⟩
   rw [firstMet_succ]
   unfold step_dedup
   have no:(firstMet (λ i=>ns.getD i 0) i).any (· == ns.getD i 0)=false:=by
    rw [firstMet_any,List.any_eq_false]
    intro x hx
    obtain ⟨j,hj,rfl⟩:=List.mem_map.mp hx
    have hj':j<i:=List.mem_range.mp hj
    have e1:ns.getD j 0=ns[j]'(by omega):=by simp [show j<ns.length by omega]
    have e2:ns.getD i 0=ns[i]'(by omega):=by simp [show i<ns.length by omega]
    have:=(List.pairwise_iff_getElem.mp nd) j i (by omega) (by omega) hj'
    rw [e1,e2]
    simpa using this
   first
    | rw [if_neg (by rw [no]; decide),List.length_append,h1]; rfl
    | (simp only [no]; simp [h1])
def Zq8 (K:Fq):List V->Hp->VK->Prop:=λ xs H Q=>∃ (p:Addr) (ns:List Int),xs=[.ref p]/\SqL K H p (ns.map V.int)/\ns.Nodup/\ns.length<=1000/\∀ q S,H q=none->Q (.ref q) (upd H q (.set S ns.length))
theorem Zqq {X:Cx} (hc:X.calm=true):CallR X (.type "set") (Zq8 X.K):=by
 intro pins s σ H xs us Q I r h
 obtain ⟨p,ns,rfl,hs,nd,hn,q⟩:=h
 obtain ⟨u,rfl,ru⟩:=Ug r
 cases ru
 obtain ⟨its,rv,pl,hz⟩:=I.list hs
 have hl:=rv.length
 rw [List.length_map] at hl
 refine PySem.call_set_list (items:=its.toArray) (ns:=ns) (I.ok.hd hc) pl.isList (by simpa using Zj5 rv) (by rw [List.size_toArray,← hl]; exact Nat.lt_of_le_of_lt (Nat.succ_le_succ hn) (by decide)) λ h' tk hS hk=>?_
 have e:(firstMet (λ i=>ns.getD i 0) its.toArray.size).length=ns.length:=by
  rw [List.size_toArray,← hl]; exact (Zut ns nd ns.length (Nat.le_refl _)).1
 rw [e] at hS
 exact ⟨.ref s.heap.objs.size,_,I.laid (o:=.set _ ns.length) (t':=tk) (λ b o z=>hk b o (Heap.lt_size z) z) (Nat.le_refl _) hS,rfl,q _ _ (I.hok.fresh (Nat.le_refl _))⟩
def Zx6 (K:Fq):List V->Hp->VK->Prop:=λ xs H Q=>∃ (p:Addr) (S:Int->Bool) (n:Nat),xs=[.ref p]/\H p=some (.set S n)/\n<=1000/\Q (.int (n:Nat)) H
theorem Zvw {X:Cx}:CallR X (.builtin "len") (Zx6 X.K):=by
 intro pins s σ H xs us Q I r h
 obtain ⟨p,S,n,rfl,hp,hn,q⟩:=h
 obtain ⟨u,rfl,ru⟩:=Ug r
 cases ru
 obtain ⟨o,es,ep,t,ho,hex,hd,_,_,_,hf,hsz⟩:=(show ObjOk X.prog X.w H s.heap p (.set S n) from I.hok p _ hp)
 refine call_len_set ho hex hd hf (by omega) ?_
 rw [hsz]
 exact ⟨.int (n:Nat),H,I.tok _,⟨_,rfl⟩,q⟩
end L2
namespace LB
open PySem L2
abbrev Ch:=List (Nat×List Nat)
abbrev nV (x:Nat):V:=.int (x:Nat)
def inK (C:Ch) (o:Nat):Bool:=C.any λ c=>c.1 == o
def chOf:Ch->Nat->List Nat
 | [],_=>[]
 | c::r,o=>if c.1=o then c.2 else chOf r o
def Xu (last k:Nat) (m:Int) (s:Ch×List Nat):Ch×List Nat:=if m≠0/\inK s.1 k=false then (s.1++[(k,chOf s.1 last++[k])],s.2++[k]) else s
def rowF (last:Nat):List Int->Nat->Ch×List Nat->Ch×List Nat
 | [],_,s=>s
 | m::r,k,s=>rowF last r (k+1) (Xu last k m s)
def bfsF (M:List (List Int)):Nat->Ch×List Nat->Ch
 | 0,s=>s.1
 | _+1,(C,[])=>C
 | f+1,(C,l::w)=>bfsF M f (rowF l (M.getD l []) 0 (C,w))
def Zx (M:List (List Int)) (d:Nat):Ch:=bfsF M (2*M.length+2) ([(d,[d])],[d])
def rowM (B:List (List Int×List Int)) (i:Nat):List Int:=(List.range B.length).map λ j=>Za0 B i j
def Z4 (B:List (List Int×List Int)):List (List Int):=(List.range B.length).map λ i=>rowM B i
def Ys (n:Nat) (C:Ch):Nat:=((List.range n).filter λ o=>!inK C o).length
structure GoodS (n:Nat) (s:Ch×List Nat):Prop where
 sz:s.1.length+Ys n s.1<=n
 wl:s.2.length<=s.1.length
 ky:∀ c∈s.1,c.1<n/\c.2.length<=s.1.length
 wt:∀ l∈s.2,inK s.1 l=true
def MRep (H:Hp) (v:V) (M:List (List Int)):Prop:=∃ m rs,v=.ref m/\H m=some (.lst rs)/\rs.length=M.length/\∀ i,i<M.length->∃ p,rs[i]?=some (.ref p)/\H p=some (.lst ((M.getD i []).map V.int))
def DRep (H:Hp) (wa:Addr):List (Key×V)->Ch->Prop
 | [],[]=>True
 | kv::r,c::s=>kv.1=Sum.inl (c.1:Int)/\(∃ p,kv.2=.ref p/\p≠wa/\H p=some (.lst (c.2.map nV)))/\DRep H wa r s
 | _,_=>False
def Zag (K:Fq) (mg:Str->Option Value) (a b:V) (H:Hp) (Q:VK) (E:XK):Prop:=∃ (B:List (List Int×List Int)) (m n x:Nat),Rep H a (Xj B)/\GoodBook m n B/\m<=8/\b=.int (x:Nat)/\x<B.length /\
 ∀ p H',H p=none->Same H H'->H' p=some (.lst ((rowM B x).map V.int))->Q (.ref p) H'
def Zad (K:Fq) (mg:Str->Option Value):Sp:=sp2 (Zag K mg)
def Zc5 (K:Fq) (mg:Str->Option Value) (a:V) (H:Hp) (Q:VK) (E:XK):Prop:=∃ (B:List (List Int×List Int)) (m n:Nat),Rep H a (Xj B)/\GoodBook m n B/\m<=8/\∀ v H',Same H H'->MRep H' v (Z4 B)->Q v H'
def Uy (K:Fq) (mg:Str->Option Value):Sp:=sp1 (Zc5 K mg)
def Zdu (K:Fq) (a b:V) (H:Hp) (Q:VK) (E:XK):Prop:=∃ (M:List (List Int)) (d:Nat),MRep H a M/\M.length<=8/\(∀ r∈M,r.length=M.length)/\b=.int (d:Nat)/\d<M.length /\
 ∀ p wa kvs H',Same H H'->H' p=some (.dK kvs)->DRep H' wa kvs (Zx M d)->GoodS M.length (Zx M d,[])->Q (.ref p) H'
def Xi (K:Fq):Sp:=sp2 (Zdu K)
def U7 (K:Fq) (mg:Str->Option Value):TS :=
 (Z7 (Xg [none,some 0,some 1] (Xz (Zd (tCB (rLenU K) (Zd (Zc 0) Zj)) Zj)) (Zo 0) Qd (Zy (Zeg K mg) [] E0 (Zd (Zc 1) (Zd (Zc 2) (Zd (Zc 0) Zj))))))
def Ec (K:Fq) (mg:Str->Option Value):TS :=
 (Z7 (Xg [none,some 0] (Xz (Zd (tCB (rLenU K) (Zd (Zc 0) Zj)) Zj)) (Zo 0) Qd (Zy (Zad K mg) [] E0 (Zd (Zc 1) (Zd (Zc 0) Zj)))))
def Ga (K:Fq):TS :=
 (Zz (Yi (Zsp [((Zc 1),(Wy (Zd (Zc 1) Zj)))]) (Zo 2))
  (Zz (Yi (Wy (Zd (Zc 1) Zj)) (Zo 3))
  (Zz (Zfv (Yn (tOp rGtU (tCB (rLenU K) (Zd (Zc 3) Zj)) (tC (.int 0)))) (Zz (Yi (tBM K "list" Zoj (Zc 3) (Zd (tC (.int 0)) Zj)) (Zo 4))
  (Qo (Zch K (Zd (tOp (rIx K) (Zc 0) (Zc 4)) Zj)) (K3 K 2 (Xo (Zo 5) (Xo (Zo 6) K4))) (Yt (Zbn (Yn (tOp (rNeU K) (Zc 6) (tC (.int 0)))) (tB (Zk2 (Zc 5) (Zc 2)))) (Zz (Zjk (Zc 2) (Zc 5) (tOp (rAddU K) (U8 (Zc 2) (Zc 4)) (Wy (Zd (Zc 5) Zj))))
  (Wj (tBM K "list" K6 (Zc 3) (Zd (Zc 5) Zj)))) Yo))))
  (Z7 (Zc 2)))))
theorem Q6 {C:Ch} {k o:Nat} {c:List Nat}:inK (C++[(k,c)]) o=(inK C o || k == o):=by simp [inK,List.any_append]
theorem Zrz {p q:Nat->Bool} (h:∀ x,p x=true->q x=true):∀ l:List Nat,(l.filter p).length<=(l.filter q).length
 | []=>Nat.le_refl _
 | x::l=>by
   have ih:=Zrz h l
   by_cases hp:p x=true
   · rw [List.filter_cons_of_pos hp,List.filter_cons_of_pos (h x hp),List.length_cons,List.length_cons]; omega
   · rw [List.filter_cons_of_neg hp]
     by_cases hq:q x=true
     · rw [List.filter_cons_of_pos hq,List.length_cons]; omega
     · rw [List.filter_cons_of_neg hq]; exact ih
theorem Zry {p q:Nat->Bool} (h:∀ x,p x=true->q x=true) {a:Nat} (hp:p a=false) (hq:q a=true):∀ {l:List Nat},a∈l->(l.filter p).length+1<=(l.filter q).length
 | [],ha=>by simp at ha
 | x::l,ha=>by
   rcases List.mem_cons.mp ha with e | e
   · subst e
     have ih:=Zrz h l
     rw [List.filter_cons_of_neg (by rw [hp]; decide),List.filter_cons_of_pos hq,List.length_cons]; omega
   · have ih:=Zry h hp hq e
     by_cases hp':p x=true
     · rw [List.filter_cons_of_pos hp',List.filter_cons_of_pos (h x hp'),List.length_cons,List.length_cons]; omega
     · rw [List.filter_cons_of_neg hp']
       by_cases hq':q x=true
       · rw [List.filter_cons_of_pos hq',List.length_cons]; omega
       · rw [List.filter_cons_of_neg hq']; exact ih
theorem Zcw {n:Nat} {C:Ch} {k:Nat} {c:List Nat} (hk:k<n) (h:inK C k=false):Ys n (C++[(k,c)])+1<=Ys n C:=by
 unfold Ys
 refine Zry (a:=k) (λ x hx=>?_) ?_ ?_ (List.mem_range.mpr hk)
 · rw [Q6] at hx
   cases e:inK C x with
   | true=>rw [e] at hx; simp at hx
   | false=>rfl
 · rw [Q6]; simp
 · rw [h]; rfl
theorem Ub:∀ {C:Ch} {o:Nat},inK C o=true->∃ c∈C,c.1=o/\chOf C o=c.2
 | [],o,h=>by simp [inK] at h
 | c::r,o,h=>by
   by_cases e:c.1=o
   · exact ⟨c,by simp,e,by simp [chOf,e]⟩
   · have h':inK r o=true:=by
      have:(c.1 == o || inK r o)=true:=by simpa [inK] using h
      rw [show (c.1 == o)=false by simp [e]] at this
      simpa using this
     obtain ⟨d,hd,e1,e2⟩:=Ub h'
     exact ⟨d,by simp [hd],e1,by simp [chOf,e,e2]⟩
theorem GoodS.lt {n:Nat} {s:Ch×List Nat} (g:GoodS n s) {o:Nat} (h:inK s.1 o=true):o<n:=by
 obtain ⟨c,hc,e,_⟩:=Ub h
 rw [← e]; exact (g.ky c hc).1
theorem GoodS.len {n:Nat} {s:Ch×List Nat} (g:GoodS n s) {o:Nat} (h:inK s.1 o=true):(chOf s.1 o).length<=s.1.length:=by
 obtain ⟨c,hc,_,e⟩:=Ub h
 rw [e]; exact (g.ky c hc).2
theorem GoodS.add {n:Nat} {C:Ch} {w:List Nat} (g:GoodS n (C,w)) {k last:Nat} (hk:k<n) (h:inK C k=false) (hl:inK C last=true) :
 GoodS n (C++[(k,chOf C last++[k])],w++[k])/\2*Ys n (C++[(k,chOf C last++[k])])+(w++[k]).length+1<=2*Ys n C+w.length:=by
 have ms:=Zcw (c:=chOf C last++[k]) hk h
 have g1:=g.sz
 have g2:=g.wl
 have g3:=g.len hl
 replace g1:C.length+Ys n C<=n:=g1
 replace g2:w.length<=C.length:=g2
 replace g3:(chOf C last).length<=C.length:=g3
 refine ⟨⟨?_,?_,?_,?_⟩,?_⟩
 · show (C++[(k,chOf C last++[k])]).length+Ys n (C++[(k,chOf C last++[k])])<=n
   rw [List.length_append,List.length_singleton]; omega
 · show (w++[k]).length<=(C++[(k,chOf C last++[k])]).length
   rw [List.length_append,List.length_append,List.length_singleton,List.length_singleton]; omega
 · intro c hc
   show c.1<n/\c.2.length<=(C++[(k,chOf C last++[k])]).length
   rw [List.length_append,List.length_singleton]
   rcases List.mem_append.mp hc with e | e
   · have:=g.ky c e
     exact ⟨this.1,Nat.le_trans this.2 (Nat.le_succ _)⟩
   · have e':c=(k,chOf C last++[k]):=by simpa using e
     subst e'
     refine ⟨hk,?_⟩
     show (chOf C last++[k]).length<=C.length+1
     rw [List.length_append,List.length_singleton]; omega
 · intro l hl'
   show inK (C++[(k,chOf C last++[k])]) l=true
   rw [Q6]
   rcases List.mem_append.mp hl' with e | e
   · rw [g.wt l e]; rfl
   · have e':l=k:=by simpa using e
     subst e'; simp
 · rw [List.length_append,List.length_singleton]; omega
theorem GoodS.pop {n:Nat} {C:Ch} {l:Nat} {w:List Nat} (g:GoodS n (C,l::w)):GoodS n (C,w) :=
 ⟨g.sz,Nat.le_trans (Nat.le_succ _) g.wl,g.ky,λ x hx=>g.wt x (by simp [hx])⟩
theorem DRep.mono {H H':Hp} {wa:Addr} (k:∀ p xs,p≠wa->H p=some (.lst xs)->H' p=some (.lst xs)):∀ {kvs:List (Key×V)} {C:Ch},DRep H wa kvs C->DRep H' wa kvs C
 | [],[],_=>True.intro
 | [],_::_,h=>h.elim
 | _::_,[],h=>h.elim
 | kv::r,c::s,⟨e,⟨p,e2,ne,hp⟩,h⟩=>⟨e,⟨p,e2,ne,k p _ ne hp⟩,DRep.mono k h⟩
theorem DRep.len {H:Hp} {wa:Addr}:∀ {kvs:List (Key×V)} {C:Ch},DRep H wa kvs C->kvs.length=C.length
 | [],[],_=>rfl
 | [],_::_,h=>h.elim
 | _::_,[],h=>h.elim
 | kv::r,c::s,⟨_,_,h⟩=>by rw [List.length_cons,List.length_cons,DRep.len h]
theorem DRep.keys {H:Hp} {wa:Addr}:∀ {kvs:List (Key×V)} {C:Ch},DRep H wa kvs C->kvs.map (·.1)=(C.map λ c=>(c.1:Int)).map Sum.inl
 | [],[],_=>rfl
 | [],_::_,h=>h.elim
 | _::_,[],h=>h.elim
 | kv::r,c::s,⟨e,_,h⟩=>by rw [List.map_cons,List.map_cons,List.map_cons,DRep.keys h,e]
theorem DRep.snoc {H:Hp} {wa p:Addr} {k:Nat} {c:List Nat} (ne:p≠wa) (hp:H p=some (.lst (c.map nV))):∀ {kvs:List (Key×V)} {C:Ch},DRep H wa kvs C->DRep H wa (kvs++[(Sum.inl (k:Int),.ref p)]) (C++[(k,c)])
 | [],[],_=>⟨rfl,⟨p,rfl,ne,hp⟩,True.intro⟩
 | [],_::_,h=>h.elim
 | _::_,[],h=>h.elim
 | kv::r,d::s,⟨e,z,h⟩=>⟨e,z,DRep.snoc ne hp h⟩
theorem DRep.get {H:Hp} {wa:Addr} {o:Nat}:∀ {kvs:List (Key×V)} {C:Ch},DRep H wa kvs C->(inK C o=false/\valV kvs (Sum.inl (o:Int))=none)\/(inK C o=true/\∃ p,valV kvs (Sum.inl (o:Int))=some (.ref p)/\p≠wa/\H p=some (.lst ((chOf C o).map nV)))
 | [],[],_=>.inl ⟨rfl,rfl⟩
 | [],_::_,h=>h.elim
 | _::_,[],h=>h.elim
 | kv::r,c::s,⟨e,⟨p,e2,ne,hp⟩,h⟩=>by
   by_cases z:c.1=o
   · refine .inr ⟨by simp [inK,z],p,?_,ne,by simp only [chOf,z,if_true]; exact hp⟩
     rw [Zbc (by rw [e,z]),e2]
   · have z2:¬ kv.1=Sum.inl (o:Int):=by
      rw [e]; intro w
      have:=Sum.inl.inj w
      exact z (by omega)
     have ik:inK (c::s) o=inK s o:=by simp [inK,z]
     have ic:chOf (c::s) o=chOf s o:=by simp [chOf,z]
     rw [Zbd z2,ik,ic]
     exact DRep.get h
theorem hu1 {u c:Nat} (h:u+64<c):u+1<c:=by omega
theorem Zyt {σ:St} {H:Hp} {Q:VK} {tk tv:TE} (h:∀ p,H p=none->tk σ (upd H p (.dK [])) λ x H1=>tv σ H1 λ y H2=>(λ ps H2=>H2 p=some (.dK [])/\∃ kvs:List (Key×V),ps=kvs.map (λ kv=>(kV kv.1,kv.2))/\kvs.length<=15/\Q (.ref p) (upd H2 p (.dK (U4 [] kvs)))) [(x,y)] H2):Zsp [(tk,tv)] σ H Q:=h
theorem Zsh {t:TE} {σ:St} {H:Hp} {Q:Bool->Hp->Prop} (h:t σ H λ x H1=>∃ c,x=.bl c/\Q c H1):tB t σ H Q:=h
theorem Zwb {ty td:TE} {σ:St} {H:Hp} {Q:VK} (h:ty σ H λ y H1=>td σ H1 λ x H2=>∃ a o,x=.ref a/\DGet H2 a y o/\Q (.bl (!o.isSome)) H2):Zk2 ty td σ H Q:=h
theorem Zsk {ty td:TE} {σ:St} {H:Hp} {Q:VK} (h:ty σ H λ y H1=>td σ H1 λ x H2=>∃ a o,x=.ref a/\DGet H2 a y o/\Q (.bl o.isSome) H2):Znu ty td σ H Q:=h
theorem w_dget {ty td:TE} {σ:St} {H:Hp} {Q:VK} (h:td σ H λ x H1=>ty σ H1 λ y H2=>∃ a v,x=.ref a/\DGet H2 a y (some v)/\Q v H2):U8 td ty σ H Q:=h
theorem Z0o {ty td tv:TE} {D:Ends} {σ:St} {H:Hp} (h:tv σ H λ v H1=>td σ H1 λ x H2=>ty σ H2 λ y H3=>∃ a H4,x=.ref a/\DPut H3 a y v H4/\D.nx σ H4):Zjk td ty tv D σ H:=h
theorem Z0j {H:Hp} {Q:VK} {l:Addr} {x:V} {xs:List V} (h:H l=some (.lst (x::xs))) (q:Q x (upd H l (.lst xs))):Zoj (.ref l) [.int 0] H Q :=
 ⟨l,x::xs,0,0,x,rfl,rfl,h,by decide,by decide,by simp [seqIndex?],rfl,q⟩
theorem Zys {c:TT} {tb:TS} {D:Ends} {σ:St} {H:Hp} (W:Nat->St->Hp->Prop) {m:Nat} (h0:W m σ H) (hs:∀ m σ H,W m σ H->c σ H λ b H1=>if b=true then ∃ N:St->Hp->Prop,(∀ σ' H',N σ' H'->∃ m',m'<m/\W m' σ' H')/\tb { D with nx:=N,ct:=N,bk:=D.nx } σ H1 else D.nx σ H1):Zfv c tb D σ H:=⟨W,⟨m,h0⟩,hs⟩
theorem Zdm {l:List (Option Nat)} {te:TE} {σ σr:St} {H1:Hp} {Q:Hp->Prop} {n:Nat} (D:Addr) (f:Nat->List Int) (hn:n<=1000) (hD:H1 D=none) (hini:∃ r0,Xn l σ=r0::σr)
 (hs:∀ i H (R:VK),i<n->Same H1 H->(∀ p H4,H p=none->Same H H4->H4 p=some (.lst ((f i).map V.int))->R (.ref p) H4)->te (some (.int (i:Nat))::σr) H R)
 (hd:∀ rs H,rs.length=n->(∀ i r,rs[i]?=some r->∃ p,r=.ref p/\H p=some (.lst ((f i).map V.int)))->Same H1 H->H D=some (.lst rs)->Q H) :
 ∃ W:CompW,(∃ m,W 0 m [] (Xn l σ) (upd H1 D (.lst [])))/\Q7 (Itr 0 n) (Zo 0) Qd te D W Q:=by
 obtain ⟨r0,hini⟩:=hini
 refine Zkn D (λ i ys σ2 H=>ys.length=i/\(∀ (j:Nat) v,ys[j]?=some v->∃ p,v=.ref p/\p≠D/\H p=some (.lst ((f j).map V.int)))/\Same H1 H/\∃ r0,σ2=r0::σr) hn (λ i ys σ H h=>Nat.le_of_eq h.1) ⟨rfl,λ j v e=>by simp at e,Same.laid hD,r0,hini⟩ ?_ ?_
 · rintro i ys σ2 H hi ⟨hl,hp,hs1,r1,rfl⟩ hH
   refine Zq (Ziw (iteT ?_))
   show te (some (.int (0+(i:Nat)))::σr) H _
   rw [Int.zero_add]
   refine hs i H _ hi hs1 λ p H4 hp0 h4 hv=>?_
   have hD4:H4 D=some (.lst ys):=h4 _ _ hH
   have pD:p≠D:=λ z=>by subst z; rw [hH] at hp0; cases hp0
   refine ⟨hD4,by simp [hl],λ j u e=>?_,(hs1.trans h4).put hD,some (.int (i:Nat)),by simp⟩
   by_cases hj:j<ys.length
   · rw [List.getElem?_append_left hj] at e
     obtain ⟨p',e1,e2,e3⟩:=hp j u e
     exact ⟨p',e1,e2,by rw [Z5 e2]; exact h4 _ _ e3⟩
   · rw [List.getElem?_append_right (by omega)] at e
     have hj2:j-ys.length=0:=by
      by_cases z:j-ys.length=0
      · exact z
      · rw [List.getElem?_eq_none (by simp; omega)] at e; cases e
     rw [hj2] at e
     have e':V.ref p=u:=by simpa using e
     have ej:j=i:=by omega
     rw [← e',ej]
     exact ⟨p,rfl,pD,by rw [Z5 pD]; exact hv⟩
 · rintro ys σ2 H ⟨hl,hp,hs1,_⟩ hH
   exact hd ys H hl (λ i r e=>by obtain ⟨p,e1,_,e3⟩:=hp i r e; exact ⟨p,e1,e3⟩) hs1 hH
theorem Zlk {f:Nat->Int}:∀ {n:Nat} {ys:List V},ys.length=n->(∀ (i:Nat) v,ys[i]?=some v->v=.int (f i))->ys=((List.range n).map f).map V.int:=by
 intro n ys hl h
 refine List.ext_getElem? λ i=>?_
 by_cases hi:i<ys.length
 · have e:=h i ys[i] (by simp [hi])
   rw [List.getElem?_eq_getElem hi,e]
   simp [show i<n by omega]
 · rw [List.getElem?_eq_none (by omega),List.getElem?_eq_none (by simp; omega)]
theorem Zao {K:Fq} {mg:Str->Option Value} {a b:V} {H:Hp} {Q:VK} {E:XK} (h:Zag K mg a b H Q E):U7 K mg (Rt Q) [some a,some b] H:=by
 obtain ⟨B,m,n,x,r,gB,hm,rfl,hx,q⟩:=h
 obtain ⟨p,xs,rfl,hp,hl,_⟩:=Qs r
 have m8:=gB.m8
 have ix:InB B (x:Int):=⟨by omega,by omega⟩
 unfold U7
 refine Yc (Xy (Q8 (Zb (Yl (Zb (Za rfl (Zg (X4 (SqT.of hp) (Zg ⟨_,rfl,(Yy (by omega)).1,(Yy (by omega)).2,λ D hD=>?_⟩)))))))))
 refine Ww (n:=xs.length) (σr:=[some (.ref p),some (.int (x:Nat))]) D (λ i v _=>v=.int (Za0 B x i)) (λ _ _ _ _ _ z=>z) (by omega) hD ⟨none,rfl⟩ ?_ ?_
 · intro i H1 R hi s1 kk
   have ii:InB B (i:Int):=⟨by omega,by omega⟩
   exact Zv (Zb (Za rfl (Zb (Za rfl (Zb (Za rfl (Zg ⟨_,_,_,rfl,B,m,n,(x:Int),(i:Int),Rep.mono s1 _ _ r,gB,rfl,rfl,λ _ _ H2 s2=>kk _ _ s2 (by rw [Int.toNat_natCast,Int.toNat_natCast]),λ bad=>bad ⟨ix,ii⟩⟩)))))))
 · intro ys H1 hy hall s1 hD1
   refine q D H1 hD s1 ?_
   rw [hD1,Zlk (f:=λ i=>Za0 B x i) hy hall,hl]
   rfl
theorem Zdh {K:Fq} {mg:Str->Option Value} {a:V} {H:Hp} {Q:VK} {E:XK} (h:Zc5 K mg a H Q E):Ec K mg (Rt Q) [some a] H:=by
 obtain ⟨B,m,n,r,gB,hm,q⟩:=h
 obtain ⟨p,xs,rfl,hp,hl,_⟩:=Qs r
 have m8:=gB.m8
 unfold Ec
 refine Yc (Xy (Q8 (Zb (Yl (Zb (Za rfl (Zg (X4 (SqT.of hp) (Zg ⟨_,rfl,(Yy (by omega)).1,(Yy (by omega)).2,λ D hD=>?_⟩)))))))))
 refine Zdm (n:=xs.length) (σr:=[some (.ref p)]) D (λ i=>rowM B i) (by omega) hD ⟨none,rfl⟩ ?_ ?_
 · intro i H1 R hi s1 kk
   exact Zv (Zb (Za rfl (Zb (Za rfl (Zg ⟨_,_,rfl,B,m,n,i,Rep.mono s1 _ _ r,gB,hm,rfl,by omega,λ t H2 ht s2 h2=>kk t H2 ht s2 h2⟩)))))
 · intro rs H1 hy hall s1 hD1
   refine q _ H1 s1 ⟨D,rs,rfl,hD1,by rw [hy,hl]; simp [Z4],λ i hi=>?_⟩
   have hi':i<B.length:=by simpa [Z4] using hi
   have e:rs[i]?=some (rs[i]'(by omega)):=by simp
   obtain ⟨t,e1,e2⟩:=hall i _ e
   refine ⟨t,by rw [e,e1],?_⟩
   rw [e2]
   simp [Z4,hi']
theorem Zbu {α:Type} {xs:List α} {i:Nat} {x:α} (h:xs[i]?=some x):xs.drop i=x::xs.drop (i+1):=by
 have hi:i<xs.length:=by
  rcases Nat.lt_or_ge i xs.length with z | z
  · exact z
  · rw [List.getElem?_eq_none z] at h; cases h
 rw [List.getElem?_eq_getElem hi] at h
 rw [List.drop_eq_getElem_cons hi,Option.some.inj h]
theorem Zlc {K:Fq} {a b:V} {H:Hp} {Q:VK} {E:XK} (h:Zdu K a b H Q E):Ga K (Rt Q) [some a,some b,none,none,none,none,none] H:=by
 obtain ⟨M,dy,⟨m,rs,rfl,hm,hrs,hrow⟩,n8,sq,rfl,hdy,q⟩:=h
 unfold Ga
 refine Zr (Z9 (Zyt λ d hd=>Za rfl (Wi (Zb (Za rfl (Zg ⟨by show 1<=sizeLine; decide,λ p1 hp1=>?_⟩))))))
 have d1:d≠p1:=λ z=>by subst z; rw [Zn] at hp1; cases hp1
 have hp1':H p1=none:=by rw [Z5 (Ne.symm d1)] at hp1; exact hp1
 refine ⟨by rw [Z5 d1]; exact Zn,[(Sum.inl (dy:Int),.ref p1)],rfl,(by show 1<=15; decide),Zq ?_⟩
 have S1:Same H (upd (upd (upd H d (.dK [])) p1 (.lst [.int (dy:Nat)])) d (.dK (U4 [] [(Sum.inl (dy:Int),.ref p1)]))):=(((Same.refl H).put hd).put hp1').put hd
 have G1:upd (upd (upd H d (.dK [])) p1 (.lst [.int (dy:Nat)])) d (.dK (U4 [] [(Sum.inl (dy:Int),.ref p1)])) d=some (.dK [(Sum.inl (dy:Int),.ref p1)]):=Zn
 have G2:upd (upd (upd H d (.dK [])) p1 (.lst [.int (dy:Nat)])) d (.dK (U4 [] [(Sum.inl (dy:Int),.ref p1)])) p1=some (.lst ([dy].map nV)):=by rw [Z5 (Ne.symm d1),Zn]; rfl
 generalize upd (upd (upd H d (.dK [])) p1 (.lst [.int (dy:Nat)])) d (.dK (U4 [] [(Sum.inl (dy:Int),.ref p1)]))=H1 at S1 G1 G2 ⊢
 refine Zr (Z9 (Wi (Zb (Za rfl (Zg ⟨by show 1<=sizeLine; decide,λ wa hwa=>Zq ?_⟩)))))
 have nd:d≠wa:=λ z=>by subst z; rw [G1] at hwa; cases hwa
 have n1:p1≠wa:=λ z=>by subst z; rw [G2] at hwa; cases hwa
 have hwa0:H wa=none:=S1.free hwa
 have init:GoodS M.length ([(dy,[dy])],[dy]):=by
  have ms:Ys M.length [(dy,[dy])]+1<=Ys M.length []:=Zcw (C:=[]) (c:=[dy]) hdy rfl
  have m0:Ys M.length []<=M.length:=by
   unfold Ys
   exact Nat.le_trans (List.length_filter_le _ _) (by simp)
  refine ⟨?_,Nat.le_refl _,?_,?_⟩
  · show 1+Ys M.length [(dy,[dy])]<=M.length; omega
  · intro c hc
    have e:c=(dy,[dy]):=by simpa using hc
    subst e
    exact ⟨hdy,Nat.le_refl _⟩
  · intro l hl
    have e:l=dy:=by simpa using hl
    subst e
    simp [inK]
 have m0:Ys M.length [(dy,[dy])]<=M.length:=by
  unfold Ys
  exact Nat.le_trans (List.length_filter_le _ _) (by simp)
 refine Zr (Zys (λ f σ H'=>∃ (s:Ch×List Nat) (kvs:List (Key×V)) (r4 r5 r6:Option V),bfsF M f s=Zx M dy/\2*Ys M.length s.1+s.2.length<f/\GoodS M.length s/\H' d=some (.dK kvs)/\DRep H' wa kvs s.1/\H' wa=some (.lst (s.2.map nV))/\Same H H' /\
  σ=[some (.ref m),some (.int (dy:Nat)),some (.ref d),some (.ref wa),r4,r5,r6]) (m:=2*M.length+2) ⟨([(dy,[dy])],[dy]),[(Sum.inl (dy:Int),.ref p1)],none,none,none,rfl,by show 2*Ys M.length [(dy,[dy])]+1<_; omega,init,by rw [Z5 nd]; exact G1,
  ⟨rfl,⟨p1,rfl,n1,by rw [Z5 n1]; exact G2⟩,True.intro⟩,Zn,S1.put hwa0,rfl⟩ ?_)
 rintro f σ H' ⟨⟨C,ww⟩,kvs,r4,r5,r6,hf,hlt,gs,hd',dr,hw',s',rfl⟩
 replace dr:DRep H' wa kvs C:=dr
 replace hw':H' wa=some (.lst (ww.map nV)):=hw'
 refine Yj (Zh (Yl (Zb (Za rfl (Zg (Xp (SqL.of hw') (w_c (Zd6 (Yq (iteD (λ hgt=>?_) λ hle=>?_))))))))))
 · obtain ⟨l,w,rfl⟩:∃ l w,ww=l::w:=by
    cases ww with
    | nil=>simp at hgt
    | cons l w=>exact ⟨l,w,rfl⟩
   obtain ⟨f',rfl⟩:∃ f',f=f'+1:=⟨f-1,by omega⟩
   have hf':bfsF M f' (rowF l (M.getD l []) 0 (C,w))=Zx M dy:=hf
   have hlt':2*Ys M.length C+w.length<f':=by
    have:2*Ys M.length C+(l::w).length<f'+1:=hlt
    rw [List.length_cons] at this; omega
   have il:inK C l=true:=gs.wt l (by simp)
   have ll:l<M.length:=gs.lt il
   refine ⟨_,λ σ' H'' z=>⟨f',Nat.lt_succ_self _,z⟩,?_⟩
   refine Zr (Z9 (Zht (Za rfl ⟨Hu hw',Zb (w_c (Zg (Z0j (x:=nV l) (xs:=w.map nV) hw' (Zq ?_))))⟩)))
   have nwd:∀ p xs,p≠wa->H' p=some (.lst xs)->upd H' wa (.lst (w.map nV)) p=some (.lst xs):=λ p xs ne e=>by rw [Z5 ne]; exact e
   have d2:upd H' wa (.lst (w.map nV)) d=some (.dK kvs):=by rw [Z5 nd]; exact hd'
   have s2:Same H (upd H' wa (.lst (w.map nV))):=s'.put hwa0
   have w2:upd H' wa (.lst (w.map nV)) wa=some (.lst (w.map nV)):=Zn
   have dr2:=DRep.mono nwd dr
   generalize upd H' wa (.lst (w.map nV))=H2 at d2 s2 w2 dr2 ⊢
   obtain ⟨rp,er,hr⟩:=hrow l ll
   have rl:(M.getD l []).length=M.length:=by
    have e:M.getD l []=M[l]:=by simp [ll]
    rw [e]; exact sq _ (List.getElem_mem ll)
   refine Qc (Zi2 (Zb (Zh (Za rfl (Za rfl (Y9 (SqL.of (s2 _ _ hm)) (Xv er) (Zg ⟨rp,rfl,⟨_,SqL.of (s2 _ _ hr)⟩,Zij (K:=K) (a:=rp)
    (λ i σ H3=>∃ (s:Ch×List Nat) (kvs:List (Key×V)) (r5 r6:Option V),rowF l ((M.getD l []).drop i) i s=rowF l (M.getD l []) 0 (C,w)/\2*Ys M.length s.1+s.2.length<f'/\GoodS M.length s/\inK s.1 l=true/\H3 d=some (.dK kvs)/\DRep H3 wa kvs s.1/\H3 wa=some (.lst (s.2.map nV))/\Same H H3 /\
     σ=[some (.ref m),some (.int (dy:Nat)),some (.ref d),some (.ref wa),some (nV l),r5,r6]) ⟨(C,w),kvs,r5,r6,rfl,hlt',gs.pop,il,d2,dr2,w2,s2,rfl⟩ (λ i σ H3 _ ⟨s,kvs,_,_,_,_,_,_,_,_,_,e,_⟩=>SqL.of (e _ _ hr)) ?_ ?_⟩)))))))
   · rintro i x σ H3 tp hx ⟨⟨C',w'⟩,kvs',r5,r6,hf3,hl3,g3,i3,d3,dr3,w3,s3,rfl⟩ htp
     replace i3:inK C' l=true:=i3
     replace dr3:DRep H3 wa kvs' C':=dr3
     replace w3:H3 wa=some (.lst (w'.map nV)):=w3
     replace hl3:2*Ys M.length C'+w'.length<f':=hl3
     obtain ⟨mk,rfl,hmk⟩:∃ mk:Int,x=.int mk/\(M.getD l [])[i]?=some mk:=by
      rw [List.getElem?_map] at hx
      cases e:(M.getD l [])[i]? with
      | none=>rw [e] at hx; cases hx
      | some z=>rw [e] at hx; exact ⟨z,by simpa using hx.symm,rfl⟩
     have hin:i<M.length:=by
      rw [← rl]
      rcases Nat.lt_or_ge i (M.getD l []).length with z | z
      · exact z
      · rw [List.getElem?_eq_none z] at hmk; cases hmk
     rw [Zbu hmk] at hf3
     have st:Same H3 (upd H3 tp (.tup [.int (i:Nat),.int mk])):=Same.laid htp
     have d4:=st _ _ d3
     have w4:=st _ _ w3
     have s4:=s3.trans st
     have dr4:=DRep.mono (λ p xs _ e=>st p _ e) dr3
     refine Uu (SqT.of Zn) rfl (Xk (Zq (Xk (Zq (Uv ?_)))))
     generalize upd H3 tp (.tup [.int (i:Nat),.int mk])=H4 at d4 w4 s4 dr4 ⊢
     refine Yp (Ea (Yj (Zh (Za rfl (w_c (Zi0 (Yq (iteN (λ hne=>?_) λ he=>?_))))))))
     · refine Zsh (Zwb (Za rfl (Za rfl ⟨d,_,rfl,DGet.k (k:=Sum.inl (i:Int)) d4,Yq ?_⟩)))
       rcases DRep.get (o:=i) dr4 with ⟨ni,ev⟩ | ⟨yi,p,ev,_,_⟩
       · rw [ev]
         refine iteT ?_
         have ef:Xu l i mk (C',w')=(C'++[(i,chOf C' l++[i])],w'++[i]):=by
          unfold Xu; rw [if_pos ⟨hne,ni⟩]
         obtain ⟨ga,gm⟩:=g3.add hin ni i3
         have gsz:=g3.sz
         have gwl:=g3.wl
         have gln:=g3.len i3
         replace gsz:C'.length+Ys M.length C'<=M.length:=gsz
         replace gwl:w'.length<=C'.length:=gwl
         replace gln:(chOf C' l).length<=C'.length:=gln
         rcases DRep.get (o:=l) dr4 with ⟨nl,_⟩ | ⟨_,pl,el,pw,hpl⟩
         · rw [i3] at nl; cases nl
         refine Zr (Z0o (Zh (w_dget (Za rfl (Za rfl ⟨d,_,rfl,el ▸ DGet.k (k:=Sum.inl (l:Int)) d4,Wi (Zb (Za rfl (Zg ⟨by show 1<=sizeLine; decide,λ t1 ht1=>?_⟩)))⟩)))))
         have z1:=Same.laid (o:=.lst [.int (i:Nat)]) ht1
         refine .inr (.inr (.inr ⟨pl,t1,_,_,rfl,rfl,z1 _ _ hpl,Zn,Zfz (by rw [List.length_map]; show _+1<=1000; omega),λ t2 ht2=>?_⟩))
         have z2:=Same.laid (o:=.lst ((chOf C' l).map nV++[.int (i:Nat)])) ht2
         have n2:t2≠wa:=λ z=>by subst z; rw [z1 _ _ w4] at ht2; cases ht2
         have e2:=Zn (H:=upd H4 t1 (.lst [.int (i:Nat)])) (a:=t2) (o:=.lst ((chOf C' l).map nV++[.int (i:Nat)]))
         have d5:=z2 _ _ (z1 _ _ d4)
         have w5:=z2 _ _ (z1 _ _ w4)
         have s5:=(s4.trans z1).trans z2
         have dr5:=DRep.mono (λ p xs _ e=>z2 p _ (z1 p _ e)) dr4
         generalize upd (upd H4 t1 (.lst [.int (i:Nat)])) t2 (.lst ((chOf C' l).map nV++[.int (i:Nat)]))=H5 at d5 w5 s5 dr5 e2 ⊢
         have kl:kvs'.length<sizeLine:=by rw [dr5.len]; exact Ql (by omega)
         refine Za rfl (Za rfl ⟨d,_,rfl,DPut.k (k:=Sum.inl (i:Int)) d5 kl,?_⟩)
         rw [Zib _ ev]
         have ne2:t2≠d:=λ z=>by subst z; rw [d5] at e2; cases e2
         have w6:upd H5 d (.dK (kvs'++[(Sum.inl (i:Int),.ref t2)])) wa=some (.lst (w'.map nV)):=by rw [Z5 (Ne.symm nd)]; exact w5
         have d6:upd H5 d (.dK (kvs'++[(Sum.inl (i:Int),.ref t2)])) d=some (.dK (kvs'++[(Sum.inl (i:Int),.ref t2)])):=Zn
         have s6:Same H (upd H5 d (.dK (kvs'++[(Sum.inl (i:Int),.ref t2)]))):=s5.put hd
         have dr6:DRep (upd H5 d (.dK (kvs'++[(Sum.inl (i:Int),.ref t2)]))) wa (kvs'++[(Sum.inl (i:Int),.ref t2)]) (C'++[(i,chOf C' l++[i])]):=by
          have keep:∀ p xs,p≠wa->H5 p=some (.lst xs)->upd H5 d (.dK (kvs'++[(Sum.inl (i:Int),.ref t2)])) p=some (.lst xs):=λ p xs _ e=>by
           rw [Z5 (λ z=>by subst z; rw [d5] at e; cases e)]; exact e
          refine DRep.snoc n2 (keep _ _ n2 ?_) (DRep.mono keep dr5)
          rw [e2,List.map_append]; rfl
         generalize upd H5 d (.dK (kvs'++[(Sum.inl (i:Int),.ref t2)]))=H6 at d6 w6 s6 dr6 ⊢
         refine J1 (Zht (Za rfl ⟨Hu w6,Zb (Za rfl (Zg (Ht w6 (Ql (by rw [List.length_map]; omega)) ?_)))⟩))
         refine ⟨(C'++[(i,chOf C' l++[i])],w'++[i]),kvs'++[(Sum.inl (i:Int),.ref t2)],_,_,?_,?_,ga,?_,by rw [Z5 nd]; exact d6,DRep.mono (λ p xs ne e=>by rw [Z5 ne]; exact e) dr6,by rw [Zn,List.map_append]; rfl,s6.put hwa0,rfl⟩
         · rw [← ef]; exact hf3
         · show 2*Ys M.length (C'++[(i,chOf C' l++[i])])+(w'++[i]).length<f'; omega
         · show inK (C'++[(i,chOf C' l++[i])]) l=true
           rw [Q6,i3]; rfl
       · rw [ev]
         refine iteF (Yk ⟨(C',w'),kvs',_,_,?_,hl3,g3,i3,d4,dr4,w4,s4,rfl⟩)
         have ef:Xu l i mk (C',w')=(C',w'):=by
          unfold Xu; rw [if_neg (λ z=>by have:=z.2; rw [yi] at this; cases this)]
         rw [← ef]; exact hf3
     · refine iteF (Yk ⟨(C',w'),kvs',_,_,?_,hl3,g3,i3,d4,dr4,w4,s4,rfl⟩)
       have ef:Xu l i mk (C',w')=(C',w'):=by
        unfold Xu; rw [if_neg (λ z=>z.1 he)]
       rw [← ef]; exact hf3
   · rintro σ H3 ⟨s3',kvs',r5,r6,hf3,hl3,g3,i3,d3,dr3,w3,s3,rfl⟩
     rw [List.length_map,List.drop_length] at hf3
     replace hf3:s3'=rowF l (M.getD l []) 0 (C,w):=hf3
     exact ⟨s3',kvs',_,_,_,by rw [hf3]; exact hf',hl3,g3,d3,dr3,w3,s3,rfl⟩
 · have e0:ww=[]:=by
    cases ww with
    | nil=>rfl
    | cons l w=>exact absurd (by simp) hle
   subst e0
   obtain ⟨f',rfl⟩:∃ f',f=f'+1:=⟨f-1,by omega⟩
   have hf':C=Zx M dy:=hf
   exact Yc (Za rfl (q d wa kvs H' s' hd' (by rw [← hf']; exact dr) (by rw [← hf']; exact gs)))
theorem Zh1 {l:Nat} {c0:Nat×List Nat}:∀ (r:List Int) (k:Nat) (C:Ch) (w:List Nat),∃ C' w',rowF l r k (c0::C,w)=(c0::C',w')
 | [],k,C,w=>⟨C,w,rfl⟩
 | m::r,k,C,w=>by
   show ∃ C' w',rowF l r (k+1) (Xu l k m (c0::C,w))=(c0::C',w')
   unfold Xu
   split
   · exact Zh1 r (k+1) (C++[(k,chOf (c0::C) l++[k])]) (w++[k])
   · exact Zh1 r (k+1) C w
theorem Zpv {M:List (List Int)} {c0:Nat×List Nat}:∀ (f:Nat) (C:Ch) (w:List Nat),∃ C',bfsF M f (c0::C,w)=c0::C'
 | 0,C,w=>⟨C,rfl⟩
 | f+1,C,[]=>⟨C,rfl⟩
 | f+1,C,l::w=>by
   show ∃ C',bfsF M f (rowF l (M.getD l []) 0 (c0::C,w))=c0::C'
   obtain ⟨C',w',e⟩:=Zh1 (l:=l) (c0:=c0) (M.getD l []) 0 C w
   rw [e]
   exact Zpv f C' w'
theorem Zhp (M:List (List Int)) (d:Nat):∃ C',Zx M d=(d,[d])::C':=Zpv _ [] [d]
end LB
namespace LB
open PySem L2
def Zha (C:Ch):List Int:=C.map λ c=>(c.1:Int)
def Zej (K:Fq) (mg:Str->Option Value) (a b:V) (H:Hp) (Q:VK) (E:XK):Prop:=∃ (B:List (List Int×List Int)) (m n:Nat) (x:Int),Rep H a (Xj B)/\GoodBook m n B/\m<=8/\b=.int x /\
 (InB B x->∀ (ns:List Int) p H',H p=none->Same H H'->ns.Perm (Zha (Zx (Z4 B) x.toNat))->ns.Pairwise (·<=·)->GoodS B.length (Zx (Z4 B) x.toNat,[])->H' p=some (.lst (ns.map V.int))->Q (.ref p) H')/\(¬ InB B x->E (NoD mg) none H)
def Zee (K:Fq) (mg:Str->Option Value):Sp:=sp2 (Zej K mg)
def Zau (K:Fq) (mg:Str->Option Value) (E:XK):TS :=
 (Zz (Wj (Zy (Xe K mg) [] E (Zd (Zc 0) (Zd (Zc 1) Zj))))
  (Z7 (tCB Zev (Zd (Zy (Xi K) [] E0 (Zd (Zy (Uy K mg) [] E0 (Zd (Zc 0) Zj)) (Zd (Zc 1) Zj))) Zj))))
theorem Js (B:List (List Int×List Int)):(Z4 B).length=B.length:=by simp [Z4]
theorem G7 (B:List (List Int×List Int)):∀ r∈Z4 B,r.length=(Z4 B).length:=by
 intro r hr
 rw [Js]
 obtain ⟨i,_,rfl⟩:=List.mem_map.mp hr
 simp [rowM]
theorem Zll {x:Int} (h:0<=x):V.int x=.int ((x.toNat:Nat):Int):=by rw [Int.toNat_of_nonneg h]
theorem Zes {K:Fq} {mg:Str->Option Value} {a b:V} {H:Hp} {Q:VK} {E:XK} (h:Zej K mg a b H Q E):Zau K mg E (Rt Q) [some a,some b] H:=by
 obtain ⟨B,m,n,x,r,gB,hm,rfl,q1,q2⟩:=h
 unfold Zau
 refine Zr (J1 (Zv (Zb (Za rfl (Zb (Za rfl (Zg ⟨_,_,rfl,B,x,r,rfl,λ ok=>?_,λ bad=>q2 bad⟩)))))))
 have m8:=gB.m8
 have lx:x.toNat<B.length:=by have:=ok.1; have:=ok.2; omega
 refine Yc (Yl (Zb (Zv (Zb (Zv (Zb (Za rfl (Zg ⟨_,rfl,B,m,n,r,gB,hm,λ v H1 s1 mr=>?_⟩))))))))
 refine Zb (Za rfl (Zg ⟨_,_,rfl,Z4 B,x.toNat,mr,by rw [Js]; omega,G7 B,Zll ok.1,by rw [Js]; exact lx,λ p wa kvs H2 s2 hp dr gs=>?_⟩))
 rw [Js] at gs
 have sz:=gs.sz
 replace sz:(Zx (Z4 B) x.toNat).length+Ys B.length (Zx (Z4 B) x.toNat)<=B.length:=sz
 refine Zg (Zl4 hp dr.keys (by rw [List.length_map]; omega) λ ns' pm so t ht=>?_)
 exact q1 ok ns' t _ ((s1.trans s2).free ht) ((s1.trans s2).laidT ht) pm so gs Zn
end LB
namespace LB
open PySem L2
def mkF (M:List (List Int)) (a b:Nat):Int:=(M.getD a []).getD b 0
def Ze5 (M:List (List Int)):List Nat->Prop
 | a::b::r=>mkF M a b≠0/\Ze5 M (b::r)
 | _=>True
structure IsCh (M:List (List Int)) (d o:Nat) (C:Ch) (c:List Nat):Prop where
 hd:c.head?=some d
 la:c.getLast?=some o
 nd:c.Nodup
 mem:∀ x∈c,inK C x=true
 lk:Ze5 M c
def ChOk (M:List (List Int)) (d:Nat) (C:Ch):Prop:=∀ c∈C,IsCh M d c.1 C c.2
theorem Zmg {M:List (List Int)} {k l:Nat} (hm:mkF M l k≠0):∀ {c:List Nat},Ze5 M c->c.getLast?=some l->Ze5 M (c++[k])
 | [],_,h=>by simp at h
 | [a],_,h=>by
   have e:a=l:=by simpa using h
   subst e
   exact ⟨hm,True.intro⟩
 | a::b::r,⟨h1,h2⟩,h=>⟨h1,Zmg (c:=b::r) hm h2 (by simpa using h)⟩
theorem Za3 {C:Ch} {c:Nat×List Nat} (h:c∈C):inK C c.1=true:=by
 unfold inK
 rw [List.any_eq_true]
 exact ⟨c,h,by simp⟩
theorem IsCh.more {M:List (List Int)} {d o:Nat} {C:Ch} {c:List Nat} {x:Nat×List Nat} (h:IsCh M d o C c):IsCh M d o (C++[x]) c :=
 ⟨h.hd,h.la,h.nd,λ y hy=>by obtain ⟨k,e⟩:=x; rw [Q6,h.mem y hy]; rfl,h.lk⟩
theorem ChOk.at {M:List (List Int)} {d o:Nat} {C:Ch} (h:ChOk M d C) (ho:inK C o=true):IsCh M d o C (chOf C o):=by
 obtain ⟨c,hc,e1,e2⟩:=Ub ho
 rw [e2,← e1]; exact h c hc
theorem ChOk.add {M:List (List Int)} {d l k:Nat} {C:Ch} (h:ChOk M d C) (hl:inK C l=true) (hk:inK C k=false) (hm:mkF M l k≠0):ChOk M d (C++[(k,chOf C l++[k])]):=by
 intro c hc
 rcases List.mem_append.mp hc with e | e
 · exact (h c e).more
 · have e':c=(k,chOf C l++[k]):=by simpa using e
   subst e'
   have g:=h.at hl
   refine ⟨?_,?_,?_,?_,Zmg hm g.lk g.la⟩
   · show (chOf C l++[k]).head?=some d
     have:=g.hd
     cases z:chOf C l with
     | nil=>rw [z] at this; simp at this
     | cons a r=>rw [z] at this; simpa using this
   · show (chOf C l++[k]).getLast?=some k
     simp
   · show (chOf C l++[k]).Nodup
     unfold List.Nodup
     rw [List.pairwise_append]
     refine ⟨g.nd,by simp,?_⟩
     intro a ha b hb
     have z:b=k:=by simpa using hb
     subst z
     intro w
     subst w
     rw [g.mem a ha] at hk; cases hk
   · intro x hx
     rw [Q6]
     rcases List.mem_append.mp hx with w | w
     · rw [g.mem x w]; rfl
     · have z:x=k:=by simpa using w
       subst z; simp
theorem Z0a {xs:List Int} {k:Nat} {m:Int} {r:List Int} (h:xs.drop k=m::r):xs.getD k 0=m/\xs.drop (k+1)=r:=by
 have hk:k<xs.length:=by
  rcases Nat.lt_or_ge k xs.length with z | z
  · exact z
  · rw [List.drop_of_length_le z] at h; cases h
 rw [List.drop_eq_getElem_cons hk] at h
 obtain ⟨e1,e2⟩:=List.cons.inj h
 exact ⟨by simp [hk,e1],e2⟩
theorem Zn5 {M:List (List Int)} {d l:Nat}:∀ (r:List Int) (k:Nat) (s:Ch×List Nat),(M.getD l []).drop k=r->ChOk M d s.1->(∀ x∈s.2,inK s.1 x=true)->inK s.1 l=true ->
 ChOk M d (rowF l r k s).1/\(∀ x∈(rowF l r k s).2,inK (rowF l r k s).1 x=true)/\∀ x,inK s.1 x=true->inK (rowF l r k s).1 x=true
 | [],k,s,_,h,hw,_=>⟨h,hw,λ _ z=>z⟩
 | m::r,k,(C,w),hr,h,hw,hl=>by
   obtain ⟨e1,e2⟩:=Z0a hr
   show ChOk M d (rowF l r (k+1) (Xu l k m (C,w))).1/\(∀ x∈(rowF l r (k+1) (Xu l k m (C,w))).2,inK (rowF l r (k+1) (Xu l k m (C,w))).1 x=true)/\∀ x,inK C x=true->inK (rowF l r (k+1) (Xu l k m (C,w))).1 x=true
   by_cases z:m≠0/\inK C k=false
   · have es:Xu l k m (C,w)=(C++[(k,chOf C l++[k])],w++[k]):=by unfold Xu; rw [if_pos z]
     rw [es]
     obtain ⟨a1,a2,a3⟩:=Zn5 r (k+1) (C++[(k,chOf C l++[k])],w++[k]) e2 (h.add hl z.2 (by unfold mkF; rw [e1]; exact z.1)) (λ x hx=>by
      show inK (C++[(k,chOf C l++[k])]) x=true
      rw [Q6]
      rcases List.mem_append.mp hx with q | q
      · rw [hw x q]; rfl
      · have z:x=k:=by simpa using q
        subst z; simp) (by show inK (C++[(k,chOf C l++[k])]) l=true; rw [Q6]; replace hl:inK C l=true:=hl; rw [hl]; rfl)
     exact ⟨a1,a2,λ x hx=>a3 x (by show inK (C++[(k,chOf C l++[k])]) x=true; rw [Q6,hx]; rfl)⟩
   · have es:Xu l k m (C,w)=(C,w):=by unfold Xu; rw [if_neg z]
     rw [es]
     exact Zn5 r (k+1) (C,w) e2 h hw hl
theorem Zv0 {M:List (List Int)} {d:Nat}:∀ (f:Nat) (s:Ch×List Nat),ChOk M d s.1->(∀ x∈s.2,inK s.1 x=true)->ChOk M d (bfsF M f s)
 | 0,s,h,_=>h
 | f+1,(C,[]),h,_=>h
 | f+1,(C,l::w),h,hw=>by
   obtain ⟨a1,a2,_⟩:=Zn5 (d:=d) (l:=l) (M.getD l []) 0 (C,w) (by simp) h (λ x hx=>hw x (by simp [hx])) (hw l (by simp))
   exact Zv0 f _ a1 a2
theorem Zgx (M:List (List Int)) (d:Nat):ChOk M d (Zx M d):=by
 refine Zv0 _ _ ?_ ?_
 · intro c hc
   have e:c=(d,[d]):=by simpa using hc
   subst e
   have hk:∀ x∈[d],inK [(d,[d])] x=true:=by
    intro x hx
    have z:x=d:=by simpa using hx
    subst z; simp [inK]
   exact ⟨rfl,rfl,by simp,hk,True.intro⟩
 · intro x hx
   have z:x=d:=by simpa using hx
   subst z; simp [inK]
end LB
namespace LB
open PySem L2
def Xw (i:Nat):List Int->Nat->List (Nat×Nat)
 | [],_=>[]
 | m::r,k=>(if m=2 then [(i,k)] else [])++Xw i r (k+1)
def Qf:List (List Int)->Nat->List (Nat×Nat)
 | [],_=>[]
 | row::R,i=>Xw i row 0++Qf R (i+1)
def Jo (M:List (List Int)):List (Nat×Nat):=Qf M 0
def oneF (M:List (List Int)) (x y:Nat) (s:Nat×Nat):Option (List Nat):=if inK (Zx M x) s.1=true/\inK (Zx M s.2) y=true then some (chOf (Zx M x) s.1++chOf (Zx M s.2) y) else none
def J2 (M:List (List Int)) (x y:Nat):Option (List Nat):=(Jo M).findSome? (oneF M x y)
def StRep (H:Hp) (rs:List V) (S:List (Nat×Nat)):Prop:=rs.length=S.length/\∀ (i:Nat) s,S[i]?=some s->∃ t,rs[i]?=some (.ref t)/\H t=some (.tup [nV s.1,nV s.2])
def Zcs (K:Fq) (a:V) (H:Hp) (Q:VK) (E:XK):Prop:=∃ M:List (List Int),MRep H a M/\M.length<=8/\(∀ r∈M,r.length=M.length)/\∀ l rs H',Same H H'->H' l=some (.lst rs)->StRep H' rs (Jo M)->Q (.ref l) H'
def Jq (K:Fq):Sp:=sp1 (Zcs K)
def Vt (K:Fq) (mg:Str->Option Value) (a b c:V) (H:Hp) (Q:VK) (E:XK):Prop:=∃ (B:List (List Int×List Int)) (m n:Nat) (x y:Int),Rep H a (Xj B)/\GoodBook m n B/\m<=8/\b=.int x/\c=.int y /\
 (InB B x->InB B y->∀ v H',Same H H'->((J2 (Z4 B) x.toNat y.toNat=none/\v=.non)\/∃ c p,J2 (Z4 B) x.toNat y.toNat=some c/\c.length<=16/\v=.ref p/\H' p=some (.lst (c.map nV)))->Q v H')/\(¬ (InB B x/\InB B y)->E (NoD mg) none H)
def Vk (K:Fq) (mg:Str->Option Value):Sp:=sp3 (Vt K mg)
def Vf (K:Fq):TS :=
 (Zz (Yi (Wy Zj) (Zo 1))
  (Zz (Qo (Zch K (Zd (Zc 0) Zj)) (K3 K 2 (Xo (Zo 2) (Xo (Zo 3) K4))) (Qo (Zch K (Zd (Zc 3) Zj)) (K3 K 2 (Xo (Zo 4) (Xo (Zo 5) K4))) (Yt (Yn (tOp (rEqU K) (Zc 5) (tC (.int 2)))) (Wj (tBM K "list" K6 (Zc 1) (Zd (Jw (Zd (Zc 2) (Zd (Zc 4) Zj))) Zj))) Yo)))
  (Z7 (Zc 1))))
def W2 (K:Fq) (mg:Str->Option Value) (E:XK):TS :=
 (Zz (Wj (Zy (Xe K mg) [] E (Zd (Zc 0) (Zd (Zc 1) Zj))))
  (Zz (Wj (Zy (Xe K mg) [] E (Zd (Zc 0) (Zd (Zc 2) Zj))))
  (Zz (Yi (Zy (Uy K mg) [] E0 (Zd (Zc 0) Zj)) (Zo 3))
  (Zz (Yi (Zy (Xi K) [] E0 (Zd (Zc 3) (Zd (Zc 1) Zj))) (Zo 4))
  (Zz (Qo (iSeq K (Zy (Jq K) [] E0 (Zd (Zc 3) Zj))) (Zo 5) (Zz (Yi (Zy (Xi K) [] E0 (Zd (Zc 3) (Zd (tOp (rIx K) (Zc 5) (tC (.int 1))) Zj))) (Zo 6))
  (Yt (Zbn (tB (Znu (tOp (rIx K) (Zc 5) (tC (.int 0))) (Zc 4))) (tB (Znu (Zc 2) (Zc 6)))) (Z7 (tOp (rAddU K) (U8 (Zc 4) (tOp (rIx K) (Zc 5) (tC (.int 0)))) (U8 (Zc 6) (Zc 2)))) Yo)))
  (Z7 (tC .non)))))))
theorem Zq5 (i:Nat):∀ (r:List Int) (k:Nat),(Xw i r k).length<=r.length
 | [],_=>Nat.le_refl _
 | m::r,k=>by
   have:=Zq5 i r (k+1)
   unfold Xw
   rw [List.length_append,List.length_cons]
   split
   · rw [List.length_singleton]; omega
   · rw [List.length_nil]; omega
theorem Zsf {n:Nat}:∀ (R:List (List Int)) (i:Nat),(∀ r∈R,r.length<=n)->(Qf R i).length<=R.length*n
 | [],_,_=>Nat.zero_le _
 | row::R,i,h=>by
   have h1:=Zsf R (i+1) (λ r hr=>h r (by simp [hr]))
   have h2:=Zq5 i row 0
   have h3:=h row (by simp)
   unfold Qf
   rw [List.length_append,List.length_cons,Nat.succ_mul]; omega
theorem Zt3 {M:List (List Int)} (h8:M.length<=8) (sq:∀ r∈M,r.length=M.length):(Jo M).length<=64:=by
 have:=Zsf (n:=8) M 0 (λ r hr=>by rw [sq r hr]; exact h8)
 have e:M.length*8<=64:=by omega
 exact Nat.le_trans this e
theorem StRep.tu {H H':Hp} {rs:List V} {S:List (Nat×Nat)} (t:Tu H H') (h:StRep H rs S):StRep H' rs S:=⟨h.1,λ i s e=>by obtain ⟨p,e1,e2⟩:=h.2 i s e; exact ⟨p,e1,t _ _ e2⟩⟩
theorem StRep.snoc {H:Hp} {rs:List V} {S:List (Nat×Nat)} {t:Addr} {a b:Nat} (h:StRep H rs S) (ht:H t=some (.tup [nV a,nV b])):StRep H (rs++[.ref t]) (S++[(a,b)]):=by
 refine ⟨by rw [List.length_append,List.length_append,h.1]; rfl,λ i s e=>?_⟩
 by_cases hi:i<S.length
 · rw [List.getElem?_append_left hi] at e
   obtain ⟨p,e1,e2⟩:=h.2 i s e
   exact ⟨p,by rw [List.getElem?_append_left (by rw [h.1]; exact hi)]; exact e1,e2⟩
 · rw [List.getElem?_append_right (by omega)] at e
   have hz:i-S.length=0:=by
    by_cases z:i-S.length=0
    · exact z
    · rw [List.getElem?_eq_none (by simp; omega)] at e; cases e
   rw [hz] at e
   have e':(a,b)=s:=by simpa using e
   subst e'
   refine ⟨t,?_,ht⟩
   rw [List.getElem?_append_right (by rw [h.1]; omega),h.1,hz]; rfl
theorem Zjp {K:Fq} {a:V} {H:Hp} {Q:VK} {E:XK} (h:Zcs K a H Q E):Vf K (Rt Q) [some a,none,none,none,none,none] H:=by
 obtain ⟨M,⟨m,rs,rfl,hm,hrs,hrow⟩,n8,sq,q⟩:=h
 have s64:=Zt3 n8 sq
 unfold Vf
 refine Zr (Z9 (Wi (Zg ⟨Nat.zero_le _,λ l hl=>Zq ?_⟩)))
 refine Zr (Qc (Zi2 (Zb (Za rfl (Zg ⟨m,rfl,⟨_,SqL.of (Same.laid hl _ _ hm)⟩,Zij (K:=K) (a:=m)
  (λ i σ H1=>∃ (S:List (Nat×Nat)) (zs:List V) (r2 r3 r4 r5:Option V),S++Qf (M.drop i) i=Jo M/\H1 l=some (.lst zs)/\StRep H1 zs S/\Same H H1/\σ=[some (.ref m),some (.ref l),r2,r3,r4,r5])
  ⟨[],[],none,none,none,none,rfl,Zn,⟨rfl,λ i s e=>by simp at e⟩,Same.laid hl,rfl⟩ (λ i σ H1 _ ⟨_,_,_,_,_,_,_,_,_,e,_⟩=>SqL.of (e _ _ hm)) ?_ ?_⟩)))))
 · rintro i x σ H1 tp hx ⟨S,zs,r2,r3,r4,r5,hS,hz,sr,s1,rfl⟩ htp
   have hi:i<M.length:=by
    rw [← hrs]
    rcases Nat.lt_or_ge i rs.length with z | z
    · exact z
    · rw [List.getElem?_eq_none z] at hx; cases hx
   obtain ⟨rp,er,hr⟩:=hrow i hi
   rw [er] at hx
   have hx':V.ref rp=x:=by simpa using hx
   subst hx'
   have eM:M.drop i=M.getD i []::M.drop (i+1):=by
    have e:M[i]?=some (M.getD i []):=by simp [hi]
    exact Zbu e
   rw [eM] at hS
   replace hS:S++(Xw i (M.getD i []) 0++Qf (M.drop (i+1)) (i+1))=Jo M:=hS
   have st:=Same.laid (o:=.tup [.int (i:Nat),.ref rp]) htp
   refine Uu (SqT.of Zn) rfl (Xk (Zq (Xk (Zq (Uv ?_)))))
   have hz2:=st _ _ hz
   have sr2:=sr.tu st.tu
   have s2:=s1.trans st
   generalize upd H1 tp (.tup [.int (i:Nat),.ref rp])=H2 at hz2 sr2 s2 ⊢
   refine Qc (Zi2 (Zb (Za rfl (Zg ⟨rp,rfl,⟨_,SqL.of (s2 _ _ hr)⟩,Zij (K:=K) (a:=rp)
    (λ k σ H3=>∃ (S':List (Nat×Nat)) (zs:List V) (r4 r5:Option V),S'++(Xw i ((M.getD i []).drop k) k++Qf (M.drop (i+1)) (i+1))=Jo M/\H3 l=some (.lst zs)/\StRep H3 zs S'/\Same H H3/\σ=[some (.ref m),some (.ref l),some (.int (i:Nat)),some (.ref rp),r4,r5])
    ⟨S,zs,_,_,hS,hz2,sr2,s2,rfl⟩ (λ k σ H3 _ ⟨_,_,_,_,_,_,_,e,_⟩=>SqL.of (e _ _ hr)) ?_ ?_⟩))))
   · rintro k x σ H3 tp hx ⟨S',zs,r4,r5,hS',hz3,sr3,s3,rfl⟩ htp
     obtain ⟨mk,rfl,hmk⟩:∃ mk:Int,x=.int mk/\(M.getD i [])[k]?=some mk:=by
      rw [List.getElem?_map] at hx
      cases e:(M.getD i [])[k]? with
      | none=>rw [e] at hx; cases hx
      | some z=>rw [e] at hx; exact ⟨z,by simpa using hx.symm,rfl⟩
     rw [Zbu hmk] at hS'
     have st:=Same.laid (o:=.tup [.int (k:Nat),.int mk]) htp
     refine Uu (SqT.of Zn) rfl (Xk (Zq (Xk (Zq (Uv ?_)))))
     have hz4:=st _ _ hz3
     have sr4:=sr3.tu st.tu
     have s4:=s3.trans st
     generalize upd H3 tp (.tup [.int (k:Nat),.int mk])=H4 at hz4 sr4 s4 ⊢
     refine Yp (Yj (Zh (Za rfl (w_c (Xm (Yq (iteD (λ h2=>?_) λ h2=>?_)))))))
     · have eS:Xw i (mk::(M.getD i []).drop (k+1)) k=[(i,k)]++Xw i ((M.getD i []).drop (k+1)) (k+1):=by
        show (if mk=2 then [(i,k)] else [])++_=_
        rw [if_pos h2]
       rw [eS] at hS'
       have lS:S'.length+1<=64:=by
        have:=congrArg List.length hS'
        simp only [List.length_append,List.length_singleton] at this
        omega
       refine J1 (Zht (Za rfl ⟨Hu hz4,Zb (Wh (Zb (Za rfl (Zb (Za rfl (Zg ⟨by show 2<=sizeLine; decide,λ t ht=>?_⟩))))))⟩))
       have zt:=Same.laid (o:=.tup [nV i,nV k]) ht
       have hz5:=zt _ _ hz4
       refine Zg (Ht hz5 (Ql (by rw [sr4.1]; omega)) ?_)
       refine ⟨S'++[(i,k)],zs++[.ref t],_,_,by rw [List.append_assoc,← hS',List.append_assoc],Zn,?_,?_,rfl⟩
       · refine StRep.tu (Tu.put hz5) (StRep.snoc (sr4.tu zt.tu) Zn)
       · exact (s4.trans zt).put hl
     · have eS:Xw i (mk::(M.getD i []).drop (k+1)) k=Xw i ((M.getD i []).drop (k+1)) (k+1):=by
        show (if mk=2 then [(i,k)] else [])++_=_
        rw [if_neg h2]; rfl
       rw [eS] at hS'
       exact Yk ⟨S',zs,_,_,hS',hz4,sr4,s4,rfl⟩
   · rintro σ H3 ⟨S',zs,r4,r5,hS',hz3,sr3,s3,rfl⟩
     rw [List.length_map,List.drop_length] at hS'
     exact ⟨S',zs,_,_,_,_,hS',hz3,sr3,s3,rfl⟩
 · rintro σ H1 ⟨S,zs,r2,r3,r4,r5,hS,hz,sr,s1,rfl⟩
   rw [hrs,List.drop_length] at hS
   have hS':S=Jo M:=by rw [← hS]; simp [Qf]
   refine Yc (Za rfl (q l zs H1 s1 hz ?_))
   rw [← hS']; exact sr
theorem Zq4 {i:Nat}:∀ (r:List Int) (k:Nat) (s:Nat×Nat),s∈Xw i r k->s.1=i/\k<=s.2/\r[s.2-k]?=some 2
 | [],k,s,h=>by simp [Xw] at h
 | m::r,k,s,h=>by
   unfold Xw at h
   rcases List.mem_append.mp h with e | e
   · by_cases z:m=2
     · rw [if_pos z] at e
       have e':s=(i,k):=by simpa using e
       subst e'
       exact ⟨rfl,Nat.le_refl _,by simp [z]⟩
     · rw [if_neg z] at e; simp at e
   · obtain ⟨a1,a2,a3⟩:=Zq4 r (k+1) s e
     refine ⟨a1,by omega,?_⟩
     rw [show s.2-k=(s.2-(k+1))+1 by omega]
     simpa using a3
theorem Zrk {i:Nat}:∀ (r:List Int) (k j:Nat),r[j]?=some 2->(i,k+j)∈Xw i r k
 | [],k,j,h=>by simp at h
 | m::r,k,0,h=>by
   have e:m=2:=by simpa using h
   unfold Xw
   rw [if_pos e]; simp
 | m::r,k,j+1,h=>by
   unfold Xw
   refine List.mem_append.mpr (.inr ?_)
   have:=Zrk (i:=i) r (k+1) j (by simpa using h)
   rw [show k+(j+1)=k+1+j by omega]; exact this
theorem Zd5:∀ (R:List (List Int)) (i:Nat) (s:Nat×Nat),s∈Qf R i->i<=s.1/\∃ row,R[s.1-i]?=some row/\row[s.2]?=some 2
 | [],i,s,h=>by simp [Qf] at h
 | row::R,i,s,h=>by
   unfold Qf at h
   rcases List.mem_append.mp h with e | e
   · obtain ⟨a1,a2,a3⟩:=Zq4 row 0 s e
     refine ⟨by omega,row,?_,by simpa using a3⟩
     rw [show s.1-i=0 by omega]; rfl
   · obtain ⟨a1,row',a2,a3⟩:=Zd5 R (i+1) s e
     refine ⟨by omega,row',?_,a3⟩
     rw [show s.1-i=(s.1-(i+1))+1 by omega]
     simpa using a2
theorem Zli:∀ (R:List (List Int)) (i a b:Nat) (row:List Int),R[a]?=some row->row[b]?=some 2->(i+a,b)∈Qf R i
 | [],_,_,_,_,h,_=>by simp at h
 | r::R,i,0,b,row,h,hb=>by
   have e:r=row:=by simpa using h
   subst e
   unfold Qf
   refine List.mem_append.mpr (.inl ?_)
   have:=Zrk (i:=i) r 0 b hb
   simpa using this
 | r::R,i,a+1,b,row,h,hb=>by
   unfold Qf
   refine List.mem_append.mpr (.inr ?_)
   have:=Zli R (i+1) a b row (by simpa using h) hb
   rw [show i+(a+1)=i+1+a by omega]; exact this
theorem Vz {K:Fq} {mg:Str->Option Value} {a b c:V} {H:Hp} {Q:VK} {E:XK} (h:Vt K mg a b c H Q E):W2 K mg E (Rt Q) [some a,some b,some c,none,none,none,none] H:=by
 obtain ⟨B,m,n,x,y,r,gB,hm,rfl,rfl,q1,q2⟩:=h
 unfold W2
 refine Zr (J1 (Zv (Zb (Za rfl (Zb (Za rfl (Zg ⟨_,_,rfl,B,x,r,rfl,λ okx=>?_,λ bad=>q2 λ z=>bad z.1⟩)))))))
 refine Zr (J1 (Zv (Zb (Za rfl (Zb (Za rfl (Zg ⟨_,_,rfl,B,y,r,rfl,λ oky=>?_,λ bad=>q2 λ z=>bad z.2⟩)))))))
 have m8:=gB.m8
 have lx:x.toNat<B.length:=by have:=okx.1; have:=okx.2; omega
 have ly:y.toNat<B.length:=by have:=oky.1; have:=oky.2; omega
 have q':=q1 okx oky
 have ML:(Z4 B).length<=8:=by rw [Js]; omega
 rw [Zll okx.1,Zll oky.1]
 generalize x.toNat=xn at lx q' ⊢
 generalize y.toNat=yn at ly q' ⊢
 refine Zr (Z9 (Zv (Zb (Za rfl (Zg ⟨_,rfl,B,m,n,r,gB,hm,λ mv H1 s1 mr=>Zq ?_⟩)))))
 refine Zr (Z9 (Zv (Zb (Za rfl (Zb (Za rfl (Zg ⟨_,_,rfl,Z4 B,xn,mr,ML,G7 B,rfl,by rw [Js]; exact lx,λ d wa kvs H2 s2 hd dr gs=>Zq ?_⟩)))))))
 have mono:∀ {H H':Hp} {v:V} {M:List (List Int)},Same H H'->MRep H v M->MRep H' v M:=λ s ⟨m,rs,e,h1,h2,h3⟩=>⟨m,rs,e,s _ _ h1,h2,λ i hi=>by obtain ⟨p,e1,e2⟩:=h3 i hi; exact ⟨p,e1,s _ _ e2⟩⟩
 have mr2:=mono s2 mr
 refine Zr (Qc (X3 (Zv (Zb (Za rfl (Zg ⟨_,rfl,Z4 B,mr2,ML,G7 B,λ l rs H3 s3 hl sr=>?_⟩))))))
 refine ⟨l,rfl,.inl ⟨⟨_,SqL.of hl⟩,Jj (K:=K) (a:=l) (λ i σ H4=>Same H3 H4/\J2 (Z4 B) xn yn=((Jo (Z4 B)).drop i).findSome? (oneF (Z4 B) xn yn)/\∃ r5 r6,σ=[some a,some (.int (xn:Nat)),some (.int (yn:Nat)),some mv,some (.ref d),r5,r6]) ⟨λ _ _ z=>z,rfl,_,_,rfl⟩ (λ i σ H4 _ ⟨e,_⟩=>SqL.of (e _ _ hl)) ?_ ?_⟩⟩
 · rintro i e σ H4 he ⟨s4,hf,r5,r6,rfl⟩
   obtain ⟨s,hs⟩:∃ s,(Jo (Z4 B))[i]?=some s:=by
    have hi:i<rs.length:=by
     rcases Nat.lt_or_ge i rs.length with z | z
     · exact z
     · rw [List.getElem?_eq_none z] at he; cases he
    rw [sr.1] at hi
    exact ⟨_,List.getElem?_eq_getElem hi⟩
   obtain ⟨t,e1,e2⟩:=sr.2 i s hs
   rw [e1] at he
   have he':V.ref t=e:=by simpa using he
   subst he'
   obtain ⟨_,row,ar,ab⟩:=Zd5 _ 0 s (List.mem_of_getElem? hs)
   have s1n:s.1<(Z4 B).length:=by
    rcases Nat.lt_or_ge s.1 (Z4 B).length with z | z
    · exact z
    · rw [List.getElem?_eq_none (by omega)] at ar; cases ar
   have s2n:s.2<(Z4 B).length:=by
    have rl:=G7 B row (List.mem_of_getElem? ar)
    rcases Nat.lt_or_ge s.2 (Z4 B).length with z | z
    · exact z
    · rw [List.getElem?_eq_none (by omega)] at ab; cases ab
   rw [Zbu hs,List.findSome?_cons] at hf
   have ht:=s4 _ _ e2
   refine Zq (Zr (Z9 (Zv (Zb (Za rfl (Zb (Zh (Za rfl (w_c (Yd (v:=nV s.2) (SqT.of ht) rfl ?_))))))))))
   refine Zg ⟨_,_,rfl,Z4 B,s.2,mono (s3.trans s4) mr2,ML,G7 B,rfl,s2n,λ d2 wa2 kvs2 H5 s5 hd2 dr2 gs2=>Zq ?_⟩
   have s35:=(s3.trans s4).trans s5
   have hd5:=s35 _ _ hd
   have dr5:=DRep.mono (λ p xs _ e=>s35 p _ e) dr
   refine Yp (Ea (Zsh (Zsk (Zh (Za rfl (w_c (Yd (v:=nV s.1) (SqT.of (s5 _ _ ht)) rfl (Za rfl ⟨d,_,rfl,DGet.k (k:=Sum.inl (s.1:Int)) hd5,Yq ?_⟩))))))))
   rcases DRep.get (o:=s.1) dr5 with ⟨n1,ev1⟩ | ⟨y1,p1,ev1,_,hp1⟩
   · rw [ev1]
     refine iteF (iteF (Yk ⟨s4.trans s5,?_,_,_,rfl⟩))
     rw [hf]
     have z:oneF (Z4 B) xn yn s=none:=by unfold oneF; rw [if_neg (λ w=>by rw [n1] at w; exact absurd w.1 (by decide))]
     rw [z]
   · rw [ev1]
     refine iteT (Zsh (Zsk (Za rfl (Za rfl ⟨d2,_,rfl,DGet.k (k:=Sum.inl (yn:Int)) hd2,Yq ?_⟩))))
     rcases DRep.get (o:=yn) dr2 with ⟨n2,ev2⟩ | ⟨y2,p2,ev2,_,hp2⟩
     · rw [ev2]
       refine iteF (Yk ⟨s4.trans s5,?_,_,_,rfl⟩)
       rw [hf]
       have z:oneF (Z4 B) xn yn s=none:=by unfold oneF; rw [if_neg (λ w=>by rw [n2] at w; exact absurd w.2 (by decide))]
       rw [z]
     · rw [ev2]
       have z:oneF (Z4 B) xn yn s=some (chOf (Zx (Z4 B) xn) s.1++chOf (Zx (Z4 B) s.2) yn):=by unfold oneF; rw [if_pos ⟨y1,y2⟩]
       rw [z] at hf
       have c1:=gs.len y1
       have c2:=gs2.len y2
       have z1:=gs.sz
       have z2:=gs2.sz
       replace c1:(chOf (Zx (Z4 B) xn) s.1).length<=(Zx (Z4 B) xn).length:=c1
       replace c2:(chOf (Zx (Z4 B) s.2) yn).length<=(Zx (Z4 B) s.2).length:=c2
       replace z1:(Zx (Z4 B) xn).length+Ys (Z4 B).length (Zx (Z4 B) xn)<=(Z4 B).length:=z1
       replace z2:(Zx (Z4 B) s.2).length+Ys (Z4 B).length (Zx (Z4 B) s.2)<=(Z4 B).length:=z2
       refine iteT (Yc (Zh (w_dget (Za rfl (Zh (Za rfl (w_c (Yd (v:=nV s.1) (SqT.of (s5 _ _ ht)) rfl ⟨d,_,rfl,ev1 ▸ DGet.k (k:=Sum.inl (s.1:Int)) hd5,?_⟩))))))))
       refine w_dget (Za rfl (Za rfl ⟨d2,_,rfl,ev2 ▸ DGet.k (k:=Sum.inl (yn:Int)) hd2,?_⟩))
       refine .inr (.inr (.inr ⟨p1,p2,_,_,rfl,rfl,hp1,hp2,Zfz (by rw [List.length_map,List.length_map]; omega),λ t2 ht2=>?_⟩))
       refine q' _ _ (((((s1.trans s2).trans s3).trans s4).trans s5).laidT ht2) (.inr ⟨_,t2,hf,by rw [List.length_append]; omega,rfl,?_⟩)
       rw [Zn,List.map_append]
 · rintro σ H4 ⟨s4,hf,r5,r6,rfl⟩
   rw [sr.1,List.drop_length] at hf
   show Z7 (tC .non) (Rt Q) [some a,some (.int (xn:Nat)),some (.int (yn:Nat)),some mv,some (.ref d),r5,r6] H4
   exact Yc (w_c (q' _ _ (((s1.trans s2).trans s3).trans s4) (.inl ⟨hf,rfl⟩)))
end LB
namespace LB
open PySem L2
def gapF (B:List (List Int×List Int)) (i j:Nat):Int:=Qj B i j-Qj B i i
theorem Zif {B:List (List Int×List Int)} {i j:Nat} (hi:i<B.length) (hj:j<B.length):mkF (Z4 B) i j=Za0 B i j:=by
 unfold mkF Z4 rowM
 simp [hi,hj]
theorem Zre {B:List (List Int×List Int)} {i j:Nat}:Za0 B i j≠0↔gapF B i j<=0:=by
 unfold Za0 Jz gapF
 generalize Qj B i j-Qj B i i=g
 split
 · constructor <;> intro _ <;> omega
 · split
   · constructor <;> intro _ <;> omega
   · constructor
     · intro h; exact absurd rfl h
     · intro h; omega
theorem Zoo {B:List (List Int×List Int)} {i j:Nat}:Za0 B i j=2↔gapF B i j<0:=by
 unfold Za0 Jz gapF
 generalize Qj B i j-Qj B i i=g
 split
 · constructor <;> intro _ <;> omega
 · split
   · constructor <;> intro _ <;> omega
   · constructor <;> intro _ <;> omega
theorem Zn6 {n l:Nat}:∀ (r:List Int) (k:Nat) (s:Ch×List Nat),r.length+k<=n->(∀ c∈s.1,c.1<n)->∀ c∈(rowF l r k s).1,c.1<n
 | [],_,s,_,h=>h
 | m::r,k,(C,w),hn,h=>by
   rw [List.length_cons] at hn
   show ∀ c∈(rowF l r (k+1) (Xu l k m (C,w))).1,c.1<n
   refine Zn6 r (k+1) _ (by omega) ?_
   unfold Xu
   split
   · intro c hc
     rcases List.mem_append.mp hc with e | e
     · exact h c e
     · have e':c=(k,chOf C l++[k]):=by simpa using e
       subst e'
       show k<n; omega
   · exact h
theorem Zpu {M:List (List Int)} {n:Nat} (hM:∀ l,(M.getD l []).length<=n):∀ (f:Nat) (s:Ch×List Nat),(∀ c∈s.1,c.1<n)->∀ c∈bfsF M f s,c.1<n
 | 0,_,h=>h
 | _+1,(_,[]),h=>h
 | f+1,(C,l::w),h=>Zpu hM f _ (Zn6 (M.getD l []) 0 (C,w) (by have:=hM l; omega) h)
theorem Zmd (B:List (List Int×List Int)) (l:Nat):((Z4 B).getD l []).length<=B.length:=by
 by_cases h:l<B.length
 · simp [Z4,rowM,h]
 · rw [List.getD,List.getElem?_eq_none (by rw [Js]; omega)]; simp
theorem Zdz {B:List (List Int×List Int)} {d o:Nat} (hd:d<B.length) (h:inK (Zx (Z4 B) d) o=true):o<B.length:=by
 obtain ⟨c,hc,e,_⟩:=Ub h
 rw [← e]
 refine Zpu (Zmd B) _ _ ?_ c hc
 intro c hc
 have e':c=(d,[d]):=by simpa using hc
 subst e'; exact hd
abbrev cI (c:List Nat):List Int:=c.map λ (k:Nat)=>(k:Int)
theorem Zzm (c:List Nat):c.map nV=(cI c).map V.int:=by rw [List.map_map]; rfl
theorem Zp2 {B:List (List Int×List Int)} {x y:Nat} (h:J2 (Z4 B) x y=none) (hx:x<B.length) {o b:Nat} (ho:inK (Zx (Z4 B) x) o=true) (hb:b<B.length) (hg:gapF B o b<0):inK (Zx (Z4 B) b) y=false:=by
 have on:=Zdz hx ho
 unfold J2 at h
 rw [List.findSome?_eq_none_iff] at h
 have m2:(rowM B o)[b]?=some 2:=by
  have:=Zoo.mpr hg
  simp [rowM,hb,this]
 have hm:=Zli (Z4 B) 0 o b (rowM B o) (by simp [Z4,on]) m2
 rw [Nat.zero_add] at hm
 have:=h (o,b) hm
 unfold oneF at this
 split at this
 case isTrue=>cases this
 case isFalse z =>
  cases e:inK (Zx (Z4 B) b) y with
  | false=>rfl
  | true=>exact absurd ⟨ho,e⟩ z
theorem Zfy:∀ {a b:List Int},a.Perm b->a.Pairwise (·<=·)->b.Pairwise (·<=·)->a=b
 | [],b,h,_,_=>(List.nil_perm.mp h).symm
 | x::a,[],h,_,_=>absurd h.length_eq (by simp)
 | x::a,y::b,h,ha,hb=>by
   have ha':=List.pairwise_cons.mp ha
   have hb':=List.pairwise_cons.mp hb
   have e:x=y:=by
    have h1:y<=x:=by
     rcases List.mem_cons.mp (h.mem_iff.mp (List.mem_cons_self ..)) with z | z
     · omega
     · exact hb'.1 x z
    have h2:x<=y:=by
     rcases List.mem_cons.mp (h.mem_iff.mpr (List.mem_cons_self ..)) with z | z
     · omega
     · exact ha'.1 y z
    omega
   subst e
   rw [Zfy ((List.perm_cons x).mp h) ha'.2 hb'.2]
end LB
namespace LB
open PySem L2
abbrev Dw (x:Int):Prop:=0<=x/\x<10000000000000000000000000000000000000000
def Zhe (K:Fq) (a b c:V) (H:Hp) (Q:VK) (E:XK):Prop:=∃ (dl:Addr) (ds:List Int) (m n:Nat),a=.ref dl/\H dl=some (.lst (ds.map V.int))/\(∀ x∈ds,Dw x)/\b=.int m/\c=.int n/\1<=m/\m<=8/\1<=n/\n<=6/\1+2*n*m<=ds.length/\ds.length<=200 /\
 ∀ v B k H',Same H H'->Rep H' v (Xj B)->GoodBook m k B->k<=n->Q v H'
def Zv7 (K:Fq):Sp:=sp3 (Zhe K)
end LB
namespace LB
open PySem L2
end LB
namespace LB
open PySem L2
theorem Zjl {n l:Nat}:∀ (r:List Int) (k:Nat) (s:Ch×List Nat),r.length+k<=n->GoodS n s->inK s.1 l=true ->
 GoodS n (rowF l r k s)/\2*Ys n (rowF l r k s).1+(rowF l r k s).2.length<=2*Ys n s.1+s.2.length/\(∀ x,inK s.1 x=true->inK (rowF l r k s).1 x=true) /\
 (∀ j,j<r.length->r.getD j 0≠0->inK (rowF l r k s).1 (k+j)=true)/\(∀ x∈s.2,x∈(rowF l r k s).2)/\∀ x,inK (rowF l r k s).1 x=true->inK s.1 x=true\/x∈(rowF l r k s).2
 | [],k,s,_,g,_=>⟨g,Nat.le_refl _,λ _ h=>h,λ j h=>by simp at h,λ _ h=>h,λ _ h=>.inl h⟩
 | m::r,k,(C,w),hn,g,hl=>by
   rw [List.length_cons] at hn
   replace hl:inK C l=true:=hl
   by_cases z:m≠0/\inK C k=false
   · have es:Xu l k m (C,w)=(C++[(k,chOf C l++[k])],w++[k]):=by unfold Xu; rw [if_pos z]
     obtain ⟨ga,gm⟩:=g.add (k:=k) (last:=l) (by omega) z.2 hl
     have up:∀ x,inK C x=true->inK (C++[(k,chOf C l++[k])]) x=true:=λ x hx=>by rw [Q6,hx]; rfl
     obtain ⟨b1,b2,b3,b4,b5,b6⟩:=Zjl (l:=l) r (k+1) (C++[(k,chOf C l++[k])],w++[k]) (by omega) ga (up l hl)
     have er:rowF l (m::r) k (C,w)=rowF l r (k+1) (C++[(k,chOf C l++[k])],w++[k]):=by show rowF l r (k+1) (Xu l k m (C,w))=_; rw [es]
     rw [er]
     have kin:inK (C++[(k,chOf C l++[k])]) k=true:=by rw [Q6]; simp
     refine ⟨b1,?_,λ x hx=>b3 x (up x hx),λ j hj hne=>?_,λ x hx=>b5 x (List.mem_append.mpr (.inl hx)),λ x hx=>?_⟩
     · replace b2:_<=2*Ys n (C++[(k,chOf C l++[k])])+(w++[k]).length:=b2
       show _<=2*Ys n C+w.length
       omega
     · cases j with
       | zero=>exact b3 k kin
       | succ j =>
         have:=b4 j (by simpa using hj) (by simpa using hne)
         rw [show k+(j+1)=k+1+j by omega]; exact this
     · rcases b6 x hx with e | e
       · replace e:inK (C++[(k,chOf C l++[k])]) x=true:=e
         rw [Q6] at e
         cases ec:inK C x with
         | true=>exact .inl rfl
         | false =>
           rw [ec] at e
           have ek:k=x:=by simpa using e
           subst ek
           exact .inr (b5 k (List.mem_append.mpr (.inr (by simp))))
       · exact .inr e
   · have es:Xu l k m (C,w)=(C,w):=by unfold Xu; rw [if_neg z]
     obtain ⟨b1,b2,b3,b4,b5,b6⟩:=Zjl (l:=l) r (k+1) (C,w) (by omega) g hl
     have er:rowF l (m::r) k (C,w)=rowF l r (k+1) (C,w):=by show rowF l r (k+1) (Xu l k m (C,w))=_; rw [es]
     rw [er]
     refine ⟨b1,b2,b3,λ j hj hne=>?_,b5,b6⟩
     cases j with
     | zero =>
       have hm:m≠0:=by simpa using hne
       have:inK C k=true:=by
        cases e:inK C k with
        | true=>rfl
        | false=>exact absurd ⟨hm,e⟩ z
       exact b3 k this
     | succ j =>
       have:=b4 j (by simpa using hj) (by simpa using hne)
       rw [show k+(j+1)=k+1+j by omega]; exact this
theorem Zpw {M:List (List Int)} {n:Nat} (hM:∀ l,(M.getD l []).length<=n):∀ (f:Nat) (s:Ch×List Nat),2*Ys n s.1+s.2.length<f->GoodS n s ->
 (∀ i,inK s.1 i=true->i∈s.2\/∀ j,j<(M.getD i []).length->mkF M i j≠0->inK s.1 j=true) ->
 ∀ i,inK (bfsF M f s) i=true->∀ j,j<(M.getD i []).length->mkF M i j≠0->inK (bfsF M f s) j=true
 | 0,s,h,_,_=>absurd h (Nat.not_lt_zero _)
 | f+1,(C,[]),_,_,hc=>λ i hi=>by
   rcases hc i hi with e | e
   · simp at e
   · exact e
 | f+1,(C,l::w),h,g,hc=>by
   obtain ⟨b1,b2,b3,b4,b5,b6⟩:=Zjl (n:=n) (l:=l) (M.getD l []) 0 (C,w) (by have:=hM l; omega) g.pop (g.wt l (by simp))
   refine Zpw hM f (rowF l (M.getD l []) 0 (C,w)) ?_ b1 λ i hi=>?_
   · replace b2:_<=2*Ys n C+w.length:=b2
     replace h:2*Ys n C+(l::w).length<f+1:=h
     rw [List.length_cons] at h
     omega
   · rcases b6 i hi with e | e
     · rcases hc i e with u | u
       · rcases List.mem_cons.mp u with v | v
         · subst v
           refine .inr λ j hj hm=>?_
           have:=b4 j hj hm
           rw [Nat.zero_add] at this; exact this
         · exact .inl (b5 i v)
       · exact .inr λ j hj hm=>b3 j (u j hj hm)
     · exact .inl e
theorem Zm8 {B:List (List Int×List Int)} {d i j:Nat} (hd:d<B.length) (hi:inK (Zx (Z4 B) d) i=true) (hj:j<B.length) (hg:gapF B i j<=0):inK (Zx (Z4 B) d) j=true:=by
 have il:=Zdz hd hi
 have ms:Ys B.length [(d,[d])]+1<=Ys B.length []:=Zcw (C:=[]) (c:=[d]) hd rfl
 have m0:Ys B.length []<=B.length:=by
  unfold Ys
  exact Nat.le_trans (List.length_filter_le _ _) (by simp)
 have init:GoodS B.length ([(d,[d])],[d]):=by
  refine ⟨?_,Nat.le_refl _,?_,?_⟩
  · show 1+Ys B.length [(d,[d])]<=B.length; omega
  · intro c hc
    have e:c=(d,[d]):=by simpa using hc
    subst e
    exact ⟨hd,Nat.le_refl _⟩
  · intro l hl
    have e:l=d:=by simpa using hl
    subst e
    simp [inK]
 refine Zpw (Zmd B) _ _ ?_ init (λ i hi=>?_) i hi j ?_ ?_
 · show 2*Ys B.length [(d,[d])]+1<2*(Z4 B).length+2
   rw [Js]; omega
 · have e:d=i:=by simpa [inK] using hi
   subst e
   exact .inl (by simp)
 · have e:(Z4 B).getD i []=rowM B i:=by simp [Z4,il]
   rw [e]; simpa [rowM] using hj
 · rw [Zif il hj]; exact Zre.mpr hg
theorem Zt8 {l:Nat}:∀ (r:List Int) (k:Nat) (s:Ch×List Nat),(s.1.map (·.1)).Nodup->((rowF l r k s).1.map (·.1)).Nodup
 | [],_,_,h=>h
 | m::r,k,(C,w),h=>by
   show ((rowF l r (k+1) (Xu l k m (C,w))).1.map (·.1)).Nodup
   refine Zt8 r (k+1) _ ?_
   unfold Xu
   split
   · rename_i z
     show ((C++[(k,chOf C l++[k])]).map (·.1)).Nodup
     rw [List.map_append]
     unfold List.Nodup
     rw [List.pairwise_append]
     refine ⟨h,by simp,λ a ha b hb=>?_⟩
     have e:b=k:=by simpa using hb
     subst e
     intro w2
     subst w2
     obtain ⟨c,hc,e⟩:=List.mem_map.mp ha
     have:=Za3 hc
     rw [e] at this
     have z2:inK C a=false:=z.2
     rw [this] at z2; cases z2
   · exact h
theorem Zpt {M:List (List Int)}:∀ (f:Nat) (s:Ch×List Nat),(s.1.map (·.1)).Nodup->((bfsF M f s).map (·.1)).Nodup
 | 0,_,h=>h
 | _+1,(_,[]),h=>h
 | f+1,(C,l::w),h=>Zpt f _ (Zt8 (M.getD l []) 0 (C,w) h)
theorem Zzw (M:List (List Int)) (d:Nat):(Zha (Zx M d)).Nodup:=by
 have h:=Zpt (M:=M) (2*M.length+2) ([(d,[d])],[d]) (by simp)
 have e:Zha (Zx M d)=((Zx M d).map (·.1)).map λ k:Nat=>(k:Int):=by unfold Zha; rw [List.map_map]; rfl
 rw [e]
 exact List.Pairwise.map _ (λ a b (hab:a≠b)=>by intro w; exact hab (by omega)) h
theorem Zw6 {C:Ch} {o:Nat}:(o:Int)∈Zha C↔inK C o=true:=by
 constructor
 · intro h
   obtain ⟨c,hc,e⟩:=List.mem_map.mp h
   have e':c.1=o:=by omega
   rw [← e']; exact Za3 hc
 · intro h
   obtain ⟨c,hc,e,_⟩:=Ub h
   exact List.mem_map.mpr ⟨c,hc,by rw [e]⟩
theorem Zxk {K:Fq} {a b:Addr} {xs ys:List V} {n:Nat} {g:TG} {tb:TS} {D:Ends} {σ:St} {H:Hp} (hx:xs.length=n) (hy:ys.length=n) (Pv:Nat->St->Hp->Prop) (h0:Pv 0 σ H) (hl:∀ i σ H,i<=n->Pv i σ H->SqL K H a xs/\SqL K H b ys)
 (hs:∀ i x y σ H p,xs[i]?=some x->ys[i]?=some y->Pv i σ H->H p=none->g (.ref p) σ (upd H p (.tup [x,y])) λ σ2 H2=>tb { D with nx:=Pv (i+1),ct:=Pv (i+1),bk:=D.nx } σ2 H2) (hd:∀ σ H,Pv n σ H->D.nx σ H) :
 ∃ W:Nat->Nat->St->Hp->Prop,(∃ m,W 0 m σ H)/\∀ i m σ H,W i m σ H ->
   ((Itzl K a b).stop i H/\D.nx σ H)\/((Itzl K a b).go i H/\∃ N:St->Hp->Prop,(∀ σ' H',N σ' H'->∃ m',m'<m/\W (i+1) m' σ' H')/\∀ x H',(Itzl K a b).yld i H x H'->g x σ H' λ σ2 H2=>tb { D with nx:=N,ct:=N,bk:=D.nx } σ2 H2):=by
 refine ⟨λ i m σ H=>m=n-i/\i<=n/\Pv i σ H,⟨n,by simp,Nat.zero_le _,h0⟩,?_⟩
 rintro i m σ H ⟨rfl,hi,p⟩
 obtain ⟨q1,q2⟩:=hl i σ H hi p
 by_cases hlt:i<n
 · have e1:xs[i]?=some (xs[i]'(by omega)):=by simp
   have e2:ys[i]?=some (ys[i]'(by omega)):=by simp
   refine .inr ⟨⟨xs,ys,_,_,q1,q2,e1,e2⟩,Pv (i+1),λ σ' H' p'=>⟨n-(i+1),by omega,rfl,hlt,p'⟩,λ v H' y=>?_⟩
   obtain ⟨t,u,w,ht,rfl,g1,g2,rfl⟩:=y
   exact hs i u w σ H t (g1 xs q1) (g2 ys q2) p ht
 · have e:i=n:=by omega
   subst e
   exact .inl ⟨⟨xs,ys,q1,q2,.inl (by omega)⟩,hd σ H p⟩
end LB
namespace PySem
open Sem (wp)
open AutoSeq1 (wpAny_loadPart')
section
variable {prog:Program} {w:World} {A:Around} {E:Value->Shared->Prop} {s:Shared}
end
end PySem
namespace L2
open PySem PySem.Spec PyProof.Rows
section
variable {X:Cx}
end
end L2
namespace LB
open PySem L2
abbrev Wk:=Int×List Nat
abbrev Tb:=List (List (Option Int))
def entF (T:Tb) (i j:Nat):Option Int:=((T.getD i []).getD j none)
def pvF (T:Tb):List Nat->Int
 | a::b::r=>(entF T a b).getD 0+pvF T (b::r)
 | _=>0
def pathF (T:Tb):List Nat->Prop
 | a::b::r=>(∃ g,entF T a b=some g)/\pathF T (b::r)
 | _=>True
structure WkOk (T:Tb) (n:Nat) (b:Nat->Int) (c:Nat) (w:Wk):Prop where
 la:w.2.getLast?=some c
 pa:pathF T w.2
 va:w.1=pvF T w.2
 lt:∀ x∈w.2,x<n
 lo:∀ i x,w.2[i]?=some x->b x<=pvF T (w.2.take (i+1))
 rg:∀ i j x,i<j->w.2[i]?=some x->w.2[j]?=some x->pvF T (w.2.take (j+1))<pvF T (w.2.take (i+1))
abbrev bestF (best:List Wk) (x:Nat):Int:=(best.getD x (0,[])).1
structure StOk (T:Tb) (n:Nat) (ws best:List Wk):Prop where
 l1:ws.length=n
 l2:best.length=n
 o1:∀ c w,ws[c]?=some w->WkOk T n (bestF best) c w
 o2:∀ c w,best[c]?=some w->WkOk T n (bestF best) c w
 le:∀ x,bestF best x<=bestF ws x
theorem Zjx:∀ (n:Nat) (p:List Nat),p.Nodup->(∀ x∈p,x<n)->p.length<=n
 | 0,p,_,h=>by
   cases p with
   | nil=>exact Nat.le_refl _
   | cons a r=>exact absurd (h a (by simp)) (Nat.not_lt_zero _)
 | n+1,p,nd,h=>by
   have f:∀ (q:List Nat),q.Nodup->q.length<=(q.filter λ x=>x != n).length+1:=by
    intro q
    induction q with
    | nil=>intro _; simp
    | cons a r ih =>
      intro hq
      rw [List.nodup_cons] at hq
      by_cases e:a=n
      · subst e
        have:(r.filter λ x=>x != a)=r:=List.filter_eq_self.mpr λ x hx=>by
         simp; intro z; subst z; exact hq.1 hx
        simp [this]
      · have:=ih hq.2
        rw [List.filter_cons_of_pos (by simp [e])]
        rw [List.length_cons,List.length_cons]; omega
   have h1:=Zjx n (p.filter λ x=>x != n) (List.Pairwise.filter _ nd) (λ x hx=>by
    rw [List.mem_filter] at hx
    have:=h x hx.1
    have:x≠n:=by simpa using hx.2
    omega)
   have h2:=f p nd
   omega
end LB
namespace LB
open PySem L2
namespace RS
abbrev Sh:={ p:Int×Int // 0<p.1/\0<p.2 }
instance:Add Sh:=⟨λ a b=>⟨(a.1.1*b.1.1,a.1.2*b.1.2),Int.mul_pos a.2.1 b.2.1,Int.mul_pos a.2.2 b.2.2⟩⟩
instance:OfNat Sh 0:=⟨⟨(1,1),by decide,by decide⟩⟩
instance:LT Sh:=⟨λ a b=>a.1.1*b.1.2<b.1.1*a.1.2⟩
instance:LE Sh:=⟨λ a b=>a.1.1*b.1.2<=b.1.1*a.1.2⟩
instance (a b:Sh):Decidable (a<b):=inferInstanceAs (Decidable (a.1.1*b.1.2<b.1.1*a.1.2))
theorem Sh.le_refl (a:Sh):a<=a:=Int.le_refl _
theorem Sh.not_lt {a b:Sh}:¬ a<b↔b<=a:=Int.not_lt
theorem Sh.not_le {a b:Sh}:¬ a<=b↔b<a:=Int.not_le
theorem Sh.le_of_lt {a b:Sh} (h:a<b):a<=b:=Int.le_of_lt (a:=a.1.1*b.1.2) (b:=b.1.1*a.1.2) h
theorem Z1h {a b c d e f:Int} (hb:0<b) (hd:0<d) (hf:0<f) (h1:a*d<=c*b) (h2:c*f<=e*d):a*f<=e*b:=by
 have x1:a*d*f<=c*b*f:=Int.mul_le_mul_of_nonneg_right h1 (Int.le_of_lt hf)
 have x2:c*f*b<=e*d*b:=Int.mul_le_mul_of_nonneg_right h2 (Int.le_of_lt hb)
 have x3:(a*f)*d<=(e*b)*d:=by
  have y1:(a*f)*d=a*d*f:=by rw [Int.mul_assoc,Int.mul_comm f d,← Int.mul_assoc]
  have y2:c*b*f=c*f*b:=by rw [Int.mul_assoc,Int.mul_comm b f,← Int.mul_assoc]
  have y3:e*d*b=(e*b)*d:=by rw [Int.mul_assoc,Int.mul_comm d b,← Int.mul_assoc]
  omega
 exact Int.le_of_mul_le_mul_right x3 hd
theorem Z1g {a b c d e f:Int} (hb:0<b) (hd:0<d) (hf:0<f) (h1:a*d<c*b) (h2:c*f<=e*d):a*f<e*b:=by
 have x1:a*d*f<c*b*f:=Int.mul_lt_mul_of_pos_right h1 hf
 have x2:c*f*b<=e*d*b:=Int.mul_le_mul_of_nonneg_right h2 (Int.le_of_lt hb)
 have x3:(a*f)*d<(e*b)*d:=by
  have y1:(a*f)*d=a*d*f:=by rw [Int.mul_assoc,Int.mul_comm f d,← Int.mul_assoc]
  have y2:c*b*f=c*f*b:=by rw [Int.mul_assoc,Int.mul_comm b f,← Int.mul_assoc]
  have y3:e*d*b=(e*b)*d:=by rw [Int.mul_assoc,Int.mul_comm d b,← Int.mul_assoc]
  omega
 exact Int.lt_of_mul_lt_mul_right x3 (Int.le_of_lt hd)
theorem Sh.le_trans {a b c:Sh} (h1:a<=b) (h2:b<=c):a<=c:=Z1h a.2.2 b.2.2 c.2.2 h1 h2
theorem Sh.lt_of_lt_of_le {a b c:Sh} (h1:a<b) (h2:b<=c):a<c:=Z1g a.2.2 b.2.2 c.2.2 h1 h2
abbrev Wk:=Sh×List Nat
abbrev Tb:=List (List (Option Sh))
def entF (T:Tb) (i j:Nat):Option Sh:=((T.getD i []).getD j none)
def pvF (T:Tb):List Nat->Sh
 | a::b::r=>(entF T a b).getD 0+pvF T (b::r)
 | _=>0
def pathF (T:Tb):List Nat->Prop
 | a::b::r=>(∃ g,entF T a b=some g)/\pathF T (b::r)
 | _=>True
structure WkOk (T:Tb) (n:Nat) (b:Nat->Sh) (c:Nat) (w:Wk):Prop where
 la:w.2.getLast?=some c
 pa:pathF T w.2
 va:w.1=pvF T w.2
 lt:∀ x∈w.2,x<n
 lo:∀ i x,w.2[i]?=some x->b x<=pvF T (w.2.take (i+1))
 rg:∀ i j x,i<j->w.2[i]?=some x->w.2[j]?=some x->pvF T (w.2.take (j+1))<pvF T (w.2.take (i+1))
abbrev bestF (best:List Wk) (x:Nat):Sh:=(best.getD x (0,[])).1
structure StOk (T:Tb) (n:Nat) (ws best:List Wk):Prop where
 l1:ws.length=n
 l2:best.length=n
 o1:∀ c w,ws[c]?=some w->WkOk T n (bestF best) c w
 o2:∀ c w,best[c]?=some w->WkOk T n (bestF best) c w
 le:∀ x,bestF best x<=bestF ws x
end RS
namespace RS
def Bd (n:Nat) (s:Sh):Prop:=s.1.1<2 ^ (150*n)/\s.1.2<2 ^ (150*n)
theorem Zom {a b:Nat} (h:a<=b):(2:Int) ^ a<=2 ^ b:=by
 have:=Nat.pow_le_pow_right (show 0<2 by decide) h
 have h2:((2 ^ a:Nat):Int)<=((2 ^ b:Nat):Int):=Int.ofNat_le.mpr this
 simpa [Int.natCast_pow] using h2
theorem Zkv {m n:Nat} {x y:Int} (hm:m<=1000) (hn:n<=1000) (x0:0<x) (y0:0<y) (h1:x<2 ^ (150*m)) (h2:y<2 ^ (150*n)):IntMulOk x y:=by
 have p:(0:Int)<2 ^ (150*m):=Int.pow_pos (by decide)
 have q:(0:Int)<2 ^ (150*n):=Int.pow_pos (by decide)
 exact IntMulOk.of_le (Zd4 (Int.lt_trans (by omega) x0) h1) (Zd4 (Int.lt_trans (by omega) y0) h2) (by omega)
def SV (H:Hp) (v:V) (s:Sh):Prop:=∃ t,v=.ref t/\H t=some (.tup [.int s.1.1,.int s.1.2])
def Zmx (K:Fq) (a b:V) (H:Hp) (Q:VK) (E:XK):Prop:=∃ (x y:Sh) (m n:Nat),SV H a x/\SV H b y/\Bd m x/\Bd n y/\m<=40/\n<=40/\∀ t H',Same H H'->H' t=some (.tup [.int (x+y).1.1,.int (x+y).1.2])->Q (.ref t) H'
def Kq (K:Fq) (a b:V) (H:Hp) (Q:VK) (E:XK):Prop:=∃ (x y:Sh) (m n:Nat),SV H a x/\SV H b y/\Bd m x/\Bd n y/\m<=40/\n<=40/\Q (.bl (decide (x<y))) H
def Yw (K:Fq):Sp:=sp2 (Kq K)
def Zfi (K:Fq):TS :=
 (Z7 (Jw (Zd (tOp (rMulU K) (tOp (rIx K) (Zc 0) (tC (.int 0))) (tOp (rIx K) (Zc 1) (tC (.int 0)))) (Zd (tOp (rMulU K) (tOp (rIx K) (Zc 0) (tC (.int 1))) (tOp (rIx K) (Zc 1) (tC (.int 1)))) Zj))))
def tb_is_less_share (K:Fq):TS :=
 (Z7 (tOp rLtU (tOp (rMulU K) (tOp (rIx K) (Zc 0) (tC (.int 0))) (tOp (rIx K) (Zc 1) (tC (.int 1)))) (tOp (rMulU K) (tOp (rIx K) (Zc 1) (tC (.int 0))) (tOp (rIx K) (Zc 0) (tC (.int 1))))))
theorem Z0h {K:Fq} {a b:V} {H:Hp} {Q:VK} {E:XK} (h:Zmx K a b H Q E):Zfi K (Rt Q) [some a,some b] H:=by
 obtain ⟨x,y,m,n,⟨p,rfl,hp⟩,⟨r,rfl,hr⟩,bx,byy,hm,hn,q⟩:=h
 unfold Zfi
 refine Yc (Wh (Zb (Zh (Zh (Za rfl (w_c (Yd (v:=.int x.1.1) (SqT.of hp) rfl (Zh (Za rfl (w_c (Yd (v:=.int y.1.1) (SqT.of hr) rfl (Yu (Zkv (by omega) (by omega) x.2.1 y.2.1 bx.1 byy.1) ?_))))))))))))
 refine Zb (Zh (Zh (Za rfl (w_c (Yd (v:=.int x.1.2) (SqT.of hp) rfl (Zh (Za rfl (w_c (Yd (v:=.int y.1.2) (SqT.of hr) rfl (Yu (Zkv (by omega) (by omega) x.2.2 y.2.2 bx.2 byy.2) ?_))))))))))
 exact Zg ⟨by show 2<=sizeLine; decide,λ t ht=>q t _ (Same.laid ht) Zn⟩
theorem Ks {K:Fq} {a b:V} {H:Hp} {Q:VK} {E:XK} (h:Kq K a b H Q E):tb_is_less_share K (Rt Q) [some a,some b] H:=by
 obtain ⟨x,y,m,n,⟨p,rfl,hp⟩,⟨r,rfl,hr⟩,bx,byy,hm,hn,q⟩:=h
 unfold tb_is_less_share
 refine Yc (Zh (Zh (Zh (Za rfl (w_c (Yd (v:=.int x.1.1) (SqT.of hp) rfl (Zh (Za rfl (w_c (Yd (v:=.int y.1.2) (SqT.of hr) rfl (Yu (Zkv (by omega) (by omega) x.2.1 y.2.2 bx.1 byy.2) ?_)))))))))))
 exact Zh (Zh (Za rfl (w_c (Yd (v:=.int y.1.1) (SqT.of hr) rfl (Zh (Za rfl (w_c (Yd (v:=.int x.1.2) (SqT.of hp) rfl (Yu (Zkv (by omega) (by omega) y.2.1 x.2.2 byy.1 bx.2) (K9 q))))))))))
end RS
end LB
namespace LB
open PySem L2
abbrev Wt:=Nat×Int×Int
def lowD (gap:Nat->Nat->Int) (a:Wt):List Nat->Int->Int
 | [],m=>m
 | d::ds,m=>lowD gap a ds (min m (a.2.1+a.2.2*gap a.1 d))
def lowW (gap:Nat->Nat->Int) (level:List Nat):List Wt->Int->Int
 | [],m=>m
 | a::st,m=>lowW gap level st (lowD gap a level m)
def wtW (gap:Nat->Nat->Int) (d:Nat) (own:Int):List Wt->Int->Int
 | [],w=>w
 | a::st,w=>wtW gap d own st (max w (-((own-a.2.1) / gap d a.1)))
def W3 (gap:Nat->Nat->Int) (st:List Wt) (level:List Nat):List Wt :=
 st++level.map λ d=>(d,lowW gap level st 0,wtW gap d (lowW gap level st 0) st 1)
def runW (gap:Nat->Nat->Int):List (List Nat)->List Wt->List Wt
 | [],st=>st
 | l::ls,st=>runW gap ls (W3 gap st l)
theorem Zrn {gap:Nat->Nat->Int} {a:Wt}:∀ (ds:List Nat) (m:Int),lowD gap a ds m<=m/\∀ d∈ds,lowD gap a ds m<=a.2.1+a.2.2*gap a.1 d
 | [],m=>⟨Int.le_refl _,λ d hd=>by simp at hd⟩
 | d::ds,m=>by
   obtain ⟨h1,h2⟩:=Zrn (gap:=gap) (a:=a) ds (min m (a.2.1+a.2.2*gap a.1 d))
   refine ⟨Int.le_trans h1 (Int.min_le_left ..),λ e he=>?_⟩
   rcases List.mem_cons.mp he with z | z
   · rw [z]; exact Int.le_trans h1 (Int.min_le_right ..)
   · exact h2 e z
theorem Zrl {gap:Nat->Nat->Int} {level:List Nat}:∀ (st:List Wt) (m:Int),lowW gap level st m<=m/\∀ a∈st,∀ d∈level,lowW gap level st m<=a.2.1+a.2.2*gap a.1 d
 | [],m=>⟨Int.le_refl _,λ d hd=>by simp at hd⟩
 | a::st,m=>by
   obtain ⟨h1,h2⟩:=Zrl (gap:=gap) (level:=level) st (lowD gap a level m)
   obtain ⟨g1,g2⟩:=Zrn (gap:=gap) (a:=a) level m
   refine ⟨Int.le_trans h1 g1,λ b hb d hd=>?_⟩
   rcases List.mem_cons.mp hb with z | z
   · rw [z]; exact Int.le_trans h1 (g2 d hd)
   · exact h2 b z d hd
theorem Zno {gap:Nat->Nat->Int} {d:Nat} {own:Int}:∀ (st:List Wt) (w:Int),w<=wtW gap d own st w/\∀ a∈st,-((own-a.2.1) / gap d a.1)<=wtW gap d own st w
 | [],m=>⟨Int.le_refl _,λ d hd=>by simp at hd⟩
 | a::st,w=>by
   obtain ⟨h1,h2⟩:=Zno (gap:=gap) (d:=d) (own:=own) st (max w (-((own-a.2.1) / gap d a.1)))
   refine ⟨Int.le_trans (Int.le_max_left ..) h1,λ b hb=>?_⟩
   rcases List.mem_cons.mp hb with z | z
   · rw [z]; exact Int.le_trans (Int.le_max_right ..) h1
   · exact h2 b z
structure TasteF (gap:Nat->Nat->Int) (st:List Wt):Prop where
 le:∀ a∈st,∀ b∈st,a.1≠b.1->b.2.1<=a.2.1+a.2.2*gap a.1 b.1
 w1:∀ a∈st,1<=a.2.2
theorem bridge {own x g w:Int} (hg:0<g) (h:-((own-x) / g)<=w):x<=own+w*g:=by
 have h1:(own-x) / g*g<=own-x:=Int.ediv_mul_le _ (by omega)
 have h2:-((own-x) / g)*g<=w*g:=Int.mul_le_mul_of_nonneg_right h (Int.le_of_lt hg)
 rw [Int.neg_mul] at h2
 omega
theorem TasteF.step {gap:Nat->Nat->Int} {st:List Wt} {level:List Nat} (h:TasteF gap st) (ha:∀ a∈st,∀ d∈level,0<gap d a.1) (hs:∀ d∈level,∀ e∈level,d≠e->0<=gap d e):TasteF gap (W3 gap st level):=by
 unfold W3
 obtain ⟨l1,l2⟩:=Zrl (gap:=gap) (level:=level) st 0
 generalize lowW gap level st 0=own at l1 l2
 refine ⟨λ a hA b hB ne=>?_,λ a hA=>?_⟩
 · rcases List.mem_append.mp hA with za | za
   · rcases List.mem_append.mp hB with zb | zb
     · exact h.le a za b zb ne
     · obtain ⟨d,hd,rfl⟩:=List.mem_map.mp zb
       exact l2 a za d hd
   · obtain ⟨d,hd,rfl⟩:=List.mem_map.mp za
     obtain ⟨w1,w2⟩:=Zno (gap:=gap) (d:=d) (own:=own) st 1
     rcases List.mem_append.mp hB with zb | zb
     · exact bridge (ha b zb d hd) (w2 b zb)
     · obtain ⟨e,he,rfl⟩:=List.mem_map.mp zb
       show own<=own+wtW gap d own st 1*gap d e
       have:=Int.mul_nonneg (show 0<=wtW gap d own st 1 by omega) (hs d hd e he ne)
       omega
 · rcases List.mem_append.mp hA with za | za
   · exact h.w1 a za
   · obtain ⟨d,hd,rfl⟩:=List.mem_map.mp za
     exact (Zno (gap:=gap) (d:=d) (own:=own) st 1).1
theorem Zcy {gap:Nat->Nat->Int} {st:List Wt} {level:List Nat}:(W3 gap st level).map (·.1)=st.map (·.1)++level:=by
 unfold W3
 rw [List.map_append,List.map_map]
 congr 1
 exact (List.map_congr_left λ d _=>rfl).trans (List.map_id _)
theorem Zma {gap:Nat->Nat->Int} {h:Nat->Nat} {n:Nat} (A:∀ d e,d<n->e<n->h d<h e->0<gap d e) (B:∀ d e,d<n->e<n->d≠e->h d=h e->0<=gap d e):∀ (ls:List (List Nat)) (st:List Wt),TasteF gap st->(∀ l∈ls,∀ d∈l,d<n)->(∀ a∈st,a.1<n)->(∀ l∈ls,∀ d∈l,∀ e∈l,h d=h e)->ls.Pairwise (λ l m=>∀ d∈l,∀ e∈m,h e<h d)->(∀ l∈ls,∀ a∈st,∀ d∈l,h d<h a.1)->TasteF gap (runW gap ls st)
 | [],st,h0,_,_,_,_,_=>h0
 | l::ls,st,h0,n1,n2,h1,h2,h3=>by
   rw [List.pairwise_cons] at h2
   have s:=h0.step (level:=l) (λ a ha d hd=>A _ _ (n1 l (by simp) d hd) (n2 a ha) (h3 l (by simp) a ha d hd)) (λ d hd e he ne=>B d e (n1 l (by simp) d hd) (n1 l (by simp) e he) ne (h1 l (by simp) d hd e he))
   have new:∀ a∈W3 gap st l,(∃ b∈st,b.1=a.1)\/a.1∈l:=by
    intro a ha
    have hm':a.1∈(W3 gap st l).map (·.1):=List.mem_map.mpr ⟨a,ha,rfl⟩
    rw [Zcy] at hm'
    rcases List.mem_append.mp hm' with z | z
    · obtain ⟨b,hb,e⟩:=List.mem_map.mp z
      exact .inl ⟨b,hb,e⟩
    · exact .inr z
   refine Zma A B ls _ s (λ m hm=>n1 m (by simp [hm])) (λ a ha=>?_) (λ m hm=>h1 m (by simp [hm])) h2.2 (λ m hm a ha d hd=>?_)
   · rcases new a ha with ⟨b,hb,e⟩ | z
     · rw [← e]; exact n2 b hb
     · exact n1 l (by simp) _ z
   · rcases new a ha with ⟨b,hb,e⟩ | z
     · have:=h3 m (by simp [hm]) b hb d hd
       rw [e] at this; exact this
     · exact h2.1 m hm _ z d hd
theorem Zfc {gap:Nat->Nat->Int}:∀ (ls:List (List Nat)) (st:List Wt),(runW gap ls st).map (·.1)=st.map (·.1)++ls.flatten
 | [],st=>by simp [runW]
 | l::ls,st=>by
   show (runW gap ls (W3 gap st l)).map (·.1)=_
   rw [Zfc ls,Zcy,List.flatten_cons,List.append_assoc]
def Y5 (h:Nat->Nat) (n:Nat) (ks:List Nat):List (List Nat):=ks.map λ k=>(List.range n).filter λ d=>h d == k
theorem Zg8 {h:Nat->Nat} {n:Nat} {ks:List Nat} {l:List Nat} (hl:l∈Y5 h n ks):∃ k∈ks,∀ d,d∈l↔d<n/\h d=k:=by
 obtain ⟨k,hk,rfl⟩:=List.mem_map.mp hl
 exact ⟨k,hk,λ d=>by simp⟩
theorem Zw9 {h:Nat->Nat} {n:Nat} {ks:List Nat}:∀ l∈Y5 h n ks,∀ d∈l,∀ e∈l,h d=h e:=λ l hl d hd e he=>by
 obtain ⟨k,_,hk⟩:=Zg8 hl
 rw [((hk d).mp hd).2,((hk e).mp he).2]
theorem Zig {h:Nat->Nat} {n:Nat} {ks:List Nat} (hs:ks.Pairwise (λ a b=>b<a)):(Y5 h n ks).Pairwise (λ l m=>∀ d∈l,∀ e∈m,h e<h d):=by
 unfold Y5
 rw [List.pairwise_map]
 refine hs.imp λ {a b} hab d hd e he=>?_
 have h1:h d=a:=by simpa using (List.mem_filter.mp hd).2
 have h2:h e=b:=by simpa using (List.mem_filter.mp he).2
 omega
theorem Zuz {h:Nat->Nat} {n:Nat} {ks:List Nat} (hs:ks.Pairwise (λ a b=>b<a)):(Y5 h n ks).flatten.Nodup:=by
 unfold List.Nodup
 rw [List.pairwise_flatten]
 refine ⟨λ l hl=>?_,(Zig hs).imp λ {l m} hlm d hd e he z=>?_⟩
 · obtain ⟨k,hk,rfl⟩:=List.mem_map.mp hl
   exact List.Pairwise.filter _ List.nodup_range
 · have:=hlm d hd e he
   rw [z] at this; omega
theorem Zzq {h:Nat->Nat} {n:Nat} {ks:List Nat} (hk:∀ d,d<n->h d∈ks) (d:Nat):d∈(Y5 h n ks).flatten↔d<n:=by
 rw [List.mem_flatten]
 constructor
 · rintro ⟨l,hl,hd⟩
   obtain ⟨k,_,hk⟩:=Zg8 hl
   exact ((hk d).mp hd).1
 · intro hd
   exact ⟨_,List.mem_map.mpr ⟨h d,hk d hd,rfl⟩,by simp [hd]⟩
theorem Zoy {h:Nat->Nat} {n:Nat} {ks:List Nat} (hs:ks.Pairwise (λ a b=>b<a)) (hk:∀ d,d<n->h d∈ks):(Y5 h n ks).flatten.Perm (List.range n) :=
 (List.perm_ext_iff_of_nodup (Zuz hs) List.nodup_range).mpr λ d=>by rw [Zzq hk,List.mem_range]
theorem Zwf {gap:Nat->Nat->Int} {h:Nat->Nat} {n:Nat} {ks:List Nat} (hs:ks.Pairwise (λ a b=>b<a)) (hk:∀ d,d<n->h d∈ks) (A:∀ d e,d<n->e<n->h d<h e->0<gap d e) (B:∀ d e,d<n->e<n->d≠e->h d=h e->0<=gap d e) :
 TasteF gap (runW gap (Y5 h n ks) [])/\((runW gap (Y5 h n ks) []).map (·.1)).Perm (List.range n):=by
 refine ⟨Zma A B _ [] ⟨λ a ha=>by simp at ha,λ a ha=>by simp at ha⟩ (λ l hl d hd=>?_) (λ a ha=>by simp at ha) Zw9 (Zig hs) (λ l _ a ha=>by simp at ha),?_⟩
 · obtain ⟨k,_,hk⟩:=Zg8 hl
   exact ((hk d).mp hd).1
 · rw [Zfc]
   exact Zoy hs hk
structure Sq (M:List (List Int)):Prop where
 row:∀ i,i<M.length->(M.getD i []).length=M.length
theorem Sq.le {M:List (List Int)} (s:Sq M) (l:Nat):(M.getD l []).length<=M.length:=by
 by_cases h:l<M.length
 · exact Nat.le_of_eq (s.row l h)
 · rw [List.getD,List.getElem?_eq_none (by omega)]; simp
theorem Zi9 {n d:Nat} (hd:d<n):GoodS n ([(d,[d])],[d])/\2*Ys n [(d,[d])]+1<2*n+2:=by
 have ms:Ys n [(d,[d])]+1<=Ys n []:=Zcw (C:=[]) (c:=[d]) hd rfl
 have m0:Ys n []<=n:=by
  unfold Ys
  exact Nat.le_trans (List.length_filter_le _ _) (by simp)
 refine ⟨⟨?_,Nat.le_refl _,?_,?_⟩,by omega⟩
 · show 1+Ys n [(d,[d])]<=n; omega
 · intro c hc
   have e:c=(d,[d]):=by simpa using hc
   subst e
   exact ⟨hd,Nat.le_refl _⟩
 · intro l hl
   have e:l=d:=by simpa using hl
   subst e
   simp [inK]
theorem Zsa {M:List (List Int)} (s:Sq M) {d i j:Nat} (hd:d<M.length) (il:i<M.length) (hj:j<M.length) (hi:inK (Zx M d) i=true) (hm:mkF M i j≠0):inK (Zx M d) j=true:=by
 obtain ⟨g,ms⟩:=Zi9 hd
 refine Zpw s.le _ _ ms g (λ i hi=>?_) i hi j (by rw [s.row i il]; exact hj) hm
 have e:d=i:=by simpa [inK] using hi
 subst e
 exact .inl (by simp)
theorem Zk3 (M:List (List Int)) (d:Nat):inK (Zx M d) d=true:=by
 obtain ⟨C',hC⟩:=Zhp M d
 rw [hC]; simp [inK]
theorem Zrp {M:List (List Int)} (s:Sq M) {d:Nat} (hd:d<M.length):∀ (c:List Nat) (a o:Nat),(∀ x∈c,x<M.length)->Ze5 M c->c.head?=some a->c.getLast?=some o->inK (Zx M d) a=true->inK (Zx M d) o=true
 | [],_,_,_,_,h,_,_=>by simp at h
 | [x],a,o,_,_,h1,h2,ha=>by
   have e1:x=a:=by simpa using h1
   have e2:x=o:=by simpa using h2
   rw [← e2,e1]; exact ha
 | x::y::r,a,o,hl,⟨h0,hk⟩,h1,h2,ha=>by
   have e1:x=a:=by simpa using h1
   subst e1
   exact Zrp s hd (y::r) y o (λ z hz=>hl z (by simp [hz])) hk rfl (by simpa using h2) (Zsa s hd (hl x (by simp)) (hl y (by simp)) ha h0)
theorem Zp8 {M:List (List Int)} (s:Sq M) (kl:∀ e o,e<M.length->inK (Zx M e) o=true->o<M.length) {d e o:Nat} (hd:d<M.length) (he:e<M.length) (h1:inK (Zx M d) e=true) (h2:inK (Zx M e) o=true):inK (Zx M d) o=true:=by
 have c:=(Zgx M e).at h2
 exact Zrp s hd _ e o (λ x hx=>kl e x he (c.mem x hx)) c.lk c.hd c.la h1
theorem Zvo {p q:Nat->Bool}:∀ (l:List Nat),(∀ x∈l,p x=true->q x=true)->(l.filter p).length<=(l.filter q).length/\((l.filter p).length=(l.filter q).length->∀ x∈l,q x=true->p x=true)
 | [],_=>⟨Nat.le_refl _,λ _ x hx=>by simp at hx⟩
 | a::l,h=>by
   obtain ⟨h1,h2⟩:=Zvo (p:=p) (q:=q) l (λ x hx=>h x (by simp [hx]))
   cases ep:p a with
   | true =>
     have eq:=h a (by simp) ep
     rw [List.filter_cons_of_pos ep,List.filter_cons_of_pos eq,List.length_cons,List.length_cons]
     refine ⟨by omega,λ e x hx hq=>?_⟩
     rcases List.mem_cons.mp hx with z | z
     · rw [z]; exact ep
     · exact h2 (by omega) x z hq
   | false =>
     rw [List.filter_cons_of_neg (by simp [ep])]
     cases eq:q a with
     | true =>
       rw [List.filter_cons_of_pos eq,List.length_cons]
       exact ⟨by omega,λ e=>by omega⟩
     | false =>
       rw [List.filter_cons_of_neg (by simp [eq])]
       refine ⟨h1,λ e x hx hq=>?_⟩
       rcases List.mem_cons.mp hx with z | z
       · rw [z,eq] at hq; cases hq
       · exact h2 e x z hq
theorem Zih {M:List (List Int)} (kl:∀ e o,e<M.length->inK (Zx M e) o=true->o<M.length) {d:Nat} (hd:d<M.length):(Zx M d).length=((List.range M.length).filter (inK (Zx M d))).length:=by
 have nd:=Zpt (M:=M) (2*M.length+2) ([(d,[d])],[d]) (by simp)
 have p:((Zx M d).map (·.1)).Perm ((List.range M.length).filter (inK (Zx M d))):=by
  refine (List.perm_ext_iff_of_nodup nd (List.Pairwise.filter _ List.nodup_range)).mpr λ o=>?_
  rw [List.mem_filter,List.mem_range]
  constructor
  · intro h
    obtain ⟨c,hc,e⟩:=List.mem_map.mp h
    have k:=Za3 hc
    rw [e] at k
    exact ⟨kl d o hd k,k⟩
  · intro h
    obtain ⟨c,hc,e,_⟩:=Ub h.2
    exact List.mem_map.mpr ⟨c,hc,e⟩
 rw [← p.length_eq,List.length_map]
theorem Zln {M:List (List Int)} (s:Sq M) (kl:∀ e o,e<M.length->inK (Zx M e) o=true->o<M.length) {d e:Nat} (hd:d<M.length) (he:e<M.length) (hm:mkF M d e≠0):(Zx M e).length<=(Zx M d).length/\((Zx M e).length=(Zx M d).length->inK (Zx M e) d=true):=by
 rw [Zih kl hd,Zih kl he]
 have h1:=Zsa s hd hd he (Zk3 M d) hm
 obtain ⟨a,b⟩:=Zvo (p:=inK (Zx M e)) (q:=inK (Zx M d)) (List.range M.length) (λ x _ hx=>Zp8 s kl hd he h1 hx)
 exact ⟨a,λ z=>b z d (List.mem_range.mpr hd) (Zk3 M d)⟩
theorem Zv1 {M:List (List Int)} {n:Nat} (hM:∀ l,(M.getD l []).length<=n):∀ (f:Nat) (s:Ch×List Nat),GoodS n s->∀ c∈bfsF M f s,c.1<n
 | 0,s,g=>λ c hc=>(g.ky c hc).1
 | f+1,(C,[]),g=>λ c hc=>(g.ky c hc).1
 | f+1,(C,l::w),g=>by
   obtain ⟨b1,_⟩:=Zjl (n:=n) (l:=l) (M.getD l []) 0 (C,w) (by have:=hM l; omega) g.pop (g.wt l (by simp))
   exact Zv1 hM f (rowF l (M.getD l []) 0 (C,w)) b1
theorem Ze7 {M:List (List Int)} (s:Sq M) (e o:Nat) (he:e<M.length) (h:inK (Zx M e) o=true):o<M.length:=by
 obtain ⟨c,hc,z,_⟩:=Ub h
 rw [← z]
 exact Zv1 s.le _ _ (Zi9 he).1 c hc
theorem Zox {M:List (List Int)} {gap:Nat->Nat->Int} {ks:List Nat} (s:Sq M) (hg:∀ d e,d<M.length->e<M.length->d≠e->(mkF M d e≠0↔gap d e<=0)) (nr:∀ d e,d<M.length->e<M.length->d≠e->gap d e<0->inK (Zx M e) d=false)
 (hs:ks.Pairwise (λ a b=>b<a)) (hk:∀ d,d<M.length->(Zx M d).length∈ks) :
 TasteF gap (runW gap (Y5 (λ d=>(Zx M d).length) M.length ks) [])/\((runW gap (Y5 (λ d=>(Zx M d).length) M.length ks) []).map (·.1)).Perm (List.range M.length):=by
 have kl:=Ze7 s
 refine Zwf hs hk (λ d e hd he h=>?_) (λ d e hd he ne h=>?_)
 · have ne:d≠e:=λ z=>by subst z; exact Nat.lt_irrefl _ h
   rcases Int.lt_or_le 0 (gap d e) with z | z
   · exact z
   · have:=(Zln s kl hd he ((hg d e hd he ne).mpr z)).1
     have h':(Zx M d).length<(Zx M e).length:=h
     omega
 · rcases Int.lt_or_le (gap d e) 0 with z | z
   · have h':(Zx M d).length=(Zx M e).length:=h
     have t:=(Zln s kl hd he ((hg d e hd he ne).mpr (Int.le_of_lt z))).2 h'.symm
     rw [nr d e hd he ne z] at t; cases t
   · exact z
end LB
namespace L2
open PySem PySem.Spec PySem.W PyProof.Rows
section
variable {K:Fq} {mg:Str->Option Value} {h:Heap} {x y m qual fl:Str} {C D f:Addr}
variable {P:Program} {w:World} {base:Heap}
end
section
variable {X:Cx} {CX:CXT} {k:Nat} {C:Addr} {ps:List Str} {sp:Sp} {E:XK} {x m:Str} {p pos apos cpos:Pos} {e o:Expr} {es:List Expr} {ta to:TE} {t:TA}
end
section
variable {X:Cx} {k:Nat} {g x x2 n:Str} {ps:List Str} {sp:Sp} {p np np2 cpos epos hpos hpos2 pos:Pos} {e:Expr} {es:List Expr} {t:TA} {ts ts2:TS} {D D2:Addr} {b₀ b₂:Stmt} {suite suite2:List Stmt} {i:Nat}
end
section
variable {X:Cx}
end
section
variable {K:Fq} {σ:St} {H:Hp} {Q:VK} {D:Ends} {te ta tb:TE} {t:TA} {C p:Addr} {sp:Sp} {E:XK} {m f:Str}
end
end L2
namespace LB
open PySem L2
mutual
theorem Ziq:∀ d:PyData,d.canLay0=true->PyData.eqv d d=true
 | .none,_=>by simp [PyData.eqv]
 | .bool b,_=>by simp [PyData.eqv]
 | .int i,_=>by simp [PyData.eqv]
 | .str x,_=>by simp [PyData.eqv]
 | .list xs,h=>by simp only [PyData.eqv]; exact eqvAll_self xs (by simpa only [PyData.canLay0] using h)
 | .tuple xs,h=>by simp only [PyData.eqv]; exact eqvAll_self xs (by simpa only [PyData.canLay0] using h)
 | .dict _,h=>by simp [PyData.canLay0] at h
theorem eqvAll_self:∀ ds:List PyData,PyData.canLayAll0 ds=true->PyData.eqvAll ds ds=true
 | [],_=>by simp [PyData.eqvAll]
 | d::ds,h=>by
   have c:d.canLay0=true/\PyData.canLayAll0 ds=true:=by simpa [PyData.canLayAll0] using h
   simp only [PyData.eqvAll,Ziq d c.1,eqvAll_self ds c.2,Bool.and_self]
end
theorem layAll_map {α:Type} {f:α->PyData}:∀ {xs:List α},(∀ x∈xs,(f x).canLay0=true)->PyData.canLayAll0 (xs.map f)=true
 | [],_=>by simp [PyData.canLayAll0]
 | x::xs,h=>by
   rw [List.map_cons]
   simp only [PyData.canLayAll0,h x (by simp),layAll_map (xs:=xs) λ y hy=>h y (by simp [hy]),Bool.and_self]
theorem depthAll_map {α:Type} {f:α->PyData} {k:Nat}:∀ {xs:List α},(∀ x∈xs,(f x).depth<=k)->PyData.depthAll (xs.map f)<=k
 | [],_=>by simp [PyData.depthAll]
 | x::xs,h=>by
   rw [List.map_cons]
   simp only [PyData.depthAll]
   have:=h x (by simp)
   have:=depthAll_map (xs:=xs) (k:=k) λ y hy=>h y (by simp [hy])
   omega
theorem w_eqSelf {K:Fq} {H:Hp} {Q:VK} {x y:V} {d:PyData} (h1:Rep H x d) (h2:Rep H y d) (l:d.canLay0=true) (dp:d.depth<=64) (k:Q (.bl true) H):rEqU K x y H Q:=by
 refine .inr ⟨d,d,h1,h2,l,l,by omega,?_⟩
 rw [Ziq d l]; exact k
theorem w_neSelf {K:Fq} {H:Hp} {Q:VK} {x y:V} {d:PyData} (h1:Rep H x d) (h2:Rep H y d) (l:d.canLay0=true) (dp:d.depth<=64) (k:Q (.bl false) H):rNeU K x y H Q:=by
 refine .inr ⟨d,d,h1,h2,l,l,by omega,?_⟩
 rw [Ziq d l]; exact k
theorem rep_tup_inv {H:Hp} {w:V} {ds:List PyData} (h:Rep H w (.tuple ds)):∃ p xs,w=.ref p/\H p=some (.tup xs)/\Reps H xs ds:=by
 unfold Rep at h; exact h
section
variable {K:Fq} {σ:St} {H:Hp} {Q:VK}
end
theorem w_seqI {t u:TS} {D:Ends} {σ:St} {H:Hp} (I:St->Hp->Prop) (h:∀ R:St->Hp->Prop,(∀ σ' H',I σ' H'->R σ' H')->t { D with nx:=R } σ H) (k:∀ σ' H',I σ' H'->u D σ' H'):Zz t u D σ H:=h _ k
theorem w_eqS {K:Fq} {H:Hp} {Q:VK} {x y:Str} (h:Q (.bl (decide (x=y))) H):rEqU K (.str x) (.str y) H Q:=.inl ⟨rfl,by rw [show decide (V.str x=V.str y)=decide (x=y) by simp]; exact h⟩
theorem w_neS {K:Fq} {H:Hp} {Q:VK} {x y:Str} (h:Q (.bl (!decide (x=y))) H):rNeU K (.str x) (.str y) H Q:=.inl ⟨rfl,by rw [show decide (V.str x=V.str y)=decide (x=y) by simp]; exact h⟩
theorem dot_bd:∀ {ps as:List Int},as.length=ps.length->(∀ x∈ps,1<=x/\x<=1000000000)->(∀ x∈as,0<=x/\x<=1000000000000000000)->0<=dotF ps as/\dotF ps as<=(ps.length:Int)*1000000000000000000000000000
 | [],[],_,_,_=>by simp [dotF]
 | [],a::as,h,_,_=>by simp at h
 | p::ps,[],h,_,_=>by simp at h
 | p::ps,a::as,h,hp,ha=>by
   have ih:=dot_bd (ps:=ps) (as:=as) (by simpa using h) (λ x hx=>hp x (by simp [hx])) λ x hx=>ha x (by simp [hx])
   have h1:=hp p (by simp)
   have h2:=ha a (by simp)
   have e:dotF (p::ps) (a::as)=p*a+dotF ps as:=rfl
   have z1:0<=p*a:=Int.mul_nonneg (by omega) h2.1
   have z2:p*a<=1000000000*1000000000000000000:=Int.le_trans (Int.mul_le_mul_of_nonneg_right h1.2 h2.1) (Int.mul_le_mul_of_nonneg_left h2.2 (by decide))
   rw [e,List.length_cons]
   omega
theorem dot_pos:∀ {ps as:List Int},as.length=ps.length->(∀ x∈ps,1<=x/\x<=1000000000)->(∀ x∈as,0<=x/\x<=1000000000000000000)->(∃ x∈as,0<x)->0<dotF ps as
 | [],[],_,_,_,⟨x,hx,_⟩=>by simp at hx
 | [],a::as,h,_,_,_=>by simp at h
 | p::ps,[],h,_,_,_=>by simp at h
 | p::ps,a::as,h,hp,ha,⟨x,hx,x0⟩=>by
   have h1:=hp p (by simp)
   have h2:=ha a (by simp)
   have bd:=dot_bd (ps:=ps) (as:=as) (by simpa using h) (λ x hx=>hp x (by simp [hx])) λ x hx=>ha x (by simp [hx])
   have e:dotF (p::ps) (a::as)=p*a+dotF ps as:=rfl
   rw [e]
   rcases List.mem_cons.mp hx with z | z
   · subst z
     have:0<p*x:=Int.mul_pos (by omega) x0
     omega
   · have:=dot_pos (ps:=ps) (as:=as) (by simpa using h) (λ x hx=>hp x (by simp [hx])) (λ x hx=>ha x (by simp [hx])) ⟨x,z,x0⟩
     have:0<=p*a:=Int.mul_nonneg (by omega) h2.1
     omega
theorem cost_bd {m n:Nat} {B:List (List Int×List Int)} (g:GoodBook m n B) {i j:Nat} (hi:i<B.length) (hj:j<B.length):0<Qj B i j/\Qj B i j<=6000000000000000000000000000:=by
 have gi:=Xq g.dy hi
 have gj:=Xq g.dy hj
 have l:(B.getD j ([],[])).2.length=(B.getD i ([],[])).1.length:=by rw [gi.l1,gj.l2]
 have h1:=dot_bd l gi.pr gj.am
 have h2:=dot_pos l gi.pr gj.am gj.ps
 have n6:=g.n6
 rw [gi.l1] at h1
 unfold Qj
 omega
end LB
namespace L2
open PySem PySem.Spec PyProof.Rows
section
variable {X:Cx} {tg:Expr} {pins:List (Addr×Obj)} {σ:St} {H:Hp} {s:Shared} {d:Addr} {o:Obj} {kvs:List (Key×V)}
theorem Inv.freeze (I:Inv X pins σ H s) (e:H d=some (.dK kvs)):∃ o,Inv X pins σ (upd H d (.frz o (.dK kvs))) s:=by
 obtain ⟨z,y,vs,r,ob,es,ep,g,c⟩:=id (show ObjOk X.prog X.w H s.heap d (.dK kvs) from I.hok d _ e)
 exact ⟨ob,I.write (h':=s.heap) (t':=s.toks) (x:=d) (e:=d) (by rw [e]; trivial) (.inl rfl) (λ _ _ _ q=>q) ⟨ob,g⟩ ⟨g,z,y,vs,r,ob,es,ep,g,c⟩⟩
theorem Inv.thaw (I:Inv X pins σ H s) (e:H d=some (.frz o (.dK kvs))) (nf:∀ ob u,X.H₀ d≠some (.frz ob u)):Inv X pins σ (upd H d (.dK kvs)) s:=by
 have no:∀ b u,H b=u->u≠some (.frz o (.dK kvs))->upd H d (.dK kvs) b=u:=λ b u q n=>by
  rw [Z5 (λ z=>by rw [z,e] at q; exact n q.symm)]; exact q
 refine ⟨I.ok,I.os,I.bare,⟨I.base.keep,I.base.slot,λ b ob q n hx=>no b _ (I.base.free b ob q n hx) (by simp),I.base.there,λ b xs q=>no b _ (I.base.tups b xs q) (by simp),λ b ob u q=>?_,λ b ps q=>?_⟩,I.loc,I.cell,no _ _ I.free (by simp),λ x c q=>no c _ (I.freeC x c q) (by simp),λ p hp=>?_,λ b u q=>?_,I.len⟩
 · have z:=I.base.frzs b ob u q
   rw [Z5 (λ w=>nf ob u (by rw [← w]; exact q))]; exact z
 · obtain ⟨m,z⟩:=I.base.tbls b ps q
   exact ⟨m,no b _ z (by simp)⟩
 · obtain ⟨a1,a2,a3⟩:=I.pin p hp
   exact ⟨a1,no _ _ a2 (by simp),a3⟩
 · by_cases hb:b=d
   · subst hb
     rw [Zn] at q
     cases q
     obtain ⟨_,z⟩:=(show ObjOk X.prog X.w H s.heap b (.frz o (.dK kvs)) from I.hok b _ e)
     exact z
   · rw [Z5 hb] at q
     exact (I.hok b u q).stay (λ c v _ r=>r) (λ c r=>no c _ r (by simp)) λ c xs r=>no c _ r (by simp)
theorem Zz0 {P:Program} {w:World} {n:Int} {u:Value} (hi:(Y8 P w).is (Sum.inl n) u=true):∃ t,u=.int n t:=by
 rw [Zjz] at hi
 cases u with
 | int i t =>
   have hi':Value.isInt n (.int i t)=true:=hi
   first
    | exact ⟨t,by have:=of_decide_eq_true hi'; rw [this]⟩
    | (simp [Value.isInt] at hi'; exact ⟨t,by rw [hi']⟩)
 | _=>simp [Za2,Value.isInt] at hi
theorem Zr3 (I:Inv X pins σ H s) (e:H d=some (.frz o (.dK kvs))) {es ep} (ho:o.data=.dict es ep):∃ vs,KV kvs vs/\s.heap.DictAt (Y8 X.prog X.w) d vs ep:=by
 obtain ⟨g,z,y,vs,r,ob,es',ep',g',c1,c2,c3⟩:=(show ObjOk X.prog X.w H s.heap d (.frz o (.dK kvs)) from I.hok d _ e)
 rw [g] at g'
 cases g'
 rw [ho] at c2
 cases c2
 exact ⟨vs,r,o,es,g,c1,ho,c3⟩
def Itd (d:Addr) (o:Obj) (kvs:List (Key×V)) (ns:List Int):It :=
 ⟨λ i H=>H d=some (.frz o (.dK kvs))/\i<ns.length,λ i H x H'=>H'=H/\∃ n,ns[i]?=some n/\x=.int n,λ i H=>H d=some (.frz o (.dK kvs))/\ns.length<=i⟩
theorem Zt1 {P:Program} {w:World} {K:Fq} (d it:Addr) {ns:List Int} (hk:kvs.map (·.1)=ns.map Sum.inl) {es ep} (ho:o.data=.dict es ep):Turn P w K tg (Itd d o kvs ns) [it] it (λ i h=>h.IsKeyIter it d i ns.length ep) where
 mem:=by simp
 obj:=λ i h st b hb=>by
  have e:b=it:=by simpa using hb
  subst e
  obtain ⟨o,e,c,d⟩:=st
  exact ⟨o,e,λ v z=>by rw [d] at z; cases z⟩
 keep:=λ i h h' st k=>st.at λ o e=>k it (by simp) o e
 item:=by
  intro X hP hw hK hc i pins s σ H E I hf st hg
  subst hP hw hK
  obtain ⟨he,hi⟩:=hg
  obtain ⟨vs,r,hm⟩:=Zr3 I he ho
  have lv:vs.length=ns.length:=by rw [← r.length]; have:=congrArg List.length hk; simpa using this
  obtain ⟨n,hn⟩:∃ n,ns[i]?=some n:=⟨ns[i],List.getElem?_eq_getElem hi⟩
  have kx:(vs.map (·.1))[i]?=some (Sum.inl n):=by rw [← r.keys,hk,List.getElem?_map,hn]; rfl
  rw [List.getElem?_map] at kx
  obtain ⟨⟨k,x⟩,ex,ek⟩:=Option.map_eq_some_iff.mp kx
  have ek':k=Sum.inl n:=ek
  subst ek'
  obtain ⟨f0,f1,f2,f3,f4,f5⟩:=hf it (by simp)
  refine wpAny_pyNext_dict_item (knd:=Y8 X.prog X.w) (by rw [lv]; exact st) hm ex λ key h' hkey st' sb=>?_
  rw [lv] at st'
  obtain ⟨t,rfl⟩:=Zz0 hkey
  have I1:Inv X pins σ H { s with heap:=h' }:=I.turned (t':=s.toks) (λ b o hb e=>(sb.2 b hb).trans e) f0 f1 f3 f4 f5
  obtain ⟨o',e',c',d'⟩:=id st'
  exact ⟨_,rfl,Zkb (s:={ s with heap:=h' }) e' c' d' (by decide) ⟨.int n,H,I1,⟨t,rfl⟩,⟨rfl,n,hn,rfl⟩,st',λ b hb=>(hf b hb).1⟩⟩
 done:=by
  intro X hP hw hK hc i pins s σ H E I hf st hg
  subst hP hw hK
  obtain ⟨he,hi⟩:=hg
  obtain ⟨vs,r,hm⟩:=Zr3 I he ho
  have lv:vs.length=ns.length:=by rw [← r.length]; have:=congrArg List.length hk; simpa using this
  obtain ⟨f0,f1,f2,f3,f4,f5⟩:=hf it (by simp)
  exact wpAny_pyNext_dict_end (knd:=Y8 X.prog X.w) (I.ok.hd hc) (by rw [lv]; exact st) hm (List.getElem?_eq_none (by omega)) λ h' eb=>⟨rfl,I.turned (t':=s.toks) (λ b o hb e=>eb b o hb e) f0 f1 f3 f4 f5⟩
 self:=λ _ _ _ _ _ st h=>wpAny_pyIter_keyiter st h
def Zs7 (tl:TE):TI:=λ σ H R=>tl σ H λ x H1=>∃ d o kvs ns,x=.ref d/\H1 d=some (.frz o (.dK kvs))/\kvs.map (·.1)=ns.map Sum.inl/\R (Itd d o kvs ns) H1
theorem Zrb {l:Expr} {tl:TE} (hl:PE X l tl):PI X tg l (Zs7 tl):=by
 intro pins s σ H R I h
 refine thn (hl pins s σ H _ I h) λ v s1 ⟨x,H1,I1,r1,q1⟩=>?_
 obtain ⟨d,o,kvs,ns,e,he,hk,q⟩:=q1
 subst e
 cases r1
 obtain ⟨g,z,y,vs,r,ob,es,ep,g',c1,c2,c3⟩:=id (show ObjOk X.prog X.w H1 s1.heap d (.frz o (.dK kvs)) from I1.hok d _ he)
 have eo:ob=o:=by rw [g] at g'; cases g'; rfl
 subst eo
 have hm:s1.heap.DictAt (Y8 X.prog X.w) d vs ep:=⟨ob,es,g,c1,c2,c3⟩
 have lv:vs.length=ns.length:=by rw [← r.length]; have:=congrArg List.length hk; simpa using this
 refine wpAny_pyIter_dict y hm ?_
 refine ⟨s1.heap.objs.size,[s1.heap.objs.size],_,_,H1,rfl,I1.kept (t':=s1.toks) λ b o e=>Heap.get?_push_of_some _ e,Zt1 d _ hk c2,⟨_,Heap.get?_push_size _ rfl,rfl,by rw [lv]; rfl⟩,λ b hb=>?_,q⟩
 have e:b=s1.heap.objs.size:=by simpa using hb
 subst e
 exact I1.fpOk (Nat.le_refl _) (I1.hok.fresh (Nat.le_refl _))
def Ends.held (D:Ends) (d:Addr) (o:Obj) (kvs:List (Key×V)):Ends where
 nx:=λ σ H=>H d=some (.frz o (.dK kvs))/\D.nx σ (upd H d (.dK kvs))
 rt:=λ v H=>H d=some (.frz o (.dK kvs))/\D.rt v (upd H d (.dK kvs))
 bk:=λ σ H=>H d=some (.frz o (.dK kvs))/\D.bk σ (upd H d (.dK kvs))
 ct:=λ σ H=>H d=some (.frz o (.dK kvs))/\D.ct σ (upd H d (.dK kvs))
def Znc (i:Nat) (g:TG) (tb:TS):TS:=λ D σ H=>∃ (d:Addr) (kvs:List (Key×V)),σ[i]?=some (some (.ref d))/\H d=some (.dK kvs)/\∀ o,Qo (Zs7 (Zc i)) g tb (D.held d o kvs) σ (upd H d (.frz o (.dK kvs)))
theorem Zq9 {st:Stmt} {i:Nat} {g:TG} {tb:TS} (h:PS X st (Qo (Zs7 (Zc i)) g tb)):PS X st (Znc i g tb):=by
 intro pins s σ H D I ⟨d,kvs,hσ,hd,w⟩
 obtain ⟨o,I1⟩:=I.freeze hd
 have nf:∀ ob u,X.H₀ d≠some (.frz ob u):=λ ob u z=>by
  have:=I.base.frzs d ob u z
  rw [hd] at this; cases this
 refine thn (h pins s σ _ (D.held d o kvs) I1 (w o)) λ f s' q=>?_
 cases f with
 | next=>obtain ⟨σ',H',I',e,q⟩:=q; exact ⟨σ',_,I'.thaw e nf,q⟩
 | brk=>obtain ⟨σ',H',I',e,q⟩:=q; exact ⟨σ',_,I'.thaw e nf,q⟩
 | cont=>obtain ⟨σ',H',I',e,q⟩:=q; exact ⟨σ',_,I'.thaw e nf,q⟩
 | ret u=>obtain ⟨v,σ',H',I',r,e,q⟩:=q; exact ⟨v,σ',_,I'.thaw e nf,r,q⟩
theorem Ztv {i:Nat} {g:TG} {tb:TS} {D:Ends} {ns:List Int} (hσ:σ[i]?=some (some (.ref d))) (hd:H d=some (.dK kvs)) (hk:kvs.map (·.1)=ns.map Sum.inl) (Pv:Obj->Nat->St->Hp->Prop)
 (h0:∀ o,Pv o 0 σ (upd H d (.frz o (.dK kvs)))) (hl:∀ o j σ H,Pv o j σ H->H d=some (.frz o (.dK kvs)))
 (hs:∀ o j n σ H,ns[j]?=some n->Pv o j σ H->g (.int n) σ H λ σ2 H2=>tb { D.held d o kvs with nx:=Pv o (j+1),ct:=Pv o (j+1),bk:=(D.held d o kvs).nx } σ2 H2)
 (he:∀ o σ H,Pv o ns.length σ H->D.nx σ (upd H d (.dK kvs))):Znc i g tb D σ H:=by
 refine ⟨d,kvs,hσ,hd,λ o=>Qc (Za hσ ⟨d,o,kvs,ns,rfl,Zn,hk,?_⟩)⟩
 refine ⟨λ i m σ H=>m=ns.length-i/\i<=ns.length/\Pv o i σ H,⟨ns.length,by simp,Nat.zero_le _,h0 o⟩,?_⟩
 rintro i m σ H ⟨rfl,hi,p⟩
 have q:=hl o i σ H p
 by_cases hlt:i<ns.length
 · refine .inr ⟨⟨q,hlt⟩,Pv o (i+1),λ σ' H' p'=>⟨ns.length-(i+1),by omega,rfl,hlt,p'⟩,λ x H' y=>?_⟩
   obtain ⟨e,n,hn,ex⟩:=y
   subst e ex
   exact hs o i n σ _ hn p
 · have e:i=ns.length:=by omega
   subst e
   exact .inl ⟨⟨q,Nat.le_refl _⟩,q,he o σ H p⟩
theorem DGet.f {k:Key} (e:H d=some (.frz o (.dK kvs))):DGet H d (kV k) (valV kvs k):=.inl ⟨kvs,k,.inr ⟨o,e⟩,rfl,rfl⟩
def Zx7:List V->Hp->VK->Prop:=λ xs H Q=>∃ (a:Addr) (kvs:List (Key×V)),xs=[.ref a]/\H a=some (.dK kvs)/\Q (.int (kvs.length:Nat)) H
theorem Zvx:CallR X (.builtin "len") Zx7:=by
 intro pins s σ H xs us Q I r h
 obtain ⟨a,kvs,rfl,ha,q⟩:=h
 obtain ⟨u,rfl,ru⟩:=Ug r
 cases ru
 exact Z2g I (.inl ha) λ t s' I'=>⟨.int (kvs.length:Nat),H,I',⟨t,rfl⟩,q⟩
end
end L2
namespace L2
open PySem
theorem Zkl {α:Type}:∀ (l:List α) (i:Nat) (h:i<l.length),(l[i]::l.eraseIdx i).Perm l
 | a::l,0,_=>List.Perm.refl _
 | a::l,i+1,h=>(List.Perm.swap a _ _).trans ((Zkl l i (by simpa using h)).cons a)
theorem Zra {α:Type} (next:Nat->Nat):∀ (fuel k:Nat) (left:List α) (out:Array α),left.length=fuel->(pickOrder.go next fuel k left out).toList.Perm (out.toList++left)
 | 0,k,left,out,h=>by
   have e:left=[]:=List.eq_nil_of_length_eq_zero h
   subst e
   simp [pickOrder.go]
 | fuel+1,k,left,out,h=>by
   have hp:0<left.length:=by omega
   have hi:next k % left.length<left.length:=Nat.mod_lt _ hp
   unfold pickOrder.go
   rw [List.getElem?_eq_getElem hi]
   dsimp only
   refine (Zra next fuel (k+1) _ _ (by rw [List.length_eraseIdx_of_lt hi]; omega)).trans ?_
   rw [Array.toList_push,List.append_assoc]
   exact List.Perm.append_left _ (Zkl _ _ hi)
theorem Zuh {α:Type} (next:Nat->Nat) (xs:Array α):(pickOrder next xs).toList.Perm xs.toList:=by
 have:=Zra next xs.size 0 xs.toList #[] (by simp)
 simpa [pickOrder] using this
def Rise (xs:Array Nat):Prop:=xs.toList.Pairwise (· < ·)
theorem Rise.lt {xs:Array Nat} (h:Rise xs) {i j:Nat} (hij:i<j) (hj:j<xs.size):xs[i]'(by omega)<xs[j]:=by
 have:=List.pairwise_iff_getElem.mp h i j (by simp; omega) (by simpa using hj) hij
 simpa using this
theorem Ziv {xs:Array Nat} (hx:Rise xs) (j:Nat):∀ (fuel lo hi:Nat),hi-lo<=fuel->lo<=hi->hi<=xs.size->(∀ m (h:m<xs.size),m<lo->xs[m]<j)->(∀ m (h:m<xs.size),hi<=m->¬ xs[m]<j) ->
 SetTable.below.go xs j fuel lo hi<=xs.size/\(∀ m (h:m<xs.size),m<SetTable.below.go xs j fuel lo hi->xs[m]<j)/\∀ m (h:m<xs.size),SetTable.below.go xs j fuel lo hi<=m->¬ xs[m]<j
 | 0,lo,hi,hf,hl,hh,a,b=>by
   have e:lo=hi:=by omega
   subst e
   exact ⟨hh,a,b⟩
 | fuel+1,lo,hi,hf,hl,hh,a,b=>by
   have e0:SetTable.below.go xs j (fuel+1) lo hi=if lo<hi then (if xs.getD ((lo+hi) / 2) j<j then SetTable.below.go xs j fuel ((lo+hi) / 2+1) hi else SetTable.below.go xs j fuel lo ((lo+hi) / 2)) else lo:=rfl
   rw [e0]
   by_cases c:lo<hi
   · rw [if_pos c]
     have hm:(lo+hi) / 2<xs.size:=by omega
     have eg:xs.getD ((lo+hi) / 2) j=xs[(lo+hi) / 2]:=by simp [Array.getD,hm]
     by_cases d:xs[(lo+hi) / 2]<j
     · rw [eg,if_pos d]
       refine Ziv hx j fuel ((lo+hi) / 2+1) hi (by omega) (by omega) hh (λ m h q=>?_) b
       by_cases e:m=(lo+hi) / 2
       · subst e; exact d
       · exact Nat.lt_trans (hx.lt (show m<(lo+hi) / 2 by omega) hm) d
     · rw [eg,if_neg d]
       refine Ziv hx j fuel lo ((lo+hi) / 2) (by omega) (by omega) (by omega) a (λ m h q=>?_)
       by_cases e:m=(lo+hi) / 2
       · subst e; exact d
       · have:=hx.lt (show (lo+hi) / 2<m by omega) h
         omega
   · rw [if_neg c]
     have e:lo=hi:=by omega
     subst e
     exact ⟨hh,a,b⟩
theorem Zck {xs:Array Nat} (hx:Rise xs) (j:Nat):SetTable.below xs j<=xs.size/\(∀ m (h:m<xs.size),m<SetTable.below xs j->xs[m]<j)/\∀ m (h:m<xs.size),SetTable.below xs j<=m->¬ xs[m]<j :=
 Ziv hx j xs.size 0 xs.size (by omega) (by omega) (Nat.le_refl _) (λ m h q=>by omega) (λ m h q=>by omega)
theorem Zkt {xs:Array Nat} (hx:Rise xs):SetTable.below xs 0=0:=by
 obtain ⟨h1,h2,_⟩:=Zck hx 0
 rcases Nat.eq_zero_or_pos (SetTable.below xs 0) with z | z
 · exact z
 · have:=h2 0 (by omega) z
   omega
theorem Zku {xs:Array Nat} (hx:Rise xs) {i:Nat} (hi:i<xs.size):SetTable.below xs (xs[i]+1)=i+1:=by
 obtain ⟨h1,h2,h3⟩:=Zck hx (xs[i]+1)
 rcases Nat.lt_trichotomy (SetTable.below xs (xs[i]+1)) (i+1) with z | z | z
 · have:=h3 i hi (by omega)
   omega
 · exact z
 · have h4:i+1<xs.size:=by omega
   have:=h2 (i+1) h4 z
   have:=hx.lt (show i<i+1 by omega) h4
   omega
theorem Wv {α:Type} (xs:Array α) {p:Nat} (hp:p<=xs.size) (x:α):(SetTable.insertAt xs p x).toList=xs.toList.take p++x::xs.toList.drop p:=by
 unfold SetTable.insertAt
 simp [Array.toList_extract,List.extract_eq_take_drop]
 exact List.take_of_length_le (by simp)
theorem Zp7 {xs:Array Nat} (hx:Rise xs) {j:Nat} (hn:xs[SetTable.below xs j]?≠some j):Rise (SetTable.insertAt xs (SetTable.below xs j) j):=by
 obtain ⟨h1,h2,h3⟩:=Zck hx j
 unfold Rise
 rw [Wv xs h1]
 have gt:∀ m (h:m<xs.size),SetTable.below xs j<=m->j<xs[m]:=λ m h q=>by
  have a:=h3 m h q
  rcases Nat.lt_or_ge j xs[m] with z | z
  · exact z
  · have e:xs[m]=j:=by omega
    rcases Nat.lt_or_ge (SetTable.below xs j) m with w | w
    · have b:=h3 (SetTable.below xs j) (by omega) (Nat.le_refl _)
      have c:=hx.lt w h
      omega
    · have e2:SetTable.below xs j=m:=by omega
      rw [e2,Array.getElem?_eq_getElem h,e] at hn
      exact absurd rfl hn
 refine List.pairwise_append.mpr ⟨List.Pairwise.sublist (List.take_sublist _ _) hx,List.pairwise_cons.mpr ⟨λ y hy=>?_,List.Pairwise.sublist (List.drop_sublist _ _) hx⟩,λ a ha b hb=>?_⟩
 · obtain ⟨m,hm,rfl⟩:=List.mem_iff_getElem.mp hy
   rw [List.getElem_drop]
   have hm':SetTable.below xs j+m<xs.size:=by simp at hm; omega
   simpa using gt (SetTable.below xs j+m) hm' (by omega)
 · obtain ⟨m,hm,rfl⟩:=List.mem_iff_getElem.mp ha
   have hm':m<SetTable.below xs j/\m<xs.size:=by simp at hm; omega
   have e1:(xs.toList.take (SetTable.below xs j))[m]<j:=by
    rw [List.getElem_take]; simpa using h2 m hm'.2 hm'.1
   rcases List.mem_cons.mp hb with rfl | hb
   · exact e1
   · obtain ⟨q,hq,rfl⟩:=List.mem_iff_getElem.mp hb
     have hq':SetTable.below xs j+q<xs.size:=by simp at hq; omega
     have:=gt (SetTable.below xs j+q) hq' (by omega)
     rw [List.getElem_drop]
     have e2:j<xs.toList[SetTable.below xs j+q]:=by simpa using this
     omega
theorem Zt9 {mask finger moves:Nat} {led plain:Bool} {hashes:Array Int} {t:SetTable} {order:Array Nat} (h:SetTable.laid mask finger moves led plain hashes=some (t,order)):Rise t.place/\t.led=led:=by
 unfold SetTable.laid at h
 cases e:SetTable.layClean mask hashes with
 | none=>rw [e] at h; cases h
 | some owner =>
   rw [e] at h
   cases h
   refine ⟨?_,rfl⟩
   unfold Rise
   simp only [List.map_filterMap]
   refine List.Pairwise.filterMap _ ?_ List.pairwise_lt_range
   intro a b hab x hx y hy
   have ex:x=a:=by
    cases eo:owner.getD a none with
    | none=>rw [eo] at hx; cases hx
    | some k=>rw [eo] at hx; simpa using hx.symm
   have ey:y=b:=by
    cases eo:owner.getD b none with
    | none=>rw [eo] at hy; cases hy
    | some k=>rw [eo] at hy; simpa using hy.symm
   omega
end L2
namespace L2
open PySem
def home (m:Nat) (h:Int):Nat:=SetTable.bits h % (m+1)
theorem Zlm {m:Nat} {h:Int} (h1:1<=h) (h8:h<=8):home m h=h.toNat % (m+1):=by
 unfold home SetTable.bits
 rw [Int.emod_eq_of_lt (by omega) (by omega)]
theorem Zxg {m:Nat} (hm:m=7\/m=31) {h h':Int} (h1:1<=h) (h8:h<=8) (g1:1<=h') (g8:h'<=8) (e:home m h=home m h'):h=h':=by
 rw [Zlm h1 h8,Zlm g1 g8] at e
 rcases hm with rfl | rfl <;> omega
structure Home (led:Bool) (t:SetTable) (hs:List Int):Prop where
 ld:t.led=led
 pl:t.plain=true
 du:t.dummies=#[]
 ms:t.mask=7/\hs.length<=4\/t.mask=31/\hs.length<=8
 pc:t.place.toList=hs.map (home t.mask)
 ri:Rise t.place
 bd:∀ h∈hs,1<=h/\h<=8
theorem Home.m2 {led:Bool} {t:SetTable} {hs:List Int} (H:Home led t hs):t.mask=7\/t.mask=31:=H.ms.elim (λ z=>.inl z.1) λ z=>.inr z.1
theorem Home.fresh (led:Bool):Home led (.fresh 0 0 led) []:=⟨rfl,rfl,rfl,.inl ⟨rfl,by decide⟩,rfl,List.Pairwise.nil,λ _ h=>by cases h⟩
theorem Home.size {led:Bool} {t:SetTable} {hs:List Int} (H:Home led t hs):t.place.size=hs.length:=by
 have:=congrArg List.length H.pc
 simpa using this
theorem Home.notin {led:Bool} {t:SetTable} {hs:List Int} (H:Home led t hs) {h:Int} (h1:1<=h) (h8:h<=8) (hn:h ∉ hs) (i:Nat):t.place[i]?≠some (home t.mask h):=λ e=>by
 have e2:home t.mask h∈t.place.toList:=by
  have:=List.mem_of_getElem? (l:=t.place.toList) (i:=i) (by rw [Array.getElem?_toList]; exact e)
  exact this
 rw [H.pc] at e2
 obtain ⟨g,hg,eg⟩:=List.mem_map.mp e2
 have:=Zxg H.m2 (H.bd g hg).1 (H.bd g hg).2 h1 h8 eg
 subst this
 exact hn hg
theorem Zrw (j:Nat):SetTable.has #[] j=false:=by
 unfold SetTable.has
 simp
theorem Home.free {led:Bool} {t:SetTable} {hs:List Int} (H:Home led t hs) {h:Int} (h1:1<=h) (h8:h<=8) (hn:h ∉ hs):t.freeSlot h=some (home t.mask h,false):=by
 have es:t.slot (home t.mask h)=.empty:=by
  unfold SetTable.slot
  dsimp only
  rw [if_neg (by rw [beq_iff_eq]; exact H.notin h1 h8 hn _),H.du,Zrw]
  rfl
 have ep:t.probe (λ _=>h+1) h (t.probeStart h)=some (.empty (home t.mask h) none):=by
  unfold SetTable.probe
  have e0:10*SetTable.turns t.mask=(10*SetTable.turns t.mask-1)+1:=by unfold SetTable.turns; omega
  rw [e0]
  unfold SetTable.probe.go
  have ej:(t.probeStart h).j=home t.mask h:=rfl
  rw [ej,es]
  rfl
 unfold SetTable.freeSlot
 rw [ep]
 rfl
def Q0 (t:SetTable) (h:Int):Nat:=SetTable.below t.place (home t.mask h)
theorem Zs4 {α β:Type} (f:α->β) (xs:Array α) {p:Nat} (hp:p<=xs.size) (x:α):(SetTable.insertAt xs p x).toList.map f=(xs.toList.map f).take p++f x::(xs.toList.map f).drop p:=by
 rw [Wv xs hp,List.map_append,List.map_cons,List.map_take,List.map_drop]
theorem Home.put {led:Bool} {t:SetTable} {es:Array (Int×Value)} (H:Home led t (es.toList.map (·.1))) {h:Int} {x:Value} (h1:1<=h) (h8:h<=8) (hn:h ∉ es.toList.map (·.1)) :
 ∃ t',layNew t es h x=(SetTable.insertAt es (Q0 t h) (h,x),t',false,false)/\t'.led=led/\t'.plain=true/\t'.dummies=#[]/\t'.mask=t.mask/\t'.finger=t.finger/\t'.moves=t.moves /\
   t'.place.toList=(((SetTable.insertAt es (Q0 t h) (h,x)).toList.map (·.1)).map (home t.mask))/\Rise t'.place:=by
 have hp:=(Zck H.ri (home t.mask h)).1
 have hz:t.place.size=es.size:=by rw [H.size]; simp
 have hp':Q0 t h<=es.size:=by rw [← hz]; exact hp
 have hl:(SetTable.insertAt es (Q0 t h) (h,x)).size=es.size+1:=by
  have:=congrArg List.length (Wv es hp' (h,x))
  simp at this
  omega
 have hl2:(SetTable.insertAt t.place (Q0 t h) (home t.mask h)).size=es.size+1:=by
  have:=congrArg List.length (Wv t.place hp (home t.mask h))
  simp at this
  unfold Q0
  omega
 have len:(es.toList.map (·.1)).length=es.size:=by simp
 have hfit:({ t with place:=SetTable.insertAt t.place (Q0 t h) (home t.mask h),dummies:=t.dummies }:SetTable).fits (SetTable.insertAt es (Q0 t h) (h,x)).size=true:=by
  unfold SetTable.fits SetTable.fill
  rw [hl,hl2,H.du]
  have:=H.ms
  rw [len] at this
  simp
  rcases this with z | z <;> omega
 refine ⟨{ t with place:=SetTable.insertAt t.place (Q0 t h) (home t.mask h),dummies:=t.dummies },?_,H.ld,H.pl,H.du,rfl,rfl,rfl,?_,Zp7 H.ri (H.notin h1 h8 hn _)⟩
 · unfold layNew
   rw [H.free h1 h8 hn]
   have ep:t.put (home t.mask h)=({ t with place:=SetTable.insertAt t.place (Q0 t h) (home t.mask h),dummies:=t.dummies },Q0 t h):=by
    unfold SetTable.put
    dsimp only
    rw [H.du,Zrw]
    rfl
   dsimp only
   rw [ep]
   dsimp only
   unfold SetTable.orStandIn
   rw [hfit]
   rfl
 · show (SetTable.insertAt t.place (Q0 t h) (home t.mask h)).toList=_
   have e1:=Wv t.place hp (home t.mask h)
   have e2:=Zs4 (λ e:Int×Value=>home t.mask e.1) es hp' (h,x)
   rw [List.map_map]
   have e3:t.place.toList=es.toList.map λ e=>home t.mask e.1:=by rw [H.pc,List.map_map]; rfl
   rw [e3] at e1
   exact e1.trans e2.symm
def Zo1 (hs:List Int):Bool :=
 match SetTable.laid 31 0 1 true true hs.toArray with
 | some (t,order)=>t.place.toList == (order.toList.map λ i=>home 31 (hs.getD i 0)) && order.toList.isPerm (List.range 5) && t.mask == 31 && t.dummies.isEmpty && t.plain && t.led
 | none=>false
end L2
namespace L2
open PySem
theorem Zzu (mask f mv:Nat) (l p:Bool) (hs:Array Int):SetTable.laid mask f mv l p hs=(SetTable.laid mask 0 1 true true hs).map λ q=>({ q.1 with finger:=f,moves:=mv,led:=l,plain:=p },q.2):=by
 unfold SetTable.laid
 cases SetTable.layClean mask hs with
 | none=>rfl
 | some o=>rfl
def Zi7 {α:Type}:List α->List (List α)
 | []=>[[]]
 | x::l=>Zi7 l++(Zi7 l).map (x :: ·)
theorem Zwi {α:Type} {r l:List α} (h:r.Sublist l):r∈Zi7 l:=by
 induction h with
 | slnil=>simp [Zi7]
 | cons a _ ih=>exact List.mem_append_left _ ih
 | cons_cons a _ ih=>exact List.mem_append_right _ (List.mem_map.mpr ⟨_,ih,rfl⟩)
theorem Zh2:∀ (n a:Nat) (r:List Nat),r.Pairwise (· < ·)->(∀ x∈r,a<=x/\x<a+n)->r.Sublist (List.range' a n)
 | 0,a,r,_,h=>by
   cases r with
   | nil=>exact List.Sublist.slnil
   | cons x r=>have:=h x (by simp); omega
 | n+1,a,r,p,h=>by
   rw [List.range'_succ]
   cases r with
   | nil=>exact List.nil_sublist _
   | cons x r =>
     obtain ⟨p1,p2⟩:=List.pairwise_cons.mp p
     have hx:=h x (by simp)
     by_cases e:x=a
     · subst e
       exact List.Sublist.cons_cons _ (Zh2 n (x+1) r p2 λ y hy=>⟨p1 y hy,by have:=(h y (by simp [hy])).2; omega⟩)
     · refine List.Sublist.cons _ (Zh2 n (a+1) (x::r) p λ y hy=>?_)
       have hy2:=h y hy
       rcases List.mem_cons.mp hy with rfl | hy'
       · omega
       · have:=p1 y hy'
         omega
def back (k:Nat):Int:=if k=0 then 8 else k
theorem Zv6 {h:Int} (h1:1<=h) (h8:h<=8):back (home 7 h)=h:=by
 rw [Zlm h1 h8]
 unfold back
 split <;> omega
def Zrr (r:List Nat):Bool:=!(r.length == 5) || Zo1 (r.map back)
theorem Zxy:(Zi7 (List.range' 0 8)).all Zrr=true:=by decide +kernel
theorem Zzt {hs:List Int} (hb:∀ h∈hs,1<=h/\h<=8) (hr:(hs.map (home 7)).Pairwise (· < ·)) (hl:hs.length=5):Zo1 hs=true:=by
 have hm:=Zwi (Zh2 8 0 (hs.map (home 7)) hr λ x hx=>by
  obtain ⟨h,hh,rfl⟩:=List.mem_map.mp hx
  unfold home
  exact ⟨Nat.zero_le _,by have:=Nat.mod_lt (SetTable.bits h) (show 0<7+1 by decide); omega⟩)
 have:=List.all_eq_true.mp Zxy _ hm
 unfold Zrr at this
 rw [List.length_map,hl] at this
 have e:(hs.map (home 7)).map back=hs:=by
  rw [List.map_map]
  have:hs.map (back ∘ home 7)=hs.map id:=List.map_congr_left λ h hh=>Zv6 (hb h hh).1 (hb h hh).2
  rw [this,List.map_id]
 rw [e] at this
 simpa using this
theorem Zfa {α:Type} {es:Array α}:∀ (o:List Nat),(∀ i∈o,i<es.size)->(o.filterMap (es[·]?)).length=o.length/\∀ {β:Type} (f:α->β) (d:β),(o.filterMap (es[·]?)).map f=o.map λ i=>(es.toList.map f).getD i d
 | [],_=>⟨rfl,λ _ _=>rfl⟩
 | i::o,h=>by
   obtain ⟨a,b⟩:=Zfa o λ j hj=>h j (by simp [hj])
   have hi:=h i (by simp)
   have e:(λ x=>es[x]?) i=some es[i]:=by show es[i]?=_; simp [hi]
   rw [List.filterMap_cons_some (f:=(es[·]?)) e]
   refine ⟨by simp [a],λ f d=>?_⟩
   rw [List.map_cons,List.map_cons,b f d]
   congr 1
   simp [hi]
theorem Zqo {α:Type} {es:Array α} {o:List Nat} (h:o.Perm (List.range es.size)):(o.filterMap (es[·]?)).Perm es.toList:=by
 have h1:=h.filterMap (es[·]?)
 have h2:(List.range es.size).filterMap (es[·]?)=es.toList:=by
  apply List.ext_getElem?
  intro i
  have hall:=Zfa (es:=es) (List.range es.size) λ i hi=>List.mem_range.mp hi
  have hlen:=hall.1
  rcases Nat.lt_or_ge i es.size with z | z
  · have e1:i<((List.range es.size).filterMap (es[·]?)).length:=by rw [hlen]; simpa using z
    rw [List.getElem?_eq_getElem e1,List.getElem?_eq_getElem (by simpa using z)]
    congr 1
    have q:=hall.2 (λ x=>x) es[i]
    have q2:=congrArg (λ l=>l[i]?) q
    simp only [List.map_id'] at q2
    rw [List.getElem?_eq_getElem e1,List.getElem?_map,List.getElem?_range z] at q2
    simpa [z] using q2
  · rw [List.getElem?_eq_none (by rw [hlen]; simpa using z),List.getElem?_eq_none (by simpa using z)]
 rw [h2] at h1
 exact h1
theorem Home.relay {led:Bool} {t:SetTable} {es:Array (Int×Value)} (ld:t.led=led) (pl:t.plain=true) (mk7:t.mask=7) (h5:es.size=5) (pc:t.place.toList=(es.toList.map (·.1)).map (home 7)) (ri:Rise t.place) (bd:∀ h∈es.toList.map (·.1),1<=h/\h<=8) :
 ∃ es2 t2,relayAll t es (SetTable.grown es.size)=(es2,t2,false)/\es2.toList.Perm es.toList/\Home led t2 (es2.toList.map (·.1)):=by
 have ok:=Zzt bd (by rw [← pc]; exact ri) (by simp [h5])
 unfold Zo1 at ok
 cases el:SetTable.laid 31 0 1 true true (es.toList.map (·.1)).toArray with
 | none=>rw [el] at ok; cases ok
 | some q =>
   obtain ⟨t0,order⟩:=q
   rw [el] at ok
   simp only [Bool.and_eq_true,beq_iff_eq] at ok
   obtain ⟨⟨⟨⟨⟨o1,o2⟩,o3⟩,o4⟩,o5⟩,o6⟩:=ok
   have ea:es.map (·.1)=(es.toList.map (·.1)).toArray:=by rw [← Array.toArray_toList (xs:=es.map (·.1)),Array.toList_map]
   have er:t.relaid (es.map (·.1)) (SetTable.grown es.size)=some ({ t0 with finger:=t.finger,moves:=t.movedTo 31,led:=t.led,plain:=t.plain },order):=by
    unfold SetTable.relaid
    have e31:SetTable.sizeAbove (SetTable.grown es.size)-1=31:=by rw [h5]; decide
    rw [e31,ea,Zzu,el]
    rfl
   have hp:order.toList.Perm (List.range 5):=List.isPerm_iff.mp o2
   have hp':order.toList.Perm (List.range es.size):=by rw [h5]; exact hp
   have hin:∀ i∈order.toList,i<es.size:=λ i hi=>List.mem_range.mp (hp'.mem_iff.mp hi)
   have hf:=Zfa (es:=es) order.toList hin
   have ef:(order.filterMap (es[·]?)).toList=order.toList.filterMap (es[·]?):=Array.toList_filterMap ..
   have sz:(order.filterMap (es[·]?)).size=5:=by
    rw [← Array.length_toList,ef,hf.1,hp.length_eq]; rfl
   have pcl:t0.place.toList=((order.filterMap (es[·]?)).toList.map (·.1)).map (home 31):=by
    rw [o1,ef,hf.2 (·.1) 0,List.map_map]; rfl
   have psz:t0.place.size=5:=by
    have:=congrArg List.length pcl
    rw [List.length_map,List.length_map,Array.length_toList,Array.length_toList,sz] at this
    exact this
   have d0:t0.dummies=#[]:=by simpa using o4
   have hperm:(order.filterMap (es[·]?)).toList.Perm es.toList:=by rw [ef]; exact Zqo hp'
   have hfit:({ t0 with finger:=t.finger,moves:=t.movedTo 31,led:=t.led,plain:=t.plain }:SetTable).fits (order.filterMap (es[·]?)).size=true:=by
    unfold SetTable.fits SetTable.fill
    rw [sz]
    simp [psz,d0,o3]
   refine ⟨order.filterMap (es[·]?),{ t0 with finger:=t.finger,moves:=t.movedTo 31,led:=t.led,plain:=t.plain },?_,hperm,ld,pl,d0,.inr ⟨o3,by rw [List.length_map,Array.length_toList,sz]; decide⟩,?_,?_,λ h hh=>bd h ?_⟩
   · unfold relayAll
     rw [er]
     dsimp only
     have hc:coversAll order es.size=true:=by unfold coversAll; rw [h5]; exact o2
     rw [hc,hfit]
     rfl
   · show t0.place.toList=List.map (home t0.mask) _
     rw [o3]; exact pcl
   · exact (Zt9 el).1
   · exact ((hperm.map (·.1)).mem_iff).mp hh
theorem Home.add {led:Bool} {t:SetTable} {es:Array (Int×Value)} (H:Home led t (es.toList.map (·.1))) {h:Int} {x:Value} (h1:1<=h) (h8:h<=8) (hn:h ∉ es.toList.map (·.1)) (hz:es.size<8) :
 ∃ es1 t1,layNew t es h x=(es1,t1,false,false)/\t1.plain=true/\es1.toList.Perm (es.toList++[(h,x)])/\t1.fits es1.size=true /\
   ((t1.tooFull=false/\Home led t1 (es1.toList.map (·.1)))\/(t1.tooFull=true/\∃ es2 t2,relayAll t1 es1 (SetTable.grown es1.size)=(es2,t2,false)/\es2.toList.Perm es1.toList/\t2.fits es2.size=true/\Home led t2 (es2.toList.map (·.1)))):=by
 obtain ⟨t',e,a1,a2,a3,a4,a5,a6,a7,a8⟩:=H.put (x:=x) h1 h8 hn
 have hp':Q0 t h<=es.size:=by
  have:=(Zck H.ri (home t.mask h)).1
  have hz:t.place.size=es.size:=by rw [H.size]; simp
  rw [hz] at this
  exact this
 have pm:(SetTable.insertAt es (Q0 t h) (h,x)).toList.Perm (es.toList++[(h,x)]):=by
  rw [Wv es hp']
  refine List.Perm.trans (List.perm_middle) ?_
  rw [List.take_append_drop]
  exact (List.perm_append_singleton _ _).symm
 have sz:(SetTable.insertAt es (Q0 t h) (h,x)).size=es.size+1:=by
  have:=pm.length_eq
  simpa using this
 have bd:∀ g∈(SetTable.insertAt es (Q0 t h) (h,x)).toList.map (·.1),1<=g/\g<=8:=λ g hg=>by
  have:=((pm.map (·.1)).mem_iff).mp hg
  rw [List.map_append] at this
  rcases List.mem_append.mp this with z | z
  · exact H.bd g z
  · have:g=h:=by simpa using z
    subst this; exact ⟨h1,h8⟩
 have ps:t'.place.size=es.size+1:=by
  have:=congrArg List.length a7
  simpa [sz] using this
 have ms:=H.ms
 rw [List.length_map,Array.length_toList] at ms
 have fit:t'.fits (SetTable.insertAt es (Q0 t h) (h,x)).size=true:=by
  unfold SetTable.fits SetTable.fill
  rw [sz,ps,a3,a4]
  simp
  rcases ms with z | z <;> omega
 refine ⟨_,t',e,a2,pm,fit,?_⟩
 by_cases full:t'.tooFull=true
 · refine .inr ⟨full,?_⟩
   have f2:=full
   unfold SetTable.tooFull SetTable.fill at f2
   rw [ps,a3,a4] at f2
   have f3:(es.size+1+0)*5 ≥ t.mask*3:=by simpa using f2
   have m7:t.mask=7:=by rcases ms with z | z <;> omega
   have s5:(SetTable.insertAt es (Q0 t h) (h,x)).size=5:=by rw [sz]; rcases ms with z | z <;> omega
   obtain ⟨es2,t2,r1,r2,r3⟩:=Home.relay a1 a2 (a4.trans m7) s5 (by rw [a7,m7]) a8 bd
   refine ⟨es2,t2,r1,r2,?_,r3⟩
   have q:=relayAll_fits t' (SetTable.insertAt es (Q0 t h) (h,x)) (SetTable.grown (SetTable.insertAt es (Q0 t h) (h,x)).size)
   rw [r1] at q
   exact q
 · have f0:t'.tooFull=false:=by simpa using full
   refine .inl ⟨f0,a1,a2,a3,?_,by rw [a4]; exact a7,a8,bd⟩
   rw [List.length_map,Array.length_toList,sz,a4]
   unfold SetTable.tooFull SetTable.fill at f0
   rw [ps,a3,a4] at f0
   have f3:¬ (es.size+1+0)*5 ≥ t.mask*3:=by simpa using f0
   rcases ms with z | z <;> omega
end L2
namespace L2
open PySem PySem.Spec PyProof.Rows
section
variable {prog:Program} {w:World} {A:Around} {E:Value->Shared->Prop} {s:Shared}
def SetAt (h:Heap) (a:Addr) (led:Bool) (hs:List Int):Prop :=
 ∃ o es ep t,h.get? a=some o/\o.ExactSet/\o.data=.set es ep t/\(∀ e∈es.toList,∃ tk,e.2=.int e.1 tk)/\t.fits es.size=true/\Home led t (es.toList.map (·.1))/\(es.toList.map (·.1)).Perm hs/\hs.Nodup
theorem SetAt.at {h h':Heap} {a:Addr} {led:Bool} {hs:List Int} (x:SetAt h a led hs) (k:∀ o,h.get? a=some o->h'.get? a=some o):SetAt h' a led hs :=
 let ⟨o,es,ep,t,e,r⟩:=x; ⟨o,es,ep,t,k o e,r⟩
theorem Zj8 {k:Int} (h1:1<=k) (h8:k<=8):hashInt k=k:=by
 rcases (by omega:k=1\/k=2\/k=3\/k=4\/k=5\/k=6\/k=7\/k=8) with rfl | rfl | rfl | rfl | rfl | rfl | rfl | rfl <;> decide
theorem Zti {led:Bool} {t:SetTable} {es:Array (Int×Value)} (hi:∀ e∈es.toList,∃ tk,e.2=.int e.1 tk) (H:Home led t (es.toList.map (·.1))):ElemsOf (intKind prog w) es.toList:=λ e he=>by
 obtain ⟨tk,et⟩:=hi e he
 have b:=H.bd e.1 (List.mem_map.mpr ⟨e,he,rfl⟩)
 refine ⟨⟨e.1,by rw [et]; exact intKind_is _ _ _ _,(Zj8 b.1 b.2).symm⟩,by rw [et]; rfl⟩
theorem Zl8 {led:Bool} {t:SetTable} {es:Array (Int×Value)} (H:Home led t (es.toList.map (·.1))):es.size<=8:=by
 have:=H.ms
 rw [List.length_map,Array.length_toList] at this
 rcases this with z | z <;> omega
theorem Zu5 {k j:Int} {tk:Tok}:(intKind prog w).is k (.int j tk)=decide (k=j):=KeyKind.is_eq_decide (intKind_is prog w j tk) k
theorem Zi8 {a:Addr} {o:Obj} {es es':Array (Int×Value)} {ep:Nat} {t t':SetTable} {h:Heap} {led:Bool} {hs:List Int} (ho:h.get? a=some o) (hex:o.ExactSet) (hd:o.data=.set es ep t) (hi:∀ e∈es'.toList,∃ tk,e.2=.int e.1 tk)
 (hf:t'.fits es'.size=true) (H:Home led t' (es'.toList.map (·.1))) (pm:(es'.toList.map (·.1)).Perm hs) (nd:hs.Nodup):SetAt (h.update a (Obj.putSet es' t')) a led hs:=by
 have hg:(h.update a (Obj.putSet es' t')).get? a=some { o with data:=.set es' (ep+1) t' }:=by
  have:=Heap.get?_update_self (Obj.putSet es' t') ho (by rw [putSet_of es' t' hd]; rfl)
  rw [putSet_of es' t' hd] at this; exact this
 exact ⟨_,es',ep+1,t',hg,hex,rfl,hi,hf,H,pm,nd⟩
theorem Zxz {a:Addr} {led:Bool} {hs:List Int} {k:Int} {tk:Tok} {Q:Bool->Shared->Prop} (hS:SetAt s.heap a led hs) (h1:1<=k) (h8:k<=8) (hz:hs.length<8)
 (h:∀ h' b,Heap.SameBut a s.heap h'->SetAt h' a led (if k∈hs then hs else hs++[k])->Q b { s with heap:=h' }) :
 wpAny (model prog w) A (setAddHashed a (.int k tk) ((intKind prog w).hash k)) Q E s:=by
 obtain ⟨o,es,ep,t,ho,hex,hd,hi,hf,H,pm,nd⟩:=hS
 have hel:=Zti (prog:=prog) (w:=w) hi H
 have s8:=Zl8 H
 have sl:es.size=hs.length:=by have:=pm.length_eq; simpa using this
 have hb:es.size<scanBound:=Nat.lt_of_le_of_lt s8 (by decide)
 have hsc:(Value.int k tk).scannable=true:=rfl
 have hh:(intKind prog w).hash k=k:=Zj8 h1 h8
 unfold setAddHashed setAddHashedIn
 refine wpAny_holding (wpAny_bind (wpAny_setState_of ho hd hf ?_))
 dsimp only
 rw [byScan_of hsc hb hel]
 simp only [↓reduceIte]
 unfold setAddByScan
 refine wpAny_bind ?_
 refine wpAny_bind (wpAny_rule ?_)
 refine wpAny_bind (wpAny_setScan_of (intKind_is _ _ _ _) ho hd hf hel ?_)
 cases hr:List.findIdx? (λ e=>(intKind prog w).is k e.2) es.toList with
 | some j =>
   dsimp only
   obtain ⟨hj,hpj,_⟩:=List.findIdx?_eq_some_iff_getElem.mp hr
   obtain ⟨t2,e2⟩:=hi _ (List.getElem_mem hj)
   rw [e2,Zu5,decide_eq_true_iff] at hpj
   have hin:k∈hs:=pm.mem_iff.mp (List.mem_map.mpr ⟨_,List.getElem_mem hj,hpj.symm⟩)
   refine wpAny_pure (wpAny_pure ?_)
   have e:s={ s with heap:=s.heap }:=by cases s; rfl
   have:=h s.heap false (Heap.SameBut.refl a s.heap) (by rw [if_pos hin]; exact ⟨o,es,ep,t,ho,hex,hd,hi,hf,H,pm,nd⟩)
   rw [e]; exact this
 | none =>
   dsimp only
   have hno:k ∉ es.toList.map (·.1):=λ hk=>by
    obtain ⟨e,he,ek⟩:=List.mem_map.mp hk
    obtain ⟨t2,e2⟩:=hi e he
    have:=List.findIdx?_eq_none_iff.mp hr e he
    rw [e2,Zu5,ek] at this
    simp at this
   have hno':k ∉ hs:=λ z=>hno (pm.mem_iff.mpr z)
   obtain ⟨es1,t1,eL,p1,pm1,f1,ends⟩:=H.add (x:=.int k tk) h1 h8 hno (by omega)
   have eL':layNew t es ((intKind prog w).hash k) (.int k tk)=(es1,t1,false,false):=by rw [hh]; exact eL
   have nd':(hs++[k]).Nodup:=List.nodup_append.mpr ⟨nd,by simp,λ a ha b hb e=>by
    have:b=k:=by simpa using hb
    subst this; subst e; exact hno' ha⟩
   have pmk:(es1.toList.map (·.1)).Perm (hs++[k]):=by
    have:=pm1.map (·.1)
    rw [List.map_append] at this
    exact this.trans (pm.append_right _)
   have hi1:∀ e∈es1.toList,∃ tk,e.2=.int e.1 tk:=λ e he=>by
    rcases List.mem_append.mp (pm1.mem_iff.mp he) with z | z
    · exact hi e z
    · have:e=(k,.int k tk):=by simpa using z
      subst this; exact ⟨tk,rfl⟩
   have sz1:es1.size=es.size+1:=by have:=pm1.length_eq; simpa using this
   simp only [eL']
   refine wpAny_bind (wpAny_pure ?_)
   rw [if_pos p1]
   refine wpAny_bind ?_
   rw [hashByValue_scannable 8 hsc]
   refine wpAny_pure ?_
   have hk:plainKind (.int k tk)=true:=rfl
   simp only [hk,↓reduceIte]
   have hz1:es1.size<=sizeLine:=by rw [sz1]; exact Nat.le_trans (show es.size+1<=9 by omega) (by decide)
   refine wpAny_bind (wpAny_storeSet_of ho hd ?_ hz1)
   have hsb:=Heap.SameBut.update s.heap a (Obj.putSet es1 t1)
   rcases ends with ⟨nf,H1⟩ | ⟨fu,es2,t2,eR,pm2,f2,H2⟩
   · rw [if_neg (by rw [nf]; decide)]
     refine wpAny_pure (wpAny_pure ?_)
     exact h _ true hsb (by rw [if_neg hno']; exact Zi8 ho hex hd hi1 f1 H1 pmk nd')
   · rw [if_pos (by rw [fu]; decide)]
     simp only [eR]
     refine wpAny_bind (wpAny_pure ?_)
     have ho1:(s.heap.update a (Obj.putSet es1 t1)).get? a=some { o with data:=.set es1 (ep+1) t1 }:=by
      have:=Heap.get?_update_self (Obj.putSet es1 t1) ho (by rw [putSet_of es1 t1 hd]; rfl)
      rw [putSet_of es1 t1 hd] at this; exact this
     have hz2:es2.size<=sizeLine:=by
      have:=pm2.length_eq
      rw [Array.length_toList,Array.length_toList] at this
      rw [this]; exact hz1
     refine wpAny_bind (wpAny_storeSet_of ho1 rfl ?_ hz2)
     refine wpAny_pure (wpAny_pure ?_)
     exact h _ true (hsb.trans (Heap.SameBut.update _ a _)) (by rw [if_neg hno']; exact Zi8 ho1 hex rfl (λ e he=>hi1 e (pm2.mem_iff.mp he)) f2 H2 ((pm2.map (·.1)).trans pmk) nd')
end
end L2
namespace L2
open PySem PySem.Spec PyProof.Rows
def metF (val:Nat->Int):Nat->List Int
 | 0=>[]
 | i+1=>if val i∈metF val i then metF val i else metF val i++[val i]
theorem Zrj (val:Nat->Int):∀ i,(metF val i).length<=i
 | 0=>Nat.le_refl _
 | i+1=>by
   have:=Zrj val i
   unfold metF
   split
   · omega
   · rw [List.length_append]; simp; omega
theorem Zri (val:Nat->Int):∀ i k,k∈metF val i↔∃ j,j<i/\val j=k
 | 0,k=>⟨λ h=>(by cases h),λ ⟨j,hj,_⟩=>(by omega)⟩
 | i+1,k=>by
   have ih:=Zri val i
   unfold metF
   split
   · rename_i h
     rw [ih]
     refine ⟨λ ⟨j,a,b⟩=>⟨j,by omega,b⟩,λ ⟨j,a,b⟩=>?_⟩
     by_cases e:j=i
     · subst e; rw [← b]; exact (ih _).mp h
     · exact ⟨j,by omega,b⟩
   · rw [List.mem_append,ih]
     refine ⟨λ z=>?_,λ ⟨j,a,b⟩=>?_⟩
     · rcases z with ⟨j,a,b⟩ | z
       · exact ⟨j,by omega,b⟩
       · exact ⟨i,by omega,(by have:k=val i:=by simpa using z
                               exact this.symm)⟩
     · by_cases e:j=i
       · subst e; exact .inr (by simp [b])
       · exact .inl ⟨j,by omega,b⟩
abbrev Wo (w:World):Bool:=!(w.params.followText "set-order")
section
variable {prog:Program} {w:World} {A:Around} {R:Result->Shared->Prop} {I:Addr} {fp wr:List Addr} {G:Array GenState->Array GenState->Prop} {n:Nat} {P:Nat->Value->Prop} {St:Nat->Shared->Prop}
theorem Zux (W:WalksS prog w A.in1 I fp wr G n P St) (S:Addr) (hSf:S ∉ fp) {led:Bool} (val:Nat->Int) (hval:∀ i v,P i v->∃ t,v=.int (val i) t) (hb:n<=8) (hv:∀ i,i<n->1<=val i/\val i<=8) :
 ∀ (k i:Nat) (s:Shared),n-i=k->i<=n->St i s->SetAt s.heap S led (metF val i)->(∀ s',Moved (S::wr) G s s'->SetAt s'.heap S led (metF val n)->R (.ok (.ret .none)) s') ->
   codeAny (model prog w) A (.builtin "set.update.loop" ⟨[.ref S,.ref I],[]⟩) R s:=by
 have hSw:S ∉ wr:=λ h=>hSf (W.sub _ h)
 have hsub:∀ b∈wr,b∈S::wr:=λ b hb=>List.mem_cons_of_mem _ hb
 intro k
 induction k with
 | zero =>
   intro i s hk hi hst hS hR
   have e:i=n:=by omega
   subst e
   refine codeAny_builtin PyProof.Rows.F.entry_set_update_loop ?_
   rw [Around.under_plainId PyProof.Rows.F.plain_set_update_loop _]
   show wpAny _ A.in1 (pyNext (.ref I) >>= _) _ _ s
   refine wpAny_bind (W.done s _ _ hst λ s' hm=>?_)
   show wpAny _ A.in1 (ret Value.none) _ _ s'
   exact wpAny_pure (hR s' (hm.mono hsub) (hS.at λ o e=>hm.heap S o hSw e))
 | succ k ih =>
   intro i s hk hi hst hS hR
   have hlt:i<n:=by omega
   refine codeAny_builtin PyProof.Rows.F.entry_set_update_loop ?_
   rw [Around.under_plainId PyProof.Rows.F.plain_set_update_loop _]
   show wpAny _ A.in1 (pyNext (.ref I) >>= _) _ _ s
   refine wpAny_bind (W.item i s _ _ hlt hst λ v s' hP hst' hm=>?_)
   obtain ⟨t,rfl⟩:=hval i v hP
   have hS':SetAt s'.heap S led (metF val i):=hS.at λ o e=>hm.heap S o hSw e
   show wpAny _ A.in1 (holding [Value.int (val i) t] (setAdd S (.int (val i) t)) >>= _) _ _ s'
   refine wpAny_bind (wpAny_holding ?_)
   unfold setAdd
   refine wpAny_holding ?_
   refine wpAny_bind ((intKind prog w).pyHash (k:=val i) (intKind_is _ _ _ _) ?_)
   refine Zxz (prog:=prog) (w:=w) (s:={ s' with toks:=s'.toks+1 }) hS' (hv i hlt).1 (hv i hlt).2 (by have:=Zrj val i; omega) λ h' b hsb hS2=>?_
   refine wpAny_pure ⟨plainId_quiet PyProof.Rows.F.plain_set_update_loop _,ih (i+1) _ (by omega) hlt (W.frame _ s' _ _ hst' (Nat.le_succ _) λ b hb o e=>?_) hS2 λ s'' hm'' hS''=>?_⟩
   · rw [hsb.2 b (λ h:b=S=>hSf (by rw [← h]; exact hb))]; exact e
   · refine hR s'' (Moved.trans W.gtrans ((hm.mono hsub).then_heap (Nat.le_succ _) λ b o hb e=>?_) hm'') hS''
     rw [hsb.2 b (λ h:b=S=>hb (by rw [h]; exact List.mem_cons_self))]; exact e
end
section
variable {prog:Program} {w:World} {A:Around} {E:Value->Shared->Prop} {s:Shared}
abbrev Jy (w:World):Obj:={ cls:=.type "set",dict:=none,data:=.set #[] 0 (.fresh 0 0 (Wo w)) }
theorem Zw4 (a:Value) {Q₁:Value->Shared->Prop} (h:Q₁ (.ref s.heap.objs.size) { s with heap:=s.heap.push (Jy w) }) :
 codeAny (model prog w) A (.call (.builtin "set.__new__") ⟨[.type "set",a],[]⟩) (wants Q₁ E) s:=by
 refine codeAny_of_tree ?_
 show wpAny _ A.in1 (do checkBuiltinCall "set.__new__" ⟨[.type "set",a],[]⟩; again (.builtin "set.__new__" ⟨[.type "set",a],[]⟩)) _ _ s
 refine wpAny_bind (wpAny_of_eq (PySem.F.newCall_set_1 a) (wpAny_pure ⟨plainId_quiet PySem.F.plain_set_new _,codeAny_builtin PySem.F.entry_set_new ?_⟩))
 rw [Around.under_plainId PySem.F.plain_set_new _]
 unfold Builtin.«set.__new__» Builtin.Frozenset.newClass
 have hsub:=sub_set_self
 obtain ⟨hp,g,d,tk,os⟩:=s
 dsimp only
 wp_walk
 refine wpAny_askSetting (wpAny_pure ?_)
 dsimp only
 simp only [newObj]
 refine wpAny_bind (wpAny_alloc (wpAny_pure ?_))
 exact wpAny_pure h
theorem Zwk {l:Addr} {items:Array Value} {ns:List Int} {Q:Value->Shared->Prop} (hh:A.handled=none) (hl:s.heap.IsList l items) (hi:IntsAre items.toList ns) (hb:items.size<=8) (hv:∀ i,i<items.size->1<=ns.getD i 0/\ns.getD i 0<=8)
 (h:∀ (h':Heap) (tk:Nat),SetAt h' s.heap.objs.size (Wo w) (metF (λ i=>ns.getD i 0) items.size)->(∀ b o,b<s.heap.objs.size->s.heap.get? b=some o->h'.get? b=some o)->Q (.ref s.heap.objs.size) { s with heap:=h',toks:=tk }) :
 wpAny (model prog w) A (call (.type "set") [.ref l]) Q E s:=by
 obtain ⟨c,tl,hmro⟩:=PySem.F.called_set.mro
 have hmade:=PySem.F.called_set.made
 have hsub:=PySem.F.called_set.sub
 refine wpAny_call (codeAny_of_tree ?_)
 show wpAny _ _ (callAny (.type "set") _) _ _ _
 refine wpAny_pure ⟨Code.quiet_builtin _ (by decide +kernel),codeAny_builtin PySem.F.entry_type_call ?_⟩
 rw [Around.under_plain (weight_type_call_type "set" [.ref l] []) rfl]
 have h1:=PySem.F.called_set.notType
 have h2:=PySem.F.called_set.canCreate
 have hct:=PySem.F.typeCall_set_1 (.ref l)
 repeat (any_goals (first | assumption | wp_step))
 refine codeAny_mono (Zw4 (.ref l) (E:=E) (Q₁:=λ obj s₁=>obj=.ref s.heap.objs.size/\s₁={ s with heap:=s.heap.push (Jy w) }) ⟨rfl,rfl⟩) λ r s₁ hr=>?_
 cases r with
 | error e=>exact hr
 | ok fl =>
   cases fl with
   | ret obj =>
     obtain ⟨rfl,rfl⟩:=hr
     have hS:(s.heap.push (Jy w)).get? s.heap.objs.size=some (Jy w):=Heap.get?_push_size _ rfl
     have hT:Shared.TypeIs { s with heap:=s.heap.push (Jy w) } (.ref s.heap.objs.size) "set":=⟨_,hS,rfl⟩
     have hli:=PySem.F.called_set.init.lookup
     have hbi:=PySem.F.called_set.init.bind (.ref s.heap.objs.size)
     repeat (any_goals (first | assumption | wp_step))
     refine codeAny_mono (codeAny_call_builtin (R:=wants (λ r s₂=>r=.none/\∃ h' tk,s₂={ s with heap:=h',toks:=tk }/\SetAt h' s.heap.objs.size (Wo w) (metF (λ i=>ns.getD i 0) items.size) /\
      (∀ b o,b<s.heap.objs.size->s.heap.get? b=some o->h'.get? b=some o)) E) PySem.F.called_set.init.plain PySem.F.entry_set_init (check_set_init_1 hT ?_)) λ r₂ s₂ hr₂=>?_
     · obtain ⟨ol,hol,hcl,nl,hdl⟩:=hl
       obtain ⟨ocls,odict,odata,oslots⟩:=ol
       simp only at hcl hdl
       subst hcl; subst hdl
       have hol':(s.heap.push (Jy w)).get? l=some { cls:=.type "list",dict:=odict,data:=.seq items nl,slots:=oslots }:=Heap.get?_push_of_some _ hol
       have hsls:=PySem.F.sub_list_set
       have hslf:=PySem.F.sub_list_frozenset
       have hne:(Value.type "list" == Value.type "dict")=false:=by decide
       have hl1:(s.heap.push (Jy w)).IsList l items:=⟨_,hol',rfl,nl,rfl⟩
       unfold Builtin.«set.__init__» noKeywords Builtin.Frozenset.updateFrom
       generalize hPI:pyIter=PI
       wp_walk
       subst hPI
       refine wpAny_pyIter_list hl1 ?_
       refine wpAny_bind (wpAny_runValue ?_)
       have hlS:l<s.heap.objs.size:=Heap.lt_size hol
       have hh3:A.in1.in1.in1.handled=none:=by simp [hh]
       have hneI:l≠(s.heap.push (Jy w)).objs.size:=by
        rw [Heap.size_push]; exact Nat.ne_of_lt (Nat.lt_succ_of_lt hlS)
       have hSf:s.heap.objs.size ∉ [(s.heap.push (Jy w)).objs.size,l]:=by
        rw [Heap.size_push]; simp only [List.mem_cons,List.mem_singleton,List.not_mem_nil,or_false,not_or]
        exact ⟨Nat.ne_of_lt (Nat.lt_succ_self _),Nat.ne_of_gt hlS⟩
       have hval:∀ (i:Nat) (v:Value),items[i]?=some v->∃ t,v=.int ((λ i=>ns.getD i 0) i) t:=λ i v hv =>
        IntsAre.int_at hi i v (by rw [Array.getElem?_toList]; exact hv)
       refine Zux ((Walks.list hh3 _ l hneI items).toS) s.heap.objs.size hSf (led:=Wo w) (λ i=>ns.getD i 0) hval hb hv (items.size-0) 0 _ (by omega) (Nat.zero_le _) ⟨⟨_,Heap.get?_push_size _ rfl,rfl,rfl⟩,(hl1.push _)⟩ ?hS0 ?hR
       case hS0 =>
        exact ⟨_,#[],0,_,Heap.get?_push_of_some _ hS,⟨rfl,rfl,rfl⟩,rfl,λ e he=>by simp at he,by rfl,Home.fresh _,List.Perm.refl _,List.nodup_nil⟩
       case hR =>
        intro s' hm hS'
        obtain ⟨h',g',d',tk',os'⟩:=s'
        have eg:g'=s.gens:=hm.gens
        have ed:d'=s.drawn:=hm.drawn
        have eo:os'=s.os:=hm.os
        subst eg; subst ed; subst eo
        show wpAny _ _ _ _ _ _
        refine wpAny_pure ?_
        show wpAny _ _ (ret Value.none) _ _ _
        refine wpAny_pure ⟨rfl,h',tk',rfl,hS',λ b o hb e=>?_⟩
        have hb1:b≠s.heap.objs.size:=Nat.ne_of_lt hb
        have hb2:b≠(s.heap.push (Jy w)).objs.size:=by
         rw [Heap.size_push]; exact Nat.ne_of_lt (Nat.lt_succ_of_lt hb)
        exact hm.heap b o (by simp only [List.mem_cons,List.mem_singleton,List.not_mem_nil,or_false,not_or]; exact ⟨hb1,hb2⟩) (Heap.get?_push_of_some _ (Heap.get?_push_of_some _ e))
     · cases r₂ with
       | error e=>exact hr₂
       | ok fl₂ =>
         cases fl₂ with
         | ret r =>
           obtain ⟨rfl,h',tk,rfl,hS',hk'⟩:=hr₂
           repeat (any_goals (first | assumption | wp_step))
           exact h _ _ hS' hk'
         | _=>exact hr₂.elim
   | _=>exact hr.elim
end
end L2
namespace L2
open PySem PySem.Spec PyProof.Rows
theorem Wb:Slot "set_iterator" "__next__" "set_iterator.__next__" :=
 .of (owner:="set_iterator") (n:="__next__") (by rw [typeLookup_type,builtinLookup_eq_fast]; kernel_rfl) (by decide +kernel) (by decide +kernel) (by decide +kernel) (by first | exact .inl (by decide +kernel) | exact .inr (by decide +kernel)) (by rw [isSubtype_type]; kernel_rfl)
theorem Zf0:Slot "set_iterator" "__iter__" "set_iterator.__iter__" :=
 .of (owner:="set_iterator") (n:="__iter__") (by rw [typeLookup_type,builtinLookup_eq_fast]; kernel_rfl) (by decide +kernel) (by decide +kernel) (by decide +kernel) (by first | exact .inl (by decide +kernel) | exact .inr (by decide +kernel)) (by rw [isSubtype_type]; kernel_rfl)
theorem Zfo:entryFor table "set_iterator.__next__"=some Builtin.«set_iterator.__next__»:=entryFor_of_tree (by kernel_rfl)
theorem Zm7:entryFor table "set_iterator.__iter__"=some Builtin.«dict_keyiterator.__iter__»:=entryFor_alias (id':="dict_keyiterator.__iter__") (by kernel_rfl) rfl (by decide +kernel) (by kernel_rfl)
theorem Zph:entryFor table "set.__iter__"=some Builtin.«frozenset.__iter__»:=entryFor_alias (id':="frozenset.__iter__") (by kernel_rfl) rfl (by decide +kernel) (by kernel_rfl)
theorem Zg2 (a:Value):argsOk "set_iterator.__next__" ⟨[a],[]⟩:=by unfold argsOk; kernel_rfl
theorem Zp0 (a:Value):argsOk "set_iterator.__iter__" ⟨[a],[]⟩:=by unfold argsOk; kernel_rfl
theorem Zqu (a:Value):argsOk "set.__iter__" ⟨[a],[]⟩:=by unfold argsOk; kernel_rfl
abbrev Zd3 (w:World):Bool:=w.params.followText "set-order"
section
variable {prog:Program} {w:World} {A:Around} {E:Value->Shared->Prop} {s:Shared} {a it:Addr} {o:Obj} {es:Array (Int×Value)} {ep:Nat} {t:SetTable}
def Jl (w:World) (a:Addr) (es:Array (Int×Value)) (ep:Nat):Array (Int×Value):=if Zd3 w then pickOrder (w.params.setOrder a ep) es else es
theorem Zie:(Jl w a es ep).toList.Perm es.toList:=by
 unfold Jl
 split
 · exact Zuh _ _
 · exact List.Perm.refl _
theorem K1:(Jl w a es ep).size=es.size:=by
 have:=(Zie (w:=w) (a:=a) (es:=es) (ep:=ep)).length_eq
 simpa using this
def Qg (w:World) (t:SetTable) (i:Nat):Nat:=if Zd3 w then 0 else match i with | 0=>0 | j+1=>t.place.getD j 0+1
theorem Er {Q:Bool->Shared->Prop} (h:Q (Zd3 w) s):wpAny (model prog w) A setsByText Q E s:=by
 unfold setsByText
 exact wpAny_bind (wpAny_askSetting (wpAny_pure h))
structure Known (w:World) (o:Obj) (es:Array (Int×Value)) (ep:Nat) (t:SetTable):Prop where
 ex:o.ExactSet
 da:o.data=.set es ep t
 fi:t.fits es.size=true
 pl:t.plain=true
 ld:t.led=Wo w
 ri:Rise t.place
 sz:t.place.size=es.size
theorem Zup (K:Known w o es ep t) (ho:s.heap.get? a=some o) {i:Nat} (hi:i<es.size) {Q:Option (Value×Nat)->Shared->Prop}
 (h:Q (some (((Jl w a es ep)[i]'(by rw [K1]; exact hi)).2,Qg w t (i+1))) s):wpAny (model prog w) A (setNext a (Qg w t i) i ep) Q E s:=by
 unfold setNext
 refine wpAny_bind (wpAny_setState_of ho K.da K.fi ?_)
 dsimp only
 refine wpAny_bind (Er ?_)
 have hi':i<(Jl w a es ep).size:=by rw [K1]; exact hi
 by_cases b:Zd3 w=true
 · have es0:∀ j,Qg w t j=0:=λ j=>by unfold Qg; rw [if_pos b]
   have eo:Jl w a es ep=pickOrder (w.params.setOrder a ep) es:=by unfold Jl; rw [if_pos b]
   rw [if_pos b,if_neg (by simp)]
   rw [es0] at h ⊢
   unfold setWalk
   refine wpAny_bind (wpAny_bind (wpAny_setState_of ho K.da K.fi ?_))
   dsimp only
   refine wpAny_bind (Er ?_)
   rw [if_pos b]
   refine wpAny_bind (wpAny_askSetting (wpAny_pure (wpAny_pure ?_)))
   have e2:(pickOrder (w.params.setOrder a ep) es)[i]?=some ((Jl w a es ep)[i]'hi'):=by
    rw [← eo]; exact Array.getElem?_eq_getElem hi'
   show Q (((pickOrder (w.params.setOrder a ep) es)[i]?).map λ e=>(e.2,0)) s
   rw [e2]
   exact h
 · have eo:Jl w a es ep=es:=by unfold Jl; rw [if_neg b]
   have hp:i<t.place.size:=by rw [K.sz]; exact hi
   have eb:SetTable.below t.place (Qg w t i)=i:=by
    unfold Qg
    rw [if_neg b]
    cases i with
    | zero=>exact Zkt K.ri
    | succ j =>
      have hj:j<t.place.size:=by omega
      have:=Zku K.ri hj
      simpa [Array.getD,hj] using this
   have en:Qg w t (i+1)=t.place[i]+1:=by
    unfold Qg
    rw [if_neg b]
    simp [Array.getD,hp]
   rw [if_neg b]
   refine wpAny_ite_split (λ hab=>absurd (show (!t.plain && decide (es.size > 1))=true from hab) (by rw [K.pl]; simp)) λ _=>?_
   refine wpAny_bind ?_
   show wpAny _ _ (if (!t.led && !es.isEmpty)=true then _ else _) _ _ s
   rw [if_neg (by rw [K.ld]; unfold Wo; simp [b])]
   refine wpAny_pure ?_
   try dsimp only
   rw [eb,Array.getElem?_eq_getElem hi,Array.getElem?_eq_getElem hp]
   refine wpAny_pure ?_
   rw [en] at h
   have e2:(Jl w a es ep)[i]'hi'=es[i]:=by simp [eo]
   rw [e2] at h
   exact h
theorem Zuq (K:Known w o es ep t) (ho:s.heap.get? a=some o) {Q:Option (Value×Nat)->Shared->Prop} (h:Q none s):wpAny (model prog w) A (setNext a (Qg w t es.size) es.size ep) Q E s:=by
 unfold setNext
 refine wpAny_bind (wpAny_setState_of ho K.da K.fi ?_)
 dsimp only
 refine wpAny_bind (Er ?_)
 by_cases b:Zd3 w=true
 · rw [if_pos b,if_neg (by simp)]
   unfold setWalk
   refine wpAny_bind (wpAny_bind (wpAny_setState_of ho K.da K.fi ?_))
   dsimp only
   refine wpAny_bind (Er ?_)
   rw [if_pos b]
   refine wpAny_bind (wpAny_askSetting (wpAny_pure (wpAny_pure ?_)))
   have eo:Jl w a es ep=pickOrder (w.params.setOrder a ep) es:=by unfold Jl; rw [if_pos b]
   have e2:(pickOrder (w.params.setOrder a ep) es)[es.size]?=none:=Array.getElem?_eq_none (by rw [← eo,K1]; exact Nat.le_refl _)
   show Q (((pickOrder (w.params.setOrder a ep) es)[es.size]?).map λ e=>(e.2,_)) s
   rw [e2]
   exact h
 · rw [if_neg b]
   refine wpAny_ite_split (λ hab=>absurd (show (!t.plain && decide (es.size > 1))=true from hab) (by rw [K.pl]; simp)) λ _=>?_
   refine wpAny_bind ?_
   show wpAny _ _ (if (!t.led && !es.isEmpty)=true then _ else _) _ _ s
   rw [if_neg (by rw [K.ld]; unfold Wo; simp [b])]
   refine wpAny_pure ?_
   try dsimp only
   have eb:SetTable.below t.place (Qg w t es.size)=es.size:=by
    unfold Qg
    rw [if_neg b]
    cases e:es.size with
    | zero=>exact Zkt K.ri
    | succ j =>
      have hj:j<t.place.size:=by rw [K.sz]; omega
      have:=Zku K.ri hj
      simpa [Array.getD,hj] using this
   rw [eb,Array.getElem?_eq_none (Nat.le_refl _)]
   exact wpAny_pure h
def SetIt (h:Heap) (it a:Addr) (sl i n ep:Nat):Prop:=∃ o,h.get? it=some o/\o.cls=.type "set_iterator"/\o.data=.fields #[.int (sl:Nat) 0,.int (i:Nat) 0,.ref a,.int (n:Nat) 0,.int (ep:Nat) 0]
theorem SetIt.typeIs {sl i n ep:Nat} (x:SetIt s.heap it a sl i n ep):s.TypeIs (.ref it) "set_iterator":=let ⟨o,ho,hc,_⟩:=x; ⟨o,ho,hc⟩
theorem Zy3 (K:Known w o es ep t) (ho:s.heap.get? a=some o) {i:Nat} (hi:i<es.size) (hit:SetIt s.heap it a (Qg w t i) i es.size ep) {Q:Option Value->Shared->Prop}
 (h:∀ h',SetIt h' it a (Qg w t (i+1)) (i+1) es.size ep->Heap.SameBut it s.heap h'->Q (some ((Jl w a es ep)[i]'(by rw [K1]; exact hi)).2) { s with heap:=h' }):wpAny (model prog w) A (pyNext (.ref it)) Q E s:=by
 obtain ⟨oi,hoi,hc,hd⟩:=id hit
 unfold pyNext
 refine wpAny_bind (wpAny_attempt (wpAny_callSpecial?_slot (name:=Str.ofString "__next__") hit.typeIs Wb (wpAny_call_entry Wb hit.typeIs Zfo ?_ (Zg2 _))))
 unfold Builtin.«set_iterator.__next__»
 refine wpAny_bind (wpAny_pure ?_)
 refine wpAny_bind (wpAny_fieldsOf hoi hd ?_)
 dsimp only
 refine wpAny_bind (wpAny_setEntries_of ho K.da K.fi ?_)
 rw [if_neg (by simp)]
 refine wpAny_bind (Zup K ho hi ?_)
 dsimp only
 refine wpAny_bind (wpAny_setField hoi hd (by simp) ?_)
 have h1:=Heap.get?_update_self (Obj.mapFields (·.setIfInBounds 0 (rawInt ((Qg w t (i+1):Nat):Int)))) hoi (Obj.isFreed_of_fields (Obj.data_mapFields hd _))
 refine wpAny_bind (wpAny_setField h1 (Obj.data_mapFields hd _) (by simp) ?_)
 have d1:=Obj.data_mapFields hd (·.setIfInBounds 0 (rawInt ((Qg w t (i+1):Nat):Int)))
 have h2:=Heap.get?_update_self (Obj.mapFields (·.setIfInBounds 1 (rawInt ((i:Int)+1)))) h1 (Obj.isFreed_of_fields (Obj.data_mapFields d1 _))
 refine wpAny_pure ⟨_,rfl,wpAny_pure (h _ ⟨_,h2,(Obj.cls_mapFields ..).trans ((Obj.cls_mapFields ..).trans hc),?_⟩ ((Heap.SameBut.update ..).trans (Heap.SameBut.update ..)))⟩
 rw [Obj.data_mapFields d1]
 simp [rawInt]
theorem Zy4 (K:Known w o es ep t) (hh:A.handled=none) (ho:s.heap.get? a=some o) (hit:SetIt s.heap it a (Qg w t es.size) es.size es.size ep) {Q:Option Value->Shared->Prop}
 (h:∀ h',Heap.ExtBut it s.heap h'->Q none { s with heap:=h' }):wpAny (model prog w) A (pyNext (.ref it)) Q E s:=by
 obtain ⟨oi,hoi,hc,hd⟩:=id hit
 unfold pyNext
 refine wpAny_bind (wpAny_attempt (wpAny_callSpecial?_slot (name:=Str.ofString "__next__") hit.typeIs Wb (wpAny_call_entry Wb hit.typeIs Zfo ?_ (Zg2 _))))
 unfold Builtin.«set_iterator.__next__»
 refine wpAny_bind (wpAny_pure ?_)
 refine wpAny_bind (wpAny_fieldsOf hoi hd ?_)
 dsimp only
 refine wpAny_bind (wpAny_setEntries_of ho K.da K.fi ?_)
 rw [if_neg (by simp)]
 refine wpAny_bind (Zuq K ho ?_)
 dsimp only
 refine wpAny_bind (wpAny_setField hoi hd (by simp) ?_)
 refine wpAny_bind ?_
 simp only [newExc,newTuple]
 refine wpAny_bind (wpAny_newObj_type ?_ (by size_fits))
 refine wpAny_bind (m:=firstArgMember _ _) (wpAny_of_eq (a:=Value.none) (by first | rfl | (simp only [firstArgMember]; rfl)) ?_)
 refine wpAny_newObj_type ?_ (by size_fits)
 simp only [raiseNew]
 refine wpAny_bind (wpAny_handled ?_)
 rw [show A.in1.handled=none from hh]
 refine wpAny_bind (wpAny_pure (wpAny_throw ?_))
 refine wpAny_bind (wpAny_isInstance (T:="StopIteration") (b:=true) ⟨_,Heap.get?_push_size _ rfl,rfl⟩ isSubtype_stop ?_)
 exact wpAny_pure (h _ (((Heap.SameBut.update ..).extBut.push _).push _))
abbrev Zt4 (a:Addr) (n ep:Nat):Obj:={ cls:=.type "set_iterator",data:=.fields #[.int 0 0,.int 0 0,.ref a,.int (n:Nat) 0,.int (ep:Nat) 0] }
theorem Zy2 (K:Known w o es ep t) (ho:s.heap.get? a=some o) {Q:Value->Shared->Prop} (h:Q (.ref s.heap.objs.size) { s with heap:=s.heap.push (Zt4 a es.size ep) }):wpAny (model prog w) A (pyIter (.ref a)) Q E s:=by
 have hT:s.TypeIs (.ref a) "set":=⟨o,ho,K.ex.1⟩
 refine wpAny_pyIter_slot hT PySem.F.slot_set_iter (wpAny_call_entry PySem.F.slot_set_iter hT Zph ?_ (Zqu _))
 unfold Builtin.«frozenset.__iter__» Builtin.Frozenset.slot0 slotArgs
 simp only [List.isEmpty_nil,Bool.not_true,Bool.false_eq_true,↓reduceIte,bind_assoc,List.length_nil,bne_self_eq_false]
 unfold Builtin.Frozenset.addrOf Builtin.Frozenset.sizeOf
 refine wpAny_bind (wpAny_pure ?_)
 try dsimp only
 refine wpAny_bind (wpAny_pure ?_)
 refine wpAny_bind (wpAny_bind (wpAny_setEntries_of ho K.da K.fi (wpAny_pure ?_)))
 unfold setDrawn
 refine wpAny_bind (wpAny_bind (wpAny_setState_of ho K.da K.fi ?_))
 dsimp only
 refine wpAny_bind (Er (wpAny_pure ?_))
 refine wpAny_ite_split (λ hab=>absurd (show (!Zd3 w && (!t.plain && decide (es.size > 1)))=true from hab) (by rw [K.pl]; simp)) λ _=>?_
 refine wpAny_bind (wpAny_pure ?_)
 refine wpAny_bind (wpAny_setEpoch_of ho K.da K.fi ?_)
 refine wpAny_bind (wpAny_newObj_type (wpAny_pure ⟨_,rfl,"set_iterator",_,⟨_,Heap.get?_push_size _ rfl,rfl⟩,Wb.lookup,?_⟩))
 simpa [rawInt] using h
theorem Zp3:Qg w t 0=0:=by unfold Qg; split <;> rfl
theorem Zv9 (K:Known w o es ep t) (hh:A.handled=none) (I:Addr) (hne:a≠I) :
 Walks prog w A I [I,a] [I] es.size (λ i v=>∃ e,(Jl w a es ep)[i]?=some e/\v=e.2) (λ i h=>SetIt h I a (Qg w t i) i es.size ep/\h.get? a=some o) where
 sub:=λ b hb=>by simp at hb; simp [hb]
 frame:=λ i h h' st hk=>⟨let ⟨o,ho,r⟩:=st.1; ⟨o,hk I (by simp) o ho,r⟩,hk a (by simp) o st.2⟩
 item:=λ i s Q E hi st hQ=>by
  refine Zy3 K st.2 hi st.1 λ h' st' sb=>?_
  have e:s={ s with toks:=s.toks }:=by cases s; rfl
  have hi':i<(Jl w a es ep).size:=by rw [K1]; exact hi
  exact hQ _ h' s.toks ⟨_,Array.getElem?_eq_getElem hi',rfl⟩ ⟨st',by rw [sb.2 a hne]; exact st.2⟩ λ b ob hb q=>by rw [sb.2 b (λ z=>hb (by simp [z]))]; exact q
 done:=λ s Q E st hQ=>Zy4 K hh st.2 st.1 λ h' eb=>hQ h' s.toks λ b ob hb q=>eb b ob (λ z=>hb (by simp [z])) q
 self:=λ i s Q E st hq=>by
  refine wpAny_pyIter_slot st.1.typeIs Zf0 (wpAny_call_entry Zf0 st.1.typeIs Zm7 ?_ (Zp0 _))
  show wpAny _ _ (ret (.ref I)) _ _ s
  exact wpAny_pure ⟨_,rfl,"set_iterator",_,st.1.typeIs,Wb.lookup,hq⟩
theorem Zxh {Q:Bool->Shared->Prop} (hT:s.TypeIs (.ref a) "set") (h:Q false s):wpAny (model prog w) A (Builtin.List.listLengthHint (.ref a)) Q E s:=by
 unfold Builtin.List.listLengthHint
 refine wpAny_bind (wpAny_specialOf hT PySem.F.slot_set_len.lookup ?_)
 generalize hid:("set.__len__":String)=id0
 wp_delta
 rw [show splitId id0=some ("set","__len__") from by subst hid; decide +kernel]
 subst hid
 refine wpAny_bind (wpAny_isInstance (T:="set") (b:=true) hT (by rw [isSubtype_type]; kernel_rfl) ?_)
 refine wpAny_ite_split (λ hab=>absurd hab (by decide)) (λ _=>?_)
 refine wpAny_ite_split (λ _=>?_) (λ hab=>absurd (by decide +kernel) hab)
 refine wpAny_bind (wpAny_typeOf hT ?_)
 exact wpAny_pure h
theorem Zzx (K:Known w o es ep t):PySem.W.KdlSrc prog w "set" a a es.size (λ i v=>∃ e,(Jl w a es ep)[i]?=some e/\v=e.2) (λ h=>h.get? a=some o) where
 type:=λ s ho=>⟨o,ho,K.ex.1⟩
 there:=λ h ho=>⟨Heap.lt_size ho,Heap.lt_size ho⟩
 keep:=λ h h' ho k=>k a (.inl rfl) o ho
 notList:=by decide
 notTuple:=by decide
 hint:=λ _ _ s _ ho hq=>Zxh (s:=s) ⟨o,ho,K.ex.1⟩ hq
 iter:=λ A s hh ho=>⟨Zt4 a es.size ep,_,λ E Q hq=>Zy2 K ho hq,Zv9 K hh s.heap.objs.size (Nat.ne_of_lt (Heap.lt_size ho)),⟨⟨_,Heap.get?_push_size _ rfl,rfl,by rw [Zp3]; rfl⟩,Heap.get?_push_of_some _ ho⟩⟩
end
end L2
namespace L2
open PySem PySem.Spec PyProof.Rows
theorem Zxb {w:World} {h:Heap} {a:Addr} {hs:List Int} (x:SetAt h a (Wo w) hs) :
 ∃ o es ep t,h.get? a=some o/\Known w o es ep t/\(∀ e∈es.toList,∃ tk,e.2=.int e.1 tk)/\(es.toList.map (·.1)).Perm hs/\es.size<=8:=by
 obtain ⟨o,es,ep,t,ho,hex,hd,hi,hf,H,pm,nd⟩:=x
 exact ⟨o,es,ep,t,ho,⟨hex,hd,hf,H.pl,H.ld,H.ri,by rw [H.size]; simp⟩,hi,pm,Zl8 H⟩
theorem Zrt:∀ {us:List Value} {ns:List Int},us.length=ns.length->(∀ (j:Nat) u,us[j]?=some u->∃ n t,ns[j]?=some n/\u=.int n t)->IntsAre us ns
 | [],[],_,_=>.nil
 | [],n::ns,h,_=>by simp at h
 | u::us,[],h,_=>by simp at h
 | u::us,n::ns,h,f=>by
   obtain ⟨n',t,e,rfl⟩:=f 0 u rfl
   have e':n=n':=by simpa using e
   subst e'
   exact .cons n t (Zrt (by simpa using h) λ j v hv=>f (j+1) v (by simpa using hv))
theorem Zuu (val:Nat->Int):∀ i,(metF val i).Nodup
 | 0=>List.nodup_nil
 | i+1=>by
   have ih:=Zuu val i
   unfold metF
   split
   · exact ih
   · rename_i h
     exact List.nodup_append.mpr ⟨ih,by simp,λ a ha b hb e=>by
      have:b=val i:=by simpa using hb
      subst this; subst e; exact h ha⟩
def Zs0 (ld:Bool) (K:Fq):List V->Hp->VK->Prop:=λ xs H Q=>∃ (p:Addr) (ns:List Int),xs=[.ref p]/\SqL K H p (ns.map V.int)/\ns.length<=8/\(∀ n∈ns,1<=n/\n<=8) /\
 ∀ q,H q=none->Q (.ref q) (upd H q (.ext λ h=>SetAt h q ld (metF (λ i=>ns.getD i 0) ns.length)))
def Zia (ld:Bool):List V->Hp->VK->Prop:=λ xs H Q=>∃ (a:Addr) (hs:List Int),xs=[.ref a]/\H a=some (.ext λ h=>SetAt h a ld hs) /\
 ∀ ns':List Int,ns'.Perm hs->ns'.Pairwise (·<=·)->∀ p,H p=none->Q (.ref p) (upd H p (.lst (ns'.map V.int)))
theorem Zpq {X:Cx} (hc:X.calm=true):CallR X (.builtin "sorted") (Zia (Wo X.w)):=by
 intro pins s σ H xs us Q I r h
 obtain ⟨a,hs,rfl,ha,q⟩:=h
 obtain ⟨u,rfl,rx⟩:=Ug r
 cases rx
 obtain ⟨sa,_,_⟩:=(show ObjOk X.prog X.w H s.heap a (.ext λ h=>SetAt h a (Wo X.w) hs) from I.hok a _ ha)
 obtain ⟨o,es,ep,t,ho,K,hi,pm,h8⟩:=Zxb sa
 refine Calls.call_function_entry kind_sorted plain_sorted entry_sorted (args_sorted1 _) ?_
 unfold Builtin.«sorted»
 refine wpAny_bind (m:=checkCount "sorted" 1 1 _) (wpAny_pure ?_)
 refine wpAny_bind (PySem.W.kdu_collect (A:=X.A.in1) (Zzx (prog:=X.prog) (a:=a) K) (I.ok.hd hc) ho (Nat.le_trans h8 (by decide)) λ h' tk acc hk' hacc=>?_)
 have hl:acc.toList.length=es.size:=by rw [Array.length_toList]; exact hacc.1
 have hI:IntsAre acc.toList ((Jl X.w a es ep).toList.map (·.1)):=Zrt (by rw [hl,List.length_map,Array.length_toList,K1]) λ j v e=>by
  obtain ⟨e2,h1,h2⟩:=hacc.2 j v (by rw [← Array.getElem?_toList]; exact e)
  have hm:e2∈es.toList:=(Zie (w:=X.w) (a:=a) (es:=es) (ep:=ep)).mem_iff.mp (List.mem_of_getElem? (by rw [Array.getElem?_toList]; exact h1))
  obtain ⟨tk,et⟩:=hi e2 hm
  exact ⟨e2.1,tk,by rw [List.getElem?_map,Array.getElem?_toList,h1]; rfl,by rw [h2,et]⟩
 refine wpAny_bind (wpAny_newList ?_ (by rw [hl]; exact Nat.le_trans h8 (by decide)))
 have I':Inv X pins σ H { s with heap:=h',toks:=tk }:=I.kept hk'
 have hoL:(h'.push { cls:=.type "list",data:=.seq acc.toList.toArray }).get? h'.objs.size=some (seqObj "list" acc.toList.toArray 0):=Heap.get?_push_size _ rfl
 refine wpAny_bind (wpAny_holding (wpAny_call_entry slot_list_sort ⟨_,hoL,rfl⟩ entry_list_sort (list_sort_tree hoL hI (by rw [hl]; exact Nat.lt_of_le_of_lt h8 (by decide)) λ out ns' a1 a2 a3=>⟨_,rfl,?_⟩) (args_list_sort _)))
 refine wpAny_pure ⟨_,rfl,?_⟩
 obtain ⟨e,he⟩:=sortedHeap_at (out:=out) hoL
 have hn:H h'.objs.size=none:=I'.hok.fresh (Nat.le_refl _)
 have pmh:ns'.Perm hs:=a2.trans ((Zie.map (·.1)).trans pm)
 refine ⟨.ref h'.objs.size,_,I'.laid (o:=.lst (ns'.map V.int)) (t':=tk) (λ b o z=>?_) (Nat.le_refl _) ?_,rfl,q ns' pmh a3 _ hn⟩
 · have lt:=Heap.lt_size z
   rw [sortedHeap_old (Nat.ne_of_lt lt) (by rw [size_push']; exact Nat.lt_succ_of_lt lt),Heap.get?_push_ne _ _ _ (Nat.ne_of_lt lt)]
   exact z
 · refine ⟨?_,out.toList,e,Zcn a1,?_⟩
   · rw [List.length_map,a2.length_eq,List.length_map,Array.length_toList,K1]; exact Nat.le_trans h8 (by decide)
   · rw [Array.toArray_toList]; exact he
theorem Zvq {X:Cx} (hc:X.calm=true):CallR X (.type "set") (Zs0 (Wo X.w) X.K):=by
 intro pins s σ H xs us Q I r h
 obtain ⟨p,ns,rfl,hs,h8,hv,q⟩:=h
 obtain ⟨u,rfl,ru⟩:=Ug r
 cases ru
 obtain ⟨its,rv,pl,hz⟩:=I.list hs
 have hl:=rv.length
 rw [List.length_map] at hl
 refine Zwk (items:=its.toArray) (ns:=ns) (I.ok.hd hc) pl.isList (by simpa using Zj5 rv) (by rw [List.size_toArray,← hl]; exact h8) (λ i hi=>hv _ (G9 (by rw [List.size_toArray,← hl] at hi; exact hi))) λ h' tk hS hk=>?_
 have hsz:its.toArray.size=ns.length:=by rw [List.size_toArray,← hl]
 rw [hsz] at hS
 have hS2:=hS
 obtain ⟨o,_,_,_,ho,_⟩:=hS
 exact ⟨.ref s.heap.objs.size,_,I.laid (o:=.ext λ h=>SetAt h s.heap.objs.size (Wo X.w) (metF (λ i=>ns.getD i 0) ns.length)) (t':=tk) (λ b o z=>hk b o (Heap.lt_size z) z) (Nat.le_refl _) ⟨hS2,⟨o,ho⟩,λ h1 h2 a b=>a.at b⟩,rfl,q _ (I.hok.fresh (Nat.le_refl _))⟩
def tUp (te:TE):TE:=λ σ H Q=>∃ Q':VK,te σ H Q'/\∀ v H',Q' v H'->Q v H'
theorem Z12 {X:Cx} {e:Expr} {te:TE} (h:PE X e te):PE X e (tUp te):=λ pins s σ H Q I ⟨Q',q,m⟩ =>
 thn (h pins s σ H Q' I q) λ u s' ⟨v,H',I',r,z⟩=>⟨v,H',I',r,m v H' z⟩
theorem Zzd {X:Cx} {e:Expr} {t t':TE} (h:PE X e t) (w:∀ σ H Q,t' σ H Q->t σ H Q):PE X e t':=λ pins s σ H Q I q=>h pins s σ H Q I (w _ _ _ q)
def Zhv (K:Fq) (te:TE):TE:=λ σ H Q=>te σ H λ x H1=>∀ ld,Zs0 ld K [x] H1 λ y H2=>Zia ld [y] H2 Q
theorem Zth {X:Cx} {e:Expr} {te:TE} {p pos p2 pos2:Pos} (hc:X.calm=true) (hg:Gl X "sorted") (hm:X.mg "sorted"=none) (hg2:Gl X "set") (hm2:X.mg "set"=none) (h:PE X e te) (hst:Yz e=false:=by rfl) :
 PE X (.Call (.Name "sorted" p) [.Call (.Name "set" p2) [e] [] pos2] [] pos) (Zhv X.K te) :=
 Zzd (t:=tCB (Zia (Wo X.w)) (Zd (tCB (Zs0 (Wo X.w) X.K) (Zd (tUp te) Zj)) Zj))
  (Yh (Zpq hc) hg hm (by decide +kernel) (Ze (U6 (Zvq hc) hg2 hm2 (by decide +kernel) (Ze (Z12 h) Zf hst) (he:=hst)) Zf)) λ σ H Q q=>⟨_,q,λ v H' z=>z (Wo X.w)⟩
theorem Ztt {K:Fq} {te:TE} {σ:St} {H:Hp} {Q:VK}
 (h:te σ H λ x H1=>∃ (p:Addr) (ns:List Int),x=.ref p/\SqL K H1 p (ns.map V.int)/\ns.length<=8/\(∀ n∈ns,1<=n/\n<=8)/\∀ (out:List Int) (r:Addr) H2,out.Pairwise (· < ·)->(∀ k,k∈out↔k∈ns)->Same H1 H2->H1 r=none->H2 r=some (.lst (out.map V.int))->Q (.ref r) H2)
 (up:∀ Q1 Q2:VK,(∀ v H',Q1 v H'->Q2 v H')->te σ H Q1->te σ H Q2):Zhv K te σ H Q:=by
 refine up _ _ (λ x H1 ⟨p,ns,hx,hs,h8,hv,q⟩ ld=>?_) h
 subst hx
 refine ⟨p,ns,rfl,hs,h8,hv,λ a ha=>⟨a,_,rfl,Zn,λ ns' pm so r hr=>?_⟩⟩
 have hra:r≠a:=λ z=>by rw [z,Zn] at hr; cases hr
 have hr1:H1 r=none:=by rw [Z5 hra] at hr; exact hr
 have mm:=Zri (λ i=>ns.getD i 0) ns.length
 have nd:(metF (λ i=>ns.getD i 0) ns.length).Nodup:=Zuu _ _
 refine q ns' r _ ?_ (λ k=>?_) ((Same.laid ha).laidT hr) hr1 Zn
 · have nd':ns'.Nodup:=pm.nodup_iff.mpr nd
   exact (List.Pairwise.and so nd').imp λ ⟨a,b⟩=>by omega
 · rw [pm.mem_iff,mm]
   refine ⟨λ ⟨j,hj,e⟩=>by rw [← e]; exact G9 hj,λ hk=>?_⟩
   obtain ⟨j,hj,e⟩:=List.mem_iff_getElem.mp hk
   exact ⟨j,hj,by simp [hj,e]⟩
end L2
namespace L2
abbrev Zx3:List V->Hp->VK->Prop:=λ xs H Q=>∃ i j:Int,xs=[.int i,.int j]/\Q (.int (if j<i then j else i)) H
abbrev Zx5:List V->Hp->VK->Prop:=λ xs H Q=>∃ i j:Int,xs=[.int i,.int j]/\Q (.int (if j > i then j else i)) H
theorem Z0m {i j:Int} {H:Hp} {Q:VK} (h:Q (.int (min i j)) H):Zx3 [.int i,.int j] H Q:=⟨i,j,rfl,by
 have e:(if j<i then j else i)=min i j:=by split <;> omega
 rw [e]; exact h⟩
theorem Z0n {i j:Int} {H:Hp} {Q:VK} (h:Q (.int (max i j)) H):Zx5 [.int i,.int j] H Q:=⟨i,j,rfl,by
 have e:(if j > i then j else i)=max i j:=by split <;> omega
 rw [e]; exact h⟩
end L2
namespace HT
open PySem PySem.Spec PyProof.Rows
section
variable {prog:Program} {w:World} {A:Around} {E:Value->Shared->Prop} {s:Shared}
theorem Zfr {t sl:Addr} {items:Array Value} {vl vu:Value} {lo hi:Option Int} {Q:Value->Shared->Prop} (ht:IsTup s.heap t items) (hs:s.heap.IsSliceOf sl vl vu .none) (pl:IsPart vl lo) (pu:IsPart vu hi)
 (h0:sIx items.size 0 lo=0) (h1:sIx items.size items.size hi=items.size) (h:Q (.ref t) s):wpAny (model prog w) A (getItem (.ref t) (.ref sl)) Q E s:=by
 obtain ⟨os,hos,hcs,hds⟩:=id hs
 have hTs:s.TypeIs (.ref sl) "slice":=⟨os,hos,hcs⟩
 unfold getItem
 try with_reducible refine wpAny_holding ?_
 first | refine wpAny_bind (wpAny_pure ?_) | skip
 refine wpAny_bind (wpAny_sequenceKey ht.typeIs (by decide) ?_)
 refine wpAny_bind (wpAny_callSpecial?_slot (name:=Str.ofString "__getitem__") ht.typeIs PyProof.Rows.slot_tuple_getitem
  (wpAny_call_entry PyProof.Rows.slot_tuple_getitem ht.typeIs entry_tuple_getitem ?_ (args_tuple_getitem _ _)))
 show wpAny _ _ (Builtin.Tuple.tupleItemsOf (.ref t) >>= _) _ _ s
 refine wpAny_bind (tupleItemsOf_ ht ?_)
 refine wpAny_bind (wpAny_typeOf hTs ?_)
 rw [if_pos (by decide)]
 refine wpAny_bind (Zbs hs pl pu ?_)
 have hyes:(((sIx items.size 0 lo:Nat):Int) == 0 && (1:Int) == 1 && (sIx items.size items.size hi-sIx items.size 0 lo) == items.size)=true:=by
  rw [h0,h1,Nat.sub_zero]
  simp
 show wpAny _ _ (if (((sIx items.size 0 lo:Nat):Int) == 0 && (1:Int) == 1 && (sIx items.size items.size hi-sIx items.size 0 lo) == items.size)=true then _ else _) _ _ s
 rw [if_pos hyes]
 refine wpAny_bind (m:=Builtin.Tuple.tupleIsExact (.ref t)) ?_
 unfold Builtin.Tuple.tupleIsExact
 refine wpAny_bind (wpAny_typeOf ht.typeIs (wpAny_pure ?_))
 rw [if_pos (by decide)]
 refine wpAny_bind (wpAny_rule ?_)
 first
  | exact wpAny_pure ⟨_,rfl,wpAny_pure h⟩
  | exact wpAny_bind (wpAny_pure (wpAny_pure ⟨_,rfl,wpAny_pure h⟩))
  | exact wpAny_bind (wpAny_pure ⟨_,rfl,wpAny_pure h⟩)
end
end HT
namespace L2
open PySem PySem.Spec PyProof.Rows
def rSlW (K:Fq):V->Option Int->Option Int->Hp->VK->Prop:=λ x lo hi H Q=>∃ a xs,x=.ref a/\SqT K H a xs/\HT.sIx xs.length 0 lo=0/\HT.sIx xs.length xs.length hi=xs.length/\Q x H
theorem Zy0 {X:Cx}:SlR X (rSlW X.K):=by
 intro pins s σ H x v vl vu lo hi sl Q I rx hs pl pu h
 obtain ⟨a,xs,rfl,hx,h0,h1,q⟩:=h
 cases rx
 obtain ⟨its,r,ht,hz⟩:=I.tuple hx
 have hlen:its.toArray.size=xs.length:=by rw [List.size_toArray]; exact r.length.symm
 refine ⟨"tuple",_,PyProof.Rows.slot_tuple_getitem.lookup,ht.typeIs,?_⟩
 exact HT.Zfr ht hs pl pu (by rw [hlen]; exact h0) (by rw [hlen]; exact h1) ⟨.ref a,H,I,rfl,q⟩
abbrev rSlV (K:Fq):V->Option Int->Option Int->Hp->VK->Prop:=λ x lo hi H Q=>rSlU K x lo hi H Q\/rSlW K x lo hi H Q
theorem Z0u {X:Cx}:SlR X (rSlV X.K):=sl_U.or Zy0
end L2
namespace LB.TS
open PySem L2 LB
theorem Zxq {xs:List V} {lo:Nat} (h:lo<=xs.length):cutV xs (some (lo:Int)) none=xs.drop lo:=by
 unfold cutV
 have e1:HT.sIx xs.length xs.length none=xs.length:=rfl
 rw [HT.Za5,e1,Nat.min_eq_left h,List.take_of_length_le (by rw [List.length_drop]; omega)]
def BdI (m:Nat) (x:Int):Prop:=-(2 ^ (150*m))<x/\x<2 ^ (150*m)
theorem BdI.mul {m n:Nat} {x y:Int} (hm:m<=1000) (hn:n<=1000) (hx:BdI m x) (hy:BdI n y):IntMulOk x y :=
 IntMulOk.of_le (Zd4 hx.1 hx.2) (Zd4 hy.1 hy.2) (by omega)
def GRep (H:Hp) (v:V) (gap:Nat->Nat->Int) (n:Nat):Prop:=∃ g rs,v=.ref g/\H g=some (.lst rs)/\rs.length=n/\∀ i,i<n->∃ r,rs[i]?=some (.ref r)/\H r=some (.lst ((List.range n).map λ j=>V.int (gap i j)))
def wkv (f:Wt->Int) (st:List Wt):List (Key×V):=st.map λ a=>(Sum.inl (a.1:Int),.int (f a))
theorem Zhq (f:Wt->Int) (st:List Wt):(wkv f st).map (·.1)=(st.map λ a=>(a.1:Int)).map Sum.inl:=by unfold wkv; simp
theorem Hr (f:Wt->Int):∀ {st:List Wt},(st.map (·.1)).Nodup->∀ a∈st,valV (wkv f st) (Sum.inl (a.1:Int))=some (.int (f a))
 | [],_,a,ha=>by cases ha
 | b::st,nd,a,ha=>by
   have nd':=List.nodup_cons.mp (show (b.1::st.map (·.1)).Nodup from nd)
   show valV ((Sum.inl (b.1:Int),V.int (f b))::wkv f st) _=_
   rcases List.mem_cons.mp ha with rfl | h
   · exact Zbc rfl
   · rw [Zbd (λ z=>?_)]
     · exact Hr f nd'.2 a h
     · have z':(b.1:Int)=(a.1:Int):=Sum.inl.inj z
       have e:b.1=a.1:=by omega
       exact nd'.1 (by rw [e]; exact List.mem_map.mpr ⟨a,h,rfl⟩)
theorem Zmf {gap:Nat->Nat->Int} {a:Wt} (d:Nat):∀ (ds:List Nat) (m:Int),lowD gap a (ds++[d]) m=min (lowD gap a ds m) (a.2.1+a.2.2*gap a.1 d)
 | [],m=>rfl
 | e::ds,m=>Zmf d ds _
theorem Zme {gap:Nat->Nat->Int} {l:List Nat} (a:Wt):∀ (st:List Wt) (m:Int),lowW gap l (st++[a]) m=lowD gap a l (lowW gap l st m)
 | [],m=>rfl
 | b::st,m=>Zme a st _
theorem Znn {gap:Nat->Nat->Int} {d:Nat} {own:Int} (a:Wt):∀ (st:List Wt) (w:Int),wtW gap d own (st++[a]) w=max (wtW gap d own st w) (-((own-a.2.1) / gap d a.1))
 | [],w=>rfl
 | b::st,w=>Znn a st _
theorem Znq {H:Hp} {d:Addr} {x y:HO} (e:H d=some y):upd (upd H d x) d y=H:=by
 funext b
 by_cases hb:b=d
 · subst hb; rw [Zn,e]
 · rw [Z5 hb,Z5 hb]
structure StOk (m n:Nat) (st:List Wt):Prop where
 nd:(st.map (·.1)).Nodup
 lt:∀ a∈st,a.1<n
 bw:∀ a∈st,BdI m a.2.1/\BdI m a.2.2
def GapOk (n:Nat) (gap:Nat->Nat->Int):Prop:=∀ i j,i<n->j<n->BdI 4 (gap i j)
def Zdr (K:Fq) (a b c d:V) (H:Hp) (Q:VK) (E:XK):Prop:=∃ (gap:Nat->Nat->Int) (m n:Nat) (st:List Wt) (w u l:Addr) (ds:List Nat),GRep H a gap n/\GapOk n gap/\n<=8/\m<=900/\StOk m n st/\b=.ref w/\H w=some (.dK (wkv (·.2.1) st))/\c=.ref u/\H u=some (.dK (wkv (·.2.2) st))/\w≠u /\
 d=.ref l/\H l=some (.lst (ds.map nV))/\(∀ x∈ds,x<n)/\Q (.int (lowW gap ds st 0)) H
def Gg (K:Fq):Sp:=sp4 (Zdr K)
def Zcp (K:Fq) (a b c d:V) (H:Hp) (Q:VK) (E:XK):Prop:=∃ (gap:Nat->Nat->Int) (m n:Nat) (st:List Wt) (w:Addr) (e:Nat) (own:Int),GRep H a gap n/\GapOk n gap/\n<=8/\m<=900/\StOk m n st/\b=.ref w/\H w=some (.dK (wkv (·.2.1) st))/\c=.int (e:Nat)/\d=.int own/\e<n /\
 (∀ a∈st,0<gap e a.1)/\Q (.int (wtW gap e own st 1)) H
def Vj (K:Fq):Sp:=sp4 (Zcp K)
def cmF (gap:Nat->Nat->Int) (i j:Nat):Int:=if i=j then 1 else Jz (gap i j)
def cmR (gap:Nat->Nat->Int) (n i:Nat):List Int:=(List.range n).map λ j=>cmF gap i j
def cmM (gap:Nat->Nat->Int) (n:Nat):List (List Int):=(List.range n).map λ i=>cmR gap n i
theorem X8 (gap:Nat->Nat->Int) (n:Nat):(cmM gap n).length=n:=by unfold cmM; simp
theorem Zpo {gap:Nat->Nat->Int} {n i:Nat} (h:i<n):(cmM gap n).getD i []=cmR gap n i:=by unfold cmM; simp [h]
theorem Zyk (gap:Nat->Nat->Int) (n:Nat):∀ r∈cmM gap n,r.length=(cmM gap n).length:=λ r hr=>by
 obtain ⟨i,_,rfl⟩:=List.mem_map.mp hr
 rw [X8]; unfold cmR; simp
theorem Ex {H H':Hp} {v:V} {gap:Nat->Nat->Int} {n:Nat} (s:Same H H') (h:GRep H v gap n):GRep H' v gap n :=
 let ⟨g,rs,e,hg,l,r⟩:=h; ⟨g,rs,e,s _ _ hg,l,λ i hi=>let ⟨p,a,b⟩:=r i hi; ⟨p,a,s _ _ b⟩⟩
def Zhl (K:Fq) (a b c:V) (H:Hp) (Q:VK) (E:XK):Prop:=∃ (gap:Nat->Nat->Int) (n i j:Nat),GRep H a gap n/\b=.int (i:Nat)/\c=.int (j:Nat)/\i<n/\j<n/\Q (.int (cmF gap i j)) H
def Zc3 (K:Fq):Sp:=sp3 (Zhl K)
def Zat (K:Fq) (a b:V) (H:Hp) (Q:VK) (E:XK):Prop:=∃ (gap:Nat->Nat->Int) (n i:Nat),GRep H a gap n/\n<=8/\b=.int (i:Nat)/\i<n/\∀ p H',H p=none->Same H H'->H' p=some (.lst ((cmR gap n i).map V.int))->Q (.ref p) H'
def Us (K:Fq):Sp:=sp2 (Zat K)
def Zcr (K:Fq) (a:V) (H:Hp) (Q:VK) (E:XK):Prop:=∃ (gap:Nat->Nat->Int) (n:Nat),GRep H a gap n/\n<=8/\∀ v H',Same H H'->MRep H' v (cmM gap n)->Q v H'
def W4 (K:Fq):Sp:=sp1 (Zcr K)
theorem Zvn {K:Fq} {a:Addr} {l:List (Option Nat)} {g:TG} {tc:TT} {te:TE} {σ:St} {H1:Hp} {Q:Hp->Prop} (D:Addr) (xs:List V) (Pv:Nat->List V->St->Hp->Prop) (hn:xs.length<=1000) (hy:∀ i ys σ H,Pv i ys σ H->ys.length<=i)
 (hl:∀ i ys σ H,Pv i ys σ H->H D=some (.lst ys)->SqL K H a xs) (h0:Pv 0 [] (Xn l σ) (upd H1 D (.lst [])))
 (hs:∀ i x ys σ H p,xs[i]?=some x->Pv i ys σ H->H D=some (.lst ys)->H p=none->g (.ref p) σ (upd H p (.tup [.int (i:Nat),x])) λ σ2 H2=>tc σ2 H2 λ b H3 =>
  if b=true then te σ2 H3 λ v H4=>H4 D=some (.lst ys)/\Pv (i+1) (ys++[v]) σ2 (upd H4 D (.lst (ys++[v]))) else H3 D=some (.lst ys)/\Pv (i+1) ys σ2 H3)
 (hd:∀ ys σ H,Pv xs.length ys σ H->H D=some (.lst ys)->Q H) :
 ∃ W:CompW,(∃ m,W 0 m [] (Xn l σ) (upd H1 D (.lst [])))/\Q7 (Ite K a) g tc te D W Q:=by
 refine ⟨λ i m ys σ H=>m=xs.length-i/\i<=xs.length/\H D=some (.lst ys)/\Pv i ys σ H,⟨xs.length,by simp,Nat.zero_le _,Zn,h0⟩,?_⟩
 rintro i m ys σ H ⟨rfl,hi,hD,p⟩
 refine ⟨hD,?_⟩
 have q:=hl i ys σ H p hD
 by_cases hlt:i<xs.length
 · refine .inr ⟨⟨xs,xs[i],q,by simp [hlt]⟩,λ v σ2 H4=>H4 D=some (.lst ys)/\Pv (i+1) (ys++[v]) σ2 (upd H4 D (.lst (ys++[v]))),λ σ2 H3=>H3 D=some (.lst ys)/\Pv (i+1) ys σ2 H3,λ v σ2 H4 q=>?_,λ σ2 H3 q=>⟨xs.length-(i+1),by omega,rfl,hlt,q⟩,λ x H' y=>?_⟩
   · exact ⟨q.1,Ql (Nat.le_trans (hy _ _ _ _ p) (by omega)),xs.length-(i+1),by omega,rfl,hlt,Zn,q.2⟩
   · obtain ⟨t,y1,ht,rfl,y2,rfl⟩:=y
     exact hs i y1 ys σ H t (y2 xs q) p hD ht
 · have e:i=xs.length:=by omega
   subst e
   exact .inl ⟨⟨xs,q,Nat.le_refl _⟩,hd ys σ H p hD⟩
theorem Zpi {H:Hp} {wa:Addr}:∀ {kvs:List (Key×V)} {c:Ch},DRep H wa kvs c->kvs.length=c.length
 | [],[],_=>rfl
 | [],_::_,h=>h.elim
 | _::_,[],h=>h.elim
 | _::r,_::s,h=>by rw [List.length_cons,List.length_cons,Zpi h.2.2]
theorem Zgr {H H':Hp} {v:V} {M:List (List Int)} (s:Same H H') (h:MRep H v M):MRep H' v M :=
 let ⟨m,rs,e,hm,l,r⟩:=h; ⟨m,rs,e,s _ _ hm,l,λ i hi=>let ⟨p,a,b⟩:=r i hi; ⟨p,a,s _ _ b⟩⟩
abbrev hiF (M:List (List Int)) (d:Nat):Nat:=(Zx M d).length
def LvRep (H:Hp) (v:V) (ls:List (List Nat)):Prop:=∃ p rs,v=.ref p/\H p=some (.lst rs)/\rs.length=ls.length/\∀ (i:Nat) l,ls[i]?=some l->∃ q,rs[i]?=some (.ref q)/\H q=some (.lst (l.map nV))
def Zf4 (K:Fq) (a:V) (H:Hp) (Q:VK) (E:XK):Prop:=∃ M:List (List Int),MRep H a M/\M.length<=8/\(∀ r∈M,r.length=M.length) /\
 ∀ v ks H',Same H H'->ks.Pairwise (λ a b=>b<a)->(∀ k,k∈ks↔∃ d,d<M.length/\hiF M d=k)->LvRep H' v (Y5 (hiF M) M.length ks)->Q v H'
def Vn (K:Fq):Sp:=sp1 (Zf4 K)
theorem Z1q (M:List (List Int)) (d:Nat):1<=hiF M d:=by
 have h:=Zk3 M d
 show 1<=(Zx M d).length
 cases e:Zx M d with
 | nil=>rw [e] at h; cases h
 | cons c r=>simp
theorem Zw8 (h:Nat->Nat) (n:Nat) (ks:List Nat) (k:Nat):Y5 h n (ks++[k])=Y5 h n ks++[(List.range n).filter λ d=>h d == k]:=by unfold Y5; simp
theorem Jv {m:Nat} {x:Int}:BdI m x↔x.natAbs<2 ^ (150*m):=by
 have e:(((2:Nat) ^ (150*m):Nat):Int)=(2:Int) ^ (150*m):=by rw [Int.natCast_pow]; rfl
 unfold BdI
 rw [← e]
 omega
theorem BdI.mono {m k:Nat} {x:Int} (h:BdI m x) (hk:m<=k):BdI k x :=
 Jv.mpr (Nat.lt_of_lt_of_le (Jv.mp h) (Nat.pow_le_pow_right (by decide) (by omega)))
theorem BdI.prod {m k:Nat} {x y:Int} (h:BdI m x) (g:BdI k y):BdI (m+k) (x*y):=by
 have h1:=Jv.mp h
 have h2:=Jv.mp g
 refine Jv.mpr ?_
 rw [Int.natAbs_mul,Nat.mul_add,Nat.pow_add]
 exact Nat.mul_lt_mul'' h1 h2
theorem Zgm (m:Nat):2*2 ^ (150*m)<=2 ^ (150*(m+1)):=by
 rw [Nat.mul_add,Nat.pow_add,Nat.mul_comm]
 exact Nat.mul_le_mul_left _ (by decide)
theorem BdI.add {m:Nat} {x y:Int} (h:BdI m x) (g:BdI m y):BdI (m+1) (x+y):=by
 have h1:=Jv.mp h
 have h2:=Jv.mp g
 have h3:=Zgm m
 exact Jv.mpr (by omega)
theorem BdI.neg {m:Nat} {x:Int} (h:BdI m x):BdI m (-x):=Jv.mpr (by have:=Jv.mp h; omega)
theorem BdI.div {m:Nat} {x g:Int} (h:BdI m x) (hg:0<g):BdI (m+1) (x / g):=by
 have h1:=Jv.mp h
 have h3:=Zgm m
 have hp:0<2 ^ (150*m):=Nat.pow_pos (by decide)
 have a1:x / g*g<=x:=Int.ediv_mul_le _ (by omega)
 have a2:x<(x / g+1)*g:=Int.lt_ediv_add_one_mul_self _ hg
 refine Jv.mpr ?_
 have b1:x / g<=x.natAbs:=by
  rcases Int.lt_or_le x 0 with z | z
  · have:x / g<0:=Int.ediv_neg_of_neg_of_pos z hg
    omega
  · have:=Int.ediv_le_self g z
    omega
 have b2:-(x.natAbs:Int)<=x / g:=by
  rcases Int.lt_or_le x 0 with z | z
  · have c:=(Int.le_ediv_iff_mul_le hg (a:=-(x.natAbs:Int)) (b:=x)).mpr (by
     have:-(x.natAbs:Int)=x:=by omega
     rw [this]
     have:=Int.mul_le_mul_of_nonpos_left (a:=x) (b:=g) (c:=1) (by omega) (by omega)
     omega)
    exact c
  · have:=Int.ediv_nonneg z (Int.le_of_lt hg)
    omega
 omega
theorem BdI.min {m:Nat} {x y:Int} (h:BdI m x) (g:BdI m y):BdI m (min x y):=by
 rcases Int.le_total x y with z | z
 · rw [Int.min_eq_left z]; exact h
 · rw [Int.min_eq_right z]; exact g
theorem BdI.max {m:Nat} {x y:Int} (h:BdI m x) (g:BdI m y):BdI m (max x y):=by
 rcases Int.le_total x y with z | z
 · rw [Int.max_eq_right z]; exact g
 · rw [Int.max_eq_left z]; exact h
theorem Z0e (m:Nat):BdI m 0:=Jv.mpr (Nat.pow_pos (by decide))
theorem Z1v (m:Nat):BdI (m+1) 1:=Jv.mpr (by have:=Zgm m; have hp:0<2 ^ (150*m):=Nat.pow_pos (by decide); show 1<_; omega)
theorem Zro {gap:Nat->Nat->Int} {m n:Nat} (gok:GapOk n gap) {a:Wt} (ha:a.1<n) (h1:BdI m a.2.1) (h2:BdI m a.2.2):∀ (ds:List Nat) (x:Int),(∀ d∈ds,d<n)->BdI (m+5) x->BdI (m+5) (lowD gap a ds x)
 | [],x,_,h=>h
 | d::ds,x,hd,h=>Zro gok ha h1 h2 ds _ (λ e he=>hd e (by simp [he])) (h.min ((h1.mono (by omega)).add (h2.prod (gok a.1 d ha (hd d (by simp))))))
theorem Zrm {gap:Nat->Nat->Int} {m n:Nat} (gok:GapOk n gap) {ds:List Nat} (hd:∀ d∈ds,d<n):∀ (st:List Wt) (x:Int),(∀ a∈st,a.1<n/\BdI m a.2.1/\BdI m a.2.2)->BdI (m+5) x->BdI (m+5) (lowW gap ds st x)
 | [],x,_,h=>h
 | a::st,x,hs,h=>Zrm gok hd st _ (λ b hb=>hs b (by simp [hb])) (Zro gok (hs a (by simp)).1 (hs a (by simp)).2.1 (hs a (by simp)).2.2 ds x hd h)
theorem Ztq {gap:Nat->Nat->Int} {m d:Nat} {own:Int} (ho:BdI (m+5) own):∀ (st:List Wt) (x:Int),(∀ a∈st,BdI m a.2.1/\0<gap d a.1)->BdI (m+7) x->BdI (m+7) (wtW gap d own st x)
 | [],x,_,h=>h
 | a::st,x,hs,h=>by
   have e:own-a.2.1=own + -a.2.1:=by omega
   refine Ztq ho st _ (λ b hb=>hs b (by simp [hb])) (h.max ?_)
   rw [e]
   exact (BdI.div (m:=m+6) (ho.add ((hs a (by simp)).1.neg.mono (by omega))) (hs a (by simp)).2).neg
theorem Zq1 {gap:Nat->Nat->Int} {m n:Nat} {st:List Wt} {level:List Nat} (gok:GapOk n gap) (so:StOk m n st) (hl:∀ d∈level,d<n) (nd:(st.map (·.1)++level).Nodup) (pos:∀ a∈st,∀ d∈level,0<gap d a.1):StOk (m+7) n (W3 gap st level):=by
 have hst:∀ a∈st,a.1<n/\BdI m a.2.1/\BdI m a.2.2:=λ a ha=>⟨so.lt a ha,so.bw a ha⟩
 have ob:=Zrm gok hl st 0 hst (Z0e _)
 refine ⟨by rw [Zcy]; exact nd,λ a ha=>?_,λ a ha=>?_⟩
 · rcases List.mem_append.mp ha with z | z
   · exact so.lt a z
   · obtain ⟨d,hd,rfl⟩:=List.mem_map.mp z
     exact hl d hd
 · rcases List.mem_append.mp ha with z | z
   · exact ⟨(so.bw a z).1.mono (by omega),(so.bw a z).2.mono (by omega)⟩
   · obtain ⟨d,hd,rfl⟩:=List.mem_map.mp z
     exact ⟨ob.mono (by omega),Ztq ob st 1 (λ a ha=>⟨(so.bw a ha).1,pos a ha d hd⟩) (Z1v _)⟩
theorem Zn4 {gap:Nat->Nat->Int} (l:List Nat):∀ (ls:List (List Nat)) (st:List Wt),runW gap (ls++[l]) st=W3 gap (runW gap ls st) l
 | [],st=>rfl
 | m::ls,st=>Zn4 l ls _
theorem Zwc {kvs:List (Key×V)} {k:Key} (h:∀ kv∈kvs,kv.1≠k):valV kvs k=none:=by
 unfold valV
 rw [List.find?_eq_none.mpr (λ kv hkv=>by simpa using h kv hkv)]
 rfl
theorem Zqv (f:Wt->Int) (st st':List Wt):wkv f (st++st')=wkv f st++wkv f st':=by unfold wkv; exact List.map_append ..
def wOf (f:Wt->Int) (st:List Wt) (d:Nat):Int:=((st.find? λ a=>a.1 == d).map f).getD 0
def TsRep (H0 H:Hp) (v:V) (st:List Wt) (n:Nat):Prop:=∃ t p1 p2,v=.ref t/\H t=some (.tup [.str "taste",.ref p1,.ref p2])/\H0 p1=none/\H0 p2=none/\p1≠p2/\H p1=some (.lst ((List.range n).map λ d=>V.int (wOf (·.2.1) st d)))/\H p2=some (.lst ((List.range n).map λ d=>V.int (wOf (·.2.2) st d)))
def Zhk (K:Fq) (a b:V) (H:Hp) (Q:VK) (E:XK):Prop:=∃ (gap:Nat->Nat->Int) (n:Nat) (ls:List (List Nat)),GRep H a gap n/\GapOk n gap/\n<=8/\LvRep H b ls/\(∀ l∈ls,∀ d∈l,d<n)/\ls.flatten.Perm (List.range n)/\ls.length<=9/\ls.Pairwise (λ l m=>∀ d∈l,∀ e∈m,0<gap e d) /\
 ∀ v H',Same H H'->TsRep H H' v (runW gap ls []) n->Q v H'
def Ef (K:Fq):Sp:=sp2 (Zhk K)
def rngF (M:List (List Int)):Option (List Nat):=(Jo M).findSome? λ s=>if inK (Zx M s.2) s.1=true then some (chOf (Zx M s.2) s.1) else none
def ksF (h:Nat->Nat) (n:Nat):List Nat:=(List.range 9).reverse.filter λ k=>(List.range n).any λ d=>h d == k
def Zbm (gap:Nat->Nat->Int) (n:Nat):List Wt:=runW gap (Y5 (hiF (cmM gap n)) n (ksF (hiF (cmM gap n)) n)) []
def tasA (gap:Nat->Nat->Int) (n:Nat):List Nat ⊕ List Wt:=match rngF (cmM gap n) with
 | some r=>.inl r
 | none=>.inr (Zbm gap n)
structure RingOk (gap:Nat->Nat->Int) (n:Nat) (r:List Nat):Prop where
 nd:r.Nodup
 lt:∀ x∈r,x<n
 two:2<=r.length
 le:∀ k,k<r.length->gap (r.getD k 0) (r.getD ((k+1) % r.length) 0)<=0
 be:gap (r.getD (r.length-1) 0) (r.getD 0 0)<0
structure TasteOk (gap:Nat->Nat->Int) (n:Nat) (st:List Wt):Prop where
 w1:∀ d,d<n->1<=wOf (·.2.2) st d
 ok:∀ d e,d<n->e<n->d≠e->wOf (·.2.1) st e<=wOf (·.2.1) st d+wOf (·.2.2) st d*gap d e
 bw:∀ d,d<n->BdI 100 (wOf (·.2.2) st d)
def AnsOk (gap:Nat->Nat->Int) (n:Nat):List Nat ⊕ List Wt->Prop
 | .inl r=>RingOk gap n r
 | .inr st=>TasteOk gap n st
theorem Zr4:∀ {a b:List Nat},a.Pairwise (λ x y=>y<x)->b.Pairwise (λ x y=>y<x)->(∀ k,k∈a↔k∈b)->a=b
 | [],[],_,_,_=>rfl
 | [],y::b,_,_,h=>absurd ((h y).mpr (by simp)) (by simp)
 | x::a,[],_,_,h=>absurd ((h x).mp (by simp)) (by simp)
 | x::a,y::b,p,q,h=>by
   have px:=List.pairwise_cons.mp p
   have qy:=List.pairwise_cons.mp q
   have e:x=y:=by
    rcases List.mem_cons.mp ((h x).mp (by simp)) with e | e
    · exact e
    · rcases List.mem_cons.mp ((h y).mpr (by simp)) with f | f
      · exact f.symm
      · have:=qy.1 x e
        have:=px.1 y f
        omega
   subst e
   rw [Zr4 px.2 qy.2 λ k=>⟨λ hk=>?_,λ hk=>?_⟩]
   · rcases List.mem_cons.mp ((h k).mp (by simp [hk])) with z | z
     · subst z; exact absurd (px.1 _ hk) (Nat.lt_irrefl _)
     · exact z
   · rcases List.mem_cons.mp ((h k).mpr (by simp [hk])) with z | z
     · subst z; exact absurd (qy.1 _ hk) (Nat.lt_irrefl _)
     · exact z
theorem Zba (h:Nat->Nat) (n:Nat):(ksF h n).Pairwise (λ a b=>b<a):=by
 unfold ksF
 refine List.Pairwise.sublist List.filter_sublist (List.pairwise_reverse.mpr ?_)
 exact List.pairwise_lt_range
theorem Zo2 {h:Nat->Nat} {n:Nat} (hb:∀ d,d<n->h d<=8) (k:Nat):k∈ksF h n↔∃ d,d<n/\h d=k:=by
 unfold ksF
 rw [List.mem_filter,List.mem_reverse,List.mem_range,List.any_eq_true]
 constructor
 · rintro ⟨_,d,hd,e⟩
   exact ⟨d,List.mem_range.mp hd,by simpa using e⟩
 · rintro ⟨d,hd,e⟩
   have:=hb d hd
   exact ⟨by omega,d,List.mem_range.mpr hd,by simpa using e⟩
theorem Zu1 (h:Nat->Nat) (n:Nat):(ksF h n).length<=9:=by
 unfold ksF
 refine Nat.le_trans (List.length_filter_le ..) ?_
 rw [List.length_reverse,List.length_range]
 exact Nat.le_refl _
theorem Z2h {gap:Nat->Nat->Int} {n i j:Nat} (hi:i<n) (hj:j<n):mkF (cmM gap n) i j=cmF gap i j:=by
 unfold mkF
 rw [Zpo hi]
 unfold cmR
 simp [hj]
theorem Zkq (gap:Nat->Nat->Int) (n:Nat):Sq (cmM gap n):=⟨λ i hi=>by
 rw [X8] at hi
 rw [Zpo hi,X8]; unfold cmR; simp⟩
theorem Zng {gap:Nat->Nat->Int} {n:Nat} (n8:n<=8) (d:Nat) (hd:d<n):hiF (cmM gap n) d<=8:=by
 have h:=Zih (M:=cmM gap n) (Ze7 (Zkq gap n)) (d:=d) (by rw [X8]; exact hd)
 show (Zx (cmM gap n) d).length<=8
 rw [h]
 refine Nat.le_trans (List.length_filter_le ..) ?_
 rw [List.length_range,X8]; exact n8
theorem Zzn {g:Int}:Jz g≠0↔g<=0:=by
 unfold Jz
 by_cases h:g<0
 · rw [if_pos h]; exact ⟨λ _=>by omega,λ _=>by decide⟩
 · rw [if_neg h]
   by_cases h2:g=0
   · rw [if_pos h2]; exact ⟨λ _=>by omega,λ _=>by decide⟩
   · rw [if_neg h2]; exact ⟨λ z=>absurd rfl z,λ _=>by omega⟩
theorem Zou {g:Int}:Jz g=2↔g<0:=by
 unfold Jz
 by_cases h:g<0
 · rw [if_pos h]; exact ⟨λ _=>h,λ _=>rfl⟩
 · rw [if_neg h]
   by_cases h2:g=0
   · rw [if_pos h2]; exact ⟨λ z=>absurd z (by decide),λ z=>absurd z h⟩
   · rw [if_neg h2]; exact ⟨λ z=>absurd z (by decide),λ z=>absurd z h⟩
theorem Ztm {gap:Nat->Nat->Int} {n:Nat}:∀ d e,d<(cmM gap n).length->e<(cmM gap n).length->d≠e->(mkF (cmM gap n) d e≠0↔gap d e<=0):=λ d e hd he ne=>by
 rw [X8] at hd he
 rw [Z2h hd he]
 unfold cmF
 rw [if_neg ne]
 exact Zzn
theorem Z0p {gap:Nat->Nat->Int} {n d e:Nat} (hd:d<n) (he:e<n) (h:hiF (cmM gap n) d<hiF (cmM gap n) e):0<gap d e:=by
 have ne:d≠e:=λ z=>by subst z; exact Nat.lt_irrefl _ h
 have hd':d<(cmM gap n).length:=by rw [X8]; exact hd
 have he':e<(cmM gap n).length:=by rw [X8]; exact he
 rcases Int.lt_or_le 0 (gap d e) with z | z
 · exact z
 · have:=(Zln (Zkq gap n) (Ze7 (Zkq gap n)) hd' he' ((Ztm d e hd' he' ne).mpr z)).1
   have h':(Zx (cmM gap n) d).length<(Zx (cmM gap n) e).length:=h
   omega
theorem Zow {M:List (List Int)}:∀ (c:List Nat) (k:Nat),Ze5 M c->k+1<c.length->mkF M (c.getD k 0) (c.getD (k+1) 0)≠0
 | [],k,_,h=>by simp at h
 | [a],k,_,h=>by simp at h
 | a::b::r,0,⟨h1,_⟩,_=>by simpa using h1
 | a::b::r,k+1,⟨_,h2⟩,h=>by
   have:=Zow (b::r) k h2 (by simpa using h)
   simpa using this
theorem Zyz {gap:Nat->Nat->Int} {n:Nat} {s:Nat×Nat} (h:s∈Jo (cmM gap n)):s.1<n/\s.2<n/\s.1≠s.2/\gap s.1 s.2<0:=by
 obtain ⟨_,row,ar,ab⟩:=Zd5 _ 0 s h
 have s1:s.1<n:=by
  rcases Nat.lt_or_ge s.1 n with z | z
  · exact z
  · rw [List.getElem?_eq_none (by rw [X8]; omega)] at ar; cases ar
 rw [Nat.sub_zero] at ar
 have er:row=cmR gap n s.1:=by
  unfold cmM at ar
  rw [List.getElem?_map,List.getElem?_range s1] at ar
  simpa using ar.symm
 subst er
 have s2:s.2<n:=by
  rcases Nat.lt_or_ge s.2 n with z | z
  · exact z
  · rw [List.getElem?_eq_none (by unfold cmR; simp; omega)] at ab; cases ab
 have e2:cmF gap s.1 s.2=2:=by
  unfold cmR at ab
  rw [List.getElem?_map,List.getElem?_range s2] at ab
  simpa using ab
 unfold cmF at e2
 by_cases z:s.1=s.2
 · rw [if_pos z] at e2; exact absurd e2 (by decide)
 · rw [if_neg z] at e2
   exact ⟨s1,s2,z,Zou.mp e2⟩
theorem Z0f {gap:Nat->Nat->Int} {n d e:Nat} (hd:d<n) (he:e<n) (ne:d≠e) (h:gap d e<0):(d,e)∈Jo (cmM gap n):=by
 have h1:(cmM gap n)[d]?=some (cmR gap n d):=by unfold cmM; rw [List.getElem?_map,List.getElem?_range hd]; rfl
 have h2:(cmR gap n d)[e]?=some 2:=by
  unfold cmR
  rw [List.getElem?_map,List.getElem?_range he]
  show some (cmF gap d e)=_
  unfold cmF
  rw [if_neg ne,Zou.mpr h]
 have:=Zli (cmM gap n) 0 d e _ h1 h2
 rw [Nat.zero_add] at this
 exact this
theorem Zy6 {gap:Nat->Nat->Int} {n:Nat} {r:List Nat} (h:rngF (cmM gap n)=some r):RingOk gap n r:=by
 obtain ⟨s,hs,e⟩:=List.exists_of_findSome?_eq_some h
 obtain ⟨s1,s2,ne,neg⟩:=Zyz hs
 by_cases hin:inK (Zx (cmM gap n) s.2) s.1=true
 · rw [if_pos hin] at e
   have ic:=(Zgx (cmM gap n) s.2).at hin
   have er:chOf (Zx (cmM gap n) s.2) s.1=r:=by simpa using e
   rw [er] at ic
   have lt:∀ x∈r,x<n:=λ x hx=>by
    have:=Ze7 (Zkq gap n) s.2 x (by rw [X8]; exact s2) (ic.mem x hx)
    rwa [X8] at this
   have hd:r.getD 0 0=s.2:=by
    have:=ic.hd
    cases r with
    | nil=>simp at this
    | cons a c=>simpa using this
   have one:1<=r.length:=by
    have:=ic.hd
    cases r with
    | nil=>simp at this
    | cons a c=>simp
   have la:r.getD (r.length-1) 0=s.1:=by
    have:=ic.la
    rw [List.getLast?_eq_getElem?] at this
    rw [List.getD,this]; rfl
   have two:2<=r.length:=by
    rcases (by omega:r.length=1\/2<=r.length) with z | z
    · rw [z] at la
      have:r.getD 0 0=s.1:=la
      exact absurd (this.symm.trans hd) ne
    · exact z
   have mem:∀ k,k<r.length->r.getD k 0∈r:=λ k hk=>by rw [List.getD,List.getElem?_eq_getElem hk]; exact List.getElem_mem _
   refine ⟨ic.nd,lt,two,λ k hk=>?_,by rw [la,hd]; exact neg⟩
   by_cases z:k+1<r.length
   · rw [Nat.mod_eq_of_lt z]
     have h1:=Zow r k ic.lk z
     have a1:=lt _ (mem k hk)
     have a2:=lt _ (mem (k+1) z)
     have nek:r.getD k 0≠r.getD (k+1) 0:=by
      have:=List.pairwise_iff_getElem.mp ic.nd k (k+1) hk z (by omega)
      rw [List.getD,List.getD,List.getElem?_eq_getElem hk,List.getElem?_eq_getElem z]
      exact this
     exact (Ztm _ _ (by rw [X8]; exact a1) (by rw [X8]; exact a2) nek).mp h1
   · have ek:k+1=r.length:=by omega
     rw [ek,Nat.mod_self,hd,show k=r.length-1 by omega,la]
     exact Int.le_of_lt neg
 · rw [if_neg hin] at e; cases e
theorem Zt7 {gap:Nat->Nat->Int} {n:Nat} (gok:GapOk n gap):∀ (ls:List (List Nat)) (m:Nat) (st:List Wt),StOk m n st->(∀ l∈ls,∀ d∈l,d<n)->(st.map (·.1)++ls.flatten).Nodup->(∀ a∈st,∀ l∈ls,∀ d∈l,0<gap d a.1)->ls.Pairwise (λ l m=>∀ d∈l,∀ e∈m,0<gap e d)->StOk (m+7*ls.length) n (runW gap ls st)
 | [],m,st,so,_,_,_,_=>so
 | l::ls,m,st,so,hl,nd,pos,pw=>by
   rw [List.flatten_cons,← List.append_assoc] at nd
   have so':=Zq1 gok so (hl l (by simp)) (List.nodup_append.mp nd).1 (λ a ha d hd=>pos a ha l (by simp) d hd)
   have pc:=List.pairwise_cons.mp pw
   have r:=Zt7 gok ls (m+7) (W3 gap st l) so' (λ l' hl'=>hl l' (by simp [hl'])) (by rw [Zcy]; exact nd) (λ a ha l' hl' d hd=>?_) pc.2
   · rw [List.length_cons,show m+7*(ls.length+1)=m+7+7*ls.length by omega]
     exact r
   · rcases List.mem_append.mp ha with z | z
     · exact pos a z l' (by simp [hl']) d hd
     · obtain ⟨e,he,rfl⟩:=List.mem_map.mp z
       exact pc.1 l' hl' e he d hd
theorem Zi4 {f:Wt->Int} {st:List Wt} {n d:Nat} (pm:(st.map (·.1)).Perm (List.range n)) (hd:d<n):∃ a∈st,a.1=d/\∀ f:Wt->Int,wOf f st d=f a:=by
 have h1:d∈st.map (·.1):=pm.mem_iff.mpr (List.mem_range.mpr hd)
 obtain ⟨b,hb,eb⟩:=List.mem_map.mp h1
 cases ef:st.find? (λ a=>a.1 == d) with
 | none=>exact absurd (List.find?_eq_none.mp ef b hb) (by simp [eb])
 | some c =>
   refine ⟨c,List.mem_of_find?_eq_some ef,by simpa using List.find?_some ef,λ f=>?_⟩
   unfold wOf
   rw [ef]; rfl
theorem Znf {h:Nat->Nat} {n:Nat} {ks:List Nat}:∀ l∈Y5 h n ks,∀ d∈l,d<n:=λ l hl d hd=>by
 obtain ⟨k,_,hk⟩:=Zg8 hl
 exact ((hk d).mp hd).1
theorem Zuv {gap:Nat->Nat->Int} {n:Nat} {ks:List Nat} (hs:ks.Pairwise (λ a b=>b<a)):(Y5 (hiF (cmM gap n)) n ks).Pairwise (λ l m=>∀ d∈l,∀ e∈m,0<gap e d):=by
 have h1:=Zig (h:=hiF (cmM gap n)) (n:=n) hs
 rw [List.pairwise_iff_getElem] at h1 ⊢
 intro i j hi hj hij d hd e he
 exact Z0p (Znf _ (List.getElem_mem hj) e he) (Znf _ (List.getElem_mem hi) d hd) (h1 i j hi hj hij d hd e he)
theorem Zns {gap:Nat->Nat->Int} {n:Nat} (n8:n<=8) (gok:GapOk n gap):AnsOk gap n (tasA gap n):=by
 unfold tasA
 cases er:rngF (cmM gap n) with
 | some r=>exact Zy6 er
 | none =>
   show TasteOk gap n (Zbm gap n)
   have hb:∀ d,d<n->hiF (cmM gap n) d<=8:=λ d hd=>Zng n8 d hd
   have hk:∀ d,d<n->hiF (cmM gap n) d∈ksF (hiF (cmM gap n)) n:=λ d hd=>(Zo2 hb _).mpr ⟨d,hd,rfl⟩
   have nr:∀ d e,d<(cmM gap n).length->e<(cmM gap n).length->d≠e->gap d e<0->inK (Zx (cmM gap n) e) d=false:=λ d e hd he ne neg=>by
    rw [X8] at hd he
    have:=List.findSome?_eq_none_iff.mp er (d,e) (Z0f hd he ne neg)
    by_cases z:inK (Zx (cmM gap n) e) d=true
    · rw [if_pos z] at this; cases this
    · simpa using z
   obtain ⟨tf,pm⟩:=Zox (Zkq gap n) Ztm nr (Zba (hiF (cmM gap n)) n) (by rw [X8]; exact hk)
   rw [X8] at tf pm
   replace tf:TasteF gap (Zbm gap n):=tf
   replace pm:((Zbm gap n).map (·.1)).Perm (List.range n):=pm
   have so:StOk (1+7*(Y5 (hiF (cmM gap n)) n (ksF (hiF (cmM gap n)) n)).length) n (Zbm gap n) :=
    Zt7 gok _ 1 [] ⟨List.nodup_nil,λ a ha=>(by cases ha),λ a ha=>(by cases ha)⟩ Znf (Zuz (Zba _ _)) (λ a ha=>by cases ha) (Zuv (Zba _ _))
   have ll:(Y5 (hiF (cmM gap n)) n (ksF (hiF (cmM gap n)) n)).length<=9:=by
    unfold Y5; rw [List.length_map]; exact Zu1 _ _
   refine ⟨λ d hd=>?_,λ d e hd he ne=>?_,λ d hd=>?_⟩
   · obtain ⟨a,ha,_,w⟩:=Zi4 (f:=(·.2.2)) pm hd
     rw [w]; exact tf.w1 a ha
   · obtain ⟨a,ha,ea,w⟩:=Zi4 (f:=(·.2.2)) pm hd
     obtain ⟨b,hb',eb,v⟩:=Zi4 (f:=(·.2.2)) pm he
     rw [w,w,v,← ea,← eb]
     exact tf.le a ha b hb' (by rw [ea,eb]; exact ne)
   · obtain ⟨a,ha,_,w⟩:=Zi4 (f:=(·.2.2)) pm hd
     rw [w]; exact (so.bw a ha).2.mono (by omega)
def gpF (B:List (List Int×List Int)) (x y:Int) (i j:Nat):Int:=y*Qj B i j-x*Qj B i i
abbrev ShB (x:Int):Prop:=0<=x/\x<=10000000000000000000000000000000000000000000000000000000000000000
theorem Zym {x:Int} (h:ShB x):BdI 2 x:=⟨Int.lt_of_lt_of_le (by decide +kernel:-(2 ^ (150*2):Int)<0) h.1,Int.lt_of_le_of_lt h.2 (by decide +kernel)⟩
theorem Zyn {c:Int} (h:0<c/\c<=6000000000000000000000000000):BdI 1 c:=⟨Int.lt_trans (by decide +kernel:-(2 ^ (150*1):Int)<0) h.1,Int.lt_of_le_of_lt h.2 (by decide +kernel)⟩
theorem Zka {m n:Nat} {B:List (List Int×List Int)} (g:GoodBook m n B) {x y:Int} (hx:ShB x) (hy:ShB y):GapOk B.length (gpF B x y):=λ i j hi hj=>by
 have a:=(Zym hy).prod (Zyn (cost_bd g hi hj))
 have b:=((Zym hx).prod (Zyn (cost_bd g hi hi))).neg
 have e:gpF B x y i j=y*Qj B i j + -(x*Qj B i i):=by unfold gpF; omega
 rw [e]
 exact a.add b
theorem Za8 {x c:Int} (hx:ShB x) (h1:0<c) (h2:c<=6000000000000000000000000000):IntMulOk x c:=by
 have h0:(0:Int)<10000000000000000000000000000000000000000000000000000000000000000:=by decide
 exact Zgq (by have:=hx.1; omega) (by have:=hx.2; omega) (by omega) (by omega)
def Zbx (K:Fq) (mg:Str->Option Value) (a b c:V) (H:Hp) (Q:VK) (E:XK):Prop:=∃ (B:List (List Int×List Int)) (m n d:Nat) (t:Addr) (x y:Int),Rep H a (Xj B)/\GoodBook m n B/\m<=9/\b=.int (d:Nat)/\d<B.length/\c=.ref t/\H t=some (.tup [.int x,.int y])/\ShB x/\ShB y /\
 ∀ q H',Same H H'->H q=none->H' q=some (.lst (((List.range B.length).map λ j=>gpF B x y d j).map V.int))->Q (.ref q) H'
def Zbo (K:Fq) (mg:Str->Option Value):Sp:=sp3 (Zbx K mg)
def Zek (K:Fq) (mg:Str->Option Value) (a b:V) (H:Hp) (Q:VK) (E:XK):Prop:=∃ (B:List (List Int×List Int)) (m n:Nat) (t:Addr) (x y:Int),Rep H a (Xj B)/\GoodBook m n B/\m<=9/\b=.ref t/\H t=some (.tup [.int x,.int y])/\ShB x/\ShB y/\∀ v H',Same H H'->GRep H' v (gpF B x y) B.length->Q v H'
def Zay (K:Fq) (mg:Str->Option Value):Sp:=sp2 (Zek K mg)
def Zjf (K:Fq) (a:V) (H:Hp) (Q:VK) (E:XK):Prop:=∃ M:List (List Int),MRep H a M/\M.length<=8/\(∀ r∈M,r.length=M.length) /\
 ∀ v H',Same H H'->((rngF M=none/\v=.non)\/∃ c p,rngF M=some c/\v=.ref p/\H' p=some (.lst (c.map nV)))->Q v H'
def Zax (K:Fq):Sp:=sp1 (Zjf K)
def TaRep (H0 H:Hp) (v:V) (n:Nat):List Nat ⊕ List Wt->Prop
 | .inl r=>∃ t p,v=.ref t/\H t=some (.tup [.str "ring",.ref p])/\H p=some (.lst (r.map nV))
 | .inr st=>TsRep H0 H v st n
theorem Zyw {H0 H H':Hp} {v:V} {n:Nat} {o:List Nat ⊕ List Wt} (s:Same H H') (h:TaRep H0 H v n o):TaRep H0 H' v n o:=by
 cases o with
 | inl r=>exact let ⟨t,p,e,h1,h2⟩:=h; ⟨t,p,e,s _ _ h1,s _ _ h2⟩
 | inr st=>exact let ⟨t,p1,p2,e,h1,a,b,c,h2,h3⟩:=h; ⟨t,p1,p2,e,s _ _ h1,a,b,c,s _ _ h2,s _ _ h3⟩
def ShV (H:Hp) (b:V) (x y:Int):Prop:=(b=.non/\x=1/\y=1)\/∃ t,b=.ref t/\H t=some (.tup [.int x,.int y])
def Zc4 (K:Fq) (mg:Str->Option Value) (a b:V) (H:Hp) (Q:VK) (E:XK):Prop:=∃ (B:List (List Int×List Int)) (m n:Nat) (x y:Int),Rep H a (Xj B)/\GoodBook m n B/\m<=8/\ShV H b x y/\ShB x/\ShB y /\
 ∀ w H',Same H H'->TaRep H H' w B.length (tasA (gpF B x y) B.length)->Q w H'
def Ux (K:Fq) (mg:Str->Option Value):Sp:=sp2 (Zc4 K mg)
def Zf8 (K:Fq) (a b:V) (H:Hp) (Q:VK) (E:XK):Prop:=∃ (p:Addr) (ns:List Int) (n:Nat),a=.ref p/\H p=some (.lst (ns.map V.int))/\ns.Nodup/\ns.length<=16/\b=.int (n:Nat)/\(∀ x∈ns,0<=x/\x<(n:Int))/\∀ H',Same H H'->Q (.bl true) H'
def Zbp (K:Fq):Sp:=sp2 (Zf8 K)
def Zf7 (K:Fq) (a b:V) (H:Hp) (Q:VK) (E:XK):Prop:=∃ (p:Addr) (ns:List Int),a=.ref p/\H p=some (.lst (ns.map V.int))/\ns.length<=100/\b=.int (ns.length:Nat)/\∀ H',Same H H'->Q (.bl true) H'
def Vq (K:Fq):Sp:=sp2 (Zf7 K)
def Zcu (K:Fq) (a b c:V) (H:Hp) (Q:VK) (E:XK):Prop:=∃ (B:List (List Int×List Int)) (m n:Nat) (t p:Addr) (x y:Int) (r:List Nat),Rep H a (Xj B)/\GoodBook m n B/\m<=8/\b=.ref t/\H t=some (.tup [.int x,.int y])/\ShB x/\ShB y/\c=.ref p/\H p=some (.lst (r.map nV))/\RingOk (gpF B x y) B.length r/\∀ H',Same H H'->Q (.bl true) H'
def Vp (K:Fq):Sp:=sp3 (Zcu K)
def Zbz (K:Fq) (a b c d:V) (H:Hp) (Q:VK) (E:XK):Prop:=∃ (B:List (List Int×List Int)) (m n:Nat) (t p1 p2:Addr) (x y:Int) (st:List Wt),Rep H a (Xj B)/\GoodBook m n B/\m<=8/\b=.ref t/\H t=some (.tup [.int x,.int y])/\ShB x/\ShB y /\
 c=.ref p1/\H p1=some (.lst (((List.range B.length).map λ d=>wOf (·.2.1) st d).map V.int))/\d=.ref p2/\H p2=some (.lst (((List.range B.length).map λ d=>wOf (·.2.2) st d).map V.int))/\TasteOk (gpF B x y) B.length st/\∀ H',Same H H'->Q (.bl true) H'
def Ko (K:Fq):Sp:=sp4 (Zbz K)
def kdM:List Nat ⊕ List Wt->Str
 | .inl _=>"ring"
 | .inr _=>"taste"
def Zct (K:Fq) (a b c:V) (H:Hp) (Q:VK) (E:XK):Prop:=∃ (B:List (List Int×List Int)) (m n:Nat) (t:Addr) (x y:Int) (o:List Nat ⊕ List Wt) (H0:Hp),Rep H b (Xj B)/\GoodBook m n B/\m<=8/\c=.ref t/\H t=some (.tup [.int x,.int y])/\ShB x/\ShB y /\
 TaRep H0 H a B.length o/\AnsOk (gpF B x y) B.length o/\∀ H',Same H H'->Q (.str (kdM o)) H'
def Vo (K:Fq):Sp:=sp3 (Zct K)
def Zd7 (K:Fq):TS :=
 (Zz (Qo (iSeq K (Zy (Jq K) [] E0 (Zd (Zc 0) Zj))) (Zo 1) (Zz (Yi (Zy (Xi K) [] E0 (Zd (Zc 0) (Zd (tOp (rIx K) (Zc 1) (tC (.int 1))) Zj))) (Zo 2))
  (Yt (tB (Znu (tOp (rIx K) (Zc 1) (tC (.int 0))) (Zc 2))) (Z7 (U8 (Zc 2) (tOp (rIx K) (Zc 1) (tC (.int 0))))) Yo)))
  (Z7 (tC .non)))
def Vc (K:Fq) (mg:Str->Option Value):TS :=
 (Zz (Yi (tOp (rMulU K) (tOp (rIx K) (Zc 2) (tC (.int 0))) (Zy (Km K mg) [] E0 (Zd (Zc 0) (Zd (Zc 1) Zj)))) (Zo 3))
  (Z7 (Xg [none,some 2,some 0,some 1,some 3] (Xz (Zd (tCB (rLenU K) (Zd (Zc 0) Zj)) Zj)) (Zo 0) Qd (tOp rSubU (tOp (rMulU K) (tOp (rIx K) (Zc 1) (tC (.int 1))) (Zy (Gi K mg) [] E0 (Zd (Zc 2) (Zd (Zc 3) (Zd (Zc 0) Zj))))) (Zc 4)))))
def Zav (K:Fq) (mg:Str->Option Value):TS :=
 (Z7 (Xg [none,some 0,some 1] (Xz (Zd (tCB (rLenU K) (Zd (Zc 0) Zj)) Zj)) (Zo 0) Qd (Zy (Zbo K mg) [] E0 (Zd (Zc 1) (Zd (Zc 0) (Zd (Zc 2) Zj))))))
def Zc1 (K:Fq):TS :=
 (Zz (Yt (Yn (tOp (rEqU K) (Zc 1) (Zc 2))) (Z7 (tC (.int 1))) Yo)
  (Z7 (Zy (Vm K) [] E0 (Zd (tOp (rIx K) (tOp (rIx K) (Zc 0) (Zc 1)) (Zc 2)) Zj))))
def Ur (K:Fq):TS :=
 (Z7 (Xg [none,some 0,some 1] (Xz (Zd (tCB (rLenU K) (Zd (Zc 0) Zj)) Zj)) (Zo 0) Qd (Zy (Zc3 K) [] E0 (Zd (Zc 1) (Zd (Zc 2) (Zd (Zc 0) Zj))))))
def Vd (K:Fq):TS :=
 (Z7 (Xg [none,some 0] (Xz (Zd (tCB (rLenU K) (Zd (Zc 0) Zj)) Zj)) (Zo 0) Qd (Zy (Us K) [] E0 (Zd (Zc 1) (Zd (Zc 0) Zj)))))
def Zbe (K:Fq):TS :=
 (Zz (Yi (Xg [none,some 0] (Xz (Zd (tCB (rLenU K) (Zd (Zc 0) Zj)) Zj)) (Zo 0) Qd (tCB Zx7 (Zd (Zy (Xi K) [] E0 (Zd (Zc 1) (Zd (Zc 0) Zj))) Zj))) (Zo 1))
  (Zz (Yi (Wy Zj) (Zo 2))
  (Zz (Qo (iRev K (Zd (Zhv K (Zc 1)) Zj)) (Zo 3) (Wj (tBM K "list" K6 (Zc 2) (Zd (Xg [none,none,some 3] (Zch K (Zd (Zc 1) Zj)) (K3 K 2 (Xo (Zo 0) (Xo (Zo 1) K4))) (Yn (tOp (rEqU K) (Zc 1) (Zc 2))) (Zc 0)) Zj))))
  (Z7 (Zc 2)))))
def Hv (K:Fq):TS :=
 (Zz (Yi (tC (.int 0)) (Zo 4))
  (Zz (Znc 1 (Zo 5) (Qo (iSeq K (Zc 3)) (Zo 6) (Yi (tCB Zx3 (Zd (Zc 4) (Zd (tOp (rAddU K) (U8 (Zc 1) (Zc 5)) (tOp (rMulU K) (U8 (Zc 2) (Zc 5)) (tOp (rIx K) (tOp (rIx K) (Zc 0) (Zc 5)) (Zc 6)))) Zj))) (Zo 4))))
  (Z7 (Zc 4))))
def Va (K:Fq):TS :=
 (Zz (Yi (tC (.int 1)) (Zo 4))
  (Zz (Znc 1 (Zo 5) (Yi (tCB Zx5 (Zd (Zc 4) (Zd (tUn rNegU (tOp rDivU (tOp rSubU (Zc 3) (U8 (Zc 1) (Zc 5))) (tOp (rIx K) (tOp (rIx K) (Zc 0) (Zc 2)) (Zc 5)))) Zj))) (Zo 4)))
  (Z7 (Zc 4))))
def Zcz (K:Fq):TS :=
 (Zz (Yi Znd (Zo 2))
  (Zz (Yi Znd (Zo 3))
  (Zz (Qo (iSeq K (Zc 1)) (Zo 4) (Zz (Yi (Zy (Gg K) [] E0 (Zd (Zc 0) (Zd (Zc 2) (Zd (Zc 3) (Zd (Zc 4) Zj))))) (Zo 5))
  (Zz (Qo (iSeq K (Zc 4)) (Zo 6) (Zjk (Zc 3) (Zc 6) (Zy (Vj K) [] E0 (Zd (Zc 0) (Zd (Zc 2) (Zd (Zc 6) (Zd (Zc 5) Zj)))))))
  (Qo (iSeq K (Zc 4)) (Zo 6) (Zjk (Zc 2) (Zc 6) (Zc 5))))))
  (Zz (Yi (tCB Zev (Zd (Zc 2) Zj)) (Zo 7))
  (Z7 (Jw (Zd (tC (.str "taste")) (Zd (Xg [none,some 2] (iSeq K (Zc 7)) (Zo 0) Qd (U8 (Zc 1) (Zc 0))) (Zd (Xg [none,some 3] (iSeq K (Zc 7)) (Zo 0) Qd (U8 (Zc 1) (Zc 0))) Zj)))))))))
def Eb (K:Fq) (mg:Str->Option Value):TS :=
 (Zz (Yi (Zy (Zay K mg) [] E0 (Zd (Zc 0) (Zd (tIf (Yn (tOp rIsU (Zc 1) (tC .non))) (Jw (Zd (tC (.int 1)) (Zd (tC (.int 1)) Zj))) (Zc 1)) Zj))) (Zo 2))
  (Zz (Yi (Zy (W4 K) [] E0 (Zd (Zc 2) Zj)) (Zo 3))
  (Zz (Yi (Zy (Zax K) [] E0 (Zd (Zc 3) Zj)) (Zo 4))
  (Zz (Yt (Yn (tOp rIsNotU (Zc 4) (tC .non))) (Z7 (Jw (Zd (tC (.str "ring")) (Zd (Zc 4) Zj)))) Yo)
  (Z7 (Zy (Ef K) [] E0 (Zd (Zc 2) (Zd (Zy (Vn K) [] E0 (Zd (Zc 3) Zj)) Zj))))))))
def Zbh (K:Fq):TS :=
 (Zz (Yt (tOr (Jx (Qn K (tCB (rIsinst K) (Zd (Zc 0) (Zd (tC (.ty "list")) Zj))))) (Yn (tOp (rNeU K) (tCB (rLenU K) (Zd (Zc 0) Zj)) (tCB (Zx6 K) (Zd (tCB (Zq8 K) (Zd (Zc 0) Zj)) Zj))))) (Z7 (tC (.bl false))) Yo)
  (Zz (Qo (iSeq K (Zc 0)) (Zo 2) (Yt (tOr (Jx (Qn K (Zy (Jc K) [] E0 (Zd (Zc 2) Zj)))) (Jx (Yn (Zi5 rLeU rLtU (tC (.int 0)) (Zc 2) (Zc 1))))) (Z7 (tC (.bl false))) Yo))
  (Z7 (tC (.bl true)))))
def Vh (K:Fq):TS :=
 (Zz (Yt (tOr (Jx (Qn K (Zy (Zbp K) [] E0 (Zd (Zc 2) (Zd (tCB (rLenU K) (Zd (Zc 0) Zj)) Zj))))) (Yn (tOp rLtU (tCB (rLenU K) (Zd (Zc 2) Zj)) (tC (.int 2))))) (Z7 (tC (.bl false))) Yo)
  (Zz (Yi (tC (.bl false)) (Zo 3))
  (Zz (Qo (Xz (Zd (tCB (rLenU K) (Zd (Zc 2) Zj)) Zj)) (Zo 4) (Zz (Yi (tOp (rIx K) (Zc 2) (Zc 4)) (Zo 5))
  (Zz (Yi (tOp rSubU (tOp (rMulU K) (tOp (rIx K) (Zc 1) (tC (.int 1))) (Zy (Ji K) [] E0 (Zd (Zc 0) (Zd (Zc 5) (Zd (tOp (rIx K) (Zc 2) (tOp rModU (tOp (rAddU K) (Zc 4) (tC (.int 1))) (tCB (rLenU K) (Zd (Zc 2) Zj)))) Zj))))) (tOp (rMulU K) (tOp (rIx K) (Zc 1) (tC (.int 0))) (Zy (Ji K) [] E0 (Zd (Zc 0) (Zd (Zc 5) (Zd (Zc 5) Zj)))))) (Zo 6))
  (Zz (Yt (Yn (tOp rGtU (Zc 6) (tC (.int 0)))) (Z7 (tC (.bl false))) Yo)
  (Yi (Zwh (Zc 3) (tOp rLtU (Zc 6) (tC (.int 0)))) (Zo 3))))))
  (Z7 (Zc 3)))))
def Zbg (K:Fq):TS :=
 (Z7 (Zco (tCB (rIsinst K) (Zd (Zc 0) (Zd (tC (.ty "list")) Zj))) (Zco (tOp (rEqU K) (tCB (rLenU K) (Zd (Zc 0) Zj)) (Zc 1)) (tOp (rEqU K) (tCB (rLenU K) (Zd (Xg [none] (iSeq K (Zc 0)) (Zo 0) (Qn K (Zy (Jc K) [] E0 (Zd (Zc 0) Zj))) (Zc 0)) Zj)) (Zc 1)))))
def Kf (K:Fq):TS :=
 (Zz (Yt (tOr (Jx (Qn K (Zy (Vq K) [] E0 (Zd (Zc 2) (Zd (tCB (rLenU K) (Zd (Zc 0) Zj)) Zj))))) (tOr (Jx (Qn K (Zy (Vq K) [] E0 (Zd (Zc 3) (Zd (tCB (rLenU K) (Zd (Zc 0) Zj)) Zj))))) (Yn (tOp rLtU (tCB (rMinU K) (Zd (Zc 3) Zj)) (tC (.int 1)))))) (Z7 (tC (.bl false))) Yo)
  (Zz (Qo (Xz (Zd (tCB (rLenU K) (Zd (Zc 0) Zj)) Zj)) (Zo 4) (Qo (Xz (Zd (tCB (rLenU K) (Zd (Zc 0) Zj)) Zj)) (Zo 5) (Zz (Yi (tOp rSubU (tOp (rMulU K) (tOp (rIx K) (Zc 1) (tC (.int 1))) (Zy (Ji K) [] E0 (Zd (Zc 0) (Zd (Zc 4) (Zd (Zc 5) Zj))))) (tOp (rMulU K) (tOp (rIx K) (Zc 1) (tC (.int 0))) (Zy (Ji K) [] E0 (Zd (Zc 0) (Zd (Zc 4) (Zd (Zc 4) Zj)))))) (Zo 6))
  (Yt (Zbn (Yn (tOp (rNeU K) (Zc 5) (Zc 4))) (Yn (tOp rGtU (tOp (rIx K) (Zc 2) (Zc 5)) (tOp (rAddU K) (tOp (rIx K) (Zc 2) (Zc 4)) (tOp (rMulU K) (tOp (rIx K) (Zc 3) (Zc 4)) (Zc 6)))))) (Z7 (tC (.bl false))) Yo))))
  (Z7 (tC (.bl true)))))
def Vg (K:Fq):TS :=
 (Zz (Yt (tOr (Jx (Qn K (tCB (rIsinst K) (Zd (Zc 0) (Zd (tC (.ty "tuple")) Zj))))) (Yn (tOp rLtU (tCB (rLenU K) (Zd (Zc 0) Zj)) (tC (.int 2))))) (Z7 (tC (.str "none"))) Yo)
  (Zz (Yt (Zbn (Yn (tOp (rEqU K) (tOp (rIx K) (Zc 0) (tC (.int 0))) (tC (.str "taste")))) (Zbn (Yn (tOp (rEqU K) (tCB (rLenU K) (Zd (Zc 0) Zj)) (tC (.int 3)))) (Qn K (Zy (Ko K) [] E0 (Zd (Zc 1) (Zd (Zc 2) (Zd (tOp (rIx K) (Zc 0) (tC (.int 1))) (Zd (tOp (rIx K) (Zc 0) (tC (.int 2))) Zj)))))))) (Z7 (tC (.str "taste"))) Yo)
  (Zz (Yt (Zbn (Yn (tOp (rEqU K) (tOp (rIx K) (Zc 0) (tC (.int 0))) (tC (.str "ring")))) (Zbn (Yn (tOp (rEqU K) (tCB (rLenU K) (Zd (Zc 0) Zj)) (tC (.int 2)))) (Qn K (Zy (Vp K) [] E0 (Zd (Zc 1) (Zd (Zc 2) (Zd (tOp (rIx K) (Zc 0) (tC (.int 1))) Zj))))))) (Z7 (tC (.str "ring"))) Yo)
  (Z7 (tC (.str "none"))))))
theorem w_dget {td ty:TE} {σ:St} {H:Hp} {Q:VK} (h:td σ H λ x H1=>ty σ H1 λ y H2=>∃ a v,x=.ref a/\DGet H2 a y (some v)/\Q v H2):U8 td ty σ H Q:=h
theorem Zo3 {K:Fq} {n j:Nat} (f:Nat->Int) (hj:j<n):atI ((List.range n).map λ j=>V.int (f j)) ((j:Nat):Int)=some (.int (f j)):=Xv (by rw [List.getElem?_map,List.getElem?_range hj]; rfl)
theorem Zww {x:Int} (h:BdI 4 x):x<2 ^ 9000:=Int.lt_of_lt_of_le h.2 (RS.Zom (by decide))
theorem Zk8 {K:Fq} {a b c d:V} {H:Hp} {Q:VK} {E:XK} (h:Zdr K a b c d H Q E):Hv K (Rt Q) [some a,some b,some c,some d,none,none,none] H:=by
 obtain ⟨gap,m,n,st,w,u,l,ds,⟨g,rs,rfl,hg,lr,row⟩,gok,n8,m9,sok,rfl,hw,rfl,hu,wu,rfl,hl,dn,q⟩:=h
 have gw:g≠w:=λ z=>by rw [z,hw] at hg; cases hg
 have lw:l≠w:=λ z=>by rw [z,hw] at hl; cases hl
 unfold Hv
 refine Zr (Z9 (w_c (Zq ?_)))
 try dsimp only
 refine Zr (Ztv (d:=w) (kvs:=wkv (·.2.1) st) (ns:=st.map λ a=>(a.1:Int)) rfl hw (Zhq _ st) (λ o j σ H1=>H1=upd H w (.frz o (.dK (wkv (·.2.1) st)))/\∃ r5 r6,σ=[some (.ref g),some (.ref w),some (.ref u),some (.ref l),some (.int (lowW gap ds (st.take j) 0)),r5,r6]) (λ o=>⟨rfl,_,_,rfl⟩) (λ o j σ H1 z=>by rw [z.1]; exact Zn) ?_ ?_)
 · rintro o j x σ H1 hx ⟨eH,r5,r6,rfl⟩
   have hj:j<st.length:=by
    have:=(List.getElem?_eq_some_iff.mp hx).1
    simpa using this
   have hm:st[j]∈st:=List.getElem_mem hj
   have ex:x=((st[j].1:Nat):Int):=by
    rw [List.getElem?_map,List.getElem?_eq_getElem hj] at hx
    simpa using hx.symm
   subst ex
   have wl:=sok.lt _ hm
   obtain ⟨r,hr,hrow⟩:=row _ wl
   have rw':r≠w:=λ z=>by rw [z,hw] at hrow; cases hrow
   have h1w:H1 w=some (.frz o (.dK (wkv (·.2.1) st))):=by rw [eH]; exact Zn
   have h1u:H1 u=some (.dK (wkv (·.2.2) st)):=by rw [eH,Z5 (Ne.symm wu)]; exact hu
   have h1g:H1 g=some (.lst rs):=by rw [eH,Z5 gw]; exact hg
   have h1l:H1 l=some (.lst (ds.map nV)):=by rw [eH,Z5 lw]; exact hl
   have h1r:H1 r=some (.lst ((List.range n).map λ i=>V.int (gap st[j].1 i))):=by rw [eH,Z5 rw']; exact hrow
   have v1:=Hr (·.2.1) sok.nd _ hm
   have v2:=Hr (·.2.2) sok.nd _ hm
   refine Zq (Qc (X3 (Za rfl ⟨_,rfl,.inl ⟨⟨_,SqL.of h1l⟩,?_⟩⟩)))
   refine Jj (K:=K) (a:=l) (xs:=ds.map nV) (λ k σ H2=>H2=H1/\∃ r6,σ=[some (.ref g),some (.ref w),some (.ref u),some (.ref l),some (.int (lowD gap st[j] (ds.take k) (lowW gap ds (st.take j) 0))),some (.int ((st[j].1:Nat):Int)),r6]) ⟨rfl,_,rfl⟩ (λ k σ H2 _ z=>by rw [z.1]; exact SqL.of h1l) ?_ ?_
   · rintro k y σ H2 hy ⟨rfl,r6,rfl⟩
     have hk:k<ds.length:=by
      have:=(List.getElem?_eq_some_iff.mp hy).1
      simpa using this
     have ey:y=nV ds[k]:=by
      rw [List.getElem?_map,List.getElem?_eq_getElem hk] at hy
      simpa using hy.symm
     subst ey
     have dk:=dn _ (List.getElem_mem hk)
     have bw:=sok.bw _ hm
     refine Zq (Z9 (Yl (Zb (Za rfl (Zb (Zh (w_dget (Za rfl (Za rfl ⟨w,_,rfl,v1 ▸ DGet.f (k:=Sum.inl ((st[j].1:Nat):Int)) h1w,?_⟩)))))))))
     refine Zh (w_dget (Za rfl (Za rfl ⟨u,_,rfl,v2 ▸ DGet.k (k:=Sum.inl ((st[j].1:Nat):Int)) h1u,?_⟩)))
     refine Zh (Zh (Za rfl (Za rfl (Y9 (SqL.of h1g) (Xv hr) (Za rfl (Y9 (SqL.of h1r) (Zo3 (K:=K) _ dk) ?_))))))
     refine Yu (BdI.mul (by omega) (by decide) bw.2 (gok _ _ wl dk)) (Xd (Zg (Z0m (Zq ⟨rfl,some (nV ds[k]),?_⟩))))
     rw [List.take_add_one,List.getElem?_eq_getElem hk]
     show _=[_,_,_,_,some (V.int (lowD gap st[j] (ds.take k++[ds[k]]) _)),_,_]
     rw [Zmf]; rfl
   · rintro σ H2 ⟨rfl,r6,rfl⟩
     refine ⟨eH,some (.int ((st[j].1:Nat):Int)),r6,?_⟩
     rw [List.length_map,List.take_length,List.take_add_one,List.getElem?_eq_getElem hj]
     show _=[_,_,_,_,some (V.int (lowW gap ds (st.take j++[st[j]]) 0)),_,_]
     rw [Zme]
 · rintro o σ H1 ⟨rfl,r5,r6,rfl⟩
   rw [List.length_map,List.take_length,Znq hw]
   try dsimp only
   exact Yc (Za rfl q)
theorem Zjm {K:Fq} {a b c d:V} {H:Hp} {Q:VK} {E:XK} (h:Zcp K a b c d H Q E):Va K (Rt Q) [some a,some b,some c,some d,none,none] H:=by
 obtain ⟨gap,m,n,st,w,e,own,⟨g,rs,rfl,hg,lr,row⟩,gok,n8,m9,sok,rfl,hw,rfl,rfl,en,pos,q⟩:=h
 have gw:g≠w:=λ z=>by rw [z,hw] at hg; cases hg
 obtain ⟨r,hr,hrow⟩:=row _ en
 have rw':r≠w:=λ z=>by rw [z,hw] at hrow; cases hrow
 unfold Va
 refine Zr (Z9 (w_c (Zq ?_)))
 try dsimp only
 refine Zr (Ztv (d:=w) (kvs:=wkv (·.2.1) st) (ns:=st.map λ a=>(a.1:Int)) rfl hw (Zhq _ st) (λ o j σ H1=>H1=upd H w (.frz o (.dK (wkv (·.2.1) st)))/\∃ r5,σ=[some (.ref g),some (.ref w),some (.int (e:Nat)),some (.int own),some (.int (wtW gap e own (st.take j) 1)),r5]) (λ o=>⟨rfl,_,rfl⟩) (λ o j σ H1 z=>by rw [z.1]; exact Zn) ?_ ?_)
 · rintro o j x σ H1 hx ⟨eH,r5,rfl⟩
   have hj:j<st.length:=by
    have:=(List.getElem?_eq_some_iff.mp hx).1
    simpa using this
   have hm:st[j]∈st:=List.getElem_mem hj
   have ex:x=((st[j].1:Nat):Int):=by
    rw [List.getElem?_map,List.getElem?_eq_getElem hj] at hx
    simpa using hx.symm
   subst ex
   have wl:=sok.lt _ hm
   have h1w:H1 w=some (.frz o (.dK (wkv (·.2.1) st))):=by rw [eH]; exact Zn
   have h1g:H1 g=some (.lst rs):=by rw [eH,Z5 gw]; exact hg
   have h1r:H1 r=some (.lst ((List.range n).map λ j=>V.int (gap e j))):=by rw [eH,Z5 rw']; exact hrow
   have v1:=Hr (·.2.1) sok.nd _ hm
   refine Zq (Z9 (Yl (Zb (Za rfl (Zb (Z0i (Zh (Zh (Za rfl (w_dget (Za rfl (Za rfl ⟨w,_,rfl,v1 ▸ DGet.f (k:=Sum.inl ((st[j].1:Nat):Int)) h1w,?_⟩))))))))))))
   refine Zbb (Zh (Zh (Za rfl (Za rfl (Y9 (SqL.of h1g) (Xv hr) (Za rfl (Y9 (SqL.of h1r) (Zo3 (K:=K) _ wl) ?_)))))))
   refine ⟨_,_,rfl,rfl,CDivB.of (pos _ hm) (Zww (gok _ _ en wl)),Ztu (Zg (Z0n (Zq ⟨eH,some (.int ((st[j].1:Nat):Int)),?_⟩)))⟩
   rw [List.take_add_one,List.getElem?_eq_getElem hj]
   show _=[_,_,_,_,some (V.int (wtW gap e own (st.take j++[st[j]]) 1)),_]
   rw [Znn]; rfl
 · rintro o σ H1 ⟨rfl,r5,rfl⟩
   rw [List.length_map,List.take_length,Znq hw]
   try dsimp only
   exact Yc (Za rfl q)
theorem Zqb {K:Fq} {a b c:V} {H:Hp} {Q:VK} {E:XK} (h:Zhl K a b c H Q E):Zc1 K (Rt Q) [some a,some b,some c] H:=by
 obtain ⟨gap,n,i,j,⟨g,rs,rfl,hg,lr,row⟩,rfl,rfl,hi,hj,q⟩:=h
 obtain ⟨r,hr,hrow⟩:=row i hi
 unfold Zc1
 refine Zr (Yp (Yj (Zh (Za rfl (Za rfl (Xm (Yq (iteD (λ e=>?_) λ e=>?_))))))))
 · refine Yc (w_c ?_)
   have ce:cmF gap i j=1:=by unfold cmF; rw [if_pos (by omega)]
   rw [ce] at q
   exact q
 · refine Yk ?_
   try dsimp only
   refine Yc (Zv (Zb (Zh (Zh (Za rfl (Za rfl (Y9 (SqL.of hg) (Xv hr) (Za rfl (Y9 (SqL.of hrow) (Zo3 (K:=K) _ hj) (Zg ⟨_,rfl,_,rfl,?_⟩))))))))))
   have ce:cmF gap i j=Jz (gap i j):=by unfold cmF; rw [if_neg (by omega)]
   rw [ce] at q
   exact q
theorem Zhf {K:Fq} {a b:V} {H:Hp} {Q:VK} {E:XK} (h:Zat K a b H Q E):Ur K (Rt Q) [some a,some b] H:=by
 obtain ⟨gap,n,i,gr,n8,rfl,hi,q⟩:=h
 obtain ⟨g,rs,rfl,hg,lr,row⟩:=id gr
 unfold Ur
 refine Yc (Xy (Q8 (Zb (Yl (Zb (Za rfl (Zg (Xp (SqL.of hg) (Zg ⟨_,rfl,(Yy (by omega)).1,(Yy (by omega)).2,λ D hD=>?_⟩)))))))))
 refine Ww (n:=rs.length) D (λ j v H=>v=.int (cmF gap i j)) (λ _ _ _ _ t z=>z) (by omega) hD ⟨_,rfl⟩ (λ j H3 R hj s3 k=>?_) λ ys H3 hl3 hy s3 h3=>?_
 · exact Zv (Zb (Za rfl (Zb (Za rfl (Zb (Za rfl (Zg ⟨_,_,_,rfl,gap,n,i,j,Ex s3 gr,rfl,rfl,hi,by omega,k _ _ (Same.refl _) rfl⟩)))))))
 · have ey:ys=(cmR gap n i).map V.int:=by
    unfold cmR
    rw [List.map_map]
    apply List.ext_getElem?
    intro j
    rcases Nat.lt_or_ge j n with z | z
    · have h1:ys[j]?=some (ys[j]'(by omega)):=List.getElem?_eq_getElem (by omega)
      rw [h1,hy j _ h1,List.getElem?_map,List.getElem?_range z]; rfl
    · rw [List.getElem?_eq_none (by omega),List.getElem?_eq_none (by simp; omega)]
   exact q D H3 hD s3 (by rw [← ey]; exact h3)
theorem Zjo {K:Fq} {a:V} {H:Hp} {Q:VK} {E:XK} (h:Zcr K a H Q E):Vd K (Rt Q) [some a] H:=by
 obtain ⟨gap,n,gr,n8,q⟩:=h
 obtain ⟨g,rs,rfl,hg,lr,row⟩:=id gr
 unfold Vd
 refine Yc (Xy (Q8 (Zb (Yl (Zb (Za rfl (Zg (Xp (SqL.of hg) (Zg ⟨_,rfl,(Yy (by omega)).1,(Yy (by omega)).2,λ D hD=>?_⟩)))))))))
 refine Zdm (n:=rs.length) (σr:=[some (.ref g)]) D (λ i=>cmR gap n i) (by omega) hD ⟨none,rfl⟩ ?_ ?_
 · intro i H1 R hi s1 kk
   exact Zv (Zb (Za rfl (Zb (Za rfl (Zg ⟨_,_,rfl,gap,n,i,Ex s1 gr,n8,rfl,by omega,λ t H2 ht s2 h2=>kk t H2 ht s2 h2⟩)))))
 · intro zs H1 hy hall s1 hD1
   refine q _ H1 s1 ⟨D,zs,rfl,hD1,by rw [hy,lr,X8],λ i hi=>?_⟩
   rw [X8] at hi
   have hi':i<zs.length:=by omega
   have e:zs[i]?=some zs[i]:=List.getElem?_eq_getElem hi'
   obtain ⟨t,e1,e2⟩:=hall i _ e
   exact ⟨t,by rw [e,e1],by rw [Zpo hi]; exact e2⟩
theorem Zoa {K:Fq} {a:V} {H:Hp} {Q:VK} {E:XK} (h:Zf4 K a H Q E):Zbe K (Rt Q) [some a,none,none,none] H:=by
 obtain ⟨M,mr,n8,sq,q⟩:=h
 obtain ⟨mp,rs,rfl,hm,lr,rows⟩:=id mr
 have lenM:rs.length=M.length:=lr
 unfold Zbe
 refine Zr (Z9 (Xy (Q8 (Zb (Yl (Zb (Za rfl (Zg (Xp (SqL.of hm) (Zg ⟨_,rfl,(Yy (by omega)).1,(Yy (by omega)).2,λ D hD=>?_⟩))))))))))
 refine Ww (n:=rs.length) D (λ d v H=>v=.int (hiF M d:Nat)/\hiF M d<=M.length) (λ _ _ _ _ t z=>z) (by omega) hD ⟨_,rfl⟩ (λ d H3 R hd s3 k=>?_) λ ys H3 hl3 hy s3 h3=>?_
 · refine Yl (Zb (Zv (Zb (Za rfl (Zb (Za rfl (Zg ⟨_,_,rfl,M,d,Zgr s3 mr,n8,sq,rfl,by omega,λ p wa kvs H4 s4 hp dr gd=>Zg ⟨p,kvs,rfl,hp,?_⟩⟩)))))))
   rw [Zpi dr]
   exact k _ _ s4 ⟨rfl,by have:=gd.sz; show (Zx M d).length<=_; dsimp only at this; omega⟩
 have ey:ys=(List.range rs.length).map λ d=>V.int (hiF M d:Nat):=by
  apply List.ext_getElem?
  intro i
  rcases Nat.lt_or_ge i rs.length with z | z
  · have h1:ys[i]?=some (ys[i]'(by omega)):=List.getElem?_eq_getElem (by omega)
    rw [h1,(hy i _ h1).1,List.getElem?_map,List.getElem?_range z]; rfl
  · rw [List.getElem?_eq_none (by omega),List.getElem?_eq_none (by simp; omega)]
 have hb:∀ d,d<rs.length->hiF M d<=M.length:=λ d hd=>(hy d _ (List.getElem?_eq_getElem (show d<ys.length by omega))).2
 have ns_eq:ys=((List.range rs.length).map λ d=>((hiF M d:Nat):Int)).map V.int:=by rw [ey,List.map_map]; rfl
 refine Zq ?_
 try dsimp only
 refine Zr (Z9 (Wi (Zg ⟨by show 0<=sizeLine; decide,λ q' hq'=>Zq ?_⟩)))
 have s4:=s3.laidT (o:=.lst []) hq'
 have e4:=Zn (H:=H3) (a:=q') (o:=.lst [])
 have hD4:(upd H3 q' (.lst [])) D=some (.lst ys):=by rw [Z5 (λ z=>by rw [z,hq'] at h3; cases h3)]; exact h3
 have hq0:H q'=none:=s3.free hq'
 generalize upd H3 q' (.lst [])=H4 at s4 e4 hD4 ⊢
 try dsimp only
 refine Zr (Qc (Z1x (Zb (Ztt (Za rfl ⟨D,(List.range rs.length).map λ d=>((hiF M d:Nat):Int),rfl,SqL.of (by rw [← ns_eq]; exact hD4),by simp; omega,?_,λ out r H5 so mem s5 hr0 hr=>?_⟩) (λ Q1 Q2 m ⟨v,e,z⟩=>⟨v,e,m _ _ z⟩)))))
 · intro x hx
   obtain ⟨d,hd,rfl⟩:=List.mem_map.mp hx
   have h1:=Z1q M d
   have h2:=hb d (List.mem_range.mp hd)
   omega
 have qr:q'≠r:=λ z=>by rw [← z,e4] at hr0; cases hr0
 have Dr:D≠r:=λ z=>by rw [← z,hD4] at hr0; cases hr0
 have Dq:D≠q':=λ z=>by rw [z] at h3; rw [h3] at hq'; cases hq'
 have pos:∀ x∈out,0<=x:=λ x hx=>by
  obtain ⟨d,hd,rfl⟩:=List.mem_map.mp ((mem x).mp hx)
  omega
 let ks:List Nat:=out.reverse.map Int.toNat
 have pw:ks.Pairwise (λ a b=>b<a):=by
  refine List.pairwise_map.mpr (List.Pairwise.imp_of_mem (λ {x y} hx hy z=>?_) (List.pairwise_reverse.mpr so))
  have h1:=pos x (List.mem_reverse.mp hx)
  have h2:=pos y (List.mem_reverse.mp hy)
  omega
 have ol:out.length<=9:=by
  have h1:=Zjx 9 ks (pw.imp λ h e=>by omega) λ x hx=>by
   obtain ⟨y,hy,rfl⟩:=List.mem_map.mp hx
   obtain ⟨d,hd,rfl⟩:=List.mem_map.mp ((mem y).mp (List.mem_reverse.mp hy))
   have:=hb d (List.mem_range.mp hd)
   omega
  simpa [ks] using h1
 refine Zg ⟨r,out.map V.int,rfl,SqL.of hr,Zz5 (K:=K) (a:=r) (λ i σ H6=>Same H H6/\H6 D=some (.lst ys)/\H6 r=some (.lst (out.map V.int))/\∃ zs r3,H6 q'=some (.lst zs)/\zs.length=i/\(∀ (k:Nat) l,(Y5 (hiF M) M.length (ks.take i))[k]?=some l->∃ p,zs[k]?=some (.ref p)/\p≠q'/\H6 p=some (.lst (l.map nV)))/\σ=[some (.ref mp),some (.ref D),some (.ref q'),r3]) ⟨s4.trans s5,s5 _ _ hD4,hr,[],none,s5 _ _ e4,rfl,λ k l z=>by simp [Y5] at z,rfl⟩ (λ i σ H6 _ z=>SqL.of z.2.2.1) ?_ ?_⟩
 · rintro i x σ H6 hi hx ⟨s6,d6,o6,zs,r3,z6,lz,lv,rfl⟩
   have hi':i<out.length:=by simpa using hi
   obtain ⟨kk,hk,rfl⟩:∃ kk:Nat,ks[i]?=some kk/\x=.int (kk:Nat):=by
    have e1:out.reverse[i]?=out[out.length-1-i]?:=List.getElem?_reverse hi'
    have hlt:out.length-1-i<out.length:=by omega
    rw [List.length_map,List.getElem?_map,List.getElem?_eq_getElem hlt] at hx
    have ex:x=.int (out[out.length-1-i]):=by simpa using hx.symm
    have p0:=pos _ (List.getElem_mem hlt)
    refine ⟨(out[out.length-1-i]).toNat,?_,?_⟩
    · show (out.reverse.map Int.toNat)[i]?=_
      rw [List.getElem?_map,e1,List.getElem?_eq_getElem hlt]; rfl
    · rw [ex,Int.toNat_of_nonneg p0]
   refine Zq (J1 (Zht (Za rfl ⟨Hu z6,Zb (Xy (Zi2 (Zb (Za rfl (Zg ⟨D,rfl,⟨_,SqL.of d6⟩,λ F hF=>?_⟩)))))⟩)))
   refine Zvn (K:=K) (a:=D) F ys (λ j ws σ2 H7=>ws=((List.range j).filter λ d=>hiF M d == kk).map nV/\Same H6 H7/\∃ r0 r1,σ2=[r0,r1,some (.int (kk:Nat))]) (by omega) (λ j ws σ2 H7 h=>by rw [h.1,List.length_map]; exact Nat.le_trans (List.length_filter_le _ _) (by simp)) (λ j ws σ2 H7 h _=>SqL.of (h.2.1 _ _ d6)) ⟨rfl,Same.laid hF,_,_,rfl⟩ ?_ ?_
   · rintro j y ws σ2 H7 t hy2 ⟨hw,s7,r0,r1,rfl⟩ hF7 ht
     have ey2:=(hy j y hy2).1
     subst ey2
     have Ft:F≠t:=λ z=>by rw [z,ht] at hF7; cases hF7
     have st:=Same.laid (o:=.tup [.int (j:Nat),.int (hiF M j:Nat)]) ht
     have hF8:(upd H7 t (.tup [.int (j:Nat),.int (hiF M j:Nat)])) F=some (.lst ws):=by rw [Z5 Ft]; exact hF7
     refine Uu (SqT.of Zn) rfl (Xk (Zq (Xk (Zq (Uv ?_)))))
     generalize upd H7 t (.tup [.int (j:Nat),.int (hiF M j:Nat)])=H8 at st hF8 ⊢
     refine Yj (Zh (Za rfl (Za rfl (Xm (Yq (iteD (λ e=>?_) λ e=>?_))))))
     · refine Za rfl ⟨hF8,?_,(s7.trans st).put hF,_,_,rfl⟩
       have e2:(hiF M j == kk)=true:=by rw [beq_iff_eq]; omega
       rw [hw,List.range_succ,List.filter_append,List.map_append]
       simp [e2]
     · refine ⟨hF8,?_,s7.trans st,_,_,rfl⟩
       have e2:(hiF M j == kk)=false:=by rw [beq_eq_false_iff_ne]; intro z; exact e (by rw [z])
       rw [hw,List.range_succ,List.filter_append,List.map_append]
       simp [e2]
   · rintro ws σ2 H7 ⟨hw,s7,_⟩ hF7
     have Fq:F≠q':=λ z=>by rw [z,z6] at hF; cases hF
     have tk:ks.take (i+1)=ks.take i++[kk]:=by rw [List.take_add_one,hk]; rfl
     refine Zg (Ht (s7 _ _ z6) (Ql (by omega)) ⟨(s6.trans s7).put hq0,by rw [Z5 Dq]; exact s7 _ _ d6,by rw [Z5 (Ne.symm qr)]; exact s7 _ _ o6,_,_,Zn,by rw [List.length_append,lz]; rfl,λ k l z=>?_,rfl⟩)
     rw [tk,Zw8] at z
     have ll:(Y5 (hiF M) M.length (ks.take i)).length=i:=by unfold Y5; rw [List.length_map,List.length_take]; have:ks.length=out.length:=by simp [ks]
                                                            omega
     rcases Nat.lt_or_ge k i with c | c
     · rw [List.getElem?_append_left (by omega)] at z
       obtain ⟨p,a1,a2,a3⟩:=lv k l z
       exact ⟨p,by rw [List.getElem?_append_left (by omega)]; exact a1,a2,by rw [Z5 a2]; exact s7 _ _ a3⟩
     · rw [List.getElem?_append_right (by omega),ll] at z
       have ek:k=i:=by
        have:=(List.getElem?_eq_some_iff.mp z).1
        simp at this
        omega
       subst ek
       have el:(List.range M.length).filter (λ d=>hiF M d == kk)=l:=by simpa using z
       refine ⟨F,by rw [List.getElem?_append_right (by omega),lz]; simp,Fq,?_⟩
       rw [Z5 Fq,hF7,hw,← el,hl3,lenM]
 · rintro σ H6 ⟨s6,d6,o6,zs,r3,z6,lz,lv,rfl⟩
   try dsimp only
   have lk:ks.length=(out.map V.int).length:=by simp [ks]
   rw [List.take_of_length_le (by omega)] at lv
   refine Yc (Za rfl (q (.ref q') ks H6 s6 ?_ (λ k=>?_) ⟨q',zs,rfl,z6,?_,λ k l z=>?_⟩))
   · exact pw
   · refine ⟨λ hk=>?_,λ ⟨d,hd,e⟩=>?_⟩
     · obtain ⟨x,hx,e⟩:=List.mem_map.mp hk
       obtain ⟨d,hd,e2⟩:=List.mem_map.mp ((mem x).mp (List.mem_reverse.mp hx))
       exact ⟨d,by have:=List.mem_range.mp hd; omega,by omega⟩
     · refine List.mem_map.mpr ⟨((hiF M d:Nat):Int),List.mem_reverse.mpr ((mem _).mpr (List.mem_map.mpr ⟨d,List.mem_range.mpr (by omega),rfl⟩)),by omega⟩
   · rw [lz]; unfold Y5; simp [ks]
   · obtain ⟨p,a,_,b⟩:=lv k l z
     exact ⟨p,a,b⟩
theorem Zp9 {K:Fq} {a b:V} {H:Hp} {Q:VK} {E:XK} (h:Zhk K a b H Q E):Zcz K (Rt Q) [some a,some b,none,none,none,none,none,none] H:=by
 obtain ⟨gap,n,ls,gr,gok,n8,lvr,dn,pm,l9,pw,q⟩:=h
 obtain ⟨g,grs,rfl,hg,lgr,grow⟩:=id gr
 obtain ⟨lp,lrs,rfl,hlp,llr,lrow⟩:=id lvr
 unfold Zcz
 refine Zr (Z9 (Ztw λ w hw=>Zq ?_))
 have s1:=Same.laid (o:=.dK []) hw
 have e1:=Zn (H:=H) (a:=w) (o:=.dK [])
 generalize upd H w (.dK [])=H1 at s1 e1 ⊢
 try dsimp only
 refine Zr (Z9 (Ztw λ u hu=>Zq ?_))
 have s2:=s1.laidT (o:=.dK []) hu
 have e2:=Zn (H:=H1) (a:=u) (o:=.dK [])
 have wu:w≠u:=λ z=>by rw [z,hu] at e1; cases e1
 have e3:(upd H1 u (.dK [])) w=some (.dK []):=by rw [Z5 wu]; exact e1
 have u0:H u=none:=s1.free hu
 generalize upd H1 u (.dK [])=H2 at s2 e2 e3 ⊢
 try dsimp only
 refine Zr (Qc (X3 (Za rfl ⟨_,rfl,.inl ⟨⟨_,SqL.of (s2 _ _ hlp)⟩,?_⟩⟩)))
 refine Jj (K:=K) (a:=lp) (xs:=lrs) (λ i σ H3=>Same H H3/\H3 w=some (.dK (wkv (·.2.1) (runW gap (ls.take i) [])))/\H3 u=some (.dK (wkv (·.2.2) (runW gap (ls.take i) [])))/\StOk (1+7*i) n (runW gap (ls.take i) [])/\∃ r4 r5 r6 r7,σ=[some (.ref g),some (.ref lp),some (.ref w),some (.ref u),r4,r5,r6,r7]) ⟨s2,e3,e2,⟨List.nodup_nil,λ a ha=>(by cases ha),λ a ha=>(by cases ha)⟩,_,_,_,_,rfl⟩ (λ i σ H3 _ z=>SqL.of (z.1 _ _ hlp)) ?_ ?_
 · rintro i x σ H3 hx ⟨s3,w3,u3,so,r4,r5,r6,r7,rfl⟩
   have hi:i<ls.length:=by
    have:=(List.getElem?_eq_some_iff.mp hx).1
    omega
   obtain ⟨dp,hdp,hd⟩:=lrow i ls[i] (List.getElem?_eq_getElem hi)
   rw [hx] at hdp
   cases hdp
   have hm:ls[i]∈ls:=List.getElem_mem hi
   have dl:=dn _ hm
   have tk:ls.take (i+1)=ls.take i++[ls[i]]:=by rw [List.take_add_one,List.getElem?_eq_getElem hi]; rfl
   have er:runW gap (ls.take (i+1)) []=W3 gap (runW gap (ls.take i) []) ls[i]:=by rw [tk,Zn4]
   have dy:(runW gap (ls.take i) []).map (·.1)=(ls.take i).flatten:=by rw [Zfc]; rfl
   have fl:((ls.take i).flatten++ls[i]).Nodup:=by
    have h1:ls.flatten.Nodup:=pm.nodup_iff.mpr List.nodup_range
    have h2:(ls.take i).flatten++ls[i]=(ls.take (i+1)).flatten:=by rw [tk,List.flatten_append]; simp
    rw [h2]
    rw [← List.take_append_drop (i+1) ls,List.flatten_append] at h1
    exact (List.nodup_append.mp h1).1
   have pos:∀ a∈runW gap (ls.take i) [],∀ d∈ls[i],0<gap d a.1:=λ a ha d hd'=>by
    have h1:a.1∈(ls.take i).flatten:=by rw [← dy]; exact List.mem_map.mpr ⟨a,ha,rfl⟩
    obtain ⟨l,hl,hal⟩:=List.mem_flatten.mp h1
    obtain ⟨j,hj,rfl⟩:=List.mem_iff_getElem.mp hl
    rw [List.length_take] at hj
    have e:(ls.take i)[j]'(by rw [List.length_take]; exact hj)=ls[j]'(by omega):=List.getElem_take
    rw [e] at hal
    exact List.pairwise_iff_getElem.mp pw j i (by omega) hi (by omega) _ hal _ hd'
   have so':=Zq1 gok so dl (by rw [dy]; exact fl) pos
   generalize est:runW gap (ls.take i) []=st at w3 u3 so er dy pos so' ⊢
   rw [er]
   have gr3:=Ex s3 gr
   have hd3:=s3 _ _ hd
   refine Zq (Zr (Z9 (Zv (Zb (Za rfl (Zb (Za rfl (Zb (Za rfl (Zb (Za rfl (Zg ⟨_,_,_,_,rfl,gap,1+7*i,n,st,w,u,dp,ls[i],gr3,gok,n8,by omega,so,rfl,w3,rfl,u3,wu,rfl,hd3,dl,Zq ?_⟩))))))))))))
   try dsimp only
   generalize eo:lowW gap ls[i] st 0=own
   have kn:∀ (f:Wt->Int) (k:Nat) (hk:k<ls[i].length) (h2:Nat->Int×Int),valV (wkv f (st++(ls[i].take k).map λ d=>(d,h2 d))) (Sum.inl ((ls[i][k]:Nat):Int))=none:=λ f k hk h2=>by
    refine Zwc λ kv hkv z=>?_
    obtain ⟨b,hb,rfl⟩:=List.mem_map.mp hkv
    have z':(b.1:Int)=((ls[i][k]:Nat):Int):=Sum.inl.inj z
    have z2:b.1=ls[i][k]:=by omega
    rcases List.mem_append.mp hb with c | c
    · have h1:b.1∈(ls.take i).flatten:=by rw [← dy]; exact List.mem_map.mpr ⟨b,c,rfl⟩
      exact (List.nodup_append.mp fl).2.2 _ h1 _ (List.getElem_mem hk) z2
    · obtain ⟨d,hd',rfl⟩:=List.mem_map.mp c
      obtain ⟨j,hj,e⟩:=List.mem_iff_getElem.mp hd'
      rw [List.length_take] at hj
      rw [List.getElem_take] at e
      have nd:=(List.nodup_append.mp fl).2.1
      have:=List.pairwise_iff_getElem.mp nd j k (by omega) hk (by omega)
      exact this (by rw [e]; exact z2)
   have ll:st.length+ls[i].length<=8:=by
    have h1:((ls.take i).flatten++ls[i]).length<=n:=Zjx n _ fl λ x hx=>by
     rcases List.mem_append.mp hx with c | c
     · obtain ⟨l,hl,hxl⟩:=List.mem_flatten.mp c
       exact dn l (List.mem_of_mem_take hl) x hxl
     · exact dl x c
    rw [List.length_append,← dy,List.length_map] at h1
    omega
   refine Zr (Qc (X3 (Za rfl ⟨_,rfl,.inl ⟨⟨_,SqL.of hd3⟩,?_⟩⟩)))
   refine Jj (K:=K) (a:=dp) (xs:=ls[i].map nV) (λ k σ H4=>Same H H4/\H4 w=some (.dK (wkv (·.2.1) st))/\H4 u=some (.dK (wkv (·.2.2) (st++(ls[i].take k).map λ d=>(d,own,wtW gap d own st 1))))/\∃ r6,σ=[some (.ref g),some (.ref lp),some (.ref w),some (.ref u),some (.ref dp),some (.int own),r6,r7]) ⟨s3,w3,by simpa using u3,_,rfl⟩ (λ k σ H4 _ z=>SqL.of (z.1 _ _ hd)) ?_ ?_
   · rintro k y σ H4 hy ⟨s4,w4,u4,r6',rfl⟩
     have hk:k<ls[i].length:=by
      have:=(List.getElem?_eq_some_iff.mp hy).1
      simpa using this
     have ey:y=nV ls[i][k]:=by
      rw [List.getElem?_map,List.getElem?_eq_getElem hk] at hy
      simpa using hy.symm
     subst ey
     have dk:=dl _ (List.getElem_mem hk)
     refine Zq ?_
     refine Zv (Zb (Za rfl (Zb (Za rfl (Zb (Za rfl (Zb (Za rfl (Zg ⟨_,_,_,_,rfl,gap,1+7*i,n,st,w,ls[i][k],own,Ex s4 gr,gok,n8,by omega,so,rfl,w4,rfl,rfl,dk,λ a ha=>pos a ha _ (List.getElem_mem hk),?_⟩)))))))))
     refine Za rfl (Za rfl ⟨u,_,rfl,DPut.k (k:=Sum.inl ((ls[i][k]:Nat):Int)) u4 ?_,s4.put u0,by rw [Z5 wu]; exact w4,?_,_,rfl⟩)
     · unfold wkv; rw [List.length_map,List.length_append,List.length_map,List.length_take]; exact Nat.lt_of_le_of_lt (show _<=8 by omega) (by decide)
     · rw [Zn,Zib _ (kn (·.2.2) k hk _),List.take_add_one,List.getElem?_eq_getElem hk,Option.toList_some,List.map_append,← List.append_assoc,Zqv (·.2.2) (st++_) _]; rfl
   · rintro σ H4 ⟨s4,w4,u4,r6',rfl⟩
     try dsimp only
     rw [List.length_map,List.take_length] at u4
     refine Qc (X3 (Za rfl ⟨_,rfl,.inl ⟨⟨_,SqL.of (s4 _ _ hd)⟩,?_⟩⟩))
     refine Jj (K:=K) (a:=dp) (xs:=ls[i].map nV) (λ k σ H5=>Same H H5/\H5 w=some (.dK (wkv (·.2.1) (st++(ls[i].take k).map λ d=>(d,own,wtW gap d own st 1))))/\H5 u=some (.dK (wkv (·.2.2) (st++ls[i].map λ d=>(d,own,wtW gap d own st 1))))/\∃ r6,σ=[some (.ref g),some (.ref lp),some (.ref w),some (.ref u),some (.ref dp),some (.int own),r6,r7]) ⟨s4,by simpa using w4,u4,_,rfl⟩ (λ k σ H4 _ z=>SqL.of (z.1 _ _ hd)) ?_ ?_
     · rintro k y σ H5 hy ⟨s5,w5,u5,r6',rfl⟩
       have hk:k<ls[i].length:=by
        have:=(List.getElem?_eq_some_iff.mp hy).1
        simpa using this
       have ey:y=nV ls[i][k]:=by
        rw [List.getElem?_map,List.getElem?_eq_getElem hk] at hy
        simpa using hy.symm
       subst ey
       refine Zq ?_
       refine Za rfl (Za rfl (Za rfl ⟨w,_,rfl,DPut.k (k:=Sum.inl ((ls[i][k]:Nat):Int)) w5 ?_,s5.put hw,?_,by rw [Z5 (Ne.symm wu)]; exact u5,_,rfl⟩))
       · unfold wkv; rw [List.length_map,List.length_append,List.length_map,List.length_take]; exact Nat.lt_of_le_of_lt (show _<=8 by omega) (by decide)
       · rw [Zn,Zib _ (kn (·.2.1) k hk _),List.take_add_one,List.getElem?_eq_getElem hk,Option.toList_some,List.map_append,← List.append_assoc,Zqv (·.2.1) (st++_) _]; rfl
     · rintro σ H5 ⟨s5,w5,u5,r6',rfl⟩
       rw [List.length_map,List.take_length] at w5
       have es:W3 gap st ls[i]=st++ls[i].map λ d=>(d,own,wtW gap d own st 1):=by unfold W3; rw [eo]
       rw [es] at so' ⊢
       exact ⟨s5,w5,u5,by rw [show 1+7*(i+1)=1+7*i+7 by omega]; exact so',_,_,_,_,rfl⟩
 · rintro σ H3 ⟨s3,w3,u3,so,r4,r5,r6,r7,rfl⟩
   try dsimp only
   have ek:ls.take lrs.length=ls:=List.take_of_length_le (by omega)
   rw [ek] at w3 u3 so
   have dy:(runW gap ls []).map (·.1)=ls.flatten:=by rw [Zfc]; rfl
   generalize est:runW gap ls []=st at w3 u3 so dy q
   have pmd:(st.map (·.1)).Perm (List.range n):=by rw [dy]; exact pm
   have sl:st.length=n:=by have:=pmd.length_eq; simpa using this
   refine Zr (Z9 (Yl (Zb (Za rfl (Zg (Zl4 w3 (Zhq _ st) (by rw [List.length_map]; omega) λ ns' pn sn dp hdp=>Zq ?_))))))
   have en:ns'=(List.range n).map λ (d:Nat)=>(d:Int):=by
    refine Zfy (pn.trans ?_) sn (List.pairwise_map.mpr (List.Pairwise.imp (λ h=>by omega) List.pairwise_lt_range))
    have:=pmd.map λ (d:Nat)=>(d:Int)
    rw [List.map_map] at this
    exact this
   have s4:=s3.laidT (o:=.lst (ns'.map V.int)) hdp
   have z4:=Same.laid (o:=.lst (ns'.map V.int)) hdp
   have e4:=Zn (H:=H3) (a:=dp) (o:=.lst (ns'.map V.int))
   have w4:=z4 _ _ w3
   have u4:=z4 _ _ u3
   generalize upd H3 dp (.lst (ns'.map V.int))=H4 at s4 e4 w4 u4 ⊢
   have ex:ns'.map V.int=(List.range n).map nV:=by rw [en,List.map_map]; rfl
   rw [ex] at e4
   try dsimp only
   have find:∀ (f:Wt->Int) d,d<n->valV (wkv f st) (Sum.inl ((d:Nat):Int))=some (.int (wOf f st d)):=λ f d hd=>by
    have h1:d∈st.map (·.1):=pmd.mem_iff.mpr (List.mem_range.mpr hd)
    obtain ⟨b,hb,eb⟩:=List.mem_map.mp h1
    have h2:=Hr f so.nd b hb
    rw [eb] at h2
    rw [h2]
    have h3:st.find? (λ a=>a.1 == d)=some b:=by
     cases ef:st.find? (λ a=>a.1 == d) with
     | none=>exact absurd (List.find?_eq_none.mp ef b hb) (by simp [eb])
     | some c =>
       have hc:=List.mem_of_find?_eq_some ef
       have ec:c.1=d:=by simpa using List.find?_some ef
       have h4:=Hr f so.nd c hc
       have h5:=Hr (λ a=>a.2.1) so.nd c hc
       obtain ⟨i1,hi1,r1⟩:=List.mem_iff_getElem.mp hc
       obtain ⟨i2,hi2,r2⟩:=List.mem_iff_getElem.mp hb
       rcases Nat.lt_trichotomy i1 i2 with z | z | z
       · have:=List.pairwise_iff_getElem.mp so.nd i1 i2 (by simpa using hi1) (by simpa using hi2) z
         simp [r1,r2,ec,eb] at this
       · subst z; rw [← r1,← r2]
       · have:=List.pairwise_iff_getElem.mp so.nd i2 i1 (by simpa using hi2) (by simpa using hi1) z
         simp [r1,r2,ec,eb] at this
    unfold wOf
    rw [h3]; rfl
   refine Yc (Wh (Zb (w_c (Zb (Xy (X3 (Za rfl ⟨_,rfl,.inl ⟨⟨_,SqL.of e4⟩,λ D hD=>?_⟩⟩)))))))
   refine Ey (K:=K) (a:=dp) (xs:=(List.range n).map nV) (σr:=[some (.ref w)]) (.inr ⟨rfl,e4⟩) D (λ i v H=>v=.int (wOf (·.2.1) st i)) (λ _ _ _ _ t z=>z) (by simp; omega) hD ⟨none,rfl⟩ (λ i x H5 R hx s5 kk=>?_) λ zs H5 hz hall s5 hD5=>?_
   · have hi:i<n:=by have:=(List.getElem?_eq_some_iff.mp hx).1; simpa using this
     have ex:x=nV i:=by rw [List.getElem?_map,List.getElem?_range hi] at hx; simpa using hx.symm
     subst ex
     exact w_dget (Za rfl (Za rfl ⟨w,_,rfl,find (·.2.1) i hi ▸ DGet.k (k:=Sum.inl ((i:Nat):Int)) (s5 _ _ w4),kk _ _ (Same.refl _) rfl⟩))
   refine Zb (Xy (X3 (Za rfl ⟨_,rfl,.inl ⟨⟨_,SqL.of (s5 _ _ e4)⟩,λ F hF=>?_⟩⟩)))
   refine Ey (K:=K) (a:=dp) (xs:=(List.range n).map nV) (σr:=[some (.ref u)]) (.inr ⟨rfl,s5 _ _ e4⟩) F (λ i v H=>v=.int (wOf (·.2.2) st i)) (λ _ _ _ _ t z=>z) (by simp; omega) hF ⟨none,rfl⟩ (λ i x H6 R hx s6 kk=>?_) λ ys H6 hy hall2 s6 hF6=>?_
   · have hi:i<n:=by have:=(List.getElem?_eq_some_iff.mp hx).1; simpa using this
     have ex:x=nV i:=by rw [List.getElem?_map,List.getElem?_range hi] at hx; simpa using hx.symm
     subst ex
     exact w_dget (Za rfl (Za rfl ⟨u,_,rfl,find (·.2.2) i hi ▸ DGet.k (k:=Sum.inl ((i:Nat):Int)) (s6 _ _ (s5 _ _ u4)),kk _ _ (Same.refl _) rfl⟩))
   have full:∀ (f:Wt->Int) (xs:List V),xs.length=((List.range n).map nV).length->(∀ (i:Nat) v,xs[i]?=some v->v=.int (wOf f st i))->xs=(List.range n).map λ d=>V.int (wOf f st d):=λ f xs hl ha=>by
    apply List.ext_getElem?
    intro j
    have hl':xs.length=n:=by rw [hl]; simp
    rcases Nat.lt_or_ge j n with z | z
    · have h1:xs[j]?=some (xs[j]'(by omega)):=List.getElem?_eq_getElem (by omega)
      rw [h1,ha j _ h1,List.getElem?_map,List.getElem?_range z]; rfl
    · rw [List.getElem?_eq_none (by omega),List.getElem?_eq_none (by simp; omega)]
   have DF:D≠F:=λ z=>by rw [← z,hD5] at hF; cases hF
   refine Zg ⟨by show 3<=sizeLine; decide,λ t ht=>q _ _ (((s4.trans s5).trans s6).laidT ht) ?_⟩
   have zt:=Same.laid (o:=.tup [.str "taste",.ref D,.ref F]) ht
   refine ⟨t,D,F,rfl,Zn,s4.free hD,(s4.trans s5).free hF,DF,?_,?_⟩
   · rw [← full (·.2.1) zs hz hall]; exact zt _ _ (s6 _ _ hD5)
   · rw [← full (·.2.2) ys hy hall2]; exact zt _ _ hF6
theorem Zb8 {K:Fq} {mg:Str->Option Value} {a b c:V} {H:Hp} {Q:VK} {E:XK} (h:Zbx K mg a b c H Q E):Vc K mg (Rt Q) [some a,some b,some c,none] H:=by
 obtain ⟨B,m,n,d,t,x,y,r,g,m8,rfl,hd,rfl,ht,hx,hy,q⟩:=h
 obtain ⟨bp,xs,rfl,hb,hl,_⟩:=Qs r
 have gm:=g.m8
 have id':InB B (d:Int):=⟨by omega,by omega⟩
 have c0:=cost_bd g hd hd
 unfold Vc
 refine Zr (Z9 (Zh (Zh (Za rfl (w_c (Yd (v:=.int x) (SqT.of ht) rfl (Zv (Zb (Za rfl (Zb (Za rfl (Zg ⟨_,_,rfl,B,m,n,(d:Int),r,g,rfl,λ _ H1 s1=>?_,λ z=>absurd id' z⟩))))))))))))
 simp only [Int.toNat_natCast]
 refine Yu (Za8 hx c0.1 c0.2) (Zq ?_)
 try dsimp only
 refine Yc (Xy (Q8 (Zb (Yl (Zb (Za rfl (Zg (X4 (SqT.of (s1 _ _ hb)) (Zg ⟨_,rfl,(Yy (by omega)).1,(Yy (by omega)).2,λ D hD=>?_⟩)))))))))
 refine Ww (n:=xs.length) D (λ j v _=>v=.int (gpF B x y d j)) (λ _ _ _ _ _ e=>e) (by omega) hD ⟨_,rfl⟩ (λ j H3 R hj s3 k=>?_) λ ys H3 hl3 hy3 s3 h3=>q D H3 (s1.trans s3) (s1.free hD) ?_
 · have hj':j<B.length:=by omega
   have ij:InB B (j:Int):=⟨by omega,by omega⟩
   have c1:=cost_bd g hd hj'
   have s13:=s1.trans s3
   refine Zh (Zh (Zh (Za rfl (w_c (Yd (v:=.int y) (SqT.of (s13 _ _ ht)) rfl (Zv (Zb (Za rfl (Zb (Za rfl (Zb (Za rfl (Zg ⟨_,_,_,rfl,B,m,n,(d:Int),(j:Int),Rep.mono s13 _ _ r,g,rfl,rfl,λ _ _ H4 s4=>?_,λ z=>absurd ⟨id',ij⟩ z⟩)))))))))))))
   simp only [Int.toNat_natCast]
   exact Yu (Za8 hy c1.1 c1.2) (Za rfl (Zbb (k _ _ s4 rfl)))
 · rw [h3,Zlk (f:=λ j=>gpF B x y d j) hl3 hy3,hl]
theorem Zet {K:Fq} {mg:Str->Option Value} {a b:V} {H:Hp} {Q:VK} {E:XK} (h:Zek K mg a b H Q E):Zav K mg (Rt Q) [some a,some b] H:=by
 obtain ⟨B,m,n,t,x,y,r,g,m8,rfl,ht,hx,hy,q⟩:=h
 obtain ⟨bp,xs,rfl,hb,hl,_⟩:=Qs r
 have gm:=g.m8
 unfold Zav
 refine Yc (Xy (Q8 (Zb (Yl (Zb (Za rfl (Zg (X4 (SqT.of hb) (Zg ⟨_,rfl,(Yy (by omega)).1,(Yy (by omega)).2,λ D hD=>?_⟩)))))))))
 refine Zdm (n:=xs.length) D (λ i=>(List.range B.length).map λ j=>gpF B x y i j) (by omega) hD ⟨_,rfl⟩ (λ i H3 R hi s3 k=>?_) λ rs H3 hl3 hr3 s3 h3=>q _ H3 s3 ⟨D,rs,rfl,h3,by omega,λ i hi=>?_⟩
 · exact Zv (Zb (Za rfl (Zb (Za rfl (Zb (Za rfl (Zg ⟨_,_,_,rfl,B,m,n,i,t,x,y,Rep.mono s3 _ _ r,g,m8,rfl,by omega,rfl,s3 _ _ ht,hx,hy,λ q' H4 s4 f4 h4=>k q' H4 f4 s4 h4⟩)))))))
 · have hi':i<rs.length:=by omega
   obtain ⟨p,e,hp⟩:=hr3 i rs[i] (by simp [hi'])
   refine ⟨p,by rw [List.getElem?_eq_getElem hi',e],?_⟩
   rw [hp,List.map_map]; rfl
theorem Zsw {K:Fq} {a:V} {H:Hp} {Q:VK} {E:XK} (h:Zjf K a H Q E):Zd7 K (Rt Q) [some a,none,none] H:=by
 obtain ⟨M,mr,ML,sq,q⟩:=h
 unfold Zd7
 refine Zr (Qc (X3 (Zv (Zb (Za rfl (Zg ⟨_,rfl,M,mr,ML,sq,λ l rs H3 s3 hl sr=>?_⟩))))))
 refine ⟨l,rfl,.inl ⟨⟨_,SqL.of hl⟩,Jj (K:=K) (a:=l) (λ i σ H4=>Same H3 H4/\rngF M=((Jo M).drop i).findSome? (λ s=>if inK (Zx M s.2) s.1=true then some (chOf (Zx M s.2) s.1) else none)/\∃ r5 r6,σ=[some a,r5,r6]) ⟨λ _ _ z=>z,rfl,_,_,rfl⟩ (λ i σ H4 _ ⟨e,_⟩=>SqL.of (e _ _ hl)) ?_ ?_⟩⟩
 · rintro i e σ H4 he ⟨s4,hf,r5,r6,rfl⟩
   obtain ⟨s,hs⟩:∃ s,(Jo M)[i]?=some s:=by
    have hi:i<rs.length:=by
     rcases Nat.lt_or_ge i rs.length with z | z
     · exact z
     · rw [List.getElem?_eq_none z] at he; cases he
    rw [sr.1] at hi
    exact ⟨_,List.getElem?_eq_getElem hi⟩
   obtain ⟨t,e1,e2⟩:=sr.2 i s hs
   rw [e1] at he
   have he':V.ref t=e:=by simpa using he
   subst he'
   obtain ⟨_,row,ar,ab⟩:=Zd5 _ 0 s (List.mem_of_getElem? hs)
   have s1n:s.1<M.length:=by
    rcases Nat.lt_or_ge s.1 M.length with z | z
    · exact z
    · rw [List.getElem?_eq_none (by omega)] at ar; cases ar
   have s2n:s.2<M.length:=by
    have rl:=sq row (List.mem_of_getElem? ar)
    rcases Nat.lt_or_ge s.2 M.length with z | z
    · exact z
    · rw [List.getElem?_eq_none (by omega)] at ab; cases ab
   rw [Zbu hs,List.findSome?_cons] at hf
   have ht:=s4 _ _ e2
   refine Zq (Zr (Z9 (Zv (Zb (Za rfl (Zb (Zh (Za rfl (w_c (Yd (v:=nV s.2) (SqT.of ht) rfl ?_))))))))))
   refine Zg ⟨_,_,rfl,M,s.2,Zgr (s3.trans s4) mr,ML,sq,rfl,s2n,λ d2 wa2 kvs2 H5 s5 hd2 dr2 gs2=>Zq ?_⟩
   try dsimp only
   refine Yp (Zsh (Zsk (Zh (Za rfl (w_c (Yd (v:=nV s.1) (SqT.of (s5 _ _ ht)) rfl (Za rfl ⟨d2,_,rfl,DGet.k (k:=Sum.inl (s.1:Int)) hd2,Yq ?_⟩)))))))
   rcases DRep.get (o:=s.1) dr2 with ⟨n1,ev1⟩ | ⟨y1,p1,ev1,_,hp1⟩
   · rw [ev1]
     refine iteF (Yk ⟨s4.trans s5,?_,_,_,rfl⟩)
     rw [hf,if_neg (by rw [n1]; decide)]
   · rw [ev1]
     rw [if_pos y1] at hf
     refine iteT (Yc (w_dget (Za rfl (Zh (Za rfl (w_c (Yd (v:=nV s.1) (SqT.of (s5 _ _ ht)) rfl ⟨d2,_,rfl,ev1 ▸ DGet.k (k:=Sum.inl (s.1:Int)) hd2,?_⟩)))))))
     exact q _ _ ((s3.trans s4).trans s5) (.inr ⟨_,p1,hf,rfl,hp1⟩)
 · rintro σ H4 ⟨s4,hf,r5,r6,rfl⟩
   rw [sr.1,List.drop_length] at hf
   try dsimp only
   exact Yc (w_c (q _ _ (s3.trans s4) (.inl ⟨hf,rfl⟩)))
theorem Zdg {K:Fq} {mg:Str->Option Value} {a b:V} {H:Hp} {Q:VK} {E:XK} (h:Zc4 K mg a b H Q E):Eb K mg (Rt Q) [some a,some b,none,none,none] H:=by
 obtain ⟨B,m,n,x,y,r,g,m8,sv,hx,hy,q⟩:=h
 have gm:=g.m8
 have n8:B.length<=8:=by omega
 have gok:=Zka g hx hy
 unfold Eb
 refine Zr (Z9 (Zv (Zb (Za rfl (Zb (Zsj (Yj (Zh (Za rfl (w_c (Z10 (Yq ?_))))))))))))
 have go:∀ {v:V} {H1:Hp} (t:Addr),Same H H1->v=.ref t->H1 t=some (.tup [.int x,.int y])->Zj [some a,some b,none,none,none] H1 λ vs H2=>Zay K mg (a::v::vs) H2 (λ u H3=>Zz (Yi (Zy (W4 K) [] E0 (Zd (Zc 2) Zj)) (Zo 3))
  (Zz (Yi (Zy (Zax K) [] E0 (Zd (Zc 3) Zj)) (Zo 4))
  (Zz (Yt (Yn (tOp rIsNotU (Zc 4) (tC .non))) (Z7 (Jw (Zd (tC (.str "ring")) (Zd (Zc 4) Zj)))) Yo)
  (Z7 (Zy (Ef K) [] E0 (Zd (Zc 2) (Zd (Zy (Vn K) [] E0 (Zd (Zc 3) Zj)) Zj)))))) (Rt Q) [some a,some b,some u,none,none] H3) E0:=by
  intro v H1 t s1 hv ht
  subst hv
  refine Zg ⟨_,_,rfl,B,m,n,t,x,y,Rep.mono s1 _ _ r,g,by omega,rfl,ht,hx,hy,λ gv H2 s2 gr=>?_⟩
  refine Zr (Z9 (Zv (Zb (Za rfl (Zg ⟨_,rfl,gpF B x y,B.length,gr,n8,λ mv H3 s3 mr=>Zq ?_⟩)))))
  try dsimp only
  have ML:(cmM (gpF B x y) B.length).length<=8:=by rw [X8]; exact n8
  refine Zr (Z9 (Zv (Zb (Za rfl (Zg ⟨_,rfl,cmM (gpF B x y) B.length,mr,ML,Zyk _ _,λ rv H4 s4 hr=>Zq ?_⟩)))))
  try dsimp only
  have s14:=((s1.trans s2).trans s3).trans s4
  rcases hr with ⟨no,rfl⟩ | ⟨c,p,yes,rfl,hp⟩
  · refine Zr (Yp (Yj (Zh (Za rfl (w_c (Znp (Yq (Ze8 rfl (Yk ?_)))))))))
    try dsimp only
    refine Yc (Zv (Zb (Za rfl (Zb (Zv (Zb (Za rfl (Zg ⟨_,rfl,cmM (gpF B x y) B.length,Zgr s4 mr,ML,Zyk _ _,λ lv ks H5 s5 kd km lr=>Zg ?_⟩))))))))
    rw [X8] at km lr
    have hb:∀ d,d<B.length->hiF (cmM (gpF B x y) B.length) d<=8:=λ d hd=>Zng n8 d hd
    have ek:ks=ksF (hiF (cmM (gpF B x y) B.length)) B.length:=Zr4 kd (Zba _ _) λ k=>(km k).trans (Zo2 hb k).symm
    subst ek
    have hk:∀ d,d<B.length->hiF (cmM (gpF B x y) B.length) d∈ksF (hiF (cmM (gpF B x y) B.length)) B.length:=λ d hd=>(Zo2 hb _).mpr ⟨d,hd,rfl⟩
    refine ⟨_,_,rfl,gpF B x y,B.length,_,Ex ((s3.trans s4).trans s5) gr,gok,n8,lr,Znf,Zoy (Zba _ _) hk,by unfold Y5; rw [List.length_map]; exact Zu1 _ _,Zuv (Zba _ _),λ w H6 s6 ts=>?_⟩
    refine q w H6 ((s14.trans s5).trans s6) ?_
    have et:tasA (gpF B x y) B.length=.inr (Zbm (gpF B x y) B.length):=by unfold tasA; rw [no]
    rw [et]
    obtain ⟨t',p1,p2,e,h1,a1,a2,b1,h2,h3⟩:=ts
    exact ⟨t',p1,p2,e,h1,(s14.trans s5).free a1,(s14.trans s5).free a2,b1,h2,h3⟩
  · refine Zr (Yp (Yj (Zh (Za rfl (w_c (Znp (Yq (Z2c (λ z=>(by cases z)) ?_))))))))
    refine Yc (Wh (Zb (w_c (Zb (Za rfl (Zg ⟨by show 2<=sizeLine; decide,λ t' ht'=>?_⟩))))))
    refine q _ _ (s14.laidT ht') ?_
    have et:tasA (gpF B x y) B.length=.inl c:=by unfold tasA; rw [yes]
    rw [et]
    exact ⟨t',p,rfl,Zn,Same.laid ht' _ _ hp⟩
 rcases sv with ⟨rfl,rfl,rfl⟩ | ⟨t,rfl,ht⟩
 · refine Eo rfl (Wh (Zb (w_c (Zb (w_c (Zg ⟨by show 2<=sizeLine; decide,λ t ht=>?_⟩))))))
   exact go t (Same.laid ht) rfl Zn
 · refine Ep (λ z=>(by cases z)) (Za rfl ?_)
   exact go t (Same.refl _) rfl ht
theorem Z1u:bootBuiltins "set"=some (.type "set"):=by decide +kernel
theorem kit_list {K:Fq}:PySem.W.kitOne K (.type "list") (.type "list")=some true:=by kernel_rfl
theorem Zod {K:Fq} {a b:V} {H:Hp} {Q:VK} {E:XK} (h:Zf8 K a b H Q E):Zbh K (Rt Q) [some a,some b,none] H:=by
 obtain ⟨p,ns,n,rfl,hp,nd,hl,rfl,hr,q⟩:=h
 unfold Zbh
 refine Zr (Yp (K8 (w_not (Xr (Yl (Zb (Za rfl (Zb (w_c (Zg ⟨_,"list",_,true,rfl,.lst hp,kit_list,Xa (iteF ?_)⟩))))))))))
 refine Yj (Zh (Yl (Zb (Za rfl (Zg (Xp (SqL.of hp) ?_))))))
 refine Yl (Zb (Yl (Zb (Za rfl (Zg ⟨p,ns,rfl,SqL.of hp,nd,by omega,λ t S ht=>Zg ⟨t,S,ns.length,rfl,Zn,by omega,?_⟩⟩)))))
 refine Zi0 (Yq (Ze8 (by rw [List.length_map]) (Yk ?_)))
 have s1:=Same.laid (o:=.set S ns.length) ht
 generalize upd H t (.set S ns.length)=H1 at s1 ⊢
 refine Zr (Qc (X3 (Za rfl ⟨p,rfl,.inl ⟨⟨_,SqL.of (s1 _ _ hp)⟩,Jj (K:=K) (a:=p) (λ _ σ H2=>Same H H2/\∃ r2,σ=[some (.ref p),some (.int (n:Nat)),r2]) ⟨s1,_,rfl⟩ (λ _ σ H2 _ ⟨e,_⟩=>SqL.of (e _ _ hp)) ?_ ?_⟩⟩)))
 · rintro i e σ H2 he ⟨s2,r2,rfl⟩
   obtain ⟨z,hz,e'⟩:=List.mem_map.mp (List.mem_of_getElem? he)
   subst e'
   obtain ⟨z0,z1⟩:=hr z hz
   refine Zq (Yp (K8 (w_not (Xr (Zv (Zb (Za rfl (Zg ⟨_,rfl,_,true,.int _,.int,Xa (iteF ?_)⟩))))))))
   exact w_not (Yj (Zqx (w_c (Za rfl (Zsi ⟨_,rfl,Eo z0 (Za rfl (K9 (Yq (Ze8 z1 (Yk ⟨s2,_,rfl⟩)))))⟩)))))
 rintro σ H2 ⟨s2,r2,rfl⟩
 show Z7 (tC (.bl true)) (Rt Q) [some (.ref p),some (.int (n:Nat)),r2] H2
 exact Yc (w_c (q _ s2))
theorem Zoc {K:Fq} {a b:V} {H:Hp} {Q:VK} {E:XK} (h:Zf7 K a b H Q E):Zbg K (Rt Q) [some a,some b] H:=by
 obtain ⟨p,ns,rfl,hp,hn,rfl,q⟩:=h
 unfold Zbg
 refine Yc (Zft (Yl (Zb (Za rfl (Zb (w_c (Zg ⟨_,"list",_,true,rfl,.lst hp,kit_list,true,rfl,iteT ?_⟩)))))))
 refine Zft (Zh (Yl (Zb (Za rfl (Zg (Xp (SqL.of hp) (Za rfl (Xm ⟨_,rfl,Eo (by rw [List.length_map]) ?_⟩))))))))
 refine Zh (Yl (Zb (Xy (X3 (Za rfl ⟨_,rfl,.inl ⟨⟨_,SqL.of hp⟩,λ D hD=>?_⟩⟩)))))
 refine Zfd D (ns.map V.int) (λ i ys σ2 H2=>ys.length=i/\Same H H2/\∃ r0,σ2=[r0]) (by rw [List.length_map]; omega) (λ i ys σ H h=>Nat.le_of_eq h.1) (λ i ys σ2 H2 h _=>Zj2 (SqL.of (h.2.1 _ _ hp)) i) ⟨rfl,Same.laid hD,_,rfl⟩ ?_ ?_
 · rintro i x ys σ2 H2 hi ⟨hl,s2,r0,rfl⟩ hD2
   rw [List.getElem?_map] at hi
   obtain ⟨z,hz,rfl⟩:=Option.map_eq_some_iff.mp hi
   refine Zq (Xr (Zv (Zb (Za rfl (Zg ⟨_,rfl,_,true,TyOf.int _,.int,Xa (iteT (Za rfl ⟨hD2,by simp [hl],s2.put hD,_,rfl⟩))⟩)))))
 · rintro ys σ2 H2 ⟨hl,s2,_⟩ hD2
   refine Zg (Xp (SqL.of hD2) (Za rfl (Xm ?_)))
   rw [decide_eq_true (by rw [hl,List.length_map])]
   exact q H2 s2
theorem Zjr {K:Fq} {a b c:V} {H:Hp} {Q:VK} {E:XK} (h:Zcu K a b c H Q E):Vh K (Rt Q) [some a,some b,some c,none,none,none,none] H:=by
 obtain ⟨B,m,n,t,p,x,y,r,rB,g,m8,rfl,ht,hx,hy,rfl,hp,ro,q⟩:=h
 obtain ⟨bp,xs,rfl,hb,hl,_⟩:=Qs rB
 have gm:=g.m8
 have rl:r.length<=8:=Nat.le_trans (Zjx _ _ ro.nd ro.lt) (by omega)
 have r2:=ro.two
 have rp:0<r.length:=by omega
 have lm:(r.map nV).length=r.length:=List.length_map ..
 have hp':H p=some (.lst ((cI r).map V.int)):=by rw [← Zzm]; exact hp
 have nd':(cI r).Nodup:=List.Pairwise.map _ (λ a b (hab:a≠b)=>by intro w; exact hab (by omega)) ro.nd
 have mem:∀ i,i<r.length->r.getD i 0<B.length:=λ i hi=>ro.lt _ (by rw [List.getD,List.getElem?_eq_getElem hi]; exact List.getElem_mem _)
 unfold Vh
 refine Zr (Yp (K8 (w_not (Xr (Zv (Zb (Za rfl (Zb (Yl (Zb (Za rfl (Zg (X4 (SqT.of hb) (Zg ⟨_,_,rfl,p,cI r,xs.length,rfl,hp',nd',by rw [List.length_map]; omega,rfl,?_,λ H1 s1=>Xa (iteF ?_)⟩))))))))))))))
 · intro z hz
   obtain ⟨w,hw,rfl⟩:=List.mem_map.mp hz
   have:=ro.lt w hw
   omega
 have hp1:=s1 _ _ hp
 refine Yj (Zh (Yl (Zb (Za rfl (Zg (Xp (SqL.of hp1) (w_c (K9 (Yq (Ep (by rw [lm]; omega) (Yk ?_)))))))))))
 try dsimp only
 refine Zr (Z9 (w_c (Zq ?_)))
 try dsimp only
 refine Zr (Qc (Q8 (Zb (Yl (Zb (Za rfl (Zg (Xp (SqL.of hp1) (Zg ⟨_,rfl,(Yy (by omega)).1,(Yy (by omega)).2,?_⟩)))))))))
 refine Wq (n:=(r.map nV).length) (λ i σ H3=>Same H H3/\∃ bb r4 r5 r6,(i=r.length->bb=true)/\σ=[some (.ref bp),some (.ref t),some (.ref p),some (.bl bb),r4,r5,r6]) ⟨s1,false,_,_,_,λ z=>by omega,rfl⟩ ?_ ?_
 · rintro i σ H3 hi ⟨s3,bb,r4,r5,r6,hbb,rfl⟩
   have hi':i<r.length:=by omega
   have hm:=Nat.mod_lt (i+1) rp
   have mi:=mem i hi'
   have mj:=mem ((i+1) % r.length) hm
   have hp3:=s3 _ _ hp
   have ri:(r.map nV)[i]?=some (nV (r.getD i 0)):=by
    rw [List.getElem?_map,List.getElem?_eq_getElem hi',List.getD,List.getElem?_eq_getElem hi']; rfl
   have rj:(r.map nV)[(i+1) % r.length]?=some (nV (r.getD ((i+1) % r.length) 0)):=by
    rw [List.getElem?_map,List.getElem?_eq_getElem hm,List.getD,List.getElem?_eq_getElem hm]; rfl
   have em:((i:Int)+1) % ((r.map nV).length:Int)=(((i+1) % r.length:Nat):Int):=by rw [lm,Int.natCast_emod]; rfl
   have le:=ro.le i hi'
   have be:i+1=r.length->gpF B x y (r.getD i 0) (r.getD ((i+1) % r.length) 0)<0:=λ e=>by
    have h:=ro.be
    rw [e,Nat.mod_self,show i=r.length-1 by omega]
    exact h
   generalize r.getD i 0=d at ri mi le be
   generalize r.getD ((i+1) % r.length) 0=o at rj mj le be
   have id':InB B (d:Int):=⟨by omega,by omega⟩
   have io:InB B (o:Int):=⟨by omega,by omega⟩
   have c0:=cost_bd g mi mi
   have c1:=cost_bd g mi mj
   refine Zq (Zr (Z9 (Zh (Za rfl (Za rfl (Y9 (SqL.of hp3) (Xv ri) (Zq ?_)))))))
   try dsimp only
   refine Zr (Z9 (Zh (Zh (Zh (Za rfl (w_c (Yd (v:=.int y) (SqT.of (s3 _ _ ht)) rfl (Zv (Zb (Za rfl (Zb (Za rfl (Zb (Zh (Za rfl (Zh (Zh (Za rfl (w_c (Xd (Yl (Zb (Za rfl (Zg (Xp (SqL.of hp3) (Yv (by rw [lm]; omega) ?_))))))))))))))))))))))))))
   rw [em]
   refine Y9 (SqL.of hp3) (Xv rj) (Zg ⟨_,_,_,rfl,B,m,n,(d:Int),(o:Int),Rep.mono s3 _ _ rB,g,rfl,rfl,id',io,λ H4 s4=>?_⟩)
   simp only [Int.toNat_natCast]
   refine Yu (Za8 hy c1.1 c1.2) ?_
   refine Zh (Zh (Za rfl (w_c (Yd (v:=.int x) (SqT.of (s4 _ _ (s3 _ _ ht))) rfl (Zv (Zb (Za rfl (Zb (Za rfl (Zb (Za rfl (Zg ⟨_,_,_,rfl,B,m,n,(d:Int),(d:Int),Rep.mono (s3.trans s4) _ _ rB,g,rfl,rfl,id',id',λ H5 s5=>?_⟩))))))))))))
   simp only [Int.toNat_natCast]
   refine Yu (Za8 hx c0.1 c0.2) (Zbb (Zq ?_))
   have e:y*Qj B d o-x*Qj B d d=gpF B x y d o:=rfl
   rw [e]
   try dsimp only
   refine Zr (Yp (Yj (Zh (Za rfl (w_c (Zd6 (Yq (Ep (λ z=>by omega) (Yk ?_)))))))))
   try dsimp only
   refine Z9 (Z1z (Za rfl ⟨bb,rfl,?_⟩))
   cases bb with
   | true=>exact iteT (Zq ⟨(s3.trans s4).trans s5,true,_,_,_,λ _=>rfl,rfl⟩)
   | false=>exact iteF (Zh (Za rfl (w_c (K9 (Zq ⟨(s3.trans s4).trans s5,_,_,_,_,λ z=>decide_eq_true (be z),rfl⟩)))))
 · rintro σ H3 ⟨s3,bb,r4,r5,r6,hbb,rfl⟩
   try dsimp only
   have e:bb=true:=hbb lm
   subst e
   exact Yc (Za rfl (q H3 s3))
theorem Zh7 {K:Fq} {a b c d:V} {H:Hp} {Q:VK} {E:XK} (h:Zbz K a b c d H Q E):Kf K (Rt Q) [some a,some b,some c,some d,none,none,none] H:=by
 obtain ⟨B,m,n,t,p1,p2,x,y,st,rB,g,m8,rfl,ht,hx,hy,rfl,h1,rfl,h2,ok,q⟩:=h
 obtain ⟨bp,xs,rfl,hb,hl,_⟩:=Qs rB
 have gm:=g.m8
 have m1:=g.m1
 have gok:=Zka g hx hy
 have ge:∀ (f:Nat->Int) i,i<B.length->((List.range B.length).map f).getD i 0=f i:=λ f i hi=>by simp [hi]
 have ll:∀ f:Nat->Int,((List.range B.length).map f).length=B.length:=λ f=>by simp
 unfold Kf
 refine Zr (Yp (K8 (w_not (Xr (Zv (Zb (Za rfl (Zb (Yl (Zb (Za rfl (Zg (X4 (SqT.of hb) (Zg ⟨_,_,rfl,p1,_,rfl,h1,by rw [ll]; omega,by rw [ll,hl],λ H1 s1=>Xa (iteF ?_)⟩))))))))))))))
 refine K8 (w_not (Xr (Zv (Zb (Za rfl (Zb (Yl (Zb (Za rfl (Zg (X4 (SqT.of (s1 _ _ hb)) (Zg ⟨_,_,rfl,p2,_,rfl,s1 _ _ h2,by rw [ll]; omega,by rw [ll,hl],λ H2 s2=>Xa (iteF ?_)⟩))))))))))))
 have s12:=s1.trans s2
 refine Yj (Zh (Yl (Zb (Za rfl (Zg ⟨p2,_,rfl,.inl (SqL.of (s12 _ _ h2)),λ z=>?_,λ mm hm _=>w_c (K9 (Yq (Ep ?_ (Yk ?_))))⟩)))))
 · have:=congrArg List.length z
   rw [ll] at this
   exact absurd (show B.length=0 from this) (by omega)
 · obtain ⟨d,hd,rfl⟩:=List.mem_map.mp hm
   have:=ok.w1 d (List.mem_range.mp hd)
   omega
 try dsimp only
 refine Zr (Qc (Q8 (Zb (Yl (Zb (Za rfl (Zg (X4 (SqT.of (s12 _ _ hb)) (Zg ⟨_,rfl,(Yy (by omega)).1,(Yy (by omega)).2,?_⟩)))))))))
 refine Wq (n:=xs.length) (λ _ σ H3=>Same H H3/\∃ r4 r5 r6,σ=[some (.ref bp),some (.ref t),some (.ref p1),some (.ref p2),r4,r5,r6]) ⟨s12,_,_,_,rfl⟩ ?_ ?_
 · rintro i σ H3 hi ⟨s3,r4,r5,r6,rfl⟩
   refine Zq (Qc (Q8 (Zb (Yl (Zb (Za rfl (Zg (X4 (SqT.of (s3 _ _ hb)) (Zg ⟨_,rfl,(Yy (by omega)).1,(Yy (by omega)).2,?_⟩)))))))))
   refine Wq (n:=xs.length) (λ _ σ H4=>Same H H4/\∃ r5 r6,σ=[some (.ref bp),some (.ref t),some (.ref p1),some (.ref p2),some (.int (i:Nat)),r5,r6]) ⟨s3,_,_,rfl⟩ ?_ ?_
   · rintro j σ H4 hj ⟨s4,r5,r6,rfl⟩
     have hi':i<B.length:=by omega
     have hj':j<B.length:=by omega
     have id':InB B (i:Int):=⟨by omega,by omega⟩
     have io:InB B (j:Int):=⟨by omega,by omega⟩
     have c0:=cost_bd g hi' hi'
     have c1:=cost_bd g hi' hj'
     refine Zq (Zr (Z9 (Zh (Zh (Zh (Za rfl (w_c (Yd (v:=.int y) (SqT.of (s4 _ _ ht)) rfl (Zv (Zb (Za rfl (Zb (Za rfl (Zb (Za rfl (Zg ⟨_,_,_,rfl,B,m,n,(i:Int),(j:Int),Rep.mono s4 _ _ rB,g,rfl,rfl,id',io,λ H5 s5=>?_⟩))))))))))))))))
     simp only [Int.toNat_natCast]
     refine Yu (Za8 hy c1.1 c1.2) ?_
     refine Zh (Zh (Za rfl (w_c (Yd (v:=.int x) (SqT.of (s5 _ _ (s4 _ _ ht))) rfl (Zv (Zb (Za rfl (Zb (Za rfl (Zb (Za rfl (Zg ⟨_,_,_,rfl,B,m,n,(i:Int),(i:Int),Rep.mono (s4.trans s5) _ _ rB,g,rfl,rfl,id',id',λ H6 s6=>?_⟩))))))))))))
     simp only [Int.toNat_natCast]
     refine Yu (Za8 hx c0.1 c0.2) (Zbb (Zq ?_))
     have e:y*Qj B i j-x*Qj B i i=gpF B x y i j:=rfl
     rw [e]
     have s6':=(s4.trans s5).trans s6
     have k1:=s6' _ _ h1
     have k2:=s6' _ _ h2
     try dsimp only
     refine Yp (Ea (Yj (Zh (Za rfl (Za rfl (Zi0 (Yq (iteN (λ ne=>?_) λ eq=>iteF (Yk ⟨s6',_,_,rfl⟩)))))))))
     refine Yj (Zh (Zh (Za rfl (Za rfl (Y9 (SqL.of k1) (ixi (by rw [ll]; omega)) (Zh (Zh (Za rfl (Za rfl (Y9 (SqL.of k1) (ixi (by rw [ll]; omega)) ?_))))))))))
     refine Zh (Zh (Za rfl (Za rfl (Y9 (SqL.of k2) (ixi (by rw [ll]; omega)) (Za rfl ?_)))))
     rw [ge _ i hi',ge _ i hi',ge _ j hj']
     refine Yu (BdI.mul (by decide) (by decide) (ok.bw i hi') (gok i j hi' hj')) (Xd (Zd6 (Yq (Ep ?_ (Yk ⟨s6',_,_,rfl⟩)))))
     have:=ok.ok i j hi' hj' (λ z=>ne (by rw [z]))
     omega
   · rintro σ H4 ⟨s4,r5,r6,rfl⟩
     exact ⟨s4,_,_,_,rfl⟩
 · rintro σ H3 ⟨s3,r4,r5,r6,rfl⟩
   try dsimp only
   exact Yc (w_c (q H3 s3))
theorem Zzo (n:Nat) (f:Nat->Int):((List.range n).map λ d=>V.int (f d))=((List.range n).map f).map V.int:=by rw [List.map_map]; rfl
theorem Zjq {K:Fq} {a b c:V} {H:Hp} {Q:VK} {E:XK} (h:Zct K a b c H Q E):Vg K (Rt Q) [some a,some b,some c] H:=by
 obtain ⟨B,m,n,t,x,y,o,H0,rB,g,m8,rfl,ht,hx,hy,ta,ao,q⟩:=h
 unfold Vg
 cases o with
 | inl r =>
   obtain ⟨tp,p,rfl,htp,hp⟩:=ta
   refine Zr (Yp (K8 (w_not (Xr (Yl (Zb (Za rfl (Zb (w_c (Zg ⟨_,"tuple",_,true,rfl,TyOf.tup htp,Zg9,Xa (iteF ?_)⟩))))))))))
   refine Yj (Zh (Yl (Zb (Za rfl (Zg (X4 (SqT.of htp) (w_c (K9 (Yq (Ep (by show ¬ ((2:Int)<2); decide) (Yk ?_)))))))))))
   try dsimp only
   refine Zr (Yp (Ea (Yj (Zh (Zh (Za rfl (w_c (Yd (v:=.str "ring") (SqT.of htp) rfl (w_c (w_eqS (Yq (Ep (by decide +kernel) (iteF (Yk ?_))))))))))))))
   try dsimp only
   refine Zr (Yp (Ea (Yj (Zh (Zh (Za rfl (w_c (Yd (v:=.str "ring") (SqT.of htp) rfl (w_c (w_eqS (Yq (Eo rfl ?_))))))))))))
   refine Ea (Yj (Zh (Yl (Zb (Za rfl (Zg (X4 (SqT.of htp) (w_c (Xm (Yq (Eo rfl ?_)))))))))))
   exact Xr (Zv (Zb (Za rfl (Zb (Za rfl (Zb (Zh (Za rfl (w_c (Yd (v:=.ref p) (SqT.of htp) rfl (Zg ⟨_,_,_,rfl,B,m,n,t,p,x,y,r,rB,g,m8,rfl,ht,hx,hy,rfl,hp,ao,λ H1 s1=>Xa (iteT (Yc (w_c (q H1 s1))))⟩)))))))))))
 | inr st =>
   obtain ⟨tp,p1,p2,rfl,htp,_,_,_,h1,h2⟩:=ta
   rw [Zzo] at h1 h2
   refine Zr (Yp (K8 (w_not (Xr (Yl (Zb (Za rfl (Zb (w_c (Zg ⟨_,"tuple",_,true,rfl,TyOf.tup htp,Zg9,Xa (iteF ?_)⟩))))))))))
   refine Yj (Zh (Yl (Zb (Za rfl (Zg (X4 (SqT.of htp) (w_c (K9 (Yq (Ep (by show ¬ ((3:Int)<2); decide) (Yk ?_)))))))))))
   try dsimp only
   refine Zr (Yp (Ea (Yj (Zh (Zh (Za rfl (w_c (Yd (v:=.str "taste") (SqT.of htp) rfl (w_c (w_eqS (Yq (Eo rfl ?_))))))))))))
   refine Ea (Yj (Zh (Yl (Zb (Za rfl (Zg (X4 (SqT.of htp) (w_c (Xm (Yq (Eo rfl ?_)))))))))))
   exact Xr (Zv (Zb (Za rfl (Zb (Za rfl (Zb (Zh (Za rfl (w_c (Yd (v:=.ref p1) (SqT.of htp) rfl (Zb (Zh (Za rfl (w_c (Yd (v:=.ref p2) (SqT.of htp) rfl (Zg ⟨_,_,_,_,rfl,B,m,n,t,p1,p2,x,y,st,rB,g,m8,rfl,ht,hx,hy,rfl,h1,rfl,h2,ao,λ H1 s1=>Xa (iteT (Yc (w_c (q H1 s1))))⟩))))))))))))))))
theorem Zua {H:Hp} {xs:List V} {ds:List PyData} (j:Nat) (r:Reps H xs ds):Reps H (xs.take j) (ds.take j) :=
 Reps.of (by rw [List.length_take,List.length_take,r.length]) λ i x d hx hd=>by
  rw [List.getElem?_take] at hx hd
  by_cases z:i<j
  · rw [if_pos z] at hx hd
    obtain ⟨d',e,rep⟩:=r.get hx
    rw [hd] at e
    cases e
    exact rep
  · rw [if_neg z] at hx; cases hx
theorem Zub {H:Hp} {xs:List V} {ds:List PyData} (j:Nat) (r:Reps H xs ds):Reps H (xs.drop j) (ds.drop j) :=
 Reps.of (by rw [List.length_drop,List.length_drop,r.length]) λ i x d hx hd=>by
  rw [List.getElem?_drop] at hx hd
  obtain ⟨d',e,rep⟩:=r.get hx
  rw [hd] at e
  cases e
  exact rep
end LB.TS
namespace L2
open PySem PySem.Spec PyProof.Rows
structure FunD (K:Fq) (x qual:Str) (st:Stmt) (f:Addr) (fd:FuncData) (T:Addr):Prop where
 ex:∃ (oc:Value) (od:Option Addr) (kV doc pm:Value) (an:Option Addr) (cdv ct:Value) (osl:Array (Option Value)),
  fd=PySem.W.fnOf x qual (Q4 st) (X7 st) (Zu st) (.ref T) kV doc pm an cdv ct/\K.lookup f=some ⟨oc,od,.func fd,osl⟩/\PySem.W.codeIn K cdv qual=true
 tup:∃ (oc:Value) (od:Option Addr) (n:Nat) (osl:Array (Option Value)),K.lookup T=some ⟨oc,od,.seq #[Value.none] n,osl⟩
 kp:PySem.W.keepIn K (.ref f)=true
def DfD (K:Fq) (mg:Str->Option Value) (x:Str) (st:Stmt):Prop:=∃ f fd T,FunD K x x st f fd T/\mg x=some (.ref f)
theorem Z1t {K:Fq} {mg:Str->Option Value} {h:Heap} {x:Str} {st:Stmt} {f T:Addr} {oc oc':Value} {od od' an:Option Addr} {n:Nat} {osl osl':Array (Option Value)} {kV doc pm cdv ct:Value} (X:K.In h) (G:h.Ns mainGlobals mg)
 (a:PySem.W.nsIn K mainGlobals x=some (some (.ref f))) (l:K.lookup f=some ⟨oc,od,.func (PySem.W.fnOf x x (Q4 st) (X7 st) (Zu st) (.ref T) kV doc pm an cdv ct),osl⟩)
 (t:K.lookup T=some ⟨oc',od',.seq #[Value.none] n,osl'⟩)
 (c:PySem.W.codeIn K cdv x=true) (k:PySem.W.keepIn K (.ref f)=true):DfD K mg x st:=⟨f,_,T,⟨⟨oc,od,kV,doc,pm,an,cdv,ct,osl,rfl,l,c⟩,⟨oc',od',n,osl',t⟩,k⟩,PySem.W.mg_of X G a⟩
def FnD (P:Program) (w:World) (K:Fq) (mg:Str->Option Value) (base:Heap) (CX:CXT) (x:Str) (k:Nat) (ps:List Str) (sp:Sp):Prop :=
 ∃ f fd,FnOk P w K mg base CX k f fd ps sp/\mg x=some (.ref f)/\PySem.W.keepIn K (.ref f)=true/\Binds K fd ps []/\Binds K fd ps [Value.none]
section
variable {P:Program} {w:World} {K:Fq} {mg:Str->Option Value} {base:Heap}
theorem FunD.ok {x qual:Str} {st:Stmt} {f T:Addr} {fd:FuncData} {N ps:List Str} {k:Nat} {sp:Sp} (F:FunD K x qual st f fd T) (S:FnScope N ps (Zu st)) (len:∀ vs H Q E,sp vs H Q E->vs.length=ps.length)
 (hbody:∀ (cdv:Value) (A:Around) (outer:List Env) (s:Shared) (H:Hp) (vs:List V) (Q:VK) (E:XK),Room k (A.deeper (envOfC qual (Zu st) s.heap.objs.size f cdv))->sp vs H Q E ->
  ∃ t,PSs (cxOf CX0 P w K mg base N qual (Zu st) f cdv A outer s H E).nox (X7 st) t/\t { nx:=λ _ H'=>Q .non H',rt:=Q } (start N vs) H):FnOk P w K mg base CX0 (k+1) f fd ps sp:=by
 obtain ⟨oc,od,kV,doc,pm,an,cdv,ct,osl,rfl,lk,hcd⟩:=F.ex
 refine Ztb lk hcd S len λ A outer s H vs Q E hr hsp=>?_
 obtain ⟨t,h,q⟩:=hbody cdv A outer s H vs Q E hr hsp
 exact ⟨t,h.nox,q⟩
theorem DfD.to {CX:CXT} {x p1 p2:Str} {st:Stmt} {k:Nat} {sp:Sp} (D:DfD K mg x st) (h:∀ {f T:Addr} {fd:FuncData},FunD K x x st f fd T->FnOk P w K mg base CX k f fd [p1,p2] sp)
 (h2:∀ (T:Addr) (kV doc pm:Value) (an:Option Addr) (cdv ct u v:Value),∃ k,bindArgs (PySem.W.fnOf x x (Q4 st) (X7 st) (Zu st) (.ref T) kV doc pm an cdv ct) ⟨[u,v],[]⟩=seqItems? (.ref T) >>= k/\k (some #[Value.none])=pure [(p1,u),(p2,v)])
 (h1:∀ (T:Addr) (kV doc pm:Value) (an:Option Addr) (cdv ct u:Value),∃ k,bindArgs (PySem.W.fnOf x x (Q4 st) (X7 st) (Zu st) (.ref T) kV doc pm an cdv ct) ⟨[u],[]⟩=seqItems? (.ref T) >>= k/\k (some #[Value.none])=pure [(p1,u),(p2,Value.none)]) :
 FnD P w K mg base CX x k [p1,p2] sp:=by
 obtain ⟨f,fd,T,F,hm⟩:=D
 have ok:=h F
 obtain ⟨oc',od',n,osl',ht⟩:=F.tup
 obtain ⟨oc,od,kV,doc,pm,an,cdv,ct,osl,rfl,lk,hcd⟩:=F.ex
 refine ⟨f,_,ok,hm,F.kp,λ s us X hl=>?_,λ s us X hl=>?_⟩
 · rw [List.append_nil] at hl ⊢
   match us,hl with
   | [u,v],_ =>
     obtain ⟨k,e1,e2⟩:=h2 T kV doc pm an cdv ct u v
     exact BindsTo.of_defaults (k:=k) rfl (X _ _ ht) rfl e1 e2
 · have h1':us.length=1:=by simpa using hl
   obtain ⟨u,rfl⟩:=List.length_eq_one_iff.mp h1'
   obtain ⟨k,e1,e2⟩:=h1 T kV doc pm an cdv ct u
   exact BindsTo.of_defaults (k:=k) rfl (X _ _ ht) rfl e1 e2
end
section
variable {X:Cx} {e:Expr} {es:List Expr} {t:TA} {p pos:Pos} {x:Str} {k:Nat} {ps:List Str} {sp:Sp} {CX:CXT} {E:XK}
theorem Zvd (G:FnD X.prog X.w X.K X.mg X.base CX x k ps sp) (hr:Room k X.A) (hg:Gl X x) (hx:Passes CX X E) (ha:PB X (e::es) t)
 (hdb:(x == ("__debug__":Str))=false:=by decide) (he:Yz e=false:=by rfl) (hpl:es.all (λ e=>!Yz e)=true:=by rfl):PE X (.Call (.Name x p) (e::es) [] pos) (Zy sp [.non] E t):=by
 obtain ⟨f,fd,F,hm,hk,_,hb⟩:=G
 exact Zrd F hr hg hm hk hb (.cons rfl .nil) hx ha.ok hdb (Yx he) (Gf hpl)
end
theorem Zqy {sp:Sp} {E:XK} {t:TA} {σ:St} {H:Hp} {Q:VK} (h:t σ H λ vs H1=>sp (vs++[V.non]) H1 Q E):Zy sp [.non] E t σ H Q:=h
end L2
namespace PyProof.Rows
open PySem
section
variable {prog:Program} {w:World} {A:Around} {E:Value->Shared->Prop} {s:Shared}
end
end PyProof.Rows
namespace L2
open PySem PySem.Spec PyProof.Rows
end L2
namespace HT
open PySem PyProof.Rows
section
open PySem.SeqAt
open PySem.AutoSeq1 (wpAny_loadPart')
open PySem.MeetsSeq PySem.MeetsSeq2 PySem.MeetsSeq3
end
section
variable {prog:Program} {w:World} {A:Around} {E:Value->Shared->Prop} {s:Shared}
end
end HT
namespace L2
open PySem PySem.Spec PyProof.Rows
section
variable {X:Cx}
end
end L2
namespace PySem
namespace F
theorem owner_rv:Manifest.owners.lookup (String.ofList ['d','e','s','r','e','v','e','r'].reverse)=some Manifest.sig_reversed:=by kernel_rfl
theorem slot_rv_next:Slot "reversed" "__next__" "reversed.__next__" :=
 .of (owner:="reversed") (n:="__next__") (by rw [typeLookup_type,builtinLookup_eq_fast]; kernel_rfl) (by decide +kernel) (by decide +kernel) (by decide +kernel)
  (by first | exact .inl (by decide +kernel) | exact .inr (by decide +kernel)) (by rw [isSubtype_type]; kernel_rfl)
theorem entry_rv_next:entryFor table "reversed.__next__"=some Builtin.«reversed.__next__»:=entryFor_of_tree (by kernel_rfl)
theorem args_rv_next_1 (a:Value):argsOk "reversed.__next__" ⟨[a],[]⟩:=by
 unfold argsOk; rw [signature?_of (id:="reversed.__next__") (n:=['_','_','t','x','e','n','_','_']) (o:=['d','e','s','r','e','v','e','r']) (by kernel_rfl) owner_rv]; kernel_rfl
theorem slot_rv_iter:Slot "reversed" "__iter__" "reversed.__iter__" :=
 .of (owner:="reversed") (n:="__iter__") (by rw [typeLookup_type,builtinLookup_eq_fast]; kernel_rfl) (by decide +kernel) (by decide +kernel) (by decide +kernel)
  (by first | exact .inl (by decide +kernel) | exact .inr (by decide +kernel)) (by rw [isSubtype_type]; kernel_rfl)
theorem args_rv_iter_1 (a:Value):argsOk "reversed.__iter__" ⟨[a],[]⟩:=by
 unfold argsOk; rw [signature?_of (id:="reversed.__iter__") (n:=['_','_','r','e','t','i','_','_']) (o:=['d','e','s','r','e','v','e','r']) (by kernel_rfl) owner_rv]; kernel_rfl
theorem entry_rv_iter:entryFor table "reversed.__iter__"=some Builtin.«dict_keyiterator.__iter__» :=
 entryFor_alias (id':="dict_keyiterator.__iter__") (by kernel_rfl) (by first | rfl | decide +kernel | (unfold String.splitOn; simp +decide [String.splitOnAux])) (by decide +kernel) (by kernel_rfl)
theorem nolen_rv:typeLookup (.type "reversed") "__len__"=pure none:=by rw [typeLookup_type,builtinLookup_eq_fast]; kernel_rfl
theorem hint_rv:typeLookup (.type "reversed") "__length_hint__"=pure (some (.builtin "reversed.__length_hint__")):=by rw [typeLookup_type,builtinLookup_eq_fast]; kernel_rfl
theorem norev_tuple:typeLookup (.type "tuple") "__reversed__"=pure none:=by rw [typeLookup_type,builtinLookup_eq_fast]; kernel_rfl
theorem slot_rv_init:Slot "reversed" "__init__" "object.__init__" :=
 .of (owner:="object") (n:="__init__") (by rw [typeLookup_type,builtinLookup_eq_fast]; kernel_rfl) (by decide +kernel) (by decide +kernel) (by decide +kernel)
  (by first | exact .inl (by decide +kernel) | exact .inr (by decide +kernel)) (by rw [isSubtype_type]; kernel_rfl)
theorem called_rv:TypeCalled "reversed" "reversed.__new__" "object.__init__" :=
 ⟨by decide +kernel,by decide +kernel,⟨_,_,mro_reversed⟩,made_reversed,by decide +kernel,by rw [isSubtype_type]; kernel_rfl,slot_rv_init⟩
theorem slot_rv_hint:Slot "reversed" "__length_hint__" "reversed.__length_hint__" :=
 .of (owner:="reversed") (n:="__length_hint__") (by rw [typeLookup_type,builtinLookup_eq_fast]; kernel_rfl) (by decide +kernel) (by decide +kernel) (by decide +kernel)
  (by first | exact .inl (by decide +kernel) | exact .inr (by decide +kernel)) (by rw [isSubtype_type]; kernel_rfl)
theorem entry_rv_hint:entryFor table "reversed.__length_hint__"=some Builtin.«reversed.__length_hint__»:=entryFor_of_tree (by kernel_rfl)
theorem args_rv_hint_1 (a:Value):argsOk "reversed.__length_hint__" ⟨[a],[]⟩:=by
 unfold argsOk; rw [signature?_of (id:="reversed.__length_hint__") (n:=['_','_','t','n','i','h','_','h','t','g','n','e','l','_','_']) (o:=['d','e','s','r','e','v','e','r']) (by kernel_rfl) owner_rv]; kernel_rfl
end F
section
variable {prog:Program} {w:World} {A:Around} {E:Value->Shared->Prop} {s:Shared}
open PyProof.Rows
def rvObj (l:Addr) (i:Int):Obj:={ cls:=.type "reversed",data:=.fields #[.ref l,rawInt i] }
def Heap.IsRv (h:Heap) (a l:Addr) (i:Int):Prop:=∃ o,h.get? a=some o/\o.cls=.type "reversed"/\o.data=.fields #[.ref l,rawInt i]
theorem Heap.IsRv.typeIs {a l:Addr} {i:Int} (x:s.heap.IsRv a l i):s.TypeIs (.ref a) "reversed":=let ⟨o,ho,hc,_⟩:=x; ⟨o,ho,hc⟩
theorem Heap.IsRv.at {h h':Heap} {a l:Addr} {i:Int} (x:h.IsRv a l i) (e:∀ o,h.get? a=some o->h'.get? a=some o):h'.IsRv a l i:=let ⟨o,ho,r⟩:=x; ⟨o,e _ ho,r⟩
theorem tup_at {h h':Heap} {l:Addr} {items:Array Value} (x:IsTup h l items) (e:∀ o,h.get? l=some o->h'.get? l=some o):IsTup h' l items:=let ⟨o,ho,r⟩:=x; ⟨o,e _ ho,r⟩
theorem code_reversed_tup {l:Addr} {items:Array Value} {Q₁:Value->Shared->Prop} (hl:IsTup s.heap l items) (hfit:(items.size:Int)<2 ^ 63)
 (h:∀ tk,Q₁ (.ref s.heap.objs.size) { s with heap:=s.heap.push (rvObj l ((items.size:Int)-1)),toks:=tk }) :
 codeAny (model prog w) A (.call (.builtin "reversed.__new__") ⟨[.type "reversed",.ref l],[]⟩) (wants Q₁ E) s:=by
 refine codeAny_of_tree ?_
 show wpAny _ A.in1 (do checkBuiltinCall "reversed.__new__" ⟨[.type "reversed",.ref l],[]⟩; again (.builtin "reversed.__new__" ⟨[.type "reversed",.ref l],[]⟩)) _ _ s
 refine wpAny_bind (wpAny_of_eq (F.newCall_reversed_1 _) (wpAny_pure ⟨plainId_quiet F.plain_reversed_new _,codeAny_builtin F.entry_reversed_new ?_⟩))
 rw [Around.under_plainId F.plain_reversed_new _]
 unfold Builtin.«reversed.__new__»
 refine wpAny_bind (wpAny_of_eq (newClass_reversed _) ?_)
 try dsimp only
 refine wpAny_bind (wpAny_of_eq (a:=()) (by first | rfl | kernel_rfl) ?_)
 refine wpAny_bind (wpAny_of_eq (a:=()) (by first | rfl | kernel_rfl) ?_)
 try dsimp only
 refine wpAny_bind (wpAny_specialOf hl.typeIs F.norev_tuple ?_)
 try dsimp only
 refine wpAny_bind ?_
 wp_delta
 refine wpAny_bind (wpAny_isInstance (T:="tuple") (b:=false) hl.typeIs F.sub_tuple_dict ?_)
 try dsimp only
 rw [if_neg Bool.false_ne_true]
 refine wpAny_bind (wpAny_specialOf hl.typeIs slot_tuple_getitem.lookup ?_)
 try dsimp only
 rw [if_pos (by decide +kernel)]
 refine wpAny_pure ?_
 rw [if_neg (by decide)]
 refine wpAny_bind (len_tuple hl hfit ?_)
 refine wpAny_bind (wpAny_of_eq (a:=some (items.size:Int)) rfl ?_)
 try dsimp only
 refine wpAny_bind (m:=Builtin.SmallTypes.newRecord _ _) ?_
 unfold Builtin.SmallTypes.newRecord
 try dsimp only
 refine wpAny_newObj_type ?_ (by size_fits)
 exact wpAny_pure (h _)
theorem call_reversed_tup {l:Addr} {items:Array Value} {Q:Value->Shared->Prop} (hl:IsTup s.heap l items) (hfit:(items.size:Int)<2 ^ 63)
 (h:∀ tk,Q (.ref s.heap.objs.size) { s with heap:=s.heap.push (rvObj l ((items.size:Int)-1)),toks:=tk }):wpAny (model prog w) A (call (.type "reversed") [.ref l]) Q E s:=by
 refine callType_codes (Q₁:=λ obj s₁=>s₁.TypeIs obj "reversed"/\Q obj s₁) F.called_rv (F.typeCall_reversed_1 _) F.entry_object_init
  (code_reversed_tup hl hfit λ tk=>⟨⟨_,Heap.get?_push_size _ rfl,rfl⟩,h tk⟩) λ obj s₁ h₁=>?_
 exact ⟨h₁.1,F.args_object_init_2 obj _,object_init_meets F.called_rv.init.lookup F.called_rv.made (by decide) prog w A.in1 _ s₁ ⟨h₁.1,rfl,h₁.2⟩⟩
theorem wpAny_pyIter_rv {it l:Addr} {i:Int} {Q:Value->Shared->Prop} (hit:s.heap.IsRv it l i) (h:Q (.ref it) s):wpAny (model prog w) A (pyIter (.ref it)) Q E s:=by
 refine wpAny_pyIter_slot hit.typeIs F.slot_rv_iter (wpAny_call_entry F.slot_rv_iter hit.typeIs F.entry_rv_iter ?_ (F.args_rv_iter_1 _))
 show wpAny _ _ (ret (.ref it)) _ _ s
 exact wpAny_pure ⟨_,rfl,"reversed",_,hit.typeIs,F.slot_rv_next.lookup,h⟩
theorem wpAny_pyNext_rv_item {it l:Addr} {i:Nat} {items:Array Value} {x:Value} {Q:Option Value->Shared->Prop} (hit:s.heap.IsRv it l (i:Int)) (hl:IsTup s.heap l items) (hfit:(items.size:Int)<2 ^ 63) (hx:items[i]?=some x)
 (hQ:∀ h' tk,s.toks<=tk->h'.IsRv it l ((i:Int)-1)->Heap.SameBut it s.heap h'->Q (some x) { s with heap:=h',toks:=tk }):wpAny (model prog w) A (pyNext (.ref it)) Q E s:=by
 obtain ⟨o,ho,hc,hd⟩:=id hit
 have hlt:i<items.size:=(Array.getElem?_eq_some_iff.mp hx).1
 unfold pyNext
 refine wpAny_bind (wpAny_attempt (wpAny_callSpecial?_slot (name:=Str.ofString "__next__") hit.typeIs F.slot_rv_next
  (wpAny_call_entry F.slot_rv_next hit.typeIs F.entry_rv_next ?_ (F.args_rv_next_1 _))))
 unfold Builtin.«reversed.__next__»
 refine wpAny_bind (wpAny_of_eq (a:=(Value.ref it,[])) rfl ?_)
 try dsimp only
 refine wpAny_bind (wpAny_field ho hd (x:=.ref l) rfl ?_)
 refine wpAny_bind (wpAny_field ho hd (x:=rawInt (i:Int)) rfl ?_)
 show wpAny _ _ (if (i:Int)<0 then _ else _) _ _ s
 rw [if_neg (by omega)]
 refine wpAny_bind (wpAny_specialOf hl.typeIs slot_tuple_getitem.lookup ?_)
 try dsimp only
 rw [if_neg (by decide)]
 refine wpAny_bind (wpAny_mkInt ?_)
 refine wpAny_bind (wpAny_attempt (getItem_tuple (j:=i) (x:=x) hl (by omega) (by omega) (by unfold seqIndex?; simp; omega) hx ?_))
 try dsimp only
 refine wpAny_bind (wpAny_field ho hd (x:=rawInt (i:Int)) rfl ?_)
 show wpAny _ _ (setField (Value.ref it) 1 (rawInt ((i:Int)-1)) >>= _) _ _ _
 refine wpAny_bind (wpAny_setField ho hd (by simp) ?_)
 first
 | refine wpAny_pure ⟨x,rfl,wpAny_pure (hQ _ _ (by show s.toks<=s.toks+1; omega) ?_ (Heap.SameBut.update ..))⟩
 | refine wpAny_bind (wpAny_pure (wpAny_pure ⟨x,rfl,wpAny_pure (hQ _ _ (by show s.toks<=s.toks+1; omega) ?_ (Heap.SameBut.update ..))⟩))
 exact ⟨_,Heap.get?_update_self _ ho (Obj.isFreed_of_fields (Obj.data_mapFields hd _)),(Obj.cls_mapFields ..).trans hc,by
  rw [Obj.data_mapFields hd]; simp⟩
theorem wpAny_pyNext_rv_end {it l:Addr} {Q:Option Value->Shared->Prop} (hh:A.handled=none) (hit:s.heap.IsRv it l (-1))
 (hQ:∀ h',Heap.ExtBut it s.heap h'->Q none { s with heap:=h' }):wpAny (model prog w) A (pyNext (.ref it)) Q E s:=by
 obtain ⟨o,ho,hc,hd⟩:=id hit
 unfold pyNext
 refine wpAny_bind (wpAny_attempt (wpAny_callSpecial?_slot (name:=Str.ofString "__next__") hit.typeIs F.slot_rv_next
  (wpAny_call_entry F.slot_rv_next hit.typeIs F.entry_rv_next ?_ (F.args_rv_next_1 _))))
 unfold Builtin.«reversed.__next__»
 refine wpAny_bind (wpAny_of_eq (a:=(Value.ref it,[])) rfl ?_)
 try dsimp only
 refine wpAny_bind (wpAny_field ho hd (x:=.ref l) rfl ?_)
 refine wpAny_bind (wpAny_field ho hd (x:=rawInt (-1)) rfl ?_)
 show wpAny _ _ (if (-1:Int)<0 then _ else _) _ _ s
 rw [if_pos (by decide)]
 refine wpAny_bind (wpAny_rule ?_)
 refine wpAny_bind ?_
 wp_delta
 refine wpAny_bind (wpAny_setField ho hd (by simp) ?_)
 have hd1:=Obj.data_mapFields hd λ x=>x.setIfInBounds 1 (rawInt (-1))
 have ho1:=Heap.get?_update_self (Obj.mapFields λ x=>x.setIfInBounds 1 (rawInt (-1))) ho (Obj.isFreed_of_fields hd1)
 refine wpAny_setField ho1 hd1 (by simp) ?_
 have kp:Heap.ExtBut it s.heap ((s.heap.update it (Obj.mapFields λ x=>x.setIfInBounds 1 (rawInt (-1)))).update it (Obj.mapFields λ x=>x.setIfInBounds 0 Value.none)) :=
  λ b o hb e=>(Heap.get?_update_other _ _ (Ne.symm hb)).trans ((Heap.get?_update_other _ _ (Ne.symm hb)).trans e)
 generalize (s.heap.update it (Obj.mapFields λ x=>x.setIfInBounds 1 (rawInt (-1)))).update it (Obj.mapFields λ x=>x.setIfInBounds 0 Value.none)=h2 at kp ⊢
 try dsimp only
 refine wpAny_bind ?_
 unfold Builtin.SmallTypes.stopIteration
 first
 | show wpAny _ _ (newExc (.type "StopIteration") [] >>= _) _ _ _
 | (refine wpAny_bind ?_; show wpAny _ _ (newExc (.type "StopIteration") [] >>= _) _ _ _)
 refine wpAny_bind ?_
 simp only [newExc,newTuple]
 refine wpAny_bind (wpAny_newObj_type ?_ (by size_fits))
 refine wpAny_bind (m:=firstArgMember _ _) (wpAny_of_eq (a:=Value.none) (by first | rfl | (simp only [firstArgMember]; rfl)) ?_)
 refine wpAny_newObj_type ?_ (by size_fits)
 simp only [raiseNew]
 refine wpAny_bind (wpAny_handled ?_)
 first | rw [show A.in1.handled=none from hh] | rw [hh]
 refine wpAny_bind (wpAny_pure (wpAny_throw ?_))
 refine wpAny_bind (wpAny_isInstance (T:="StopIteration") (b:=true) ⟨_,Heap.get?_push_size _ rfl,rfl⟩ isSubtype_stop ?_)
 exact wpAny_pure (hQ _ ((kp.push _).push _))
end
theorem Walks.tupRev {prog:Program} {w:World} {A:Around} (hh:A.handled=none) (I l:Addr) (hne:l≠I) (items:Array Value) (hfit:(items.size:Int)<2 ^ 63) :
 Walks prog w A I [I,l] [I] items.size (λ i v=>items[items.size-1-i]?=some v) (λ i h=>i<=items.size/\h.IsRv I l ((items.size:Int)-1-(i:Int))/\PyProof.Rows.IsTup h l items) where
 sub:=λ b hb=>by simp at hb; simp [hb]
 frame:=λ _ _ _ x hk=>⟨x.1,x.2.1.at λ o e=>hk I (by simp) o e,tup_at x.2.2 λ o e=>hk l (by simp) o e⟩
 item:=λ i s Q E hi x hQ=>by
  have e:(items.size:Int)-1-(i:Int)=((items.size-1-i:Nat):Int):=by omega
  have hit:=x.2.1
  rw [e] at hit
  have hx:items[items.size-1-i]?=some (items[items.size-1-i]'(by omega)):=Array.getElem?_eq_getElem (by omega)
  refine wpAny_pyNext_rv_item hit x.2.2 hfit hx λ h' tk ht hit' hs'=>?_
  have e2:((items.size-1-i:Nat):Int)-1=(items.size:Int)-1-((i+1:Nat):Int):=by omega
  rw [e2] at hit'
  exact hQ _ h' tk hx ⟨hi,hit',tup_at x.2.2 λ o eo=>(hs'.2 l hne).trans eo⟩ λ b o hb eo=>hs'.extBut b o (λ h=>hb (by simp [h])) eo
 done:=λ s Q E x hQ=>by
  have e:(items.size:Int)-1-(items.size:Int)=-1:=by omega
  have hit:=x.2.1
  rw [e] at hit
  exact wpAny_pyNext_rv_end hh hit λ h' he'=>hQ h' s.toks λ b o hb eo=>he' b o (λ h=>hb (by simp [h])) eo
 self:=λ _ _ _ _ x hQ=>wpAny_pyIter_rv x.2.1 hQ
section
variable {prog:Program} {w:World} {A:Around} {E:Value->Shared->Prop} {s:Shared}
theorem wpAny_collect_rv {Q:List Value->Shared->Prop} {I l:Addr} {items:Array Value} (hh:A.handled=none) (hit:s.heap.IsRv I l ((items.size:Int)-1)) (hl:PyProof.Rows.IsTup s.heap l items) (hlen:items.size<=2 ^ 24) (hIl:l≠I)
 (hQ:∀ s' acc,s.heap.objs.size<=s'.heap.objs.size->(∀ b o,b≠I->s.heap.get? b=some o->s'.heap.get? b=some o)->s'={ s with heap:=s'.heap,toks:=s'.toks }->ItemsOf (λ i v=>items[items.size-1-i]?=some v) acc items.size->Q acc.toList s'):wpAny (model prog w) A (collect (.ref I)) Q E s:=by
 have hI:I<s.heap.objs.size:=by
  obtain ⟨o,ho,_⟩:=hit
  exact Heap.lt_size ho
 have hll:l<s.heap.objs.size:=by
  obtain ⟨o,ho,_⟩:=hl
  exact Heap.lt_size ho
 have hSI:s.heap.objs.size≠I:=Nat.ne_of_gt hI
 have hSf:s.heap.objs.size ∉ [I,l]:=λ hm=>by
  rcases List.mem_cons.mp hm with e | hm
  · exact hSI e
  · exact Nat.ne_of_gt hll (List.mem_singleton.mp hm)
 have W:=(Walks.tupRev (prog:=prog) (w:=w) (A:=A.in1) hh I l hIl items (by omega)).toS
 unfold collect
 refine wpAny_bind (wpAny_runValue (codeAny_builtin F.entry_proto_collect ?_))
 rw [Around.under_plainId F.plain_proto_collect _]
 show wpAny _ A.in1 (newList [] >>= λ l=>again (.builtin "list.__iadd__" ⟨[l,.ref I],[]⟩)) _ _ s
 refine wpAny_bind (wpAny_newObj_type ?_)
 refine wpAny_pure ⟨plainId_quiet F.plain_list_iadd _,codeAny_builtin F.entry_list_iadd ?_⟩
 rw [Around.under_plainId F.plain_list_iadd _]
 have hit₁:(s.heap.push { cls:=.type "list",data:=.seq ([]:List Value).toArray }).IsRv I l ((items.size:Int)-1):=hit.at λ o e=>Heap.get?_push_of_some _ e
 have hl₁:PyProof.Rows.IsTup (s.heap.push { cls:=.type "list",data:=.seq ([]:List Value).toArray }) l items:=tup_at hl λ o e=>Heap.get?_push_of_some _ e
 have hS₁:(s.heap.push { cls:=.type "list",data:=.seq ([]:List Value).toArray }).get? s.heap.objs.size=some { cls:=.type "list",data:=.seq ([]:List Value).toArray }:=Heap.get?_push_size _ rfl
 have h1:Builtin.List.listSameRef (.ref s.heap.objs.size) (.ref I)=false:=by simp [Builtin.List.listSameRef,hSI]
 have h2:(Value.type "reversed" == Value.type "list")=false:=by decide
 have h3:(Value.type "reversed" == Value.type "tuple")=false:=by decide
 show wpAny _ A.in1 (Builtin.List.listExtendWith (.ref s.heap.objs.size) (.ref I) (.ref s.heap.objs.size)) _ _ _
 unfold Builtin.List.listExtendWith
 refine wpAny_bind (wpAny_typeOf (Heap.IsRv.typeIs (s:={ s with heap:=_ }) hit₁) ?_)
 simp only [h1,h2,h3,Bool.or_false,Bool.false_eq_true,if_false]
 refine wpAny_bind (wpAny_pyIter_rv hit₁ ?_)
 refine wpAny_bind (wpAny_holding ?_)
 unfold Builtin.List.listLengthHint
 refine wpAny_bind (wpAny_specialOf (Heap.IsRv.typeIs (s:={ s with heap:=_ }) hit₁) F.nolen_rv ?_)
 show wpAny _ A.in1 (specialOf (Value.ref I) (Str.ofString "__length_hint__") >>= _) _ _ _
 refine wpAny_bind (wpAny_specialOf (Heap.IsRv.typeIs (s:={ s with heap:=_ }) hit₁) F.hint_rv ?_)
 generalize hid:("reversed.__length_hint__":String)=id0
 wp_delta
 rw [show splitId id0=some ("reversed","__length_hint__") from by subst hid; decide +kernel]
 subst hid
 refine wpAny_bind (wpAny_isInstance (T:="reversed") (b:=true) (Heap.IsRv.typeIs (s:={ s with heap:=_ }) hit₁) (by rw [isSubtype_type]; kernel_rfl) ?_)
 try dsimp only
 rw [if_neg (by decide)]
 rw [if_neg (by decide +kernel)]
 refine wpAny_bind (wpAny_rule ?_)
 refine wpAny_bind (wpAny_of_eq (F.slot_rv_hint.bind _) ?_)
 try dsimp only
 refine wpAny_bind (wpAny_attempt ?_)
 refine wpAny_call_entry F.slot_rv_hint (Heap.IsRv.typeIs (s:={ s with heap:=_ }) hit₁) F.entry_rv_hint ?_ (F.args_rv_hint_1 _)
 obtain ⟨o,ho,hc,hd⟩:=id hit₁
 unfold Builtin.«reversed.__length_hint__»
 refine wpAny_bind (wpAny_of_eq (a:=Value.ref I) rfl ?_)
 refine wpAny_bind (wpAny_field ho hd (x:=.ref l) rfl ?_)
 rw [if_neg (show ¬ ((Value.ref l == Value.none)=true) from Bool.false_ne_true)]
 refine wpAny_bind (PyProof.Rows.len_tuple hl₁ (by omega) ?_)
 refine wpAny_bind (wpAny_of_eq (a:=some (items.size:Int)) rfl ?_)
 try dsimp only
 refine wpAny_bind (wpAny_field ho hd (x:=rawInt ((items.size:Int)-1)) rfl ?_)
 show wpAny _ _ (if (items.size:Int)<(items.size:Int)-1+1 then _ else _) _ _ _
 rw [if_neg (by omega)]
 refine wpAny_bind (wpAny_mkInt (wpAny_pure ⟨_,rfl,?_⟩))
 try dsimp only
 refine wpAny_bind (wpAny_of_eq (a:=some ((items.size:Int)-1+1)) rfl ?_)
 try dsimp only
 rw [show (items.size:Int)-1+1=(items.size:Int) by omega]
 rw [if_neg (by have h1:Builtin.List.listFitsIndex (items.size:Int)=true:=by (unfold Builtin.List.listFitsIndex; simp; omega)
                rw [h1]; decide),if_neg (by omega),if_neg (by unfold Builtin.List.listTooLong; simp; rw [sizeLine_eq]; omega)]
 refine wpAny_pure ?_
 generalize hb:((items.size:Int) != 0 || _)=bb
 have oth:∀ b o,b≠s.heap.objs.size->s.heap.get? b=some o->(s.heap.push { cls:=.type "list",data:=.seq ([]:List Value).toArray }).get? b=some o:=λ b o _ e=>Heap.get?_push_of_some _ e
 have ne:∀ b o,s.heap.get? b=some o->b≠s.heap.objs.size:=λ b o e=>Nat.ne_of_lt (Heap.lt_size e)
 cases bb with
 | false =>
   rw [if_neg (by decide)]
   refine wpAny_pure ⟨plainId_quiet F.plain_extend_loop _,codeAny_extend_loopS W (by rw [sizeLine_eq]; omega) _ hSf _ items.size 0 _ _ _ rfl (Nat.zero_le _) ⟨Nat.zero_le _,by simpa using hit₁,hl₁⟩ hS₁ (ItemsOf.nil _) λ s' acc' c' hm hS' hacc=>?_⟩
   show wpAny _ A (load s.heap.objs.size >>= _) _ _ s'
   refine wpAny_bind (wpAny_load hS' ?_)
   refine wpAny_pure (hQ s' acc' (Nat.le_of_lt (Heap.lt_size hS')) (λ b o hb e=>hm.heap b o (λ hmem=>?_) (oth b o (ne b o e) e)) (by rw [Moved.eq_with hm]) hacc)
   rcases List.mem_cons.mp hmem with e' | hmem
   · exact ne b o e e'
   · exact hb (List.mem_singleton.mp hmem)
 | true =>
   rw [if_pos rfl]
   refine wpAny_bind (wpAny_rule ?_)
   unfold Builtin.List.listTouch
   refine wpAny_bind ?_
   refine wpAny_bind (m:=Builtin.List.listUpdate _ _) ?_
   unfold Builtin.List.listUpdate
   try dsimp only
   refine wpAny_updateSeq hS₁ rfl ?_
   have hS₂:=Heap.get?_update_self (Obj.mapSeq (λ x=>x.push Value.none)) hS₁ rfl
   try dsimp only
   refine wpAny_updateSeq hS₂ rfl ?_
   have hS₃:=Heap.get?_update_self (Obj.mapSeq (λ x=>x.pop)) hS₂ rfl
   have ot3:∀ b o,b≠s.heap.objs.size->s.heap.get? b=some o->(((s.heap.push { cls:=.type "list",data:=.seq ([]:List Value).toArray }).update s.heap.objs.size (Obj.mapSeq λ x=>x.push Value.none)).update s.heap.objs.size (Obj.mapSeq λ x=>x.pop)).get? b=some o :=
    λ b o hb e=>(Heap.get?_update_other _ _ (Ne.symm hb)).trans ((Heap.get?_update_other _ _ (Ne.symm hb)).trans (Heap.get?_push_of_some _ e))
   have hit₃:=hit.at λ o e=>ot3 I o (Ne.symm hSI) e
   have hl₃:=tup_at hl λ o e=>ot3 l o (Nat.ne_of_lt hll) e
   generalize (((s.heap.push { cls:=.type "list",data:=.seq ([]:List Value).toArray }).update s.heap.objs.size (Obj.mapSeq λ x=>x.push Value.none)).update s.heap.objs.size (Obj.mapSeq λ x=>x.pop))=h3' at hS₃ ot3 hit₃ hl₃ ⊢
   refine wpAny_pure ⟨plainId_quiet F.plain_extend_loop _,codeAny_extend_loopS W (by rw [sizeLine_eq]; omega) _ hSf _ items.size 0 _ _ _ rfl (Nat.zero_le _) ⟨Nat.zero_le _,by simpa using hit₃,hl₃⟩ hS₃ (ItemsOf.nil _) λ s' acc' c' hm hS' hacc=>?_⟩
   show wpAny _ A (load s.heap.objs.size >>= _) _ _ s'
   refine wpAny_bind (wpAny_load hS' ?_)
   refine wpAny_pure (hQ s' acc' (Nat.le_of_lt (Heap.lt_size hS')) (λ b o hb e=>hm.heap b o (λ hmem=>?_) (ot3 b o (ne b o e) e)) (by rw [Moved.eq_with hm]) hacc)
   rcases List.mem_cons.mp hmem with e' | hmem
   · exact ne b o e e'
   · exact hb (List.mem_singleton.mp hmem)
theorem code_tuple_new_rv {Q₁:Value->Shared->Prop} {I l:Addr} {items:Array Value} (hh:A.handled=none) (hit:s.heap.IsRv I l ((items.size:Int)-1)) (hl:PyProof.Rows.IsTup s.heap l items) (hlen:items.size<=2 ^ 24) (hIl:l≠I)
 (h:∀ (h':Heap) tk acc,s.heap.objs.size<=h'.objs.size->(∀ b o,b≠I->s.heap.get? b=some o->h'.get? b=some o)->ItemsOf (λ i v=>items[items.size-1-i]?=some v) acc items.size->Q₁ (.ref h'.objs.size) { s with heap:=h'.push { cls:=.type "tuple",data:=.seq acc },toks:=tk }) :
 codeAny (model prog w) A (.call (.builtin "tuple.__new__") ⟨[.type "tuple",.ref I],[]⟩) (wants Q₁ E) s:=by
 refine codeAny_of_tree ?_
 show wpAny _ A.in1 (do checkBuiltinCall "tuple.__new__" ⟨[.type "tuple",.ref I],[]⟩; again (.builtin "tuple.__new__" ⟨[.type "tuple",.ref I],[]⟩)) _ _ s
 refine wpAny_bind (wpAny_of_eq (F.newCall_tuple_1 _) (wpAny_pure ⟨plainId_quiet F.plain_tuple_new _,codeAny_builtin F.entry_tuple_new ?_⟩))
 rw [Around.under_plainId F.plain_tuple_new _]
 have hsub:=sub_tuple_self
 have hinit:=init_tuple_lookup
 have hmh:=madeHere_tuple
 have hTI:=hit.typeIs
 wp_walk using wpAny_typeOf hTI,wpAny_collect_rv (A:=A.in1) hh hit hl hlen hIl
 intro s' acc hz hk he hacc
 show wpAny _ _ (Builtin.Tuple.tupleExact acc.toList.toArray >>= λ v=>ret v) _ _ _
 unfold Builtin.Tuple.tupleExact
 refine wpAny_bind (wpAny_newObj_type ?_ (by show acc.toList.toArray.size<=sizeLine; simp only [Array.toArray_toList]; rw [hacc.1,sizeLine_eq]; omega))
 refine wpAny_pure ?_
 have e:acc.toList.toArray=acc:=by simp
 rw [e]
 have:=h s'.heap s'.toks acc hz hk hacc
 rw [he]
 exact this
theorem call_tuple_rv {Q:Value->Shared->Prop} {I l:Addr} {items:Array Value} (hh:A.handled=none) (hit:s.heap.IsRv I l ((items.size:Int)-1)) (hl:PyProof.Rows.IsTup s.heap l items) (hlen:items.size<=2 ^ 24) (hIl:l≠I)
 (hQ:∀ (h':Heap) tk acc,s.heap.objs.size<=h'.objs.size->(∀ b o,b≠I->s.heap.get? b=some o->h'.get? b=some o)->ItemsOf (λ i v=>items[items.size-1-i]?=some v) acc items.size->Q (.ref h'.objs.size) { s with heap:=h'.push { cls:=.type "tuple",data:=.seq acc },toks:=tk }) :
 wpAny (model prog w) A (call (.type "tuple") [.ref I]) Q E s:=by
 refine callType_codes (Q₁:=λ obj s₁=>s₁.TypeIs obj "tuple"/\Q obj s₁) F.called_tuple (F.typeCall_tuple_1 _) F.entry_object_init
  (code_tuple_new_rv (A:=A.in1) hh hit hl hlen hIl λ h' tk acc hz hk hacc=>⟨⟨_,Heap.get?_push_size _ rfl,rfl⟩,hQ h' tk acc hz hk hacc⟩) λ obj s₁ h₁=>?_
 exact ⟨h₁.1,F.args_object_init_2 obj _,object_init_meets F.called_tuple.init.lookup F.called_tuple.made (by decide) prog w A.in1 _ s₁ ⟨h₁.1,rfl,h₁.2⟩⟩
end
end PySem
namespace L2
open PySem PySem.Spec PyProof.Rows
def Zk1 (K:Fq) (ta:TA):TE:=λ σ H Q=>ta σ H λ vs H1=>∃ l xs,vs=[.ref l]/\SqT K H1 l xs/\xs.length<=1000/\∀ q,H1 q=none->Q (.ref q) (upd H1 q (.tup xs.reverse))
theorem Zuj {X:Cx} {a:Expr} {ta:TA} {p p2 pos pos2:Pos} (hc:X.calm=true) (hgl:Gl X "tuple") (hml:X.mg "tuple"=none) (hgr:Gl X "reversed") (hmr:X.mg "reversed"=none) (ha:PB X [a] ta) (he:Yz a=false:=by rfl) :
 PE X (.Call (.Name "tuple" p) [.Call (.Name "reversed" p2) [a] [] pos2] [] pos) (Zk1 X.K ta):=by
 intro pins s σ H Q I h
 refine wpAny_Call_Name_kw (U5 I hgl hml Uc ?_)
 refine PyProof.Rows.callWith_type1 ?_ (Yx rfl) rfl
 rw [Yx (e:=Expr.Call (.Name "reversed" p2) [a] [] pos2) (es:=[]) rfl]
 show wpAny _ _ (spliced ((false,eval (Expr.Call (.Name "reversed" p2) [a] [] pos2) X.env)::backTo pos (starEach [] X.env))) _ _ s
 refine Calls.spliced_cons ?_
 refine wpAny_Call_Name_kw (U5 I hgr hmr Zfp ?_)
 refine PyProof.Rows.callWith_type1 (thn (ha.ok pos2 pins s σ H _ I h) λ us s1 ⟨vs,H1,I1,r1,q1⟩=>?_) (Yx he) rfl
 obtain ⟨l,xs,e,hq,hx,q⟩:=q1
 subst e
 cases r1 with
 | cons r rr =>
   cases rr
   cases r
   obtain ⟨its,rv,pl,hz⟩:=I1.tuple hq
   have hl:=rv.length
   refine call_reversed_tup pl (by simp; omega) λ tk1=>?_
   refine Calls.spliced_nil ?_
   have hIl:l≠s1.heap.objs.size:=by
    obtain ⟨o,ho,_⟩:=pl
    exact Nat.ne_of_lt (Heap.lt_size ho)
   refine call_tuple_rv (I:=s1.heap.objs.size) (l:=l) (items:=its.toArray) (I1.ok.hd hc) ⟨_,Heap.get?_push_size _ rfl,rfl,rfl⟩ (tup_at pl λ o e=>Heap.get?_push_of_some _ e) (by simp; omega) hIl λ h' tk acc' sz kp it=>?_
   rw [size_push'] at sz
   have old:∀ b o,s1.heap.get? b=some o->(h'.push { cls:=.type "tuple",data:=.seq acc' }).get? b=some o:=λ b o e=>Heap.get?_push_of_some _ (kp b o (Nat.ne_of_lt (Heap.lt_size e)) (Heap.get?_push_of_some _ e))
   have hv:Vals xs.reverse acc'.toList:=by
    have h1:acc'.toList=its.reverse:=by
     apply List.ext_getElem?
     intro i
     by_cases hi:i<acc'.size
     · have h2:acc'[i]?=some acc'[i]:=Array.getElem?_eq_getElem hi
       have h3:=it.2 i _ h2
       rw [Array.getElem?_toList,h2]
       have hi':i<its.length:=by have:=it.1; simp at this; omega
       rw [List.getElem?_reverse hi']
       simpa using h3.symm
     · rw [List.getElem?_eq_none (by simpa using hi),List.getElem?_eq_none (by have:=it.1; simp at this ⊢; omega)]
    rw [h1]
    exact rv.reverse
   have fr:H1 h'.objs.size=none:=I1.hok.fresh (by omega)
   have e:(h'.push { cls:=.type "tuple",data:=.seq acc' }).get? h'.objs.size=some { cls:=.type "tuple",data:=.seq acc' }:=Heap.get?_push_size _ rfl
   exact ⟨.ref _,_,I1.laid (t':=tk) old (by omega) (show ObjOk X.prog X.w _ (h'.push { cls:=.type "tuple",data:=.seq acc' }) _ (.tup _) from ⟨by rw [List.length_reverse]; exact Nat.le_trans hx (by decide),acc'.toList,hv,by rw [show acc'.toList.toArray=acc' by simp]; exact ⟨_,e,rfl,_,rfl⟩⟩),rfl,q _ fr⟩
theorem Zwa {K:Fq} {ta:TA} {σ:St} {H:Hp} {Q:VK} (h:ta σ H λ vs H1=>∃ l xs,vs=[.ref l]/\SqT K H1 l xs/\xs.length<=1000/\∀ q,H1 q=none->Q (.ref q) (upd H1 q (.tup xs.reverse))):Zk1 K ta σ H Q:=h
end L2
namespace K73
open PySem L2 LB
open LB.TS
abbrev Yw (K:Fq):Sp:=RS.Yw K
abbrev tb_is_less_share (K:Fq):TS:=RS.tb_is_less_share K
abbrev Sh:=RS.Sh
abbrev Bd:=RS.Bd
def gI (s:Sh):Int:=(Int.gcd s.1.1 s.1.2:Nat)
theorem Znh (s:Sh):0<gI s:=by
 have h:0<Int.gcd s.1.1 s.1.2:=Int.gcd_pos_of_ne_zero_left _ (by have:=s.2.1; omega)
 unfold gI; omega
theorem g_l (s:Sh):gI s ∣ s.1.1:=Int.gcd_dvd_left ..
theorem g_r (s:Sh):gI s ∣ s.1.2:=Int.gcd_dvd_right ..
def lowS (s:Sh):Sh:=⟨(s.1.1 / gI s,s.1.2 / gI s),Int.ediv_pos_of_pos_of_dvd s.2.1 (Int.le_of_lt (Znh s)) (g_l s),Int.ediv_pos_of_pos_of_dvd s.2.2 (Int.le_of_lt (Znh s)) (g_r s)⟩
theorem Zyd (s:Sh):(lowS s).1.1*s.1.2=s.1.1*(lowS s).1.2:=by
 show s.1.1 / gI s*s.1.2=s.1.1*(s.1.2 / gI s)
 rw [Int.mul_comm,← Int.mul_ediv_assoc _ (g_l s),Int.mul_comm s.1.1 (s.1.2 / gI s),Int.mul_comm (s.1.2 / gI s),← Int.mul_ediv_assoc _ (g_r s),Int.mul_comm]
theorem Zgt (s:Sh):lowS s<=s:=Int.le_of_eq (Zyd s)
theorem Zgu (s:Sh):s<=lowS s:=Int.le_of_eq (Zyd s).symm
theorem Zuw {n:Nat} {s:Sh} (h:Bd n s):Bd n (lowS s) :=
 ⟨Int.lt_of_le_of_lt (Int.ediv_le_self _ (Int.le_of_lt s.2.1)) h.1,Int.lt_of_le_of_lt (Int.ediv_le_self _ (Int.le_of_lt s.2.2)) h.2⟩
def Low (s:Sh):Prop:=Int.gcd s.1.1 s.1.2=1
theorem Up (s:Sh):Low (lowS s):=by
 show Int.gcd (s.1.1 / gI s) (s.1.2 / gI s)=1
 have h:0<Int.gcd s.1.1 s.1.2:=Int.gcd_pos_of_ne_zero_left _ (by have:=s.2.1; omega)
 exact Int.gcd_ediv_gcd_ediv_gcd h
def sb_share_of (K:Fq) (a b:V) (H:Hp) (Q:VK) (E:XK):Prop:=∃ (s:Sh) (n:Nat),a=.int s.1.1/\b=.int s.1.2/\Bd n s/\n<=40/\∀ t,H t=none->Q (.ref t) (upd H t (.tup [.int (lowS s).1.1,.int (lowS s).1.2]))
def Wu (K:Fq):Sp:=sp2 (sb_share_of K)
abbrev Bar:=Sh×Sh
def lesS (x y:Sh):Sh:=if x<y then x else y
def grtS (x y:Sh):Sh:=if x<y then y else x
def belF (lo:Sh) (bs:List Bar):List Bar:=bs.filter λ b=>decide (b.2<lo)
def abvF (hi:Sh) (bs:List Bar):List Bar:=bs.filter λ b=>decide (hi<b.1)
def midF (lo hi:Sh) (bs:List Bar):List Bar:=(bs.drop (belF lo bs).length).take (bs.length-(abvF hi bs).length-(belF lo bs).length)
def leaF (lo:Sh) (bs:List Bar):Sh:=bs.foldl (λ l b=>lesS l b.1) lo
def mosF (hi:Sh) (bs:List Bar):Sh:=bs.foldl (λ l b=>grtS l b.2) hi
def Kd (bs:List Bar) (lo hi:Sh):List Bar:=belF lo bs++[(leaF lo (midF lo hi bs),mosF hi (midF lo hi bs))]++abvF hi bs
theorem Eg {a b c:Sh} (h1:a<b) (h2:b<c):a<c:=RS.Sh.lt_of_lt_of_le h1 (RS.Sh.le_of_lt h2)
theorem U0 {a b c:Sh} (h1:a<=b) (h2:b<c):a<c:=RS.Sh.not_le.mp λ z=>RS.Sh.not_le.mpr h2 (RS.Sh.le_trans z h1)
theorem Zbt {a:Sh} (h:a<a):False:=RS.Sh.not_lt.mpr (RS.Sh.le_refl a) h
theorem Zyg (x y:Sh):lesS x y<=x:=by
 unfold lesS
 by_cases h:x<y
 · rw [if_pos h]; exact RS.Sh.le_refl _
 · rw [if_neg h]; exact RS.Sh.not_lt.mp h
theorem Zyf (x y:Sh):lesS x y<=y:=by
 unfold lesS
 by_cases h:x<y
 · rw [if_pos h]; exact RS.Sh.le_of_lt h
 · rw [if_neg h]; exact RS.Sh.le_refl _
theorem Zoz (x y:Sh):lesS x y=x\/lesS x y=y:=by
 unfold lesS
 by_cases h:x<y
 · rw [if_pos h]; exact .inl rfl
 · rw [if_neg h]; exact .inr rfl
theorem Z2e (x y:Sh):x<=grtS x y:=by
 unfold grtS
 by_cases h:x<y
 · rw [if_pos h]; exact RS.Sh.le_of_lt h
 · rw [if_neg h]; exact RS.Sh.le_refl _
theorem Z2d (x y:Sh):y<=grtS x y:=by
 unfold grtS
 by_cases h:x<y
 · rw [if_pos h]; exact RS.Sh.le_refl _
 · rw [if_neg h]; exact RS.Sh.not_lt.mp h
theorem Zva (x y:Sh):grtS x y=x\/grtS x y=y:=by
 unfold grtS
 by_cases h:x<y
 · rw [if_pos h]; exact .inr rfl
 · rw [if_neg h]; exact .inl rfl
theorem Zo0:∀ (bs:List Bar) (lo:Sh),leaF lo bs<=lo/\∀ b∈bs,leaF lo bs<=b.1
 | [],lo=>⟨RS.Sh.le_refl _,λ b hb=>by cases hb⟩
 | c::cs,lo=>by
   obtain ⟨h1,h2⟩:=Zo0 cs (lesS lo c.1)
   refine ⟨RS.Sh.le_trans h1 (Zyg _ _),λ b hb=>?_⟩
   rcases List.mem_cons.mp hb with rfl | hb
   · exact RS.Sh.le_trans h1 (Zyf _ _)
   · exact h2 b hb
theorem Zj0:∀ (bs:List Bar) (lo:Sh),leaF lo bs=lo\/∃ b∈bs,leaF lo bs=b.1
 | [],lo=>.inl rfl
 | c::cs,lo=>by
   rcases Zj0 cs (lesS lo c.1) with h | ⟨b,hb,h⟩
   · have h':leaF lo (c::cs)=lesS lo c.1:=h
     rcases Zoz lo c.1 with z | z
     · exact .inl (h'.trans z)
     · exact .inr ⟨c,List.mem_cons_self ..,h'.trans z⟩
   · exact .inr ⟨b,List.mem_cons_of_mem _ hb,h⟩
theorem Zot:∀ (bs:List Bar) (hi:Sh),hi<=mosF hi bs/\∀ b∈bs,b.2<=mosF hi bs
 | [],hi=>⟨RS.Sh.le_refl _,λ b hb=>by cases hb⟩
 | c::cs,hi=>by
   obtain ⟨h1,h2⟩:=Zot cs (grtS hi c.2)
   refine ⟨RS.Sh.le_trans (Z2e _ _) h1,λ b hb=>?_⟩
   rcases List.mem_cons.mp hb with rfl | hb
   · exact RS.Sh.le_trans (Z2d _ _) h1
   · exact h2 b hb
theorem Zjy:∀ (bs:List Bar) (hi:Sh),mosF hi bs=hi\/∃ b∈bs,mosF hi bs=b.2
 | [],hi=>.inl rfl
 | c::cs,hi=>by
   rcases Zjy cs (grtS hi c.2) with h | ⟨b,hb,h⟩
   · have h':mosF hi (c::cs)=grtS hi c.2:=h
     rcases Zva hi c.2 with z | z
     · exact .inl (h'.trans z)
     · exact .inr ⟨c,List.mem_cons_self ..,h'.trans z⟩
   · exact .inr ⟨b,List.mem_cons_of_mem _ hb,h⟩
theorem three {α:Type} {p q:α->Bool}:∀ {l:List α},l.Pairwise (λ a b=>p b=true->p a=true)->l.Pairwise (λ a b=>q a=true->q b=true)->(∀ a∈l,p a=true->q a=true->False)->∃ m,l=l.filter p++(m++l.filter q)/\∀ a∈m,p a=false/\q a=false
 | [],_,_,_=>⟨[],rfl,λ a ha=>by cases ha⟩
 | a::r,hp,hq,hd=>by
   obtain ⟨p1,p2⟩:=List.pairwise_cons.mp hp
   obtain ⟨q1,q2⟩:=List.pairwise_cons.mp hq
   obtain ⟨m,e,no⟩:=three p2 q2 λ x hx=>hd x (List.mem_cons_of_mem _ hx)
   cases pa:p a with
   | true =>
     have qa:q a=false:=by
      cases z:q a with
      | false=>rfl
      | true=>exact (hd a (List.mem_cons_self ..) pa z).elim
     refine ⟨m,?_,no⟩
     rw [List.filter_cons_of_pos pa,List.filter_cons_of_neg (by rw [qa]; decide),List.cons_append,← e]
   | false =>
     have f0:r.filter p=[]:=List.filter_eq_nil_iff.mpr λ x hx z=>by rw [p1 x hx z] at pa; cases pa
     rw [f0,List.nil_append] at e
     rw [List.filter_cons_of_neg (by rw [pa]; decide),f0]
     simp only [List.nil_append]
     cases qa:q a with
     | true =>
       have fr:r.filter q=r:=List.filter_eq_self.mpr λ x hx=>q1 x hx qa
       exact ⟨[],by rw [List.filter_cons_of_pos qa,fr]; rfl,λ x hx=>by cases hx⟩
     | false =>
       refine ⟨a::m,?_,λ x hx=>?_⟩
       · rw [List.filter_cons_of_neg (by rw [qa]; decide),List.cons_append,← e]
       · rcases List.mem_cons.mp hx with rfl | hx
         · exact ⟨pa,qa⟩
         · exact no x hx
structure BarOk (b:Bar):Prop where
 l1:Low b.1
 l2:Low b.2
 b1:Bd 1 b.1
 b2:Bd 1 b.2
 le:b.1<=b.2
structure BarsOk (bs:List Bar):Prop where
 ok:∀ b∈bs,BarOk b
 up:bs.Pairwise λ a b=>a.2<b.1
theorem Zpx:BarsOk []:=⟨λ b hb=>(by cases hb),List.Pairwise.nil⟩
theorem Zfg {bs:List Bar} {lo hi:Sh} (h:BarsOk bs) (le:lo<=hi):bs=belF lo bs++(midF lo hi bs++abvF hi bs)/\∀ b∈midF lo hi bs,¬ b.2<lo/\¬ hi<b.1:=by
 have up2:bs.Pairwise λ a b=>a.2<b.1/\b.1<=b.2/\a.1<=a.2:=by
  refine List.Pairwise.imp_of_mem ?_ h.up
  intro a b ha hb z
  exact ⟨z,(h.ok b hb).le,(h.ok a ha).le⟩
 obtain ⟨m,e,no⟩:=three (p:=λ b:Bar=>decide (b.2<lo)) (q:=λ b:Bar=>decide (hi<b.1)) (l:=bs) (up2.imp λ {a b} z w=>decide_eq_true (Eg (RS.Sh.lt_of_lt_of_le z.1 z.2.1) (of_decide_eq_true w)))
  (up2.imp λ {a b} z w=>decide_eq_true (Eg (of_decide_eq_true w) (U0 z.2.2 z.1)))
  (λ a ha z w=>Zbt (U0 (h.ok a ha).le (Eg (of_decide_eq_true z) (U0 le (of_decide_eq_true w)))))
 have em:midF lo hi bs=m:=by
  have l1:bs.length=(belF lo bs).length+(m.length+(abvF hi bs).length):=by
   have:=congrArg List.length e
   rw [List.length_append,List.length_append] at this
   exact this
  unfold midF
  have e':bs=belF lo bs++(m++abvF hi bs):=e
  rw [show bs.length-(abvF hi bs).length-(belF lo bs).length=m.length by omega]
  generalize belF lo bs=x at e'
  generalize abvF hi bs=y at e'
  rw [e',List.drop_left,List.take_left]
 rw [em]
 exact ⟨e,λ b hb=>⟨of_decide_eq_false (no b hb).1,of_decide_eq_false (no b hb).2⟩⟩
theorem Zzy {bs:List Bar} {lo hi:Sh} (h:BarsOk bs) (k:BarOk (lo,hi)):BarsOk (Kd bs lo hi):=by
 obtain ⟨e,no⟩:=Zfg h k.le
 have sub1:∀ b∈belF lo bs,b∈bs/\b.2<lo:=λ b hb=>⟨(List.mem_filter.mp hb).1,of_decide_eq_true (List.mem_filter.mp hb).2⟩
 have sub2:∀ b∈abvF hi bs,b∈bs/\hi<b.1:=λ b hb=>⟨(List.mem_filter.mp hb).1,of_decide_eq_true (List.mem_filter.mp hb).2⟩
 have subm:∀ b∈midF lo hi bs,b∈bs:=λ b hb=>by rw [e]; simp [hb]
 have up:=h.up
 rw [e] at up
 obtain ⟨u1,u2,u3⟩:=List.pairwise_append.mp up
 obtain ⟨u4,u5,u6⟩:=List.pairwise_append.mp u2
 unfold Kd
 generalize hm:midF lo hi bs=m at subm u2 u3 u4 u6
 generalize belF lo bs=x at sub1 u1 u3
 generalize abvF hi bs=y at sub2 u3 u5 u6
 have l1:=Zo0 m lo
 have m1:=Zot m hi
 have one:BarOk (leaF lo m,mosF hi m):=by
  have a:Low (leaF lo m)/\Bd 1 (leaF lo m):=by
   rcases Zj0 m lo with z | ⟨b,hb,z⟩
   · rw [z]; exact ⟨k.l1,k.b1⟩
   · rw [z]; exact ⟨(h.ok b (subm b hb)).l1,(h.ok b (subm b hb)).b1⟩
  have c:Low (mosF hi m)/\Bd 1 (mosF hi m):=by
   rcases Zjy m hi with z | ⟨b,hb,z⟩
   · rw [z]; exact ⟨k.l2,k.b2⟩
   · rw [z]; exact ⟨(h.ok b (subm b hb)).l2,(h.ok b (subm b hb)).b2⟩
  exact ⟨a.1,c.1,a.2,c.2,RS.Sh.le_trans l1.1 (RS.Sh.le_trans k.le m1.1)⟩
 have xl:∀ b∈x,b.2<leaF lo m:=λ b hb=>by
  rcases Zj0 m lo with z | ⟨c,hc,z⟩
  · rw [z]; exact (sub1 b hb).2
  · rw [z]; exact u3 b hb c (by simp [hc])
 have yl:∀ b∈y,mosF hi m<b.1:=λ b hb=>by
  rcases Zjy m hi with z | ⟨c,hc,z⟩
  · rw [z]; exact (sub2 b hb).2
  · rw [z]; exact u6 c hc b hb
 refine ⟨λ b hb=>?_,?_⟩
 · rw [List.append_assoc,List.mem_append,List.mem_append] at hb
   rcases hb with z | z | z
   · exact h.ok b (sub1 b z).1
   · have:b=(leaF lo m,mosF hi m):=by simpa using z
     rw [this]; exact one
   · exact h.ok b (sub2 b z).1
 · rw [List.append_assoc]
   refine List.pairwise_append.mpr ⟨u1,List.pairwise_append.mpr ⟨by simp,u5,λ a ha b hb=>?_⟩,λ a ha b hb=>?_⟩
   · have:a=(leaF lo m,mosF hi m):=by simpa using ha
     rw [this]; exact yl b hb
   · rcases List.mem_append.mp hb with z | z
     · have:b=(leaF lo m,mosF hi m):=by simpa using z
       rw [this]; exact xl a ha
     · exact u3 a ha b (by simp [z])
def BarAt (H:Hp) (v:V) (b:Bar):Prop:=∃ t u1 u2,v=.ref t/\H t=some (.tup [u1,u2])/\RS.SV H u1 b.1/\RS.SV H u2 b.2
def BarsR (H:Hp) (v:V) (bs:List Bar):Prop:=∃ (p:Addr) (zs:List (V×Bar)),v=.ref p/\H p=some (.lst (zs.map Prod.fst))/\zs.map Prod.snd=bs/\∀ z∈zs,BarAt H z.1 z.2
theorem Xh {H H':Hp} {v:V} {s:Sh} (e:Same H H') (h:RS.SV H v s):RS.SV H' v s:=let ⟨t,a,b⟩:=h; ⟨t,a,e _ _ b⟩
theorem Zff {H H':Hp} {v:V} {b:Bar} (e:Same H H') (h:BarAt H v b):BarAt H' v b:=let ⟨t,u1,u2,a,c,d,f⟩:=h; ⟨t,u1,u2,a,e _ _ c,Xh e d,Xh e f⟩
theorem Qa {H H':Hp} {v:V} {bs:List Bar} (e:Same H H') (h:BarsR H v bs):BarsR H' v bs:=let ⟨p,zs,a,c,d,f⟩:=h; ⟨p,zs,a,e _ _ c,d,λ z hz=>Zff e (f z hz)⟩
def dsS (x y:Int):Sh:=if h:0<x/\0<y then ⟨(x,y),h⟩ else 0
theorem Za4 {x y:Int} (hx:0<x) (hy:0<y):(dsS x y).1=(x,y):=by unfold dsS; rw [dif_pos ⟨hx,hy⟩]
theorem Zni {x y:Int} (hx:0<x) (hy:0<y) (bx:x<=6000000000000000000000000000) (by_:y<=6000000000000000000000000000):Bd 1 (dsS x y):=by
 have p:(2:Int) ^ (150*1)=1427247692705959881058285969449495136382746624:=by decide +kernel
 refine ⟨?_,?_⟩ <;> rw [Za4 hx hy,p] <;> dsimp only <;> omega
theorem J0 {n:Nat} {a b:List Int×List Int} (ga:GoodDay n a) (gb:GoodDay n b) (n6:n<=6):0<dotF a.1 b.2/\dotF a.1 b.2<=6000000000000000000000000000:=by
 have l:b.2.length=a.1.length:=by rw [ga.l1,gb.l2]
 have h1:=dot_bd l ga.pr gb.am
 have h2:=dot_pos l ga.pr gb.am gb.ps
 rw [ga.l1] at h1
 omega
def loS (d:List Int×List Int) (ps sh:List Int):Sh:=lowS (dsS (dotF ps d.2) (dotF ps sh))
def hiS (d:List Int×List Int) (sh:List Int):Sh:=lowS (dsS (dotF d.1 d.2) (dotF d.1 sh))
def dyB (B:List (List Int×List Int)) (i:Nat):List Int×List Int:=B.getD i ([],[])
def Ju (B:List (List Int×List Int)) (i j:Nat) (lo hi:Sh):Bool:=if lo.1=hi.1 then (J2 (Z4 B) i j).isSome else decide (lo<hi)
def X6 (B:List (List Int×List Int)) (i:Nat):List Nat:=(List.range B.length).filter λ j=>inK (Zx (Z4 B) i) j
def barJ (B:List (List Int×List Int)) (ps sh:List Int) (i:Nat) (t:List Bar) (j:Nat):List Bar:=if Ju B i j (loS (dyB B i) ps sh) (hiS (dyB B j) sh)=true then Kd t (loS (dyB B i) ps sh) (hiS (dyB B j) sh) else t
def barI (B:List (List Int×List Int)) (ps sh:List Int) (t:List Bar) (i:Nat):List Bar:=(X6 B i).foldl (barJ B ps sh i) t
def Qk (B:List (List Int×List Int)) (ps sh:List Int):List Bar:=(List.range B.length).foldl (barI B ps sh) []
def Qt (B:List (List Int×List Int)):Bool:=(rngF (cmM (gpF B 1 1) B.length)).isSome
def Zcq (K:Fq) (a b c d:V) (H:Hp) (Q:VK) (E:XK):Prop:=∃ (B:List (List Int×List Int)) (m n i:Nat) (pp pq:Addr) (ps sh:List Int),Rep H a (Xj B)/\GoodBook m n B/\b=.int (i:Nat)/\i<B.length/\c=.ref pp/\H pp=some (.tup (ps.map V.int))/\d=.ref pq/\H pq=some (.tup (sh.map V.int))/\GoodDay n (ps,sh) /\
 ∀ v H',Same H H'->RS.SV H' v (loS (dyB B i) ps sh)->Q v H'
def Vl (K:Fq):Sp:=sp4 (Zcq K)
def Zbw (K:Fq) (mg:Str->Option Value) (a b c:V) (H:Hp) (Q:VK) (E:XK):Prop:=∃ (B:List (List Int×List Int)) (m n i:Nat) (pq:Addr) (ps sh:List Int),Rep H a (Xj B)/\GoodBook m n B/\b=.int (i:Nat)/\i<B.length/\c=.ref pq/\H pq=some (.tup (sh.map V.int))/\GoodDay n (ps,sh) /\
 ∀ v H',Same H H'->RS.SV H' v (hiS (dyB B i) sh)->Q v H'
def Kl (K:Fq) (mg:Str->Option Value):Sp:=sp3 (Zbw K mg)
def Zdt (K:Fq) (mg:Str->Option Value) (a b c d e:V) (H:Hp) (Q:VK) (E:XK):Prop:=∃ (B:List (List Int×List Int)) (m n i j:Nat) (lo hi:Sh),Rep H a (Xj B)/\GoodBook m n B/\m<=8/\b=.int (i:Nat)/\i<B.length/\c=.int (j:Nat)/\j<B.length/\RS.SV H d lo/\RS.SV H e hi/\Bd 1 lo/\Bd 1 hi/\∀ H',Same H H'->Q (.bl (Ju B i j lo hi)) H'
def Gj (K:Fq) (mg:Str->Option Value):Sp:=sp5 (Zdt K mg)
def Zl9 (K:Fq) (a b:V) (H:Hp) (Q:VK) (E:XK):Prop:=∃ x y:Sh,RS.SV H a x/\RS.SV H b y/\Bd 1 x/\Bd 1 y/\∀ v,RS.SV H v (lesS x y)->Q v H
def Zfx (K:Fq):Sp:=sp2 (Zl9 K)
def Zjh (K:Fq) (a b:V) (H:Hp) (Q:VK) (E:XK):Prop:=∃ x y:Sh,RS.SV H a x/\RS.SV H b y/\Bd 1 x/\Bd 1 y/\∀ v,RS.SV H v (grtS x y)->Q v H
def Zef (K:Fq):Sp:=sp2 (Zjh K)
def Zds (K:Fq) (a b c:V) (H:Hp) (Q:VK) (E:XK):Prop:=∃ (bs:List Bar) (lo hi:Sh),BarsR H a bs/\bs.length<=64/\BarsOk bs/\RS.SV H b lo/\RS.SV H c hi/\BarOk (lo,hi)/\∀ v H',Same H H'->BarsR H' v (Kd bs lo hi)->Q v H'
def Gh (K:Fq):Sp:=sp3 (Zds K)
def Zq3 (K:Fq) (mg:Str->Option Value) (a b c:V) (H:Hp) (Q:VK) (E:XK):Prop:=∃ (B:List (List Int×List Int)) (m n:Nat) (pp pq:Addr) (ps sh:List Int),Rep H a (Xj B)/\GoodBook m n B/\m<=8/\b=.ref pp/\H pp=some (.tup (ps.map V.int))/\c=.ref pq/\H pq=some (.tup (sh.map V.int))/\GoodDay n (ps,sh) /\
 (Qt B=false->∀ v H',Same H H'->BarsR H' v (Qk B ps sh)->BarsOk (Qk B ps sh)->(Qk B ps sh).length<=64->Q v H')/\(Qt B=true->∀ H',Same H H'->E (.ref (clsA mg "NoTaste")) none H')
def Uh (K:Fq) (mg:Str->Option Value):Sp:=sp3 (Zq3 K mg)
def divS (k:Int) (s:Sh):Sh:=if h:0<k then lowS ⟨(s.1.1,s.1.2*k),s.2.1,Int.mul_pos s.2.2 h⟩ else s
def divB (k:Int) (b:Bar):Bar:=(divS k b.1,divS k b.2)
def Zfm (K:Fq) (a b:V) (H:Hp) (Q:VK) (E:XK):Prop:=∃ x y:Sh,RS.SV H a x/\RS.SV H b y/\Bd 1 x/\Bd 1 y/\Q (.bl (decide (x<y))) H
def Q5 (K:Fq):Sp:=sp2 (Zfm K)
def Zb0 (K:Fq) (a:V) (H:Hp) (Q:VK) (E:XK):Prop:=∃ s:Sh,RS.SV H a s/\Low s/\Q (.bl true) H
def Wl (K:Fq):Sp:=sp1 (Zb0 K)
def Zb1 (K:Fq) (a:V) (H:Hp) (Q:VK) (E:XK):Prop:=∃ bs:List Bar,BarsR H a bs/\BarsOk bs/\bs.length<=64/\∀ H',Same H H'->Q (.bl true) H'
def Kp (K:Fq):Sp:=sp1 (Zb1 K)
def Ui (K:Fq):Sp:=sp2 (sb_share_of K)
def Zcv (K:Fq) (a b:V) (H:Hp) (Q:VK) (E:XK):Prop:=∃ (bs:List Bar) (k:Int),BarsR H a bs/\BarsOk bs/\bs.length<=64/\b=.int k/\1<=k/\k<=1000/\∀ v H',Same H H'->BarsR H' v (bs.map (divB k))->Q v H'
def Vr (K:Fq):Sp:=sp2 (Zcv K)
def Zfj (K:Fq) (a b:V) (H:Hp) (Q:VK) (E:XK):Prop:=∃ (p:Addr) (ns:List Int) (k:Int),a=.ref p/\H p=some (.tup (ns.map V.int))/\ns.length<=8/\b=.int k/\1<=k/\k<=1000/\∀ q H',Same H H'->H' q=some (.tup ((ns.map (k * ·)).map V.int))->Q (.ref q) H'
def U9 (K:Fq):Sp:=sp2 (Zfj K)
def Z0s (K:Fq) (mg:Str->Option Value):Sp:=sp1 (Zn1 K)
def Vb (K:Fq):TS :=
 (Z7 (Zy (Wu K) [] E0 (Zd (Zy (Jp K) [] E0 (Zd (Zc 2) (Zd (tOp (rIx K) (tOp (rIx K) (Zc 0) (Zc 1)) (tC (.int 1))) Zj))) (Zd (Zy (Jp K) [] E0 (Zd (Zc 2) (Zd (Zc 3) Zj))) Zj))))
def Ke (K:Fq) (mg:Str->Option Value):TS :=
 (Z7 (Zy (Wu K) [] E0 (Zd (Zy (Km K mg) [] E0 (Zd (Zc 0) (Zd (Zc 1) Zj))) (Zd (Zy (Jp K) [] E0 (Zd (tOp (rIx K) (tOp (rIx K) (Zc 0) (Zc 1)) (tC (.int 0))) (Zd (Zc 2) Zj))) Zj))))
def Hz (K:Fq) (mg:Str->Option Value):TS :=
 (Zz (Yt (Yn (tOp (rEqU K) (Zc 3) (Zc 4))) (Z7 (tOp rIsNotU (Zy (Vk K mg) [] E0 (Zd (Zc 0) (Zd (Zc 1) (Zd (Zc 2) Zj)))) (tC .non))) Yo)
  (Z7 (Zy (Yw K) [] E0 (Zd (Zc 3) (Zd (Zc 4) Zj)))))
def Zfu (K:Fq):TS :=
 (Z7 (tIf (Qn K (Zy (Yw K) [] E0 (Zd (Zc 0) (Zd (Zc 1) Zj)))) (Zc 0) (Zc 1)))
def Zea (K:Fq):TS :=
 (Z7 (tIf (Qn K (Zy (Yw K) [] E0 (Zd (Zc 0) (Zd (Zc 1) Zj)))) (Zc 1) (Zc 0)))
def Hw (K:Fq):TS :=
 (Zz (Yi (Xg [none,some 1] (iSeq K (Zc 0)) (Zo 0) (Qn K (Zy (Yw K) [] E0 (Zd (tOp (rIx K) (Zc 0) (tC (.int 1))) (Zd (Zc 1) Zj)))) (Zc 0)) (Zo 3))
  (Zz (Yi (Xg [none,some 2] (iSeq K (Zc 0)) (Zo 0) (Qn K (Zy (Yw K) [] E0 (Zd (Zc 1) (Zd (tOp (rIx K) (Zc 0) (tC (.int 0))) Zj)))) (Zc 0)) (Zo 4))
  (Zz (Yi (Zc 1) (Zo 5))
  (Zz (Yi (Zc 2) (Zo 6))
  (Zz (Qo (iSeq K (tSl (rSlU K) (Zc 0) (Ed (tCB (rLenU K) (Zd (Zc 3) Zj))) (Ed (tOp rSubU (tCB (rLenU K) (Zd (Zc 0) Zj)) (tCB (rLenU K) (Zd (Zc 4) Zj)))))) (Zo 7) (Zz (Yi (Zy (Zfx K) [] E0 (Zd (Zc 5) (Zd (tOp (rIx K) (Zc 7) (tC (.int 0))) Zj))) (Zo 5))
  (Yi (Zy (Zef K) [] E0 (Zd (Zc 6) (Zd (tOp (rIx K) (Zc 7) (tC (.int 1))) Zj))) (Zo 6))))
  (Z7 (tOp (rAddU K) (tOp (rAddU K) (Zc 3) (Wy (Zd (Jw (Zd (Zc 5) (Zd (Zc 6) Zj))) Zj))) (Zc 4))))))))
def Zk0 (K:Fq) (mg:Str->Option Value) (E:XK):TS :=
 (Zz (Yt (Yn (tOp (rEqU K) (tOp (rIx K) (Zy (Ux K mg) [.non] E0 (Zd (Zc 0) Zj)) (tC (.int 0))) (tC (.str "ring")))) (Zfw E (.ref (clsA mg "NoTaste")) (Zd (tC (.str "no taste explains the book")) Zj)) Yo)
  (Zz (Yi (Wy Zj) (Zo 3))
  (Zz (Qo (Xz (Zd (tCB (rLenU K) (Zd (Zc 0) Zj)) Zj)) (Zo 4) (Zz (Yi (Zy (Vl K) [] E0 (Zd (Zc 0) (Zd (Zc 4) (Zd (Zc 1) (Zd (Zc 2) Zj))))) (Zo 5))
  (Qo (iSeq K (Zy (Zee K mg) [] E0 (Zd (Zc 0) (Zd (Zc 4) Zj)))) (Zo 6) (Zz (Yi (Zy (Kl K mg) [] E0 (Zd (Zc 0) (Zd (Zc 6) (Zd (Zc 2) Zj)))) (Zo 7))
  (Yt (Qn K (Zy (Gj K mg) [] E0 (Zd (Zc 0) (Zd (Zc 4) (Zd (Zc 6) (Zd (Zc 5) (Zd (Zc 7) Zj))))))) (Yi (Zy (Gh K) [] E0 (Zd (Zc 3) (Zd (Zc 5) (Zd (Zc 7) Zj)))) (Zo 3)) Yo)))))
  (Z7 (Zc 3)))))
def Gb (K:Fq):TS :=
 (Zz (Yi (Zy (J3 K) [] E0 (Zd (Zc 0) (Zd (Zc 1) Zj))) (Zo 2))
  (Z7 (Jw (Zd (tOp rDivU (Zc 0) (Zc 2)) (Zd (tOp rDivU (Zc 1) (Zc 2)) Zj)))))
def Zac (K:Fq):TS :=
 (Z7 (tOp rLtU (tOp (rMulU K) (tOp (rIx K) (Zc 0) (tC (.int 0))) (tOp (rIx K) (Zc 1) (tC (.int 1)))) (tOp (rMulU K) (tOp (rIx K) (Zc 1) (tC (.int 0))) (tOp (rIx K) (Zc 0) (tC (.int 1))))))
def Kg (K:Fq):TS :=
 (Zz (Yt (tOr (Jx (Qn K (tCB (rIsinst K) (Zd (Zc 0) (Zd (tC (.ty "tuple")) Zj))))) (tOr (Yn (tOp (rNeU K) (tCB (rLenU K) (Zd (Zc 0) Zj)) (tC (.int 2)))) (tOr (Jx (Qn K (Zy (Jc K) [] E0 (Zd (tOp (rIx K) (Zc 0) (tC (.int 0))) Zj)))) (Jx (Qn K (Zy (Jc K) [] E0 (Zd (tOp (rIx K) (Zc 0) (tC (.int 1))) Zj))))))) (Z7 (tC (.bl false))) Yo)
  (Z7 (Zco (tOp rGeU (tOp (rIx K) (Zc 0) (tC (.int 0))) (tC (.int 1))) (Zco (tOp rGeU (tOp (rIx K) (Zc 0) (tC (.int 1))) (tC (.int 1))) (tOp (rEqU K) (Zy (J3 K) [] E0 (Zd (tOp (rIx K) (Zc 0) (tC (.int 0))) (Zd (tOp (rIx K) (Zc 0) (tC (.int 1))) Zj))) (tC (.int 1)))))))
def Kh (K:Fq):TS :=
 (Zz (Yt (Jx (Qn K (tCB (rIsinst K) (Zd (Zc 0) (Zd (tC (.ty "list")) Zj))))) (Z7 (tC (.bl false))) Yo)
  (Zz (Qo (iSeq K (Zc 0)) (Zo 1) (Zz (Yt (tOr (Jx (Qn K (tCB (rIsinst K) (Zd (Zc 1) (Zd (tC (.ty "tuple")) Zj))))) (tOr (Yn (tOp (rNeU K) (tCB (rLenU K) (Zd (Zc 1) Zj)) (tC (.int 2)))) (tOr (Jx (Qn K (Zy (Wl K) [] E0 (Zd (tOp (rIx K) (Zc 1) (tC (.int 0))) Zj)))) (Jx (Qn K (Zy (Wl K) [] E0 (Zd (tOp (rIx K) (Zc 1) (tC (.int 1))) Zj))))))) (Z7 (tC (.bl false))) Yo)
  (Yt (Qn K (Zy (Q5 K) [] E0 (Zd (tOp (rIx K) (Zc 1) (tC (.int 1))) (Zd (tOp (rIx K) (Zc 1) (tC (.int 0))) Zj)))) (Z7 (tC (.bl false))) Yo)))
  (Zz (Qo (Zj6 K (Zd (tSl (rSlU K) (Zc 0) K5 (Ed (tUn rNegU (tC (.int 1))))) (Zd (tSl (rSlU K) (Zc 0) (Ed (tC (.int 1))) K5) Zj))) (K3 K 2 (Xo (Zo 2) (Xo (Zo 3) K4))) (Yt (Jx (Qn K (Zy (Q5 K) [] E0 (Zd (tOp (rIx K) (Zc 2) (tC (.int 1))) (Zd (tOp (rIx K) (Zc 3) (tC (.int 0))) Zj))))) (Z7 (tC (.bl false))) Yo))
  (Z7 (tC (.bl true))))))
def Vi (K:Fq):TS :=
 (Z7 (Xg [none,none,some 1] (iSeq K (Zc 0)) (K3 K 2 (Xo (Zo 0) (Xo (Zo 1) K4))) Qd (Jw (Zd (Zy (Ui K) [] E0 (Zd (tOp (rIx K) (Zc 0) (tC (.int 0))) (Zd (tOp (rMulU K) (tOp (rIx K) (Zc 0) (tC (.int 1))) (Zc 2)) Zj))) (Zd (Zy (Ui K) [] E0 (Zd (tOp (rIx K) (Zc 1) (tC (.int 0))) (Zd (tOp (rMulU K) (tOp (rIx K) (Zc 1) (tC (.int 1))) (Zc 2)) Zj))) Zj)))))
def Ez (K:Fq):TS :=
 (Z7 (tCB (rTy_tuple K) (Zd (Xg [none,some 1] (iSeq K (Zc 0)) (Zo 0) Qd (tOp (rMulU K) (Zc 1) (Zc 0))) Zj)))
def Znr (K:Fq) (mg:Str->Option Value):TS :=
 (Zz (Yi (Zy (Zbq K) [] E0 (Zd (Zc 0) (Zd (tC (.int 4)) (Zd (tC (.int 6)) (Zd (tC (.int 4)) Zj))))) (Zo 1))
  (Zz (Yi (Zy (Qw K) [] E0 (Zd (Zc 0) (Zd (tC (.int 1)) Zj))) (Zo 2))
  (Zz (Yi (Zy (Uz K) [] E0 (Zd (Zy (Qw K) [] E0 (Zd (Zc 0) (Zd (tC (.int 2)) Zj))) (Zd (tOp (rIx K) (Wy (Zd (tC (.int 0)) (Zd (tC (.int 0)) (Zd (tC (.int 1)) (Zd (tC (.int 2)) Zj))))) (tOp rModU (Zc 2) (tC (.int 4)))) (Zd (Xg [none] (iSeq K (tOp (rIx K) (tOp (rIx K) (Zc 1) (tC (.int 0))) (tC (.int 0)))) (Zo 0) Qd (tC (.int 1))) Zj)))) (K3 K 2 (Xo (Zo 3) (Xo (Zo 4) K4))))
  (Zz (Yt (Yn (tOp (rEqU K) (tOp rModU (tOp rDivU (Zc 2) (tC (.int 4))) (tC (.int 2))) (tC (.int 1)))) (Yi (tOp (rIx K) (Zc 1) (tOp rModU (tOp rDivU (Zc 2) (tC (.int 16))) (tCB (rLenU K) (Zd (Zc 1) Zj)))) (K3 K 2 (Xo (Zo 3) (Xo (Zo 4) K4)))) Yo)
  (Zz (Yi (Zy (Vo K) [] E0 (Zd (Zy (Ux K mg) [.non] E0 (Zd (Zc 1) Zj)) (Zd (Zc 1) (Zd (Jw (Zd (tC (.int 1)) (Zd (tC (.int 1)) Zj))) Zj)))) (Zo 5))
  (Zz (Yt (Yn (tOp (rNeU K) (Zc 5) (tC (.str "taste")))) (Z7 (tOp (rEqU K) (Zc 5) (tC (.str "ring")))) Yo)
  (Zz (Yi (Zy (Uh K mg) [] E0 (Zd (Zc 1) (Zd (Zc 3) (Zd (Zc 4) Zj)))) (Zo 6))
  (Zz (Yi (tOp rModU (tOp rDivU (Zc 2) (tC (.int 64))) (tCB (rLenU K) (Zd (Zc 1) Zj))) (Zo 7))
  (Zz (Yi (tOp (rAddU K) (tSl (rSlV K) (Zc 1) (Ed (Zc 7)) K5) (tSl (rSlV K) (Zc 1) K5 (Ed (Zc 7)))) (Zo 8))
  (Zz (Yt (Yn (tOp (rEqU K) (tOp rModU (tOp rDivU (Zc 2) (tC (.int 8))) (tC (.int 2))) (tC (.int 1)))) (Yi (Zk1 K (Zd (Zc 1) Zj)) (Zo 8)) Yo)
  (Zz (Yt (tOr (Jx (Qn K (Zy (Kp K) [] E0 (Zd (Zc 6) Zj)))) (Yn (tOp (rNeU K) (Zy (Uh K mg) [] E0 (Zd (Zc 8) (Zd (Zc 3) (Zd (Zc 4) Zj)))) (Zc 6)))) (Z7 (tC (.bl false))) Yo)
  (Zz (Yi (tOp (rAddU K) (tC (.int 1)) (tOp rModU (Zy (Qw K) [] E0 (Zd (Zc 0) (Zd (tC (.int 3)) Zj))) (tC (.int 1000)))) (Zo 9))
  (Zz (Yt (Yn (tOp (rNeU K) (Zy (Uh K mg) [] E0 (Zd (Zc 1) (Zd (Zc 3) (Zd (Zy (U9 K) [] E0 (Zd (Zc 4) (Zd (Zc 9) Zj))) Zj)))) (Zy (Vr K) [] E0 (Zd (Zc 6) (Zd (Zc 9) Zj))))) (Z7 (tC (.bl false))) Yo)
  (Zz (Yt (Zbn (Yn (tOp rLeU (tOp (rMulU K) (tCB (Zx4 K) (Zd (Zc 3) Zj)) (Zc 9)) (tC (.int 1000000000)))) (Yn (tOp (rNeU K) (Zy (Uh K mg) [] E0 (Zd (Zc 1) (Zd (Zy (U9 K) [] E0 (Zd (Zc 3) (Zd (Zc 9) Zj))) (Zd (Zc 4) Zj)))) (Zc 6)))) (Z7 (tC (.bl false))) Yo)
  (Zz (Yi (tOp (rIx K) (Zc 1) (tOp rModU (tOp rDivU (Zc 2) (tC (.int 16))) (tCB (rLenU K) (Zd (Zc 1) Zj)))) (Zo 10))
  (Zz (Qo (iSeq K (Zy (Uh K mg) [] E0 (Zd (Zc 1) (Zd (tOp (rIx K) (Zc 10) (tC (.int 0))) (Zd (tOp (rIx K) (Zc 10) (tC (.int 1))) Zj))))) (K3 K 2 (Xo (Zo 11) (Xo (Zo 12) K4))) (Yt (Zbn (Jx (Qn K (Zy (Q5 K) [] E0 (Zd (Jw (Zd (tC (.int 1)) (Zd (tC (.int 1)) Zj))) (Zd (Zc 11) Zj))))) (Jx (Qn K (Zy (Q5 K) [] E0 (Zd (Zc 12) (Zd (Jw (Zd (tC (.int 1)) (Zd (tC (.int 1)) Zj))) Zj)))))) (Z7 (tC (.bl false))) Yo))
  (Z7 (tOp (rEqU K) (Zy (Uh K mg) [] E0 (Zd (Zc 1) (Zd (Zc 3) (Zd (Zc 4) Zj)))) (Zc 6)))))))))))))))))))
def top (i:Nat):Stmt:=PySem.Challenge.pw_tastesbook_k73_bars_scaled.main.body.getD i (.Pass ⟨0,0,0,0⟩)
structure Md (K:Fq) (mg:Str->Option Value):Prop where
 b_bool:mg "bool"=none
 b_enumerate:mg "enumerate"=none
 b_int:mg "int"=none
 b_isinstance:mg "isinstance"=none
 b_len:mg "len"=none
 b_list:mg "list"=none
 b_max:mg "max"=none
 b_min:mg "min"=none
 b_range:mg "range"=none
 b_reversed:mg "reversed"=none
 b_set:mg "set"=none
 b_sorted:mg "sorted"=none
 b_sum:mg "sum"=none
 b_tuple:mg "tuple"=none
 b_zip:mg "zip"=none
 c_AS_GOOD:∃ t,mg "AS_GOOD"=some (.int 1 t)
 c_BETTER:∃ t,mg "BETTER"=some (.int 2 t)
 c_NEITHER:∃ t,mg "NEITHER"=some (.int 0 t)
 x_NoDay:ExC K mg "NoDay" (clsA mg "NoDay")
 x_NoTaste:ExC K mg "NoTaste" (clsA mg "NoTaste")
 s_NoDay_NoDay:PySem.W.mroIn K (clsA mg "NoDay") (.ref (clsA mg "NoDay"))=some true
 s_NoTaste_NoTaste:PySem.W.mroIn K (clsA mg "NoTaste") (.ref (clsA mg "NoTaste"))=some true
 v_NoDay:PySem.W.kitOne K (.ref (clsA mg "NoDay")) (.type "ValueError")=some true
 v_NoTaste:PySem.W.kitOne K (.ref (clsA mg "NoTaste")) (.type "ValueError")=some true
theorem Z2b {K:Fq} {mg:Str->Option Value} {h:Heap} {c_NoDay c_NoTaste:Addr} {t_AS_GOOD t_BETTER t_NEITHER:Tok} (X:K.In h) (G:h.Ns mainGlobals mg) (n_NoDay:PySem.W.nsIn K mainGlobals "NoDay"=some (some (.ref c_NoDay))) (n_NoTaste:PySem.W.nsIn K mainGlobals "NoTaste"=some (some (.ref c_NoTaste))) (q_NoDay:PySem.W.excIn K c_NoDay bmV "ValueError.__new__"=true) (q_NoTaste:PySem.W.excIn K c_NoTaste bmV "ValueError.__new__"=true) (s_NoDay_NoDay:PySem.W.mroIn K c_NoDay (.ref c_NoDay)=some true) (s_NoTaste_NoTaste:PySem.W.mroIn K c_NoTaste (.ref c_NoTaste)=some true) (v_NoDay:PySem.W.kitOne K (.ref c_NoDay) (.type "ValueError")=some true) (v_NoTaste:PySem.W.kitOne K (.ref c_NoTaste) (.type "ValueError")=some true) (z_bool:PySem.W.nsIn K mainGlobals "bool"=some none) (z_enumerate:PySem.W.nsIn K mainGlobals "enumerate"=some none) (z_int:PySem.W.nsIn K mainGlobals "int"=some none) (z_isinstance:PySem.W.nsIn K mainGlobals "isinstance"=some none) (z_len:PySem.W.nsIn K mainGlobals "len"=some none) (z_list:PySem.W.nsIn K mainGlobals "list"=some none) (z_max:PySem.W.nsIn K mainGlobals "max"=some none) (z_min:PySem.W.nsIn K mainGlobals "min"=some none) (z_range:PySem.W.nsIn K mainGlobals "range"=some none) (z_reversed:PySem.W.nsIn K mainGlobals "reversed"=some none) (z_set:PySem.W.nsIn K mainGlobals "set"=some none) (z_sorted:PySem.W.nsIn K mainGlobals "sorted"=some none) (z_sum:PySem.W.nsIn K mainGlobals "sum"=some none) (z_tuple:PySem.W.nsIn K mainGlobals "tuple"=some none) (z_zip:PySem.W.nsIn K mainGlobals "zip"=some none) (y_AS_GOOD:PySem.W.nsIn K mainGlobals "AS_GOOD"=some (some (.int 1 t_AS_GOOD))) (y_BETTER:PySem.W.nsIn K mainGlobals "BETTER"=some (some (.int 2 t_BETTER))) (y_NEITHER:PySem.W.nsIn K mainGlobals "NEITHER"=some (some (.int 0 t_NEITHER))):Md K mg:=by
 have e_NoDay:clsA mg "NoDay"=c_NoDay:=by unfold clsA; rw [PySem.W.mg_of X G n_NoDay]
 have e_NoTaste:clsA mg "NoTaste"=c_NoTaste:=by unfold clsA; rw [PySem.W.mg_of X G n_NoTaste]
 exact ⟨PySem.W.mg_none_of X G z_bool,PySem.W.mg_none_of X G z_enumerate,PySem.W.mg_none_of X G z_int,PySem.W.mg_none_of X G z_isinstance,PySem.W.mg_none_of X G z_len,PySem.W.mg_none_of X G z_list,PySem.W.mg_none_of X G z_max,PySem.W.mg_none_of X G z_min,PySem.W.mg_none_of X G z_range,PySem.W.mg_none_of X G z_reversed,PySem.W.mg_none_of X G z_set,PySem.W.mg_none_of X G z_sorted,PySem.W.mg_none_of X G z_sum,PySem.W.mg_none_of X G z_tuple,PySem.W.mg_none_of X G z_zip,⟨_,PySem.W.mg_of X G y_AS_GOOD⟩,⟨_,PySem.W.mg_of X G y_BETTER⟩,⟨_,PySem.W.mg_of X G y_NEITHER⟩,e_NoDay ▸ ⟨PySem.W.mg_of X G n_NoDay,q_NoDay⟩,e_NoTaste ▸ ⟨PySem.W.mg_of X G n_NoTaste,q_NoTaste⟩,by rw [e_NoDay]; exact s_NoDay_NoDay,by rw [e_NoTaste]; exact s_NoTaste_NoTaste,by rw [e_NoDay]; exact v_NoDay,by rw [e_NoTaste]; exact v_NoTaste⟩
theorem Zb9 {K:Fq} {mg:Str->Option Value} (M:Md K mg) {a b:V} {H:Hp} {Q:VK} {E:XK} (h:Zby K mg a b H Q E):Ve K mg E (Rt Q) [some a,some b] H:=LB.Zb9 h
theorem Zla {K:Fq} {mg:Str->Option Value} (M:Md K mg) {a b c:V} {H:Hp} {Q:VK} {E:XK} (h:Zk6 K mg a b c H Q E):Zg4 K mg E (Rt Q) [some a,some b,some c] H:=LB.Zla h
theorem Zh6 {K:Fq} {mg:Str->Option Value} (M:Md K mg) {a b:V} {H:Hp} {Q:VK} {E:XK} (h:Zhz K mg a b H Q E):Zd8 K mg E (Rt Q) [some a,some b] H:=LB.Zh6 h
theorem Zeu {K:Fq} {mg:Str->Option Value} (M:Md K mg) {a b c:V} {H:Hp} {Q:VK} {E:XK} (h:Zel K mg a b c H Q E):Zaw K mg E (Rt Q) [some a,some b,some c] H:=LB.Zeu h
theorem Zao {K:Fq} {mg:Str->Option Value} (M:Md K mg) {a b:V} {H:Hp} {Q:VK} {E:XK} (h:Zag K mg a b H Q E):U7 K mg (Rt Q) [some a,some b] H:=LB.Zao h
theorem Zdh {K:Fq} {mg:Str->Option Value} (M:Md K mg) {a:V} {H:Hp} {Q:VK} {E:XK} (h:Zc5 K mg a H Q E):Ec K mg (Rt Q) [some a] H:=LB.Zdh h
theorem Zes {K:Fq} {mg:Str->Option Value} (M:Md K mg) {a b:V} {H:Hp} {Q:VK} {E:XK} (h:Zej K mg a b H Q E):Zau K mg E (Rt Q) [some a,some b] H:=LB.Zes h
theorem Vz {K:Fq} {mg:Str->Option Value} (M:Md K mg) {a b c:V} {H:Hp} {Q:VK} {E:XK} (h:Vt K mg a b c H Q E):W2 K mg E (Rt Q) [some a,some b,some c,none,none,none,none] H:=LB.Vz h
theorem Zb8 {K:Fq} {mg:Str->Option Value} (M:Md K mg) {a b c:V} {H:Hp} {Q:VK} {E:XK} (h:Zbx K mg a b c H Q E):Vc K mg (Rt Q) [some a,some b,some c,none] H:=LB.TS.Zb8 h
theorem Zet {K:Fq} {mg:Str->Option Value} (M:Md K mg) {a b:V} {H:Hp} {Q:VK} {E:XK} (h:Zek K mg a b H Q E):Zav K mg (Rt Q) [some a,some b] H:=LB.TS.Zet h
theorem Zdg {K:Fq} {mg:Str->Option Value} (M:Md K mg) {a b:V} {H:Hp} {Q:VK} {E:XK} (h:Zc4 K mg a b H Q E):Eb K mg (Rt Q) [some a,some b,none,none,none] H:=LB.TS.Zdg h
theorem Ks {K:Fq} {a b:V} {H:Hp} {Q:VK} {E:XK} (h:RS.Kq K a b H Q E):tb_is_less_share K (Rt Q) [some a,some b] H:=RS.Ks h
theorem Uw {x:Int} (h:0<x):∃ m:Nat,x=(m:Int):=⟨x.toNat,by omega⟩
theorem Zi3 {i j:Int} {H:Hp} {Q:VK} (h0:0<j) (h1:j<2 ^ 9000) (h:Q (.int (i / j)) H):rDivU (.int i) (.int j) H Q:=⟨i,j,rfl,rfl,CDivB.of h0 h1,h⟩
theorem Zrx {n:Nat} {s:Sh} (h:Bd n s) (hn:n<=40):gI s<2 ^ 9000:=by
 have h1:gI s<=s.1.1:=Int.le_of_dvd s.2.1 (g_l s)
 have h2:=RS.Zom (show 150*n<=9000 by omega)
 exact Int.lt_of_le_of_lt h1 (Int.lt_of_lt_of_le h.1 h2)
theorem Zqa {K:Fq} {a b:V} {H:Hp} {Q:VK} {E:XK} (h:sb_share_of K a b H Q E):Zc0 K (Rt Q) [some a,some b,none] H:=by
 obtain ⟨s,n,rfl,rfl,hb,hn,q⟩:=h
 unfold Zc0
 obtain ⟨x,hx⟩:=Uw s.2.1
 obtain ⟨y,hy⟩:=Uw s.2.2
 have g0:=Znh s
 have g1:=Zrx hb hn
 refine Zr (Z9 (Zv (Zb (Za rfl (Zb (Za rfl (Zg ⟨_,_,rfl,x,y,by rw [hx],by rw [hy],Zq ?_⟩)))))))
 have e:((Nat.gcd x y:Nat):Int)=gI s:=by unfold gI; rw [hx,hy]; rfl
 rw [e]
 exact Yc (Wh (Zb (Zh (Za rfl (Za rfl (Zi3 g0 g1 (Zb (Zh (Za rfl (Za rfl (Zi3 g0 g1 (Zg ⟨by show 2<=sizeLine; decide,λ p hp=>q p hp⟩))))))))))))
theorem kit_list {K:Fq}:PySem.W.kitOne K (.type "list") (.type "list")=some true:=by kernel_rfl
theorem Zuf {X:Cx} {st:Stmt} {t:TS} (h:PS X.nox st t):PS X st t:=λ pins s σ H D I hw=>wpAny_mono (h pins s σ H D (I.wish _) hw) (λ _ _ q=>q.unwish) λ _ _ z=>False.elim z
theorem Zjn {K:Fq} {a b c d:V} {H:Hp} {Q:VK} {E:XK} (h:Zcq K a b c d H Q E):Vb K (Rt Q) [some a,some b,some c,some d] H:=by
 obtain ⟨B,m,n,i,pp,pq,ps,sh,rB,g,rfl,hi,rfl,hp,rfl,hq,gd,q⟩:=h
 obtain ⟨bp,xs,rfl,hb,hl,dd⟩:=Qs rB
 obtain ⟨u,u1,u2,f1,f2,f3,f4⟩:=dd i hi
 have gD:GoodDay n (dyB B i):=Xq g.dy hi
 have n6:=g.n6
 replace f4:H u2=some (.tup ((dyB B i).2.map V.int)):=f4
 have b1:=J0 (a:=(ps,sh)) gd gD n6
 have b2:=J0 (a:=(ps,sh)) gd gd n6
 unfold Vb
 refine Yc (Zv (Zb (Zv (Zb (Za rfl (Zb (Zh (Zh (Za rfl (Za rfl (Yd (SqT.of hb) (Xv f1) (w_c (Yd (v:=.ref u2) (SqT.of f2) rfl (Zg ⟨_,_,rfl,pp,u2,ps,(dyB B i).2,rfl,rfl,hp,f4,by rw [gD.l2,← gd.l1],by rw [show ps.length=n from gd.l1]; omega,gd.pr,λ H1 s1=>?_⟩))))))))))))))
 refine Zb (Zv (Zb (Za rfl (Zb (Za rfl (Zg ⟨_,_,rfl,pp,pq,ps,sh,rfl,rfl,s1 _ _ hp,s1 _ _ hq,by rw [show sh.length=n from gd.l2,show ps.length=n from gd.l1],by rw [show ps.length=n from gd.l1]; omega,gd.pr,λ H2 s2=>Zg ?_⟩))))))
 have e:=Za4 b1.1 b2.1
 refine ⟨_,_,rfl,dsS (dotF ps (dyB B i).2) (dotF ps sh),1,?_,?_,Zni b1.1 b2.1 b1.2 b2.2,by decide,λ t ht=>q _ _ ((s1.trans s2).laidT ht) ⟨t,rfl,Zn⟩⟩
 · rw [e]
 · rw [e]
theorem Zh5 {K:Fq} {mg:Str->Option Value} (M:Md K mg) {a b c:V} {H:Hp} {Q:VK} {E:XK} (h:Zbw K mg a b c H Q E):Ke K mg (Rt Q) [some a,some b,some c] H:=by
 obtain ⟨B,m,n,i,pq,ps,sh,rB,g,rfl,hi,rfl,hq,gd,q⟩:=h
 obtain ⟨bp,xs,rfl,hb,hl,dd⟩:=Qs rB
 obtain ⟨u,u1,u2,f1,f2,f3,f4⟩:=dd i hi
 have gD:GoodDay n (dyB B i):=Xq g.dy hi
 have n6:=g.n6
 replace f3:H u1=some (.tup ((dyB B i).1.map V.int)):=f3
 have b1:=J0 gD gD n6
 have b2:=J0 (b:=(ps,sh)) gD gd n6
 have id':InB B (i:Nat):=⟨by omega,by omega⟩
 unfold Ke
 refine Yc (Zv (Zb (Zv (Zb (Za rfl (Zb (Za rfl (Zg ⟨_,_,rfl,B,m,n,i,rB,g,rfl,λ _ H1 s1=>?_,λ z=>absurd id' z⟩))))))))
 have e0:Qj B ((i:Nat):Int).toNat ((i:Nat):Int).toNat=dotF (dyB B i).1 (dyB B i).2:=rfl
 rw [e0]
 refine Zb (Zv (Zb (Zh (Zh (Za rfl (Za rfl (Yd (SqT.of (s1 _ _ hb)) (Xv f1) (w_c (Yd (v:=.ref u1) (SqT.of (s1 _ _ f2)) rfl (Zb (Za rfl (Zg ⟨_,_,rfl,u1,pq,(dyB B i).1,sh,rfl,rfl,s1 _ _ f3,s1 _ _ hq,by rw [show sh.length=n from gd.l2,gD.l1],by rw [gD.l1]; omega,gD.pr,λ H2 s2=>Zg ?_⟩))))))))))))
 have e:=Za4 b1.1 b2.1
 refine ⟨_,_,rfl,dsS (dotF (dyB B i).1 (dyB B i).2) (dotF (dyB B i).1 sh),1,?_,?_,Zni b1.1 b2.1 b1.2 b2.2,by decide,λ t ht=>q _ _ ((s1.trans s2).laidT ht) ⟨t,rfl,Zn⟩⟩
 · rw [e]
 · rw [e]
theorem rep2 {H:Hp} {u:Addr} {x y:Int} (h:H u=some (.tup [.int x,.int y])):Rep H (.ref u) (.tuple [.int x,.int y]):=Zg5 h (Et Zq6 (Et Zq6 Zn8))
theorem Zlb {K:Fq} {mg:Str->Option Value} (M:Md K mg) {a b c d e:V} {H:Hp} {Q:VK} {E:XK} (h:Zdt K mg a b c d e H Q E):Hz K mg (Rt Q) [some a,some b,some c,some d,some e] H:=by
 obtain ⟨B,m,n,i,j,lo,hi,rB,g,m8,rfl,hi',rfl,hj,svl,svh,bl,bh,q⟩:=h
 obtain ⟨tl,rfl,hl⟩:=id svl
 obtain ⟨th,rfl,hh⟩:=id svh
 have idi:InB B (i:Nat):=⟨by omega,by omega⟩
 have idj:InB B (j:Nat):=⟨by omega,by omega⟩
 unfold Hz
 refine Zr (Yp (Yj (Zh (Za rfl (Za rfl (.inr ⟨_,_,rep2 hl,rep2 hh,rfl,rfl,by simp [PyData.depth,PyData.depthAll],Yq ?_⟩))))))
 have ev:PyData.eqv (.tuple [.int lo.1.1,.int lo.1.2]) (.tuple [.int hi.1.1,.int hi.1.2])=(lo.1.1 == hi.1.1 && lo.1.2 == hi.1.2):=by simp [PyData.eqv,PyData.eqvAll]
 rw [ev]
 unfold Ju at q
 cases eb:(lo.1.1 == hi.1.1 && lo.1.2 == hi.1.2) with
 | true =>
   rw [Bool.and_eq_true,beq_iff_eq,beq_iff_eq] at eb
   rw [if_pos (Prod.ext eb.1 eb.2)] at q
   refine iteT (Yc (Zh (Zv (Zb (Za rfl (Zb (Za rfl (Zb (Za rfl (Zg ⟨_,_,_,rfl,B,m,n,i,j,rB,g,m8,rfl,rfl,λ _ _ v H1 s1 hv=>w_c (Znp ?_),λ z=>absurd ⟨idi,idj⟩ z⟩))))))))))
   rcases hv with ⟨no,rfl⟩ | ⟨c,p,yes,_,rfl,_⟩
   · rw [show J2 (Z4 B) i j=none from no] at q
     exact q H1 s1
   · rw [show J2 (Z4 B) i j=some c from yes] at q
     exact q H1 s1
 | false =>
   have ne:¬ lo.1=hi.1:=λ z=>by rw [z] at eb; simp at eb
   rw [if_neg ne] at q
   refine iteF (Yk ?_)
   try dsimp only
   exact Yc (Zv (Zb (Za rfl (Zb (Za rfl (Zg ⟨_,_,rfl,lo,hi,1,1,svl,svh,bl,bh,by decide,by decide,q H (Same.refl _)⟩))))))
theorem Zud {K:Fq} {a b:V} {H:Hp} {Q:VK} {E:XK} (h:Zl9 K a b H Q E):Zfu K (Rt Q) [some a,some b] H:=by
 obtain ⟨x,y,sx,sy,bx,by_,q⟩:=h
 unfold Zfu
 refine Yc (Zsj (Xr (Zv (Zb (Za rfl (Zb (Za rfl (Zg ⟨_,_,rfl,x,y,1,1,sx,sy,bx,by_,by decide,by decide,Xa (iteD (λ lt=>?_) λ ge=>?_)⟩))))))))
 · exact Za rfl (q _ (by unfold lesS; rw [if_pos lt]; exact sx))
 · exact Za rfl (q _ (by unfold lesS; rw [if_neg ge]; exact sy))
theorem Zsy {K:Fq} {a b:V} {H:Hp} {Q:VK} {E:XK} (h:Zjh K a b H Q E):Zea K (Rt Q) [some a,some b] H:=by
 obtain ⟨x,y,sx,sy,bx,by_,q⟩:=h
 unfold Zea
 refine Yc (Zsj (Xr (Zv (Zb (Za rfl (Zb (Za rfl (Zg ⟨_,_,rfl,x,y,1,1,sx,sy,bx,by_,by decide,by decide,Xa (iteD (λ lt=>?_) λ ge=>?_)⟩))))))))
 · exact Za rfl (q _ (by unfold grtS; rw [if_pos lt]; exact sy))
 · exact Za rfl (q _ (by unfold grtS; rw [if_neg ge]; exact sx))
theorem Zmm {K:Fq} {a:Addr} {zs:List (V×Bar)} {l:List (Option Nat)} {te:TE} {tc:TT} {σ σr:St} {H1:Hp} {Q:Hp->Prop} (ha:H1 a=some (.lst (zs.map Prod.fst))) (D:Addr) (f:Bar->Bool) (hn:zs.length<=1000) (hD:H1 D=none) (hini:∃ r0,Xn l σ=r0::σr)
 (ht:∀ z H (R:Bool->Hp->Prop),z∈zs->Same H1 H->R (f z.2) H->tc (some z.1::σr) H R)
 (hs:∀ z H (R:VK),z∈zs->Same H1 H->R z.1 H->te (some z.1::σr) H R)
 (hd:∀ H,Same H1 H->H D=some (.lst ((zs.filter λ z=>f z.2).map Prod.fst))->Q H) :
 ∃ W:CompW,(∃ m,W 0 m [] (Xn l σ) (upd H1 D (.lst [])))/\Q7 (Itl K a) (Zo 0) tc te D W Q:=by
 obtain ⟨r0,hini⟩:=hini
 refine Zfd D (zs.map Prod.fst) (λ i ys σ2 H=>i<=zs.length/\ys=((zs.take i).filter λ z=>f z.2).map Prod.fst/\Same H1 H/\∃ r0,σ2=r0::σr) (by rw [List.length_map]; exact hn) (λ i ys σ H h=>?_) ?_ ⟨Nat.zero_le _,rfl,Same.laid hD,r0,hini⟩ ?_ ?_
 · rw [h.2.1,List.length_map]
   exact Nat.le_trans (List.length_filter_le ..) (by rw [List.length_take]; omega)
 · rintro i ys σ2 H ⟨_,_,hs1,_⟩ _
   exact Zj2 (SqL.of (hs1 _ _ ha)) i
 · rintro i x ys σ2 H hx ⟨_,rfl,hs1,r1,rfl⟩ hH
   have hi:i<zs.length:=by
    have:=(List.getElem?_eq_some_iff.mp hx).1
    simpa using this
   have ex:x=zs[i].1:=by
    rw [List.getElem?_map,List.getElem?_eq_getElem hi] at hx
    simpa using hx.symm
   subst ex
   have hm:=List.getElem_mem hi
   refine Zq ?_
   have hr:(zs.take (i+1)).filter (λ z=>f z.2)=(zs.take i).filter (λ z=>f z.2)++[zs[i]].filter (λ z=>f z.2):=by rw [List.take_add_one,List.getElem?_eq_getElem hi,Option.toList_some,List.filter_append]
   refine ht zs[i] H _ hm hs1 (iteB (λ hf=>?_) λ hf=>?_)
   · refine hs zs[i] H _ hm hs1 ⟨hH,hi,?_,hs1.put hD,_,rfl⟩
     have e1:[zs[i]].filter (λ z=>f z.2)=[zs[i]]:=by simp [hf]
     rw [hr,List.map_append,e1]; rfl
   · refine ⟨hH,hi,?_,hs1,_,rfl⟩
     have e1:[zs[i]].filter (λ z=>f z.2)=[]:=by simp [hf]
     rw [hr,List.map_append,e1]; simp
 · rintro ys σ2 H ⟨_,rfl,hs1,_⟩ hH
   rw [List.length_map,List.take_length] at hH
   exact hd H hs1 hH
theorem Zr0 (f:Bar->Bool) (zs:List (V×Bar)):(zs.filter λ z=>f z.2).map Prod.snd=(zs.map Prod.snd).filter f:=by
 rw [List.filter_map]; rfl
theorem Zk9 {K:Fq} {a b c:V} {H:Hp} {Q:VK} {E:XK} (h:Zds K a b c H Q E):Hw K (Rt Q) [some a,some b,some c,none,none,none,none,none] H:=by
 obtain ⟨bs,lo,hi,⟨L,zs,rfl,hL,ez,hz⟩,l64,ok,svl,svh,bk,q⟩:=h
 have lz:zs.length=bs.length:=by rw [← ez,List.length_map]
 have okz:∀ z∈zs,BarOk z.2:=λ z hz'=>ok.ok _ (by rw [← ez]; exact List.mem_map.mpr ⟨z,hz',rfl⟩)
 unfold Hw
 refine Zr (Z9 (Xy (X3 (Za rfl ⟨L,rfl,.inl ⟨⟨_,SqL.of hL⟩,λ D hD=>Zmm (K:=K) (zs:=zs) (σr:=[some b]) hL D (λ x=>decide (x.2<lo)) (by omega) hD ⟨none,rfl⟩ (λ z H1 R hm s1 k=>?_) (λ z H1 R _ _ k=>Za rfl k) λ H1 s1 h1=>Zq ?_⟩⟩))))
 · obtain ⟨t,u1,u2,e,ht,v1,v2⟩:=hz z hm
   rw [e]
   exact Xr (Zv (Zb (Zh (Za rfl (w_c (Yd (v:=u2) (SqT.of (s1 _ _ ht)) rfl (Zb (Za rfl (Zg ⟨_,_,rfl,z.2.2,lo,1,1,Xh s1 v2,Xh s1 svl,(okz z hm).b2,bk.b1,by decide,by decide,Xa k⟩)))))))))
 try dsimp only
 refine Zr (Z9 (Xy (X3 (Za rfl ⟨L,rfl,.inl ⟨⟨_,SqL.of (s1 _ _ hL)⟩,λ D2 hD2=>Zmm (K:=K) (zs:=zs) (σr:=[some c]) (s1 _ _ hL) D2 (λ x=>decide (hi<x.1)) (by omega) hD2 ⟨none,rfl⟩ (λ z H2 R hm s2 k=>?_) (λ z H2 R _ _ k=>Za rfl k) λ H2 s2 h2=>Zq ?_⟩⟩))))
 · obtain ⟨t,u1,u2,e,ht,v1,v2⟩:=hz z hm
   rw [e]
   have s12:=s1.trans s2
   exact Xr (Zv (Zb (Za rfl (Zb (Zh (Za rfl (w_c (Yd (v:=u1) (SqT.of (s12 _ _ ht)) rfl (Zg ⟨_,_,rfl,hi,z.2.1,1,1,Xh s12 svh,Xh s12 v1,bk.b2,(okz z hm).b1,by decide,by decide,Xa k⟩)))))))))
 try dsimp only
 refine Zr (Z9 (Za rfl (Zq ?_)))
 try dsimp only
 refine Zr (Z9 (Za rfl (Zq ?_)))
 try dsimp only
 have s12:=s1.trans s2
 have h12:=s2 _ _ h1
 generalize ex:(zs.filter λ z=>decide (z.2.2<lo))=xs1 at h1 h12
 generalize ey:(zs.filter λ z=>decide (hi<z.2.1))=ys1 at h2
 have bx:xs1.map Prod.snd=belF lo bs:=by rw [← ex,← ez]; exact Zr0 (λ x=>decide (x.2<lo)) zs
 have by_:ys1.map Prod.snd=abvF hi bs:=by rw [← ey,← ez]; exact Zr0 (λ x=>decide (hi<x.1)) zs
 have hx1:∀ z∈xs1,z∈zs:=λ z hm=>by rw [← ex] at hm; exact (List.mem_filter.mp hm).1
 have hy1:∀ z∈ys1,z∈zs:=λ z hm=>by rw [← ey] at hm; exact (List.mem_filter.mp hm).1
 have lx:xs1.length<=zs.length:=by rw [← ex]; exact List.length_filter_le ..
 have ly:ys1.length<=zs.length:=by rw [← ey]; exact List.length_filter_le ..
 refine Zr (Qc (X3 (Zhs (Za rfl (Es (Yl (Zb (Za rfl (Zg (Xp (SqL.of h12) (Zcm (Es (Zh (Yl (Zb (Za rfl (Zg (Xp (SqL.of (s12 _ _ hL)) (Yl (Zb (Za rfl (Zg (Xp (SqL.of h2) (Zbb (Zcm (.inr ⟨L,_,rfl,SqL.of (s12 _ _ hL),λ p3 hp3=>?_⟩))))))))))))))))))))))))))
 have e3:cutV (zs.map Prod.fst) (some ((xs1.map Prod.fst).length:Nat)) (some (((zs.map Prod.fst).length:Nat)-((ys1.map Prod.fst).length:Nat):Int))=((zs.drop xs1.length).take (zs.length-ys1.length-xs1.length)).map Prod.fst:=by
  unfold cutV
  simp only [List.length_map]
  have l1:HT.sIx zs.length 0 (some ((xs1.length:Nat):Int))=xs1.length:=by rw [HT.Za5]; omega
  have l2:HT.sIx zs.length zs.length (some (((zs.length:Nat):Int)-((ys1.length:Nat):Int)))=zs.length-ys1.length:=by
   rw [show ((zs.length:Nat):Int)-((ys1.length:Nat):Int)=((zs.length-ys1.length:Nat):Int) by omega,HT.Za5]; omega
  rw [l1,l2,List.map_take,List.map_drop]
 rw [e3]
 generalize em:(zs.drop xs1.length).take (zs.length-ys1.length-xs1.length)=ms at e3
 have bm:ms.map Prod.snd=midF lo hi bs:=by
  rw [← em,List.map_take,List.map_drop,ez]
  unfold midF
  rw [← bx,← by_,List.length_map,List.length_map,lz]
 have hm1:∀ z∈ms,z∈zs:=λ z hm=>by rw [← em] at hm; exact List.mem_of_mem_drop (List.mem_of_mem_take hm)
 have lm:ms.length<=zs.length:=by rw [← em,List.length_take,List.length_drop]; omega
 have s3:=Same.laid (o:=.lst (ms.map Prod.fst)) hp3
 have g3:=Zn (H:=H2) (a:=p3) (o:=.lst (ms.map Prod.fst))
 generalize upd H2 p3 (.lst (ms.map Prod.fst))=H3 at s3 g3 ⊢
 have s03:=s12.trans s3
 refine ⟨p3,rfl,.inl ⟨⟨_,SqL.of g3⟩,Jj (K:=K) (a:=p3) (xs:=ms.map Prod.fst) (λ i σ H4=>H4=H3/\∃ v5 v6 r7,RS.SV H3 v5 (leaF lo ((ms.take i).map Prod.snd))/\RS.SV H3 v6 (mosF hi ((ms.take i).map Prod.snd))/\Bd 1 (leaF lo ((ms.take i).map Prod.snd))/\Bd 1 (mosF hi ((ms.take i).map Prod.snd))/\σ=[some (.ref L),some b,some c,some (.ref D),some (.ref D2),some v5,some v6,r7]) ⟨rfl,b,c,none,Xh s03 svl,Xh s03 svh,bk.b1,bk.b2,rfl⟩ (λ i σ H4 _ z=>by rw [z.1]; exact SqL.of g3) ?_ ?_⟩⟩
 · rintro i x σ H4 hx ⟨rfl,v5,v6,r7,w5,w6,d5,d6,rfl⟩
   have hi':i<ms.length:=by
    have:=(List.getElem?_eq_some_iff.mp hx).1
    simpa using this
   have exx:x=ms[i].1:=by
    rw [List.getElem?_map,List.getElem?_eq_getElem hi'] at hx
    simpa using hx.symm
   subst exx
   have hmz:=hm1 _ (List.getElem_mem hi')
   obtain ⟨t,u1,u2,e,ht,y1,y2⟩:=hz _ hmz
   have okb:=okz _ hmz
   have er:(ms.take (i+1)).map Prod.snd=(ms.take i).map Prod.snd++[ms[i].2]:=by rw [List.take_add_one,List.getElem?_eq_getElem hi',Option.toList_some,List.map_append]; rfl
   have el:leaF lo ((ms.take (i+1)).map Prod.snd)=lesS (leaF lo ((ms.take i).map Prod.snd)) ms[i].2.1:=by rw [er]; unfold leaF; rw [List.foldl_append]; rfl
   have eh:mosF hi ((ms.take (i+1)).map Prod.snd)=grtS (mosF hi ((ms.take i).map Prod.snd)) ms[i].2.2:=by rw [er]; unfold mosF; rw [List.foldl_append]; rfl
   rw [el,eh]
   generalize leaF lo ((ms.take i).map Prod.snd)=x5 at w5 d5
   generalize mosF hi ((ms.take i).map Prod.snd)=x6 at w6 d6
   rw [e]
   have ht3:=s03 _ _ ht
   refine Zq (Zr (Z9 (Zv (Zb (Za rfl (Zb (Zh (Za rfl (w_c (Yd (v:=u1) (SqT.of ht3) rfl (Zg ⟨_,_,rfl,x5,_,w5,Xh s03 y1,d5,okb.b1,λ v7 w7=>Zq ?_⟩)))))))))))
   try dsimp only
   refine Z9 (Zv (Zb (Za rfl (Zb (Zh (Za rfl (w_c (Yd (v:=u2) (SqT.of ht3) rfl (Zg ⟨_,_,rfl,x6,_,w6,Xh s03 y2,d6,okb.b2,λ v8 w8=>Zq ?_⟩)))))))))
   refine ⟨rfl,v7,v8,_,w7,w8,?_,?_,rfl⟩
   · rcases Zoz x5 ms[i].2.1 with z | z
     · rw [z]; exact d5
     · rw [z]; exact okb.b1
   · rcases Zva x6 ms[i].2.2 with z | z
     · rw [z]; exact d6
     · rw [z]; exact okb.b2
 · rintro σ H4 ⟨rfl,v5,v6,r7,w5,w6,d5,d6,rfl⟩
   rw [List.length_map,List.take_length,bm] at w5 w6
   try dsimp only
   refine Yc (Zh (Zh (Za rfl (Wi (Zb (Wh (Zb (Za rfl (Zb (Za rfl (Zg ⟨by show 2<=sizeLine; decide,λ t ht=>Zg ⟨by show 1<=sizeLine; decide,λ p4 hp4=>?_⟩⟩)))))))))))
   have st:=Same.laid (o:=.tup [v5,v6]) ht
   have s4:=Same.laid (o:=.lst [.ref t]) hp4
   have et:=s4 _ _ (Zn (H:=H4) (a:=t) (o:=.tup [v5,v6]))
   have e4:=Zn (H:=upd H4 t (.tup [v5,v6])) (a:=p4) (o:=.lst [.ref t])
   have s34:=st.trans s4
   generalize upd (upd H4 t _) p4 _=H5 at et e4 s34 ⊢
   have hD5:=s34 _ _ (s3 _ _ h12)
   have h25:=s34 _ _ (s3 _ _ h2)
   refine .inr (.inr (.inr ⟨D,p4,_,_,rfl,rfl,hD5,e4,Zfz (by rw [List.length_map]; show xs1.length+1<=1000; omega),λ p5 hp5=>?_⟩))
   have s5:=Same.laid (o:=.lst (xs1.map Prod.fst++[.ref t])) hp5
   have e5:=Zn (H:=H5) (a:=p5) (o:=.lst (xs1.map Prod.fst++[V.ref t]))
   generalize upd H5 p5 _=H6 at s5 e5 ⊢
   refine Za rfl (.inr (.inr (.inr ⟨p5,D2,_,_,rfl,rfl,e5,s5 _ _ h25,Zfz (by rw [List.length_append,List.length_map,List.length_map]; show xs1.length+1+ys1.length<=1000; omega),λ p6 hp6=>?_⟩)))
   have s6:=Same.laid (o:=.lst (xs1.map Prod.fst++[V.ref t]++ys1.map Prod.fst)) hp6
   have s46:=(s34.trans s5).trans s6
   refine q _ _ (s03.trans s46) ⟨p6,xs1++[(.ref t,(leaF lo (midF lo hi bs),mosF hi (midF lo hi bs)))]++ys1,rfl,?_,?_,λ z hm=>?_⟩
   · rw [Zn]; simp
   · unfold Kd; rw [List.map_append,List.map_append,bx,by_]; rfl
   · rw [List.append_assoc,List.mem_append,List.mem_append] at hm
     rcases hm with k | k | k
     · exact Zff (s03.trans s46) (hz z (hx1 z k))
     · have:z=(.ref t,(leaF lo (midF lo hi bs),mosF hi (midF lo hi bs))):=by simpa using k
       rw [this]
       exact ⟨t,v5,v6,rfl,(s5.trans s6) _ _ et,Xh s46 w5,Xh s46 w6⟩
     · exact Zff (s03.trans s46) (hz z (hy1 z k))
theorem Zlz {B:List (List Int×List Int)} {i j:Nat} {lo hi:Sh} (h:Ju B i j lo hi=true):lo<=hi:=by
 unfold Ju at h
 by_cases e:lo.1=hi.1
 · rw [Subtype.ext e]; exact RS.Sh.le_refl _
 · rw [if_neg e] at h
   exact RS.Sh.le_of_lt (of_decide_eq_true h)
theorem Zye {n:Nat} {d:List Int×List Int} {ps sh:List Int} (gD:GoodDay n d) (gd:GoodDay n (ps,sh)) (n6:n<=6):Bd 1 (loS d ps sh):=by
 have b1:=J0 (a:=(ps,sh)) gd gD n6
 have b2:=J0 (a:=(ps,sh)) gd gd n6
 exact Zuw (Zni b1.1 b2.1 b1.2 b2.2)
theorem Zyi {n:Nat} {d:List Int×List Int} {ps sh:List Int} (gD:GoodDay n d) (gd:GoodDay n (ps,sh)) (n6:n<=6):Bd 1 (hiS d sh):=by
 have b1:=J0 gD gD n6
 have b2:=J0 (b:=(ps,sh)) gD gd n6
 exact Zuw (Zni b1.1 b2.1 b1.2 b2.2)
theorem Zxc {bs:List Bar} {lo hi:Sh} (h:BarsOk bs) (le:lo<=hi):(Kd bs lo hi).length<=bs.length+1:=by
 have e:=congrArg List.length (Zfg h le).1
 rw [List.length_append,List.length_append] at e
 unfold Kd
 rw [List.length_append,List.length_append,List.length_singleton]
 omega
theorem Zyl {m n:Nat} {B:List (List Int×List Int)} (g:GoodBook m n B) {ps sh:List Int} (gd:GoodDay n (ps,sh)) {i j:Nat} (hi:i<B.length) (hj:j<B.length) {t:List Bar} (h:BarsOk t):BarsOk (barJ B ps sh i t j)/\(barJ B ps sh i t j).length<=t.length+1:=by
 unfold barJ
 by_cases c:Ju B i j (loS (dyB B i) ps sh) (hiS (dyB B j) sh)=true
 · rw [if_pos c]
   have le:=Zlz c
   exact ⟨Zzy h ⟨Up _,Up _,Zye (Xq g.dy hi) gd g.n6,Zyi (Xq g.dy hj) gd g.n6,le⟩,Zxc h le⟩
 · rw [if_neg c]
   exact ⟨h,by omega⟩
theorem Zh4 {B:List (List Int×List Int)} {i j:Nat} (h:j∈X6 B i):j<B.length:=List.mem_range.mp (List.mem_filter.mp h).1
theorem Zuc (B:List (List Int×List Int)) (i:Nat):(X6 B i).length<=B.length:=by
 unfold X6
 exact Nat.le_trans (List.length_filter_le ..) (by rw [List.length_range]; exact Nat.le_refl _)
theorem Zwr {B:List (List Int×List Int)} {i:Nat} (hi:i<B.length) {ns:List Int} (pm:ns.Perm (Zha (Zx (Z4 B) i))) (so:ns.Pairwise (·<=·)):ns=(X6 B i).map λ k:Nat=>(k:Int):=by
 have up:(X6 B i).Pairwise (· < ·):=List.Pairwise.filter _ List.pairwise_lt_range
 have nd2:((X6 B i).map λ k:Nat=>(k:Int)).Nodup:=List.Pairwise.map _ (λ a b (h:a<b)=>by intro w; omega) up
 have so2:((X6 B i).map λ k:Nat=>(k:Int)).Pairwise (·<=·):=List.Pairwise.map _ (λ a b (h:a<b)=>by show (a:Int)<=(b:Int); omega) up
 refine Zfy (pm.trans ((List.perm_ext_iff_of_nodup (Zzw _ _) nd2).mpr λ x=>?_)) so so2
 constructor
 · intro h
   obtain ⟨c,hc,e⟩:=List.mem_map.mp h
   have k:=Za3 hc
   exact List.mem_map.mpr ⟨c.1,List.mem_filter.mpr ⟨List.mem_range.mpr (Zdz hi k),k⟩,e⟩
 · intro h
   obtain ⟨o,ho,rfl⟩:=List.mem_map.mp h
   exact Zw6.mpr (List.mem_filter.mp ho).2
def preI (B:List (List Int×List Int)) (ps sh:List Int) (i:Nat):List Bar:=(List.range i).foldl (barI B ps sh) []
def preJ (B:List (List Int×List Int)) (ps sh:List Int) (i j:Nat):List Bar:=((X6 B i).take j).foldl (barJ B ps sh i) (preI B ps sh i)
theorem Z11 (B:List (List Int×List Int)) (ps sh:List Int):preI B ps sh 0=[]:=rfl
theorem Z0z {B:List (List Int×List Int)} {ps sh:List Int} {i j o:Nat} (ho:(X6 B i)[j]?=some o):preJ B ps sh i (j+1)=barJ B ps sh i (preJ B ps sh i j) o:=by
 unfold preJ
 rw [List.take_add_one,ho,Option.toList_some,List.foldl_append]; rfl
theorem Z00 (B:List (List Int×List Int)) (ps sh:List Int) (i:Nat):preJ B ps sh i (X6 B i).length=preI B ps sh (i+1):=by
 unfold preJ
 rw [List.take_length]
 show _=(List.range (i+1)).foldl (barI B ps sh) []
 rw [List.range_succ,List.foldl_append]; rfl
theorem Zy9 {K:Fq} {mg:Str->Option Value} (M:Md K mg) {a b c:V} {H:Hp} {Q:VK} {E:XK} (h:Zq3 K mg a b c H Q E):Zk0 K mg E (Rt Q) [some a,some b,some c,none,none,none,none,none] H:=by
 obtain ⟨B,m,n,pp,pq,ps,sh,rB,g,m8,rfl,hp,rfl,hq,gd,q1,q2⟩:=h
 have sh1:ShB 1:=by decide
 have n6:=g.n6
 have mB:=g.m8
 obtain ⟨bp,xs,rfl,hb,hl,_⟩:=Qs rB
 unfold Zk0
 refine Zr (Yp (Yj (Zh (Zh (Zqy (Zb (Za rfl (Zg ⟨_,_,rfl,B,m,n,1,1,rB,g,m8,.inl ⟨rfl,rfl,rfl⟩,sh1,sh1,λ w H1 s1 tw=>?_⟩))))))))
 cases er:rngF (cmM (gpF B 1 1) B.length) with
 | some r =>
   have e:tasA (gpF B 1 1) B.length=.inl r:=by unfold tasA; rw [er]
   rw [e] at tw
   obtain ⟨tp,p,rfl,htp,_⟩:=tw
   refine w_c (Yd (v:=.str "ring") (SqT.of htp) rfl (w_c (w_eqS (Yq (Eo rfl ?_)))))
   exact Zkz (Zb (w_c (Zg ⟨by show 1<=sizeLine; decide,q2 (by unfold Qt; rw [er]; rfl) H1 s1⟩)))
 | none =>
   replace q1:=q1 (by unfold Qt; rw [er]; rfl)
   have e:tasA (gpF B 1 1) B.length=.inr (Zbm (gpF B 1 1) B.length):=by unfold tasA; rw [er]
   rw [e] at tw
   obtain ⟨tp,p1,p2,rfl,htp,_⟩:=tw
   refine w_c (Yd (v:=.str "taste") (SqT.of htp) rfl (w_c (w_eqS (Yq (Ep (by decide +kernel) (Yk ?_))))))
   try dsimp only
   refine Zr (Z9 (Wi (Zg ⟨Nat.zero_le _,λ L hL=>Zq ?_⟩)))
   have s2:=s1.laidT (o:=.lst []) hL
   have e2:=Zn (H:=H1) (a:=L) (o:=.lst [])
   generalize upd H1 L (.lst [])=H2 at s2 e2 ⊢
   try dsimp only
   refine Zr (Qc (Q8 (Zb (Yl (Zb (Za rfl (Zg (X4 (SqT.of (s2 _ _ hb)) (Zg ⟨_,rfl,(Yy (by omega)).1,(Yy (by omega)).2,?_⟩)))))))))
   refine Wq (n:=xs.length) (λ i σ H3=>Same H H3/\∃ tv r4 r5 r6 r7,BarsR H3 tv (preI B ps sh i)/\BarsOk (preI B ps sh i)/\(preI B ps sh i).length<=8*i/\σ=[some (.ref bp),some (.ref pp),some (.ref pq),some tv,r4,r5,r6,r7]) ⟨s2,.ref L,none,none,none,none,⟨L,[],rfl,e2,rfl,λ z hz=>by cases hz⟩,Zpx,by rw [Z11]; exact Nat.zero_le _,rfl⟩ ?_ ?_
   · rintro i σ H3 hi' ⟨s3,tv,r4,r5,r6,r7,br,bo,bn,rfl⟩
     have iB:i<B.length:=by omega
     have idi:InB B (i:Nat):=⟨by omega,by omega⟩
     refine Zq (Zr (Z9 (Zv (Zb (Za rfl (Zb (Za rfl (Zb (Za rfl (Zb (Za rfl (Zg ⟨_,_,_,_,rfl,B,m,n,i,pp,pq,ps,sh,Rep.mono s3 _ _ rB,g,rfl,iB,rfl,s3 _ _ hp,rfl,s3 _ _ hq,gd,λ lv H4 s4 el=>Zq ?_⟩))))))))))))
     try dsimp only
     have s34:=s3.trans s4
     refine Qc (X3 (Zv (Zb (Za rfl (Zb (Za rfl (Zg ⟨_,_,rfl,B,m,n,((i:Nat):Int),Rep.mono s34 _ _ rB,g,m8,rfl,λ _ ns p5 H5 _ s5 pm so _ h5=>?_,λ z=>absurd idi z⟩)))))))
     rw [Int.toNat_natCast] at pm
     rw [Zwr iB pm so] at h5
     have s45:=s34.trans s5
     have rl:=Zuc B i
     refine ⟨p5,rfl,.inl ⟨⟨_,SqL.of h5⟩,Jj (K:=K) (a:=p5) (xs:=((X6 B i).map λ k:Nat=>(k:Int)).map V.int) (λ j σ H6=>Same H5 H6/\∃ tv r6 r7,BarsR H6 tv (preJ B ps sh i j)/\BarsOk (preJ B ps sh i j)/\(preJ B ps sh i j).length<=8*i+j/\σ=[some (.ref bp),some (.ref pp),some (.ref pq),some tv,some (.int (i:Nat)),some lv,r6,r7]) ⟨Same.refl _,tv,r6,r7,Qa (s4.trans s5) br,bo,bn,rfl⟩ (λ j σ H6 _ z=>SqL.of (z.1 _ _ h5)) ?_ ?_⟩⟩
     · rintro j x σ H6 hx ⟨s6,tv',r6',r7',br',bo',bn',rfl⟩
       have hj:j<(X6 B i).length:=by
        have:=(List.getElem?_eq_some_iff.mp hx).1
        simpa using this
       obtain ⟨o,ho,ex⟩:∃ o,(X6 B i)[j]?=some o/\x=.int (o:Nat):=by
        rw [List.getElem?_map,List.getElem?_map,List.getElem?_eq_getElem hj] at hx
        exact ⟨_,List.getElem?_eq_getElem hj,by simpa using hx.symm⟩
       subst ex
       have oB:o<B.length:=Zh4 (List.mem_of_getElem? ho)
       have pj:=Z0z (ps:=ps) (sh:=sh) ho
       have s56:=s45.trans s6
       have bl:Bd 1 (loS (dyB B i) ps sh):=Zye (Xq g.dy iB) gd n6
       have bh:Bd 1 (hiS (dyB B o) sh):=Zyi (Xq g.dy oB) gd n6
       refine Zq (Zr (Z9 (Zv (Zb (Za rfl (Zb (Za rfl (Zb (Za rfl (Zg ⟨_,_,_,rfl,B,m,n,o,pq,ps,sh,Rep.mono s56 _ _ rB,g,rfl,oB,rfl,s56 _ _ hq,gd,λ hv H7 s7 eh=>Zq ?_⟩))))))))))
       try dsimp only
       have s57:=s56.trans s7
       have el7:=Xh ((s5.trans s6).trans s7) el
       have br7:=Qa s7 br'
       obtain ⟨bo2,bn2⟩:=Zyl g gd iB oB bo'
       rw [← pj] at bo2 bn2
       refine Yp (Xr (Zv (Zb (Za rfl (Zb (Za rfl (Zb (Za rfl (Zb (Za rfl (Zb (Za rfl (Zg ⟨_,_,_,_,_,rfl,B,m,n,i,o,loS (dyB B i) ps sh,hiS (dyB B o) sh,Rep.mono s57 _ _ rB,g,m8,rfl,iB,rfl,oB,el7,eh,bl,bh,λ H8 s8=>Xa (iteB (λ cl=>?_) λ cl=>Yk ?_)⟩)))))))))))))
       · refine Z9 (Zv (Zb (Za rfl (Zb (Za rfl (Zb (Za rfl (Zg ⟨_,_,_,rfl,preJ B ps sh i j,loS (dyB B i) ps sh,hiS (dyB B o) sh,Qa s8 br7,by omega,bo',Xh s8 el7,Xh s8 eh,⟨Up _,Up _,bl,bh,Zlz cl⟩,λ v9 H9 s9 b9=>Zq ?_⟩))))))))
         refine ⟨((s6.trans s7).trans s8).trans s9,v9,_,_,?_,bo2,by omega,rfl⟩
         rw [pj]
         unfold barJ
         rw [if_pos cl]
         exact b9
       · refine ⟨(s6.trans s7).trans s8,tv',_,_,?_,bo2,by omega,rfl⟩
         rw [pj]
         unfold barJ
         rw [if_neg (by rw [cl]; decide)]
         exact Qa s8 br7
     · rintro σ H6 ⟨s6,tv',r6',r7',br',bo',bn',rfl⟩
       rw [List.length_map,List.length_map] at br' bo' bn'
       rw [Z00] at br' bo' bn'
       exact ⟨s45.trans s6,tv',_,_,_,_,br',bo',by omega,rfl⟩
   · rintro σ H3 ⟨s3,tv,r4,r5,r6,r7,br,bo,bn,rfl⟩
     try dsimp only
     have e:preI B ps sh xs.length=Qk B ps sh:=by rw [hl]; rfl
     rw [e] at br bo bn
     exact Yc (Za rfl (q1 _ H3 s3 br bo (by omega)))
theorem Zld {K:Fq} {a b:V} {H:Hp} {Q:VK} {E:XK} (h:sb_share_of K a b H Q E):Gb K (Rt Q) [some a,some b,none] H:=by
 obtain ⟨s,n,rfl,rfl,hb,hn,q⟩:=h
 unfold Gb
 obtain ⟨x,hx⟩:=Uw s.2.1
 obtain ⟨y,hy⟩:=Uw s.2.2
 have g0:=Znh s
 have g1:=Zrx hb hn
 refine Zr (Z9 (Zv (Zb (Za rfl (Zb (Za rfl (Zg ⟨_,_,rfl,x,y,by rw [hx],by rw [hy],Zq ?_⟩)))))))
 have e:((Nat.gcd x y:Nat):Int)=gI s:=by unfold gI; rw [hx,hy]; rfl
 rw [e]
 exact Yc (Wh (Zb (Zh (Za rfl (Za rfl (Zi3 g0 g1 (Zb (Zh (Za rfl (Za rfl (Zi3 g0 g1 (Zg ⟨by show 2<=sizeLine; decide,λ p hp=>q p hp⟩))))))))))))
theorem Zl2 {s:Sh} (h:Bd 1 s):s.1.1<1427247692705959881058285969449495136382746624/\s.1.2<1427247692705959881058285969449495136382746624:=by
 have p:(2:Int) ^ (150*1)=1427247692705959881058285969449495136382746624:=by decide +kernel
 have h1:=h.1
 have h2:=h.2
 rw [p] at h1 h2
 exact ⟨h1,h2⟩
theorem Zus {x y:Sh} (hx:Bd 1 x) (hy:Bd 1 y):IntMulOk x.1.1 y.1.2:=by
 have a:=Zl2 hx
 have b:=Zl2 hy
 have c:=x.2.1
 have d:=y.2.2
 exact Zgq (by omega) (by omega) (by omega) (by omega)
theorem Zm1 {K:Fq} {a b:V} {H:Hp} {Q:VK} {E:XK} (h:Zfm K a b H Q E):Zac K (Rt Q) [some a,some b] H:=by
 obtain ⟨x,y,⟨t,rfl,ht⟩,⟨u,rfl,hu⟩,bx,by_,q⟩:=h
 unfold Zac
 refine Yc (Zh (Zh (Zh (Za rfl (w_c (Yd (v:=.int x.1.1) (SqT.of ht) rfl (Zh (Za rfl (w_c (Yd (v:=.int y.1.2) (SqT.of hu) rfl (Yu (Zus bx by_) ?_)))))))))))
 exact Zh (Zh (Za rfl (w_c (Yd (v:=.int y.1.1) (SqT.of hu) rfl (Zh (Za rfl (w_c (Yd (v:=.int x.1.2) (SqT.of ht) rfl (Yu (Zus by_ bx) (K9 q))))))))))
theorem Zh8 {K:Fq} {a:V} {H:Hp} {Q:VK} {E:XK} (h:Zb0 K a H Q E):Kg K (Rt Q) [some a] H:=by
 obtain ⟨s,⟨u,rfl,hu⟩,lo,q⟩:=h
 have a1:=s.2.1
 have a2:=s.2.2
 unfold Kg
 refine Zr (Yp (K8 (w_not (Xr (Yl (Zb (Za rfl (Zb (w_c (Zg ⟨_,"tuple",_,true,rfl,TyOf.tup hu,Zg9,Xa (iteF ?_)⟩))))))))))
 refine K8 (Yj (Zh (Yl (Zb (Za rfl (Zg (X4 (SqT.of hu) (w_c (Zi0 (Yq (Ze8 rfl ?_)))))))))))
 refine K8 (w_not (Xr (Zv (Zb (Zh (Za rfl (w_c (Yd (v:=.int s.1.1) (SqT.of hu) rfl (Zg ⟨_,rfl,_,true,.int _,.int,Xa (iteF ?_)⟩)))))))))
 refine w_not (Xr (Zv (Zb (Zh (Za rfl (w_c (Yd (v:=.int s.1.2) (SqT.of hu) rfl (Zg ⟨_,rfl,_,true,.int _,.int,Xa (iteF (Yk ?_))⟩))))))))
 try dsimp only
 obtain ⟨x,hx⟩:=Uw s.2.1
 obtain ⟨y,hy⟩:=Uw s.2.2
 refine Yc (Zft (Zh (Zh (Za rfl (w_c (Yd (v:=.int s.1.1) (SqT.of hu) rfl (w_c (Zx1 ⟨_,rfl,Eo (by omega) ?_⟩))))))))
 refine Zft (Zh (Zh (Za rfl (w_c (Yd (v:=.int s.1.2) (SqT.of hu) rfl (w_c (Zx1 ⟨_,rfl,Eo (by omega) ?_⟩)))))))
 refine Zh (Zv (Zb (Zh (Za rfl (w_c (Yd (v:=.int s.1.1) (SqT.of hu) rfl (Zb (Zh (Za rfl (w_c (Yd (v:=.int s.1.2) (SqT.of hu) rfl (Zg ⟨_,_,rfl,x,y,by rw [hx],by rw [hy],w_c (Xm ?_)⟩))))))))))))
 have e:((Nat.gcd x y:Nat):Int)=1:=by
  have h1:Int.gcd s.1.1 s.1.2=1:=lo
  rw [hx,hy] at h1
  have h2:Nat.gcd x y=1:=h1
  rw [h2]; rfl
 rw [decide_eq_true e]
 exact q
theorem Zxp {xs:List V} (h:1<=xs.length):cutV xs none (some (-1))=xs.take (xs.length-1):=by
 unfold cutV
 have e0:HT.sIx xs.length 0 none=0:=rfl
 have e1:HT.sIx xs.length xs.length (some (-1))=xs.length-1:=by
  show (if (-1:Int)<0 then ((-1:Int)+(xs.length:Int)).toNat else min (-1:Int).toNat xs.length)=xs.length-1
  rw [if_pos (by decide)]; omega
 rw [e0,e1]; rfl
theorem Zvl (xs:List V):cutV xs none (some (-1))=xs.take (xs.length-1):=by
 cases xs with
 | nil=>rfl
 | cons a r=>exact Zxp (by simp)
theorem Zxo (xs:List V):cutV xs (some 1) none=xs.drop 1:=by
 cases xs with
 | nil=>rfl
 | cons a r=>exact Zxq (xs:=a::r) (lo:=1) (by simp)
theorem Zh9 {K:Fq} {a:V} {H:Hp} {Q:VK} {E:XK} (h:Zb1 K a H Q E):Kh K (Rt Q) [some a,none,none,none] H:=by
 obtain ⟨_,⟨p,zs,rfl,hp,rfl,hz⟩,ok,len,q⟩:=h
 have okz:∀ z∈zs,BarOk z.2:=λ z hz'=>ok.ok _ (List.mem_map.mpr ⟨z,hz',rfl⟩)
 unfold Kh
 refine Zr (Yp (w_not (Xr (Yl (Zb (Za rfl (Zb (w_c (Zg ⟨_,"list",_,true,rfl,.lst hp,kit_list,Xa (iteF (Yk ?_))⟩)))))))))
 try dsimp only
 refine Zr (Qc (X3 (Za rfl ⟨p,rfl,.inl ⟨⟨_,SqL.of hp⟩,?_⟩⟩)))
 refine Jj (K:=K) (a:=p) (xs:=zs.map Prod.fst) (λ i σ H1=>H1=H/\∃ r1,σ=[some (.ref p),r1,none,none]) ⟨rfl,_,rfl⟩ (λ i σ H1 _ z=>by rw [z.1]; exact SqL.of hp) ?_ ?_
 · rintro i x σ H1 hxi ⟨rfl,r1,rfl⟩
   obtain ⟨z,hm,rfl⟩:=List.mem_map.mp (List.mem_of_getElem? hxi)
   obtain ⟨t,u1,u2,e,ht,s1,s2⟩:=hz z hm
   have okb:=okz z hm
   rw [e]
   refine Zq (Zr (Yp (K8 (w_not (Xr (Yl (Zb (Za rfl (Zb (w_c (Zg ⟨_,"tuple",_,true,rfl,TyOf.tup ht,Zg9,Xa (iteF ?_)⟩)))))))))))
   refine K8 (Yj (Zh (Yl (Zb (Za rfl (Zg (X4 (SqT.of ht) (w_c (Zi0 (Yq (Ze8 rfl ?_)))))))))))
   refine K8 (w_not (Xr (Zv (Zb (Zh (Za rfl (w_c (Yd (v:=u1) (SqT.of ht) rfl (Zg ⟨_,rfl,z.2.1,s1,okb.l1,Xa (iteF ?_)⟩)))))))))
   refine w_not (Xr (Zv (Zb (Zh (Za rfl (w_c (Yd (v:=u2) (SqT.of ht) rfl (Zg ⟨_,rfl,z.2.2,s2,okb.l2,Xa (iteF (Yk ?_))⟩))))))))
   try dsimp only
   refine Yp (Xr (Zv (Zb (Zh (Za rfl (w_c (Yd (v:=u2) (SqT.of ht) rfl (Zb (Zh (Za rfl (w_c (Yd (v:=u1) (SqT.of ht) rfl (Zg ⟨_,_,rfl,z.2.2,z.2.1,s2,s1,okb.b2,okb.b1,Xa (Ep (λ zz=>?_) (Yk ⟨rfl,_,rfl⟩))⟩)))))))))))))
   exact RS.Sh.not_le.mpr zz okb.le
 rintro σ H1 ⟨rfl,r1,rfl⟩
 try dsimp only
 refine Zr (Qc (Zyr (Zb (Zhs (Za rfl (Hs (Es (Z0i (w_c (Ztu (Zcm (.inr ⟨p,_,rfl,SqL.of hp,λ t1 ht1=>?_⟩))))))))))))
 rw [Zvl]
 have z1:=Same.laid (o:=.lst ((zs.map Prod.fst).take ((zs.map Prod.fst).length-1))) ht1
 have g1:=Zn (H:=H1) (a:=t1) (o:=.lst ((zs.map Prod.fst).take ((zs.map Prod.fst).length-1)))
 generalize upd H1 t1 _=H2 at z1 g1 ⊢
 refine Zb (Zhs (Za rfl (Es (w_c (Zcm (Hs (.inr ⟨p,_,rfl,SqL.of (z1 _ _ hp),λ t2 ht2=>?_⟩)))))))
 rw [Zxo]
 have z2:=Same.laid (o:=.lst ((zs.map Prod.fst).drop 1)) ht2
 have g2:=Zn (H:=H2) (a:=t2) (o:=.lst ((zs.map Prod.fst).drop 1))
 have g12:=z2 _ _ g1
 generalize upd H2 t2 _=H3 at z2 g2 g12 ⊢
 refine Zg ⟨t1,t2,rfl,⟨_,SqL.of g12⟩,⟨_,SqL.of g2⟩,Zxk (K:=K) (a:=t1) (b:=t2) (n:=zs.length-1) (by rw [List.length_take,List.length_map]; omega) (by rw [List.length_drop,List.length_map]) (λ _ σ H4=>Same H3 H4/\∃ r2 r3,σ=[some (.ref p),r1,r2,r3]) ⟨Same.refl _,_,_,rfl⟩ (λ _ σ H4 _ z=>⟨SqL.of (z.1 _ _ g12),SqL.of (z.1 _ _ g2)⟩) ?_ ?_⟩
 · rintro i u w σ H4 tp hu hw ⟨s4,r2,r3,rfl⟩ htp
   have hi:i+1<zs.length:=by
    rcases Nat.lt_or_ge i ((zs.map Prod.fst).drop 1).length with z | z
    · rw [List.length_drop,List.length_map] at z; omega
    · rw [List.getElem?_eq_none z] at hw; cases hw
   have hi0:i<zs.length:=by omega
   have eu:u=(zs[i]'hi0).1:=by
    rw [List.getElem?_take_of_lt (by rw [List.length_map]; omega),List.getElem?_map,List.getElem?_eq_getElem hi0] at hu
    simpa using hu.symm
   have ew:w=(zs[i+1]'hi).1:=by
    rw [List.getElem?_drop,List.getElem?_map,Nat.add_comm,List.getElem?_eq_getElem hi] at hw
    simpa using hw.symm
   have m1:=List.getElem_mem hi0
   have m2:=List.getElem_mem hi
   obtain ⟨ta,a1,a2,ea,hta,x1,x2⟩:=hz _ m1
   obtain ⟨tb,b1,b2,eb,htb,y1,y2⟩:=hz _ m2
   rw [ea] at eu
   rw [eb] at ew
   subst eu ew
   have up:(zs[i]'hi0).2.2<(zs[i+1]'hi).2.1:=List.pairwise_iff_getElem.mp (List.pairwise_map.mp ok.up) i (i+1) hi0 hi (by omega)
   have st:=Same.laid (o:=.tup [.ref ta,.ref tb]) htp
   have sA:=((z1.trans z2).trans s4).trans st
   refine Uu (SqT.of Zn) rfl (Xk (Zq (Xk (Zq (Uv ?_)))))
   exact Yp (w_not (Xr (Zv (Zb (Zh (Za rfl (w_c (Yd (v:=a2) (SqT.of (sA _ _ hta)) rfl (Zb (Zh (Za rfl (w_c (Yd (v:=b1) (SqT.of (sA _ _ htb)) rfl (Zg ⟨_,_,rfl,(zs[i]'hi0).2.2,(zs[i+1]'hi).2.1,Xh sA x2,Xh sA y1,(okz _ m1).b2,(okz _ m2).b1,Xa (Ze8 up (Yk ⟨s4.trans st,_,_,rfl⟩))⟩))))))))))))))
 · rintro σ H4 ⟨s4,r2,r3,rfl⟩
   try dsimp only
   exact Yc (w_c (q _ ((z1.trans z2).trans s4)))
theorem Zcx (p a:Int) (ps as:List Int):dotF (p::ps) (a::as)=p*a+dotF ps as:=by unfold dotF; rw [List.zipWith_cons_cons,List.sum_cons]
theorem Zv8 {x:Int} {n:Nat} {ys:List V} (hy:ys.length=n) (h:∀ (i:Nat) v,ys[i]?=some v->v=.int x):ys=(List.replicate n x).map V.int:=by
 rw [List.map_replicate]
 exact List.eq_replicate_iff.mpr ⟨hy,λ b hb=>let ⟨i,hi⟩:=List.getElem?_of_mem hb; h i b hi⟩
theorem Zh3 {B:List (List Int×List Int)} {st:List Wt} (e:tasA (gpF B 1 1) B.length=.inr st):Qt B=false:=by
 unfold Qt
 cases er:rngF (cmM (gpF B 1 1) B.length) with
 | some r=>unfold tasA at e; rw [er] at e; cases e
 | none=>rfl
theorem Zn7 {B:List (List Int×List Int)} {r:List Nat} (e:tasA (gpF B 1 1) B.length=.inl r):Qt B=true:=by
 unfold Qt
 cases er:rngF (cmM (gpF B 1 1) B.length) with
 | some r=>rfl
 | none=>unfold tasA at e; rw [er] at e; cases e
theorem Zy7 {B:List (List Int×List Int)} (h:Qt B=true):kdM (tasA (gpF B 1 1) B.length)="ring":=by
 cases e:tasA (gpF B 1 1) B.length with
 | inl r=>rfl
 | inr st=>rw [Zh3 e] at h; cases h
theorem Zwm {B:List (List Int×List Int)} (h:kdM (tasA (gpF B 1 1) B.length)="taste"):Qt B=false:=by
 cases e:tasA (gpF B 1 1) B.length with
 | inl r=>rw [e] at h; exact absurd (show ("ring":Str)="taste" from h) (by decide +kernel)
 | inr st=>exact Zh3 e
theorem Zwo {B:List (List Int×List Int)} (h:¬ kdM (tasA (gpF B 1 1) B.length)="taste"):Qt B=true:=by
 cases e:tasA (gpF B 1 1) B.length with
 | inl r=>exact Zn7 e
 | inr st=>rw [e] at h; exact absurd rfl h
theorem Zyv {K:Fq} {H:Hp} {Q:VK} {a:Addr} {xs:List V} {j:Nat} (h:H a=some (.tup xs)) (hj:j<xs.length) (k:∀ p H',Same H H'->H' p=some (.tup (xs.drop j))->Q (.ref p) H'):rSlV K (.ref a) (some (j:Int)) none H Q:=by
 cases j with
 | zero=>exact .inr ⟨a,xs,rfl,SqT.of h,by rw [HT.Za5]; omega,rfl,k a H (Same.refl _) h⟩
 | succ j=>exact .inl (Zl5 h rfl (by omega) (by omega) k)
theorem Zyu {K:Fq} {H:Hp} {Q:VK} {a:Addr} {xs:List V} {j:Nat} (h:H a=some (.tup xs)) (hj:j<xs.length) (k:∀ p H',Same H H'->H' p=some (.tup (xs.take j))->Q (.ref p) H'):rSlV K (.ref a) none (some (j:Int)) H Q:=.inl (Zqw h hj k)
theorem Zz4 {m n k:Nat} {B C:List (List Int×List Int)} (g:GoodBook m n B) (h1:1<=C.length) (h8:C.length<=k) (h:∀ d∈C,GoodDay n d):GoodBook k n C:=⟨g.n1,g.n6,h1,h8,h⟩
def covB (bs:List Bar) (x:Sh):Prop:=∃ b∈bs,b.1<=x/\x<=b.2
theorem Zxe {bs:List Bar} {lo hi:Sh} (h:BarsOk bs) (le:lo<=hi) (x:Sh):covB (Kd bs lo hi) x↔covB bs x\/(lo<=x/\x<=hi):=by
 obtain ⟨e,no⟩:=Zfg h le
 have l1:=Zo0 (midF lo hi bs) lo
 have m1:=Zot (midF lo hi bs) hi
 have l2:=Zj0 (midF lo hi bs) lo
 have m2:=Zjy (midF lo hi bs) hi
 unfold Kd
 generalize midF lo hi bs=m at e no l1 m1 l2 m2
 generalize belF lo bs=p at e
 generalize abvF hi bs=r at e
 have inb:∀ b,b∈bs↔b∈p\/b∈m\/b∈r:=λ b=>by rw [e,List.mem_append,List.mem_append]
 constructor
 · rintro ⟨b,hb,b1,b2⟩
   rw [List.append_assoc,List.mem_append,List.mem_append] at hb
   rcases hb with z | z | z
   · exact .inl ⟨b,(inb b).mpr (.inl z),b1,b2⟩
   · have eb:b=(leaF lo m,mosF hi m):=by simpa using z
     subst eb
     replace b1:leaF lo m<=x:=b1
     replace b2:x<=mosF hi m:=b2
     by_cases x1:x<lo
     · rcases l2 with w | ⟨c,hc,w⟩
       · rw [w] at b1
         exact (Zbt (U0 b1 x1)).elim
       · rw [w] at b1
         exact .inl ⟨c,(inb c).mpr (.inr (.inl hc)),b1,RS.Sh.le_trans (RS.Sh.le_of_lt x1) (RS.Sh.not_lt.mp (no c hc).1)⟩
     · by_cases x2:hi<x
       · rcases m2 with w | ⟨c,hc,w⟩
         · rw [w] at b2
           exact (Zbt (RS.Sh.lt_of_lt_of_le x2 b2)).elim
         · rw [w] at b2
           exact .inl ⟨c,(inb c).mpr (.inr (.inl hc)),RS.Sh.le_trans (RS.Sh.not_lt.mp (no c hc).2) (RS.Sh.le_of_lt x2),b2⟩
       · exact .inr ⟨RS.Sh.not_lt.mp x1,RS.Sh.not_lt.mp x2⟩
   · exact .inl ⟨b,(inb b).mpr (.inr (.inr z)),b1,b2⟩
 · rintro (⟨b,hb,b1,b2⟩ | ⟨x1,x2⟩)
   · rcases (inb b).mp hb with z | z | z
     · exact ⟨b,by simp [z],b1,b2⟩
     · exact ⟨(leaF lo m,mosF hi m),by simp,RS.Sh.le_trans (l1.2 b z) b1,RS.Sh.le_trans b2 (m1.2 b z)⟩
     · exact ⟨b,by simp [z],b1,b2⟩
   · exact ⟨(leaF lo m,mosF hi m),by simp,RS.Sh.le_trans l1.1 x1,RS.Sh.le_trans x2 m1.1⟩
theorem Z1i {s t:Sh} (hs:Low s) (ht:Low t) (e:s.1.1*t.1.2=t.1.1*s.1.2):s=t:=by
 obtain ⟨⟨a,b⟩,a0,b0⟩:=s
 obtain ⟨⟨c,d⟩,c0,d0⟩:=t
 obtain ⟨a,rfl⟩:=Uw a0
 obtain ⟨b,rfl⟩:=Uw b0
 obtain ⟨c,rfl⟩:=Uw c0
 obtain ⟨d,rfl⟩:=Uw d0
 have hs':Nat.gcd a b=1:=hs
 have ht':Nat.gcd c d=1:=ht
 have e':a*d=c*b:=by
  have:(a:Int)*(d:Int)=(c:Int)*(b:Int):=e
  exact_mod_cast this
 have a0':0<a:=by have:(0:Int)<(a:Int):=a0; omega
 have h1:a ∣ c:=Nat.Coprime.dvd_of_dvd_mul_right (k:=a) (n:=b) (m:=c) hs' ⟨d,e'.symm⟩
 have h2:c ∣ a:=Nat.Coprime.dvd_of_dvd_mul_right (k:=c) (n:=d) (m:=a) ht' ⟨b,e'⟩
 have e1:a=c:=Nat.dvd_antisymm h1 h2
 subst e1
 have e2:d=b:=Nat.eq_of_mul_eq_mul_left a0' e'
 subst e2
 rfl
theorem Zdo {s t:Sh} (hs:Low s) (ht:Low t) (h1:s<=t) (h2:t<=s):s=t:=Z1i hs ht (Int.le_antisymm h1 h2)
def medS (a b:Sh):Sh:=⟨(a.1.1+b.1.1,a.1.2+b.1.2),by have:=a.2.1; have:=b.2.1; show 0<a.1.1+b.1.1; omega,by have:=a.2.2; have:=b.2.2; show 0<a.1.2+b.1.2; omega⟩
theorem Z2a {a b:Sh} (h:a<b):a<medS a b:=by
 show a.1.1*(a.1.2+b.1.2)<(a.1.1+b.1.1)*a.1.2
 have:a.1.1*b.1.2<b.1.1*a.1.2:=h
 rw [Int.mul_add,Int.add_mul]; omega
theorem Zyb {a b:Sh} (h:a<b):medS a b<b:=by
 show (a.1.1+b.1.1)*b.1.2<b.1.1*(a.1.2+b.1.2)
 have:a.1.1*b.1.2<b.1.1*a.1.2:=h
 rw [Int.mul_add,Int.add_mul]; omega
theorem Zrv {a:Bar} {as:List Bar} (h:BarsOk (a::as)) {x:Sh} (c:covB (a::as) x):a.1<=x:=by
 obtain ⟨b,hb,b1,b2⟩:=c
 rcases List.mem_cons.mp hb with rfl | z
 · exact b1
 · exact RS.Sh.le_trans (h.ok a (List.mem_cons_self ..)).le (RS.Sh.le_trans (RS.Sh.le_of_lt ((List.pairwise_cons.mp h.up).1 b z)) b1)
theorem Zq0 {a:Bar} {as:List Bar} (h:BarsOk (a::as)) {x:Sh} (c:covB as x):a.2<x:=by
 obtain ⟨b,hb,b1,_⟩:=c
 exact RS.Sh.lt_of_lt_of_le ((List.pairwise_cons.mp h.up).1 b hb) b1
theorem Zpm {a:Bar} {as:List Bar} {x:Sh} (c:covB as x):covB (a::as) x:=let ⟨b,hb,z⟩:=c; ⟨b,List.mem_cons_of_mem _ hb,z⟩
theorem Zpl {a:Bar} {as:List Bar} {x:Sh} (c:covB (a::as) x) (lt:a.2<x):covB as x:=by
 obtain ⟨b,hb,b1,b2⟩:=c
 rcases List.mem_cons.mp hb with rfl | z
 · exact (Zbt (RS.Sh.lt_of_lt_of_le lt b2)).elim
 · exact ⟨b,z,b1,b2⟩
theorem Zrf {a:Bar} {as:List Bar} (h:BarsOk (a::as)):BarsOk as:=⟨λ b hb=>h.ok b (List.mem_cons_of_mem _ hb),(List.pairwise_cons.mp h.up).2⟩
theorem Zve {a b:Bar} {as bs:List Bar} (ha:BarsOk (a::as)) (e1:a.1=b.1) (s:∀ x,covB (b::bs) x->covB (a::as) x):b.2<=a.2:=by
 have oa:=ha.ok a (List.mem_cons_self ..)
 refine RS.Sh.not_lt.mp λ lt=>?_
 have ex:∃ y:Sh,a.2<y/\y<=b.2/\∀ c∈as,y<c.1:=by
  cases as with
  | nil=>exact ⟨b.2,lt,RS.Sh.le_refl _,λ c hc=>by cases hc⟩
  | cons c cs =>
    have ac:a.2<c.1:=(List.pairwise_cons.mp ha.up).1 c (List.mem_cons_self ..)
    have al:a.2<lesS b.2 c.1:=by
     rcases Zoz b.2 c.1 with z | z
     · rw [z]; exact lt
     · rw [z]; exact ac
    have yc:medS a.2 (lesS b.2 c.1)<c.1:=RS.Sh.lt_of_lt_of_le (Zyb al) (Zyf _ _)
    refine ⟨medS a.2 (lesS b.2 c.1),Z2a al,RS.Sh.le_trans (RS.Sh.le_of_lt (Zyb al)) (Zyg _ _),λ d hd=>?_⟩
    rcases List.mem_cons.mp hd with rfl | z
    · exact yc
    · exact Eg yc (U0 (ha.ok c (by simp)).le ((List.pairwise_cons.mp (List.pairwise_cons.mp ha.up).2).1 d z))
 obtain ⟨y,y1,y2,y3⟩:=ex
 obtain ⟨c,hc,c1,c2⟩:=s y ⟨b,List.mem_cons_self ..,by rw [← e1]; exact RS.Sh.le_trans oa.le (RS.Sh.le_of_lt y1),y2⟩
 rcases List.mem_cons.mp hc with rfl | z
 · exact Zbt (RS.Sh.lt_of_lt_of_le y1 c2)
 · exact Zbt (RS.Sh.lt_of_lt_of_le (y3 c z) c1)
theorem Zpk:∀ {as bs:List Bar},BarsOk as->BarsOk bs->(∀ x,covB as x↔covB bs x)->as=bs
 | [],[],_,_,_=>rfl
 | [],b::bs,_,h,e=>by
   obtain ⟨c,hc,_⟩:=(e b.1).mpr ⟨b,List.mem_cons_self ..,RS.Sh.le_refl _,(h.ok b (List.mem_cons_self ..)).le⟩
   cases hc
 | a::as,[],h,_,e=>by
   obtain ⟨c,hc,_⟩:=(e a.1).mp ⟨a,List.mem_cons_self ..,RS.Sh.le_refl _,(h.ok a (List.mem_cons_self ..)).le⟩
   cases hc
 | a::as,b::bs,ha,hb,e=>by
   have oa:=ha.ok a (List.mem_cons_self ..)
   have ob:=hb.ok b (List.mem_cons_self ..)
   have ca:covB (a::as) a.1:=⟨a,List.mem_cons_self ..,RS.Sh.le_refl _,oa.le⟩
   have cb:covB (b::bs) b.1:=⟨b,List.mem_cons_self ..,RS.Sh.le_refl _,ob.le⟩
   have e1:a.1=b.1:=Zdo oa.l1 ob.l1 (Zrv ha ((e b.1).mpr cb)) (Zrv hb ((e a.1).mp ca))
   have e2:a.2=b.2:=Zdo oa.l2 ob.l2 (Zve hb e1.symm λ x=>(e x).mp) (Zve ha e1 λ x=>(e x).mpr)
   have eab:a=b:=Prod.ext e1 e2
   subst eab
   have et:as=bs:=Zpk (Zrf ha) (Zrf hb) λ x=>⟨λ c=>Zpl ((e x).mp (Zpm c)) (Zq0 ha c),λ c=>Zpl ((e x).mpr (Zpm c)) (Zq0 hb c)⟩
   rw [et]
theorem Zpy {m n:Nat} {B:List (List Int×List Int)} (g:GoodBook m n B) {ps sh:List Int} (gd:GoodDay n (ps,sh)) {i:Nat} (hi:i<B.length):∀ (L:List Nat) (t:List Bar),(∀ j∈L,j<B.length)->BarsOk t ->
 BarsOk (L.foldl (barJ B ps sh i) t)/\∀ x,covB (L.foldl (barJ B ps sh i) t) x↔covB t x\/∃ j∈L,Ju B i j (loS (dyB B i) ps sh) (hiS (dyB B j) sh)=true/\loS (dyB B i) ps sh<=x/\x<=hiS (dyB B j) sh
 | [],t,_,h=>⟨h,λ x=>⟨.inl,λ z=>z.elim id λ ⟨_,hj,_⟩=>by cases hj⟩⟩
 | j::L,t,hL,h=>by
   have hj:=hL j (List.mem_cons_self ..)
   obtain ⟨k1,k2⟩:=Zpy g gd hi L (barJ B ps sh i t j) (λ y hy=>hL y (List.mem_cons_of_mem _ hy)) (Zyl g gd hi hj h).1
   refine ⟨k1,λ x=>(k2 x).trans ?_⟩
   have one:covB (barJ B ps sh i t j) x↔covB t x\/(Ju B i j (loS (dyB B i) ps sh) (hiS (dyB B j) sh)=true/\loS (dyB B i) ps sh<=x/\x<=hiS (dyB B j) sh):=by
    unfold barJ
    by_cases c:Ju B i j (loS (dyB B i) ps sh) (hiS (dyB B j) sh)=true
    · rw [if_pos c,Zxe h (Zlz c)]
      exact ⟨λ z=>z.imp id λ w=>⟨c,w⟩,λ z=>z.imp id λ w=>w.2⟩
    · rw [if_neg c]
      exact ⟨.inl,λ z=>z.elim id λ w=>absurd w.1 c⟩
   rw [one]
   constructor
   · rintro ((z | z) | ⟨k,hk,z⟩)
     · exact .inl z
     · exact .inr ⟨j,List.mem_cons_self ..,z⟩
     · exact .inr ⟨k,List.mem_cons_of_mem _ hk,z⟩
   · rintro (z | ⟨k,hk,z⟩)
     · exact .inl (.inl z)
     · rcases List.mem_cons.mp hk with rfl | hk
       · exact .inl (.inr z)
       · exact .inr ⟨k,hk,z⟩
def CovF (B:List (List Int×List Int)) (ps sh:List Int) (x:Sh):Prop:=∃ i j,i<B.length/\j∈X6 B i/\Ju B i j (loS (dyB B i) ps sh) (hiS (dyB B j) sh)=true/\loS (dyB B i) ps sh<=x/\x<=hiS (dyB B j) sh
theorem Zpz {m n:Nat} {B:List (List Int×List Int)} (g:GoodBook m n B) {ps sh:List Int} (gd:GoodDay n (ps,sh)):∀ (L:List Nat) (t:List Bar),(∀ i∈L,i<B.length)->BarsOk t ->
 BarsOk (L.foldl (barI B ps sh) t)/\∀ x,covB (L.foldl (barI B ps sh) t) x↔covB t x\/∃ i∈L,∃ j∈X6 B i,Ju B i j (loS (dyB B i) ps sh) (hiS (dyB B j) sh)=true/\loS (dyB B i) ps sh<=x/\x<=hiS (dyB B j) sh
 | [],t,_,h=>⟨h,λ x=>⟨.inl,λ z=>z.elim id λ ⟨_,hj,_⟩=>by cases hj⟩⟩
 | i::L,t,hL,h=>by
   have hi:=hL i (List.mem_cons_self ..)
   obtain ⟨k1,k2⟩:=Zpy g gd hi (X6 B i) t (λ j hj=>Zh4 hj) h
   obtain ⟨k3,k4⟩:=Zpz g gd L (barI B ps sh t i) (λ y hy=>hL y (List.mem_cons_of_mem _ hy)) k1
   refine ⟨k3,λ x=>(k4 x).trans ?_⟩
   have one:covB (barI B ps sh t i) x↔_:=k2 x
   rw [one]
   constructor
   · rintro ((z | z) | ⟨k,hk,z⟩)
     · exact .inl z
     · exact .inr ⟨i,List.mem_cons_self ..,z⟩
     · exact .inr ⟨k,List.mem_cons_of_mem _ hk,z⟩
   · rintro (z | ⟨k,hk,z⟩)
     · exact .inl (.inl z)
     · rcases List.mem_cons.mp hk with rfl | hk
       · exact .inl (.inr z)
       · exact .inr ⟨k,hk,z⟩
theorem Zcl {m n:Nat} {B:List (List Int×List Int)} (g:GoodBook m n B) {ps sh:List Int} (gd:GoodDay n (ps,sh)):BarsOk (Qk B ps sh)/\∀ x,covB (Qk B ps sh) x↔CovF B ps sh x:=by
 obtain ⟨h1,h2⟩:=Zpz g gd (List.range B.length) [] (λ i hi=>List.mem_range.mp hi) Zpx
 refine ⟨h1,λ x=>(h2 x).trans ?_⟩
 constructor
 · rintro (⟨b,hb,_⟩ | ⟨i,hi,j,z⟩)
   · cases hb
   · exact ⟨i,j,List.mem_range.mp hi,z.1,z.2.1,z.2.2⟩
 · rintro ⟨i,j,hi,z1,z2,z3⟩
   exact .inr ⟨i,List.mem_range.mpr hi,j,z1,z2,z3⟩
inductive Rch (B:List (List Int×List Int)):Nat->Nat->Prop
 | refl {i:Nat}:i<B.length->Rch B i i
 | step {i j k:Nat}:Rch B i j->k<B.length->gapF B j k<=0->Rch B i k
theorem Rch.l {B:List (List Int×List Int)} {i j:Nat} (h:Rch B i j):i<B.length:=by
 induction h with
 | refl h=>exact h
 | step _ _ _ ih=>exact ih
theorem Rch.r {B:List (List Int×List Int)} {i j:Nat} (h:Rch B i j):j<B.length:=by
 cases h with
 | refl h=>exact h
 | step _ h _=>exact h
theorem Rch.trans {B:List (List Int×List Int)} {i j k:Nat} (h:Rch B i j) (h2:Rch B j k):Rch B i k:=by
 induction h2 with
 | refl _=>exact h
 | step _ a b ih=>exact .step ih a b
theorem Zz2 (M:List (List Int)) (d:Nat):inK (Zx M d) d=true:=by
 obtain ⟨C',hC⟩:=Zhp M d
 rw [hC]; simp [inK]
theorem Zoi {B:List (List Int×List Int)} {i j:Nat} (h:Rch B i j):inK (Zx (Z4 B) i) j=true:=by
 induction h with
 | refl hi=>exact Zz2 _ _
 | step h a b ih=>exact Zm8 h.l ih a b
theorem Zov {B:List (List Int×List Int)}:∀ {c:List Nat} {i j:Nat},Ze5 (Z4 B) c->(∀ x∈c,x<B.length)->c.head?=some i->c.getLast?=some j->Rch B i j
 | [],i,j,_,_,h,_=>by cases h
 | [a],i,j,_,hx,h,h2=>by
   have e1:a=i:=by simpa using h
   have e2:a=j:=by simpa using h2
   subst e1
   subst e2
   exact .refl (hx a (by simp))
 | a::b::r,i,j,lk,hx,h,h2=>by
   have e1:a=i:=by simpa using h
   subst e1
   have ha:=hx a (by simp)
   have hb:=hx b (by simp)
   have g:gapF B a b<=0:=Zre.mp (by rw [← Zif ha hb]; exact lk.1)
   have t:=Zov (i:=b) (j:=j) lk.2 (λ x h=>hx x (List.mem_cons_of_mem _ h)) rfl (by rw [← h2]; rfl)
   exact (Rch.step (.refl ha) hb g).trans t
theorem Zo4 {B:List (List Int×List Int)} {i j:Nat} (hi:i<B.length) (h:inK (Zx (Z4 B) i) j=true):Rch B i j:=by
 have c:=(Zgx (Z4 B) i).at h
 exact Zov c.lk (λ x hx=>Zdz hi (c.mem x hx)) c.hd c.la
theorem Zgs {B:List (List Int×List Int)} {i j:Nat} (hi:i<B.length):j∈X6 B i↔Rch B i j:=by
 unfold X6
 rw [List.mem_filter,List.mem_range]
 exact ⟨λ h=>Zo4 hi h.2,λ h=>⟨h.r,Zoi h⟩⟩
def StrB (B:List (List Int×List Int)) (i j:Nat):Prop:=∃ o b,Rch B i o/\gapF B o b<0/\Rch B b j
theorem Zec {B:List (List Int×List Int)} {i j:Nat} (hi:i<B.length):(J2 (Z4 B) i j).isSome=true↔StrB B i j:=by
 constructor
 · intro h
   obtain ⟨c,hc⟩:=Option.isSome_iff_exists.mp h
   unfold J2 at hc
   obtain ⟨s,hs,hf⟩:=List.exists_of_findSome?_eq_some hc
   unfold oneF at hf
   split at hf
   case isFalse=>cases hf
   case isTrue z =>
   obtain ⟨z1,z2⟩:=z
   obtain ⟨_,row,ar,ab⟩:=Zd5 _ 0 s hs
   have s1n:s.1<B.length:=Zdz hi z1
   have s2n:s.2<B.length:=by
    have rl:=G7 B row (List.mem_of_getElem? ar)
    rw [Js] at rl
    rw [← rl]
    exact (List.getElem?_eq_some_iff.mp ab).1
   refine ⟨s.1,s.2,Zo4 hi z1,?_,Zo4 s2n z2⟩
   refine Zoo.mp ?_
   rw [← Zif s1n s2n]
   unfold mkF
   rw [Nat.sub_zero] at ar
   have er:(Z4 B).getD s.1 []=row:=by rw [List.getD,ar]; rfl
   rw [er,List.getD,ab]; rfl
 · rintro ⟨o,b,r1,g,r2⟩
   cases e:J2 (Z4 B) i j with
   | some c=>rfl
   | none =>
     have:=Zp2 e hi (Zoi r1) r2.l g
     rw [Zoi r2] at this
     cases this
theorem Zru {B C:List (List Int×List Int)} (h:∀ d∈B,d∈C):∃ f:Nat->Nat,∀ i,i<B.length->f i<C.length/\dyB C (f i)=dyB B i:=by
 have:∀ i,∃ k,i<B.length->k<C.length/\dyB C k=dyB B i:=λ i=>by
  by_cases hi:i<B.length
  · obtain ⟨k,hk,e⟩:=List.mem_iff_getElem.mp (h _ (List.getElem_mem hi))
    exact ⟨k,λ _=>⟨hk,by unfold dyB; simp [hk,hi,e]⟩⟩
  · exact ⟨0,λ z=>absurd z hi⟩
 exact ⟨λ i=>Classical.choose (this i),λ i=>Classical.choose_spec (this i)⟩
theorem Zd1 (B:List (List Int×List Int)) (i j:Nat):gapF B i j=dotF (dyB B i).1 (dyB B j).2-dotF (dyB B i).1 (dyB B i).2:=rfl
theorem Zlo {B C:List (List Int×List Int)} {f:Nat->Nat} (hf:∀ i,i<B.length->f i<C.length/\dyB C (f i)=dyB B i) {i j:Nat} (hi:i<B.length) (hj:j<B.length):gapF C (f i) (f j)=gapF B i j:=by
 rw [Zd1,Zd1,(hf i hi).2,(hf j hj).2]
theorem Zg6 {B C:List (List Int×List Int)} {f:Nat->Nat} (hf:∀ i,i<B.length->f i<C.length/\dyB C (f i)=dyB B i) {i j:Nat} (h:Rch B i j):Rch C (f i) (f j):=by
 induction h with
 | refl hi=>exact .refl (hf _ hi).1
 | step h a b ih=>exact .step ih (hf _ a).1 (by rw [Zlo hf h.r a]; exact b)
theorem Zyy {B C:List (List Int×List Int)} {f:Nat->Nat} (hf:∀ i,i<B.length->f i<C.length/\dyB C (f i)=dyB B i) {i j:Nat} (h:StrB B i j):StrB C (f i) (f j):=by
 obtain ⟨o,b,r1,g,r2⟩:=h
 exact ⟨f o,f b,Zg6 hf r1,by rw [Zlo hf r1.r r2.l]; exact g,Zg6 hf r2⟩
theorem Zr9 {B C:List (List Int×List Int)} (h:∀ d∈B,d∈C) {ps sh:List Int} {x:Sh} (c:CovF B ps sh x):CovF C ps sh x:=by
 obtain ⟨f,hf⟩:=Zru h
 obtain ⟨i,j,hi,hj,cl,x1,x2⟩:=c
 have r:=(Zgs hi).mp hj
 have hjl:=r.r
 refine ⟨f i,f j,(hf i hi).1,(Zgs (hf i hi).1).mpr (Zg6 hf r),?_,by rw [(hf i hi).2]; exact x1,by rw [(hf j hjl).2]; exact x2⟩
 rw [(hf i hi).2,(hf j hjl).2]
 unfold Ju at cl ⊢
 by_cases e:(loS (dyB B i) ps sh).1=(hiS (dyB B j) sh).1
 · rw [if_pos e] at cl ⊢
   exact (Zec (hf i hi).1).mpr (Zyy hf ((Zec hi).mp cl))
 · rw [if_neg e] at cl ⊢
   exact cl
theorem Zv4 {m k n:Nat} {B C:List (List Int×List Int)} (g:GoodBook m n B) (g':GoodBook k n C) {ps sh:List Int} (gd:GoodDay n (ps,sh)) (h1:∀ d∈B,d∈C) (h2:∀ d∈C,d∈B):Qk C ps sh=Qk B ps sh :=
 Zpk (Zcl g' gd).1 (Zcl g gd).1 λ x=>((Zcl g' gd).2 x).trans (Iff.trans ⟨Zr9 h2,Zr9 h1⟩ ((Zcl g gd).2 x).symm)
theorem Zj9 (B:List (List Int×List Int)) (i j:Nat):gpF B 1 1 i j=gapF B i j:=by unfold gpF gapF; omega
theorem Zxj (B:List (List Int×List Int)) (i:Nat):gapF B i i=0:=Int.sub_self _
structure Wor (B:List (List Int×List Int)) (u:Nat->Int):Prop where
 le:∀ i j,i<B.length->j<B.length->gapF B i j<=0->u j<=u i
 lt:∀ i j,i<B.length->j<B.length->gapF B i j<0->u j<u i
theorem Ztr {m n:Nat} {B:List (List Int×List Int)} (g:GoodBook m n B) (m8:m<=8) (h:Qt B=false):∃ u,Wor B u:=by
 have sh1:ShB 1:=by decide
 have ok:AnsOk (gpF B 1 1) B.length (tasA (gpF B 1 1) B.length):=Zns (by have:=g.m8; omega) (Zka g sh1 sh1)
 cases e:tasA (gpF B 1 1) B.length with
 | inl r=>rw [Zn7 e] at h; cases h
 | inr st =>
   rw [e] at ok
   refine ⟨λ d=>wOf (·.2.1) st d,λ i j hi hj hg=>?_,λ i j hi hj hg=>?_⟩
   · by_cases ne:i=j
     · subst ne; exact Int.le_refl _
     · have o1:=TasteOk.ok ok i j hi hj ne
       have w1:=TasteOk.w1 ok i hi
       rw [Zj9] at o1
       have:wOf (·.2.2) st i*gapF B i j<=0:=Int.mul_nonpos_of_nonneg_of_nonpos (by omega) hg
       show wOf (·.2.1) st j<=wOf (·.2.1) st i
       omega
   · have ne:i≠j:=λ z=>by subst z; rw [Zxj] at hg; omega
     have o1:=TasteOk.ok ok i j hi hj ne
     have w1:=TasteOk.w1 ok i hi
     rw [Zj9] at o1
     have:wOf (·.2.2) st i*gapF B i j<0:=Int.mul_neg_of_pos_of_neg (by omega) hg
     show wOf (·.2.1) st j<wOf (·.2.1) st i
     omega
theorem Zg3 {B:List (List Int×List Int)} {u:Nat->Int} (w:Wor B u) {i j:Nat} (h:Rch B i j):u j<=u i:=by
 induction h with
 | refl _=>exact Int.le_refl _
 | step h a b ih=>exact Int.le_trans (w.le _ _ h.r a b) ih
theorem Zyp {B:List (List Int×List Int)} {u:Nat->Int} (w:Wor B u) {i j:Nat} (h:StrB B i j):u j<u i:=by
 obtain ⟨o,b,r1,g,r2⟩:=h
 have h1:=Zg3 w r1
 have h2:=w.lt _ _ r1.r r2.l g
 have h3:=Zg3 w r2
 omega
theorem Zwn {m n:Nat} {B:List (List Int×List Int)} (g:GoodBook m n B) (m8:m<=8) (h:Qt B=true):∃ i j,gapF B i j<0/\Rch B j i:=by
 have sh1:ShB 1:=by decide
 have ok:AnsOk (gpF B 1 1) B.length (tasA (gpF B 1 1) B.length):=Zns (by have:=g.m8; omega) (Zka g sh1 sh1)
 cases e:tasA (gpF B 1 1) B.length with
 | inr st=>rw [Zh3 e] at h; cases h
 | inl r =>
   rw [e] at ok
   have two:=RingOk.two ok
   have lt:=RingOk.lt ok
   have le:=RingOk.le ok
   have be:=RingOk.be ok
   have inr:∀ k,k<r.length->r.getD k 0<B.length:=λ k hk=>lt _ (by rw [List.getD,List.getElem?_eq_getElem hk]; exact List.getElem_mem hk)
   have ch:∀ k,k<r.length->Rch B (r.getD 0 0) (r.getD k 0):=by
    intro k
    induction k with
    | zero=>exact λ hk=>.refl (inr 0 hk)
    | succ k ih =>
      intro hk
      have h1:=le k (by omega)
      rw [Nat.mod_eq_of_lt hk,Zj9] at h1
      exact .step (ih (by omega)) (inr _ hk) h1
   rw [Zj9] at be
   exact ⟨_,_,be,ch (r.length-1) (by omega)⟩
theorem Zwp {m k n:Nat} {B C:List (List Int×List Int)} (g:GoodBook m n B) (m8:m<=8) (g':GoodBook k n C) (k8:k<=8) (h:Qt B=false) (h2:∀ d∈C,d∈B):Qt C=false:=by
 cases e:Qt C with
 | false=>rfl
 | true =>
   obtain ⟨i,j,gp,r⟩:=Zwn g' k8 e
   obtain ⟨f,hf⟩:=Zru h2
   obtain ⟨u,w⟩:=Ztr g m8 h
   have h1:=Zg3 w (Zg6 hf r)
   have h3:=w.lt _ _ (hf i r.r).1 (hf j r.l).1 (by rw [Zlo hf r.r r.l]; exact gp)
   omega
theorem Ze4 {s t:Sh}:lowS s<=t↔s<=t:=⟨λ h=>RS.Sh.le_trans (Zgu s) h,λ h=>RS.Sh.le_trans (Zgt s) h⟩
theorem Ze6 {s t:Sh}:t<=lowS s↔t<=s:=⟨λ h=>RS.Sh.le_trans h (Zgt s),λ h=>RS.Sh.le_trans h (Zgu s)⟩
theorem Zvf {x y:Int} (hx:0<x) (hy:0<y):dsS x y<=0↔x<=y:=by
 have e:=Za4 hx hy
 show (dsS x y).1.1*1<=1*(dsS x y).1.2↔x<=y
 rw [e,Int.mul_one,Int.one_mul]
theorem Zu0 {x y:Int} (hx:0<x) (hy:0<y):0<=dsS x y↔y<=x:=by
 have e:=Za4 hx hy
 show 1*(dsS x y).1.2<=(dsS x y).1.1*1↔y<=x
 rw [e,Int.mul_one,Int.one_mul]
theorem Zw2 {m n:Nat} {B:List (List Int×List Int)} (g:GoodBook m n B) (m8:m<=8) (h:Qt B=false) {e:Nat} (he:e<B.length):¬ CovF B (dyB B e).1 (dyB B e).2 0:=by
 rintro ⟨i,j,hi,hj,cl,x1,x2⟩
 obtain ⟨u,w⟩:=Ztr g m8 h
 have r:=(Zgs hi).mp hj
 have hjl:=r.r
 have gd:∀ {k:Nat},k<B.length->GoodDay n (dyB B k):=λ hk=>Xq g.dy hk
 have n6:=g.n6
 have p1:=J0 (gd he) (gd hi) n6
 have p2:=J0 (gd he) (gd he) n6
 have p3:=J0 (gd hjl) (gd hjl) n6
 have p4:=J0 (gd hjl) (gd he) n6
 have lo_le:loS (dyB B i) (dyB B e).1 (dyB B e).2<=0↔gapF B e i<=0:=by
  unfold loS
  rw [Ze4,Zvf p1.1 p2.1,Zd1]; omega
 have le_lo:0<=loS (dyB B i) (dyB B e).1 (dyB B e).2↔0<=gapF B e i:=by
  unfold loS
  rw [Ze6,Zu0 p1.1 p2.1,Zd1]; omega
 have le_hi:0<=hiS (dyB B j) (dyB B e).2↔gapF B j e<=0:=by
  unfold hiS
  rw [Ze6,Zu0 p3.1 p4.1,Zd1]; omega
 have Zng:hiS (dyB B j) (dyB B e).2<=0↔0<=gapF B j e:=by
  unfold hiS
  rw [Ze4,Zvf p3.1 p4.1,Zd1]; omega
 have a1:=w.le e i he hi (lo_le.mp x1)
 have a2:=w.le j e hjl he (le_hi.mp x2)
 have a3:=Zg3 w r
 unfold Ju at cl
 by_cases eq:(loS (dyB B i) (dyB B e).1 (dyB B e).2).1=(hiS (dyB B j) (dyB B e).2).1
 · rw [if_pos eq] at cl
   have:=Zyp w ((Zec hi).mp cl)
   omega
 · rw [if_neg eq] at cl
   have lt:=of_decide_eq_true cl
   by_cases z:0<=gapF B e i
   · by_cases z2:0<=gapF B j e
     · exact Zbt (RS.Sh.lt_of_lt_of_le lt (RS.Sh.le_trans (Zng.mpr z2) (le_lo.mpr z)))
     · have:=w.lt j e hjl he (by omega)
       omega
   · have:=w.lt e i he hi (by omega)
     omega
theorem Zir (k:Int):∀ (ps as:List Int),dotF ps (as.map (k * ·))=k*dotF ps as
 | [],as=>by unfold dotF; simp
 | _::_,[]=>by unfold dotF; simp
 | p::ps,a::as=>by
   rw [List.map_cons,Zcx,Zcx,Zir k ps as,Int.mul_add]
   congr 1
   exact Int.mul_left_comm ..
theorem Zis (k:Int):∀ (ps as:List Int),dotF (ps.map (k * ·)) as=k*dotF ps as
 | [],as=>by unfold dotF; simp
 | _::_,[]=>by unfold dotF; simp
 | p::ps,a::as=>by
   rw [List.map_cons,Zcx,Zcx,Zis k ps as,Int.mul_add]
   congr 1
   exact Int.mul_assoc ..
theorem Zw7 {s t:Sh} (h1:s<=t) (h2:t<=s):lowS s=lowS t:=Zdo (Up _) (Up _) (RS.Sh.le_trans (Zgt s) (RS.Sh.le_trans h1 (Zgu t))) (RS.Sh.le_trans (Zgt t) (RS.Sh.le_trans h2 (Zgu s)))
theorem Hq {k x:Int} (hk:0<k):0<k*x↔0<x:=by
 constructor
 · intro h
   rcases Int.lt_or_le 0 x with z | z
   · exact z
   · have:=Int.mul_le_mul_of_nonneg_left z (Int.le_of_lt hk); rw [Int.mul_zero] at this; omega
 · exact λ h=>Int.mul_pos hk h
theorem Zzp {k:Int} (hk:0<k) (d:List Int×List Int) (ps sh:List Int):loS d (ps.map (k * ·)) sh=loS d ps sh:=by
 unfold loS
 rw [Zis,Zis]
 generalize dotF ps d.2=x
 generalize dotF ps sh=y
 by_cases h:0<x/\0<y
 · have e1:=Za4 h.1 h.2
   have e2:=Za4 ((Hq hk).mpr h.1) ((Hq hk).mpr h.2)
   have c:k*x*y=x*(k*y):=by rw [Int.mul_comm k x,Int.mul_assoc]
   refine Zw7 ?_ ?_
   · show (dsS (k*x) (k*y)).1.1*(dsS x y).1.2<=(dsS x y).1.1*(dsS (k*x) (k*y)).1.2
     rw [e1,e2]; exact Int.le_of_eq c
   · show (dsS x y).1.1*(dsS (k*x) (k*y)).1.2<=(dsS (k*x) (k*y)).1.1*(dsS x y).1.2
     rw [e1,e2]; exact Int.le_of_eq c.symm
 · have h':¬ (0<k*x/\0<k*y):=by rw [Hq hk,Hq hk]; exact h
   unfold dsS
   rw [dif_neg h,dif_neg h']
theorem Zv5 {k:Int} (hk:0<k) (B:List (List Int×List Int)) (ps sh:List Int):Qk B (ps.map (k * ·)) sh=Qk B ps sh:=by
 have e:barI B (ps.map (k * ·)) sh=barI B ps sh:=by
  funext t i
  unfold barI
  have:barJ B (ps.map (k * ·)) sh i=barJ B ps sh i:=by
   funext t j
   unfold barJ
   rw [Zzp hk]
  rw [this]
 unfold Qk
 rw [e]
theorem Zd2 {k:Int} (h:0<k) (s:Sh):divS k s=lowS ⟨(s.1.1,s.1.2*k),s.2.1,Int.mul_pos s.2.2 h⟩:=by unfold divS; rw [dif_pos h]
theorem Zgw {k:Int} (h:0<k) {s t:Sh}:divS k s<=divS k t↔s<=t:=by
 rw [Zd2 h,Zd2 h,Ze4,Ze6]
 show s.1.1*(t.1.2*k)<=t.1.1*(s.1.2*k)↔s.1.1*t.1.2<=t.1.1*s.1.2
 rw [← Int.mul_assoc,← Int.mul_assoc]
 exact Int.mul_le_mul_right h
theorem Zcj {k:Int} (h:0<k) {s t:Sh}:divS k s<divS k t↔s<t:=by
 rw [← RS.Sh.not_le,← RS.Sh.not_le,Zgw h]
theorem Zr2 {k:Int} (h:0<k) (s:Sh):Low (divS k s):=by rw [Zd2 h]; exact Up _
theorem Ztk {k:Int} (h:0<k) (s:Sh):divS k (lowS s)=divS k s:=by
 refine Zdo (Zr2 h _) (Zr2 h _) ((Zgw h).mpr (Zgt s)) ((Zgw h).mpr (Zgu s))
theorem Zzr {k:Int} (h:0<k) (s t:Sh):lesS (divS k s) (divS k t)=divS k (lesS s t):=by
 unfold lesS
 by_cases z:s<t
 · rw [if_pos z,if_pos ((Zcj h).mpr z)]
 · rw [if_neg z,if_neg (λ w=>z ((Zcj h).mp w))]
theorem Zz3 {k:Int} (h:0<k) (s t:Sh):grtS (divS k s) (divS k t)=divS k (grtS s t):=by
 unfold grtS
 by_cases z:s<t
 · rw [if_pos z,if_pos ((Zcj h).mpr z)]
 · rw [if_neg z,if_neg (λ w=>z ((Zcj h).mp w))]
theorem Zrq {k:Int} (h:0<k):∀ (bs:List Bar) (lo:Sh),leaF (divS k lo) (bs.map (divB k))=divS k (leaF lo bs)
 | [],_=>rfl
 | b::bs,lo=>by
   show leaF (lesS (divS k lo) (divS k b.1)) (bs.map (divB k))=divS k (leaF (lesS lo b.1) bs)
   rw [Zzr h,Zrq h]
theorem Zrh {k:Int} (h:0<k):∀ (bs:List Bar) (hi:Sh),mosF (divS k hi) (bs.map (divB k))=divS k (mosF hi bs)
 | [],_=>rfl
 | b::bs,hi=>by
   show mosF (grtS (divS k hi) (divS k b.2)) (bs.map (divB k))=divS k (mosF (grtS hi b.2) bs)
   rw [Zz3 h,Zrh h]
theorem Zsc {k:Int} (h:0<k) (bs:List Bar) (lo:Sh):belF (divS k lo) (bs.map (divB k))=(belF lo bs).map (divB k):=by
 unfold belF
 rw [List.filter_map]
 congr 1
 apply List.filter_congr
 intro b _
 show decide (divS k b.2<divS k lo)=decide (b.2<lo)
 exact decide_eq_decide.mpr (Zcj h)
theorem Zsg {k:Int} (h:0<k) (bs:List Bar) (hi:Sh):abvF (divS k hi) (bs.map (divB k))=(abvF hi bs).map (divB k):=by
 unfold abvF
 rw [List.filter_map]
 congr 1
 apply List.filter_congr
 intro b _
 show decide (divS k hi<divS k b.1)=decide (hi<b.1)
 exact decide_eq_decide.mpr (Zcj h)
theorem Zxd {k:Int} (h:0<k) (bs:List Bar) (lo hi:Sh):Kd (bs.map (divB k)) (divS k lo) (divS k hi)=(Kd bs lo hi).map (divB k):=by
 have em:midF (divS k lo) (divS k hi) (bs.map (divB k))=(midF lo hi bs).map (divB k):=by
  unfold midF
  rw [Zsc h,Zsg h,List.length_map,List.length_map,List.length_map,List.map_take,List.map_drop]
 unfold Kd
 rw [em,Zsc h,Zsg h,Zrq h,Zrh h,List.map_append,List.map_append]; rfl
theorem Zxs {k:Int} (h:0<k) (B:List (List Int×List Int)) (i j:Nat) {lo hi:Sh} (l1:Low lo) (l2:Low hi):Ju B i j (divS k lo) (divS k hi)=Ju B i j lo hi:=by
 unfold Ju
 by_cases e:lo.1=hi.1
 · rw [if_pos e,if_pos (by rw [Subtype.ext e])]
 · have e':¬ (divS k lo).1=(divS k hi).1:=λ z=>by
    have z':divS k lo=divS k hi:=Subtype.ext z
    exact e (by rw [Zdo l1 l2 ((Zgw h).mp (by rw [z']; exact RS.Sh.le_refl _)) ((Zgw h).mp (by rw [z']; exact RS.Sh.le_refl _))])
   rw [if_neg e,if_neg e']
   exact decide_eq_decide.mpr (Zcj h)
theorem Zvg {k x y:Int} (hk:0<k) (hx:0<x) (hy:0<y):lowS (dsS x (k*y))=divS k (lowS (dsS x y)):=by
 rw [Ztk hk,Zd2 hk]
 congr 1
 apply Subtype.ext
 rw [Za4 hx (Int.mul_pos hk hy)]
 show (x,k*y)=((dsS x y).1.1,(dsS x y).1.2*k)
 rw [Za4 hx hy,Int.mul_comm]
theorem Zxw {m n:Nat} {B:List (List Int×List Int)} (g:GoodBook m n B) {ps sh:List Int} (gd:GoodDay n (ps,sh)) {k:Int} (hk:0<k) {i j:Nat} (hi:i<B.length) (hj:j<B.length) (t:List Bar):barJ B ps (sh.map (k * ·)) i (t.map (divB k)) j=(barJ B ps sh i t j).map (divB k):=by
 have n6:=g.n6
 have di:GoodDay n (dyB B i):=Xq g.dy hi
 have dj:GoodDay n (dyB B j):=Xq g.dy hj
 have b1:=J0 (a:=(ps,sh)) gd di n6
 have b2:=J0 (a:=(ps,sh)) gd gd n6
 have b3:=J0 dj dj n6
 have b4:=J0 (b:=(ps,sh)) dj gd n6
 have e1:loS (dyB B i) ps (sh.map (k * ·))=divS k (loS (dyB B i) ps sh):=by
  unfold loS
  rw [Zir]
  exact Zvg hk b1.1 b2.1
 have e2:hiS (dyB B j) (sh.map (k * ·))=divS k (hiS (dyB B j) sh):=by
  unfold hiS
  rw [Zir]
  exact Zvg hk b3.1 b4.1
 unfold barJ
 rw [e1,e2,Zxs hk B i j (lo:=loS (dyB B i) ps sh) (hi:=hiS (dyB B j) sh) (Up _) (Up _)]
 by_cases c:Ju B i j (loS (dyB B i) ps sh) (hiS (dyB B j) sh)=true
 · rw [if_pos c,if_pos c,Zxd hk]
 · rw [if_neg c,if_neg c]
theorem Zik {α β γ:Type} {f:β->α->β} {f':γ->α->γ} {D:β->γ}:∀ (L:List α) (t:β),(∀ j∈L,∀ t,f' (D t) j=D (f t j))->L.foldl f' (D t)=D (L.foldl f t)
 | [],_,_=>rfl
 | j::L,t,h=>by
   rw [List.foldl_cons,List.foldl_cons,h j (List.mem_cons_self ..) t]
   exact Zik L (f t j) λ k hk=>h k (List.mem_cons_of_mem _ hk)
theorem Zxv {m n:Nat} {B:List (List Int×List Int)} (g:GoodBook m n B) {ps sh:List Int} (gd:GoodDay n (ps,sh)) {k:Int} (hk:0<k):Qk B ps (sh.map (k * ·))=(Qk B ps sh).map (divB k):=by
 unfold Qk
 refine Zik (D:=List.map (divB k)) (List.range B.length) [] λ i hi t=>?_
 unfold barI
 exact Zik (D:=List.map (divB k)) (X6 B i) t λ j hj t=>Zxw g gd hk (List.mem_range.mp hi) (Zh4 hj) t
theorem Zv3 {H H':Hp} {v:V} {b:Bar} (e:Tu H H') (h:BarAt H v b):BarAt H' v b:=let ⟨t,u1,u2,a,c,⟨t1,d1,d2⟩,⟨t2,f1,f2⟩⟩:=h; ⟨t,u1,u2,a,e _ _ c,⟨t1,d1,e _ _ d2⟩,⟨t2,f1,e _ _ f2⟩⟩
theorem Ztl {K:Fq} {a:Addr} {zs:List (V×Bar)} {l:List (Option Nat)} {te:TE} {σ σr:St} {H1:Hp} {Q:Hp->Prop} (f:Bar->Bar) (ha:H1 a=some (.lst (zs.map Prod.fst))) (hz:∀ z∈zs,BarAt H1 z.1 z.2) (D:Addr) (hn:zs.length<=1000) (hD:H1 D=none) (hini:∃ r0 r1,Xn l σ=r0::r1::σr)
 (hs:∀ z u1 u2 H (R:VK),z∈zs->RS.SV H u1 z.2.1->RS.SV H u2 z.2.2->(∀ v H4,Same H H4->BarAt H4 v (f z.2)->R v H4)->te (some u1::some u2::σr) H R)
 (hd:∀ H (ws:List (V×Bar)),Same H1 H->H D=some (.lst (ws.map Prod.fst))->ws.map Prod.snd=(zs.map Prod.snd).map f->(∀ w∈ws,BarAt H w.1 w.2)->Q H) :
 ∃ W:CompW,(∃ m,W 0 m [] (Xn l σ) (upd H1 D (.lst [])))/\Q7 (Itl K a) (K3 K 2 (Xo (Zo 0) (Xo (Zo 1) K4))) Qd te D W Q:=by
 obtain ⟨r0,r1,hini⟩:=hini
 refine Zfd D (zs.map Prod.fst) (λ i ys σ2 H=>ys.length=i/\i<=zs.length/\(∃ ws:List (V×Bar),ys=ws.map Prod.fst/\ws.map Prod.snd=((zs.take i).map Prod.snd).map f/\∀ w∈ws,BarAt H w.1 w.2)/\Same H1 H/\∃ r0 r1,σ2=r0::r1::σr) (by rw [List.length_map]; exact hn) (λ i ys σ H h=>Nat.le_of_eq h.1) ?_ ⟨rfl,Nat.zero_le _,⟨[],rfl,rfl,λ w hw=>by cases hw⟩,Same.laid hD,r0,r1,hini⟩ ?_ ?_
 · rintro i ys σ2 H ⟨_,_,_,hs1,_⟩ _
   exact Zj2 (SqL.of (hs1 _ _ ha)) i
 · rintro i x ys σ2 H hx ⟨hl,_,⟨ws,rfl,ew,hw⟩,hs1,q0,q1,rfl⟩ hH
   have hi:i<zs.length:=by
    have:=(List.getElem?_eq_some_iff.mp hx).1
    simpa using this
   have ex:x=(zs[i]'hi).1:=by
    rw [List.getElem?_map,List.getElem?_eq_getElem hi] at hx
    simpa using hx.symm
   have hm:=List.getElem_mem hi
   obtain ⟨t,u1,u2,e,ht,v1,v2⟩:=hz _ hm
   rw [e] at ex
   subst ex
   refine Uu (SqT.of (hs1 _ _ ht)) rfl (Xk (Zq (Xk (Zq (Uv (Ziw (iteT ?_)))))))
   refine hs _ u1 u2 H _ hm (Xh hs1 v1) (Xh hs1 v2) λ v H4 h4 bv=>?_
   have hD4:H4 D=some (.lst (ws.map Prod.fst)):=h4 _ _ hH
   refine ⟨hD4,by rw [List.length_append,hl]; rfl,hi,⟨ws++[(v,f (zs[i]'hi).2)],by simp,?_,λ w hw'=>?_⟩,(hs1.trans h4).put hD,_,_,rfl⟩
   · rw [List.map_append,ew,List.take_add_one,List.getElem?_eq_getElem hi,Option.toList_some,List.map_append,List.map_append]; rfl
   · rcases List.mem_append.mp hw' with z | z
     · exact Zv3 (Tu.put hD4) (Zff h4 (hw w z))
     · have:w=(v,f (zs[i]'hi).2):=by simpa using z
       rw [this]
       exact Zv3 (Tu.put hD4) bv
 · rintro ys σ2 H ⟨_,_,⟨ws,rfl,ew,hw⟩,hs1,_⟩ hH
   rw [List.length_map,List.take_length] at ew
   exact hd H ws hs1 hH ew hw
theorem Zv2 {s:Sh} (h:Bd 1 s) {k:Int} (k0:0<k) (k1:k<=1000):Bd 2 (⟨(s.1.1,s.1.2*k),s.2.1,Int.mul_pos s.2.2 k0⟩:Sh):=by
 have b:=Zl2 h
 have s1:=s.2.1
 have s2:=s.2.2
 have p:(2:Int) ^ (150*2)=2037035976334486086268445688409378161051468393665936250636140449354381299763336706183397376:=by decide +kernel
 have m:s.1.2*k<=s.1.2*1000:=Int.mul_le_mul_of_nonneg_left k1 (by omega)
 refine ⟨?_,?_⟩ <;> rw [p] <;> dsimp only <;> omega
theorem Zjs {K:Fq} {a b:V} {H:Hp} {Q:VK} {E:XK} (h:Zcv K a b H Q E):Vi K (Rt Q) [some a,some b] H:=by
 obtain ⟨_,k,⟨p,zs,rfl,hp,rfl,hz⟩,ok,len,rfl,k1,k2,q⟩:=h
 have k0:0<k:=by omega
 rw [List.length_map] at len
 unfold Vi
 refine Yc (Xy (X3 (Za rfl ⟨p,rfl,.inl ⟨⟨_,SqL.of hp⟩,λ D hD=>?_⟩⟩)))
 refine Ztl (K:=K) (zs:=zs) (σr:=[some (.int k)]) (divB k) hp hz D (by omega) hD ⟨none,none,rfl⟩ (λ z u1 u2 H2 R hm v1 v2 kk=>?_) λ H2 ws s2 h2 e2 b2=>q _ _ s2 ⟨D,ws,rfl,h2,e2,b2⟩
 have ok1:=ok.ok z.2 (List.mem_map.mpr ⟨z,hm,rfl⟩)
 obtain ⟨t1,rfl,h1⟩:=v1
 obtain ⟨t2,rfl,h2⟩:=v2
 have mo:∀ {x:Sh},Bd 1 x->IntMulOk x.1.2 k:=λ h=>Za9 (by omega) (by omega)
 refine Wh (Zb (Zv (Zb (Zh (Za rfl (w_c (Yd (v:=.int z.2.1.1.1) (SqT.of h1) rfl (Zb (Zh (Zh (Za rfl (w_c (Yd (v:=.int z.2.1.1.2) (SqT.of h1) rfl (Za rfl (Yu (mo ok1.b1) (Zg ⟨_,_,rfl,⟨(z.2.1.1.1,z.2.1.1.2*k),z.2.1.2.1,Int.mul_pos z.2.1.2.2 k0⟩,2,rfl,rfl,Zv2 ok1.b1 k0 k2,by decide,λ q1 hq1=>?_⟩))))))))))))))))
 have y1:=Same.laid (o:=.tup [.int (lowS ⟨(z.2.1.1.1,z.2.1.1.2*k),z.2.1.2.1,Int.mul_pos z.2.1.2.2 k0⟩).1.1,.int (lowS ⟨(z.2.1.1.1,z.2.1.1.2*k),z.2.1.2.1,Int.mul_pos z.2.1.2.2 k0⟩).1.2]) hq1
 refine Zb (Zv (Zb (Zh (Za rfl (w_c (Yd (v:=.int z.2.2.1.1) (SqT.of (y1 _ _ h2)) rfl (Zb (Zh (Zh (Za rfl (w_c (Yd (v:=.int z.2.2.1.2) (SqT.of (y1 _ _ h2)) rfl (Za rfl (Yu (mo ok1.b2) (Zg ⟨_,_,rfl,⟨(z.2.2.1.1,z.2.2.1.2*k),z.2.2.2.1,Int.mul_pos z.2.2.2.2 k0⟩,2,rfl,rfl,Zv2 ok1.b2 k0 k2,by decide,λ q2 hq2=>Zg ⟨by show 2<=sizeLine; decide,λ q3 hq3=>?_⟩⟩)))))))))))))))
 have y2:=Same.laid (o:=.tup [.int (lowS ⟨(z.2.2.1.1,z.2.2.1.2*k),z.2.2.2.1,Int.mul_pos z.2.2.2.2 k0⟩).1.1,.int (lowS ⟨(z.2.2.1.1,z.2.2.1.2*k),z.2.2.2.1,Int.mul_pos z.2.2.2.2 k0⟩).1.2]) hq2
 have y3:=Same.laid (o:=.tup [.ref q1,.ref q2]) hq3
 refine kk _ _ ((y1.trans y2).trans y3) ⟨q3,.ref q1,.ref q2,rfl,Zn,⟨q1,rfl,?_⟩,⟨q2,rfl,?_⟩⟩
 · show _=some (HO.tup [.int (divS k z.2.1).1.1,.int (divS k z.2.1).1.2])
   rw [Zd2 k0]
   exact y3 _ _ (y2 _ _ Zn)
 · show _=some (HO.tup [.int (divS k z.2.2).1.1,.int (divS k z.2.2).1.2])
   rw [Zd2 k0]
   exact y3 _ _ Zn
theorem Zmy {K:Fq} {a b:V} {H:Hp} {Q:VK} {E:XK} (h:Zfj K a b H Q E):Ez K (Rt Q) [some a,some b] H:=by
 obtain ⟨p,ns,k,rfl,hp,len,rfl,k1,k2,q⟩:=h
 unfold Ez
 refine Yc (Yl (Zb (Xy (X3 (Za rfl ⟨p,rfl,.inr ⟨⟨_,SqT.of hp⟩,λ D hD=>?_⟩⟩)))))
 refine Ey (K:=K) (a:=p) (xs:=ns.map V.int) (σr:=[some (.int k)]) (.inl ⟨rfl,hp⟩) D (λ j v _=>v=.int (k*ns.getD j 0)) (λ _ _ _ _ _ z=>z) (by rw [List.length_map]; omega) hD ⟨none,rfl⟩ (λ j x H4 R hx s4 kk=>?_) λ ys H4 hy hall s4 h4=>?_
 · rw [List.getElem?_map] at hx
   obtain ⟨y,hy,rfl⟩:=Option.map_eq_some_iff.mp hx
   have ey:ns.getD j 0=y:=by rw [List.getD,hy]; rfl
   exact Zh (Za rfl (Za rfl (Yu (Wg (by omega) (by omega)) (kk _ _ (Same.refl _) (by rw [ey])))))
 · have e:(List.range (ns.map V.int).length).map (λ j=>k*ns.getD j 0)=ns.map (k * ·):=by
    apply List.ext_getElem?
    intro j
    rw [List.length_map]
    rcases Nat.lt_or_ge j ns.length with z | z
    · rw [List.getElem?_map,List.getElem?_range z,List.getElem?_map,List.getElem?_eq_getElem z]
      simp [z]
    · rw [List.getElem?_eq_none (by simp; omega),List.getElem?_eq_none (by simp; omega)]
   rw [Zlk (f:=λ j=>k*ns.getD j 0) hy hall,e] at h4
   exact Zg (Zix (SqL.of h4) λ t ht=>q _ _ (s4.laidT ht) Zn)
def shD (s:Sh):PyData:=.tuple [.int s.1.1,.int s.1.2]
def Zkw (b:Bar):PyData:=.tuple [shD b.1,shD b.2]
def Znj (bs:List Bar):PyData:=.list (bs.map Zkw)
theorem Zt2 {H:Hp} {v:V} {s:Sh} (h:RS.SV H v s):Rep H v (shD s):=by
 obtain ⟨t,rfl,ht⟩:=h
 exact rep2 ht
theorem Ud {H:Hp} {v:V} {bs:List Bar} (h:BarsR H v bs):Rep H v (Znj bs):=by
 obtain ⟨p,zs,rfl,hp,rfl,hz⟩:=h
 refine Zy8 hp (Reps.of (by simp) λ i x d hx hd=>?_)
 have hi:i<zs.length:=by
  have:=(List.getElem?_eq_some_iff.mp hx).1
  simpa using this
 rw [List.getElem?_map,List.getElem?_eq_getElem hi] at hx
 rw [List.getElem?_map,List.getElem?_map,List.getElem?_eq_getElem hi] at hd
 have ex:x=(zs[i]'hi).1:=by simpa using hx.symm
 have ed:d=Zkw (zs[i]'hi).2:=by simpa using hd.symm
 rw [ex,ed]
 obtain ⟨t,u1,u2,e,ht,v1,v2⟩:=hz _ (List.getElem_mem hi)
 rw [e]
 exact Zg5 ht (Et (Zt2 v1) (Et (Zt2 v2) Zn8))
theorem Ue (bs:List Bar):(Znj bs).canLay0=true/\(Znj bs).depth<=64:=by
 unfold Znj
 refine ⟨?_,?_⟩
 · simp only [PyData.canLay0]
   exact layAll_map λ b _=>by simp [Zkw,shD,PyData.canLay0,PyData.canLayAll0]
 · have:=depthAll_map (f:=Zkw) (k:=3) (xs:=bs) λ b _=>by simp [Zkw,shD,PyData.depth,PyData.depthAll]
   simp only [PyData.depth]; omega
theorem Zs8 {n:Nat} {ps sh:List Int} (g:GoodDay n (ps,sh)) (hb:∀ x∈sh,x<=1000000002) {k:Int} (k1:1<=k) (k2:k<=1000):GoodDay n (ps,sh.map (k * ·)):=by
 refine ⟨g.l1,by show (sh.map (k * ·)).length=n; rw [List.length_map]; exact g.l2,g.pr,λ x hx=>?_,?_⟩
 · obtain ⟨y,hy,rfl⟩:=List.mem_map.mp hx
   have y0:=(g.am y hy).1
   have h1:=Int.mul_le_mul_of_nonneg_right k2 y0
   have h2:=hb y hy
   exact ⟨Int.mul_nonneg (by omega) y0,by show k*y<=_; omega⟩
 · obtain ⟨y,hy,y0⟩:=g.ps
   exact ⟨k*y,List.mem_map.mpr ⟨y,hy,rfl⟩,Int.mul_pos (by omega) y0⟩
theorem Zqg {n:Nat} {ps sh:List Int} (g:GoodDay n (ps,sh)) {k m:Int} (k1:1<=k) (hm:∀ x∈ps,x<=m) (le:m*k<=1000000000):GoodDay n (ps.map (k * ·),sh):=by
 refine ⟨by show (ps.map (k * ·)).length=n; rw [List.length_map]; exact g.l1,g.l2,λ x hx=>?_,g.am,g.ps⟩
 obtain ⟨y,hy,rfl⟩:=List.mem_map.mp hx
 have y1:=(g.pr y hy).1
 have h1:=Int.mul_le_mul_of_nonneg_left (hm y hy) (show 0<=k by omega)
 have h2:k*m=m*k:=Int.mul_comm ..
 have h3:1*y<=k*y:=Int.mul_le_mul_of_nonneg_right k1 (by omega)
 exact ⟨by show 1<=k*y; omega,by show k*y<=_; omega⟩
theorem Zwq {H:Hp} {xs:List V} {ds:List PyData} (r:Reps H xs ds):Reps H xs.reverse ds.reverse:=by
 have hl:=r.length
 refine Reps.of (by rw [List.length_reverse,List.length_reverse,hl]) λ i x d hx hd=>?_
 have hi:i<xs.length:=by
  have:=(List.getElem?_eq_some_iff.mp hx).1
  simpa using this
 rw [List.getElem?_reverse hi] at hx
 rw [List.getElem?_reverse (by omega)] at hd
 obtain ⟨d',e,rep⟩:=r.get hx
 rw [hl,hd] at e
 cases e
 exact rep
theorem Z0x {K:Fq} {mg:Str->Option Value} (M:Md K mg) {a:V} {H:Hp} {Q:VK} {E:XK} (h:Zn1 K a H Q E):Znr K mg (Rt Q) [some a,none,none,none,none,none,none,none,none,none,none,none,none] H:=by
 obtain ⟨l,sc,rfl,hl,hb,hlen,q⟩:=h
 have sh1:ShB 1:=by decide
 unfold Znr
 refine Zr (Z9 (Zv (Zb (Za rfl (Zb (w_c (Zb (w_c (Zb (w_c (Zg ⟨_,_,_,_,rfl,l,sc,4,6,4,rfl,rfl,rfl,rfl,hl,hb,by decide,by decide,by decide,by decide,by decide,λ v B k H1 s1 rB gB hk gx=>Zq ?_⟩)))))))))))
 try dsimp only
 refine Zr (Z9 (Zv (Zb (Za rfl (Zb (w_c (Zg ⟨_,_,rfl,l,sc,1,rfl,rfl,s1.seq hl,hb,by decide,Zq ?_⟩)))))))
 generalize Uq sc 1=c
 try dsimp only
 obtain ⟨bp,xs,rfl,hbp,rxs⟩:=rep_tup_inv rB
 have lx:xs.length=B.length:=by rw [rxs.length,List.length_map]
 obtain ⟨_,xs',e,hb2,_,dd⟩:=Qs rB
 cases e
 have exs:xs'=xs:=by rw [hbp] at hb2; cases hb2; rfl
 subst exs
 have B1:=gB.m1
 have B6:=gB.m8
 have k1:=gB.n1
 have k6:=gB.n6
 have X0:0<xs'.length:=by omega
 have XI:(0:Int)<(xs'.length:Int):=by omega
 obtain ⟨u,u1,u2,f1,f2,f3,f4⟩:=dd 0 (by omega)
 have gD:=Xq gB.dy (show 0<B.length by omega)
 have at0:atI xs' 0=some (.ref u):=Xv (j:=0) f1
 generalize (B.getD 0 ([],[]))=D0 at f3 f4 gD
 have lD:=gD.l1
 refine Zr (Z9 (Zv (Zb (Zv (Zb (Za rfl (Zb (w_c (Zg ⟨_,_,rfl,l,sc,2,rfl,rfl,s1.seq hl,hb,by decide,?_⟩)))))))))
 have c20:=Zit sc 2
 have c21:=Ziu sc 2
 generalize Uq sc 2=c2 at c20 c21 ⊢
 refine Zb (Zh (Wi (Zb (w_c (Zb (w_c (Zb (w_c (Zb (w_c (Zg ⟨by show 4<=sizeLine; decide,λ a5 h5=>?_⟩)))))))))))
 obtain ⟨f,ef⟩:∃ f:Int,atI [V.int 0,.int 0,.int 1,.int 2] (c % 4)=some (.int f):=by
  have r0:=Int.emod_nonneg c (show (4:Int)≠0 by decide)
  have r1:=Int.emod_lt_of_pos c (show (0:Int)<4 by decide)
  rcases (by omega:c % 4=0\/c % 4=1\/c % 4=2\/c % 4=3) with z | z | z | z <;> rw [z]
  · exact ⟨_,rfl⟩
  · exact ⟨_,rfl⟩
  · exact ⟨_,rfl⟩
  · exact ⟨_,rfl⟩
 refine Zh (Za rfl (w_c (Yv (by decide) (Y9 (SqL.of Zn) ef ?_))))
 have s5:Same H1 (upd H1 a5 (.lst [.int 0,.int 0,.int 1,.int 2])):=Same.laid h5
 generalize upd H1 a5 (.lst [.int 0,.int 0,.int 1,.int 2])=H5 at s5 ⊢
 refine Zb (Xy (X3 (Zh (Zh (Za rfl (w_c (Yd (SqT.of (s5 _ _ hbp)) at0 (w_c (Yd (v:=.ref u1) (SqT.of (s5 _ _ f2)) rfl ⟨u1,rfl,.inr ⟨⟨_,SqT.of (s5 _ _ f3)⟩,λ D hD=>?_⟩⟩)))))))))
 refine Ey (K:=K) (a:=u1) (xs:=D0.1.map V.int) (σr:=[]) (.inl ⟨rfl,s5 _ _ f3⟩) D (λ _ v _=>v=.int 1) (λ _ _ _ _ _ z=>z) (by rw [List.length_map]; omega) hD ⟨none,rfl⟩ (λ j x H6 R hx s6 kk=>w_c (kk _ _ (Same.refl _) rfl)) λ ys H6 hy hall s6 h6=>Zg ?_
 rw [List.length_map,lD] at hy
 rw [Zv8 hy hall] at h6
 refine ⟨_,_,_,rfl,c2,f,D,List.replicate k 1,rfl,rfl,rfl,c20,c21,h6,by rw [List.length_replicate]; omega,by rw [List.length_replicate]; omega,λ x hx=>by rw [(List.mem_replicate.mp hx).2]; decide,λ v d H7 s7 rd gd gdx=>?_⟩
 rw [List.length_replicate] at gd
 obtain ⟨pd,pp,pq,rfl,hpd,hpp,hpq⟩:=Zlx rd
 obtain ⟨ps,sh⟩:=d
 replace hpp:H7 pp=some (.tup (ps.map V.int)):=hpp
 replace hpq:H7 pq=some (.tup (sh.map V.int)):=hpq
 replace gdx:∀ x∈sh,x<=1000000001:=gdx
 refine Uu (SqT.of hpd) rfl (Xk (Zq (Xk (Zq (Uv ?_)))))
 have s17:=(s5.trans s6).trans s7
 have s07:=s1.trans s17
 clear s5 s6 s7 h6 hD hall hy rd h5 hpd
 try dsimp only
 have atN:∀ {n:Nat},n<xs'.length->∃ q p1 p2,xs'[n]?=some (.ref q)/\H1 q=some (.tup [.ref p1,.ref p2])/\H1 p1=some (.tup ((dyB B n).1.map V.int))/\H1 p2=some (.tup ((dyB B n).2.map V.int)):=λ hn=>dd _ (by omega)
 have gN:∀ {n:Nat},n<xs'.length->GoodDay k (dyB B n):=λ hn=>Xq gB.dy (by omega)
 have gx':∀ {n:Nat},n<xs'.length->∀ x∈(dyB B n).2,x<=1000000002:=λ {n} hn=>gx _ (by unfold dyB; rw [List.getD,List.getElem?_eq_getElem (show n<B.length by omega)]; exact List.getElem_mem _)
 refine w_seqI (λ σ' H'=>∃ pp pq ps sh,σ'=[some (.ref l),some (.ref bp),some (.int c),some (.ref pp),some (.ref pq),none,none,none,none,none,none,none,none]/\Same H1 H'/\H' pp=some (.tup (ps.map V.int))/\H' pq=some (.tup (sh.map V.int))/\GoodDay k (ps,sh)/\∀ x∈sh,x<=1000000002) (λ R kk=>?_) ?_
 · refine Yp (Yj (Zh (Zh (Zh (Za rfl (w_c (Qv (by decide) (by decide) (w_c (Yv (by decide) (w_c (Xm (Yq (iteD (λ yes=>?_) λ no=>Yk (kk _ _ ⟨pp,pq,ps,sh,rfl,s17,hpp,hpq,gd,λ x hx=>by have:=gdx x hx; omega⟩))))))))))))))
   refine Z9 (Zh (Za rfl (Zh (Zh (Za rfl (w_c (Qv (by decide) (by decide) (Yl (Zb (Za rfl (Zg (X4 (SqT.of (s17 _ _ hbp)) (Yv XI ?_)))))))))))))
   obtain ⟨n,en,hn⟩:=Zlw (c:=c / 16) (n:=xs'.length) X0
   rw [en]
   obtain ⟨q0,p1,p2,e1,e2,e3,e4⟩:=atN hn
   exact Yd (SqT.of (s17 _ _ hbp)) (Xv e1) (Uu (SqT.of (s17 _ _ e2)) rfl (Xk (Zq (Xk (Zq (Uv (kk _ _ ⟨p1,p2,_,_,rfl,s17,s17 _ _ e3,s17 _ _ e4,gN hn,gx' hn⟩)))))))
 clear hpp hpq gd gdx s17 s07
 rintro σ' H8 ⟨pp,pq,ps,sh,rfl,s18,hpp,hpq,gd,hsh⟩
 try dsimp only
 have okA:AnsOk (gpF B 1 1) B.length (tasA (gpF B 1 1) B.length):=Zns (by omega) (Zka gB sh1 sh1)
 refine Zr (Z9 (Zv (Zb (Zqy (Zb (Za rfl (Zg ⟨_,_,rfl,B,6,k,1,1,Rep.mono s18 _ _ rB,gB,by decide,.inl ⟨rfl,rfl,rfl⟩,sh1,sh1,λ w He se tw=>?_⟩)))))))
 refine Zb (Za rfl (Zb (Wh (Zb (w_c (Zb (w_c (Zg ⟨by show 2<=sizeLine; decide,λ uu hu=>Zg ?_⟩))))))))
 have su:=Same.laid (o:=.tup [.int 1,.int 1]) hu
 refine ⟨_,_,_,rfl,B,6,k,uu,1,1,_,H8,Rep.mono ((s18.trans se).trans su) _ _ rB,gB,by decide,rfl,Zn,sh1,sh1,Zyw su tw,okA,λ Hf sf=>Zq ?_⟩
 have s8f:=(se.trans su).trans sf
 have s1f:=s18.trans s8f
 have hppf:=s8f _ _ hpp
 have hpqf:=s8f _ _ hpq
 clear su hu tw se sf s8f hpp hpq s18
 try dsimp only
 refine Zr (Yp (Yj (Zh (Za rfl (w_c (w_neS (Yq (iteB (λ no=>?_) λ yes=>Yk ?_))))))))
 · refine Yc (Zh (Za rfl (w_c (w_eqS ?_))))
   have nt:¬ kdM (tasA (gpF B 1 1) B.length)="taste":=λ z=>by rw [decide_eq_true z] at no; cases no
   rw [decide_eq_true (Zy7 (Zwo nt))]
   exact q _
 have nr:Qt B=false:=Zwm (by
  cases e:decide (kdM (tasA (gpF B 1 1) B.length)="taste") with
  | true=>exact of_decide_eq_true e
  | false=>rw [e] at yes; cases yes)
 have nrF:Qt B=true->False:=λ z=>by rw [nr] at z; cases z
 clear yes okA
 generalize kdM (tasA (gpF B 1 1) B.length)=kd
 try dsimp only
 have bars:∀ {Hx:Hp} {R:VK} {C:List (List Int×List Int)} {m:Nat} {w x y:Addr} {xs ys:List Int},Rep Hx (.ref w) (Xj C)->GoodBook m k C->m<=8->Qt C=false->Hx x=some (.tup (xs.map V.int))->Hx y=some (.tup (ys.map V.int))->GoodDay k (xs,ys)->(∀ v Hy,Same Hx Hy->BarsR Hy v (Qk C xs ys)->BarsOk (Qk C xs ys)->(Qk C xs ys).length<=64->R v Hy)->Uh K mg [.ref w,.ref x,.ref y] Hx R E0:=λ r g m8 nr hx hy gd kk =>
  ⟨_,_,_,rfl,_,_,k,_,_,_,_,r,g,m8,rfl,hx,rfl,hy,gd,λ _=>kk,λ z=>by rw [nr] at z; cases z⟩
 refine Zr (Z9 (Zv (Zb (Za rfl (Zb (Za rfl (Zb (Za rfl (Zg (bars (Rep.mono s1f _ _ rB) gB (by decide) nr hppf hpqf gd λ fv Hg sg brg bo bn=>Zq ?_))))))))))
 have s1g:=s1f.trans sg
 have hppg:=sg _ _ hppf
 have hpqg:=sg _ _ hpqf
 clear sg hppf hpqf s1f
 try dsimp only
 refine Zr (Z9 (Zh (Zh (Za rfl (w_c (Qv (by decide) (by decide) (Yl (Zb (Za rfl (Zg (X4 (SqT.of (s1g _ _ hbp)) (Yv XI (Zq ?_)))))))))))))
 obtain ⟨t,et,ht⟩:=Zlw (c:=c / 64) (n:=xs'.length) X0
 rw [et]
 try dsimp only
 have ha:=s1g _ _ hbp
 have rxg:=Reps.mono s1g _ _ rxs
 refine Zr (Z9 (Zh (Zhs (Za rfl (Es (Za rfl (Zcm (Hs (Zyv ha ht λ p7 Hb sb hb7=>?_)))))))))
 refine Zhs (Za rfl (Hs (Es (Za rfl (Zcm (Zyu (sb _ _ ha) ht λ p8 Hc sc8 hc8=>?_))))))
 refine Zsl (sc8 _ _ hb7) hc8 (by rw [List.length_drop,List.length_take]; omega) λ p9 Hd sd hd9=>Zq ?_
 have sgd:=(sb.trans sc8).trans sd
 have rO:Rep Hd (.ref p9) (Xj (B.drop t++B.take t)):=by
  unfold Xj
  rw [List.map_append,List.map_drop,List.map_take]
  exact Zg5 hd9 (Zn9 (Zub t (Reps.mono sgd _ _ rxg)) (Zua t (Reps.mono sgd _ _ rxg)))
 clear hb7 hc8 hd9 sb sc8 sd
 try dsimp only
 refine w_seqI (λ σ' H'=>∃ po O,σ'=[some (.ref l),some (.ref bp),some (.int c),some (.ref pp),some (.ref pq),some (.str kd),some fv,some (.int (t:Nat)),some (.ref po),none,none,none,none]/\Same Hg H'/\Rep H' (.ref po) (Xj O)/\O.length=B.length/\(∀ d∈O,d∈B)/\∀ d∈B,d∈O) (λ R kk=>?_) ?_
 · refine Yp (Yj (Zh (Zh (Zh (Za rfl (w_c (Qv (by decide) (by decide) (w_c (Yv (by decide) (w_c (Xm (Yq (iteD (λ yes=>?_) λ no=>Yk (kk _ _ ⟨p9,_,rfl,sgd,rO,?_,?_,?_⟩))))))))))))))
   · refine Z9 (Zwa (Zb (Za rfl (Zg ⟨bp,xs',rfl,SqT.of (sgd _ _ ha),by omega,λ p hp=>Zq (kk _ _ ⟨p,B.reverse,rfl,sgd.laidT hp,?_,by rw [List.length_reverse],λ d hd=>List.mem_reverse.mp hd,λ d hd=>List.mem_reverse.mpr hd⟩)⟩))))
     unfold Xj
     rw [List.map_reverse]
     exact Zg5 Zn (Zwq (Reps.mono (sgd.laidT hp) _ _ rxg))
   · rw [List.length_append,List.length_drop,List.length_take]; omega
   · intro d hd
     rcases List.mem_append.mp hd with z | z
     · exact List.mem_of_mem_drop z
     · exact List.mem_of_mem_take z
   · intro d hd
     rw [← List.take_append_drop t B] at hd
     rcases List.mem_append.mp hd with z | z
     · exact List.mem_append.mpr (.inr z)
     · exact List.mem_append.mpr (.inl z)
 clear rO sgd
 rintro σ' Hd ⟨po,O,rfl,sgd,rO,lO,O1,O2⟩
 have gO:GoodBook 6 k O:=Zz4 gB (by omega) (by omega) λ d hd=>gB.dy d (O1 d hd)
 have nrO:Qt O=false:=Zwp gB (by decide) gO (by decide) nr O1
 have eO:Qk O ps sh=Qk B ps sh:=Zv4 gB gO gd O2 O1
 try dsimp only
 refine Zr (Yp (K8 (w_not (Xr (Zv (Zb (Za rfl (Zg ⟨_,rfl,Qk B ps sh,Qa sgd brg,bo,bn,λ Hh sh'=>Xa (iteF ?_)⟩))))))))
 have sgh:=sgd.trans sh'
 refine Yj (Zh (Zv (Zb (Za rfl (Zb (Za rfl (Zb (Za rfl (Zg (bars (Rep.mono sh' _ _ rO) gO (by decide) nrO (sgh _ _ hppg) (sgh _ _ hpqg) gd λ v2 Hi si br2 _ _=>?_))))))))))
 rw [eO] at br2
 have sgi:=sgh.trans si
 refine Za rfl (w_neSelf (Ud br2) (Ud (Qa sgi brg)) (Ue _).1 (Ue _).2 (Yq (iteF (Yk ?_))))
 have s1i:=s1g.trans sgi
 have hppi:=sgi _ _ hppg
 have hpqi:=sgi _ _ hpqg
 have bri:=Qa sgi brg
 clear sgd sgh sgi sh' si br2 brg hppg hpqg rO
 try dsimp only
 refine Zr (Z9 (Zh (w_c (Zh (Zv (Zb (Za rfl (Zb (w_c (Zg ⟨_,_,rfl,l,sc,3,rfl,rfl,s1i.seq (s1.seq hl),hb,by decide,w_c (Yv (by decide) (Xd (Zq ?_)))⟩))))))))))
 obtain ⟨y,ey,y1,y2⟩:∃ y:Int,1+Uq sc 3 % 1000=y/\1<=y/\y<=1000:=by
  have r0:=Int.emod_nonneg (Uq sc 3) (show (1000:Int)≠0 by decide)
  have r1:=Int.emod_lt_of_pos (Uq sc 3) (show (0:Int)<1000 by decide)
  exact ⟨_,rfl,by omega,by omega⟩
 rw [ey]
 clear ey
 try dsimp only
 have lps:ps.length=k:=gd.l1
 have lsh:sh.length=k:=gd.l2
 refine Zr (Yp (Yj (Zh (Zv (Zb (Za rfl (Zb (Za rfl (Zb (Zv (Zb (Za rfl (Zb (Za rfl (Zg ⟨_,_,rfl,pq,sh,y,rfl,hpqi,by omega,rfl,y1,y2,λ q5 Hj sj hq5=>Zg ?_⟩)))))))))))))))
 refine bars (Rep.mono (s1i.trans sj) _ _ rB) gB (by decide) nr (sj _ _ hppi) hq5 (Zs8 gd hsh y1 y2) λ v3 Hk sk br3 _ _=>?_
 rw [Zxv gB gd (show 0<y by omega)] at br3
 refine Zv (Zb (Za rfl (Zb (Za rfl (Zg ⟨_,_,rfl,Qk B ps sh,y,Qa (sj.trans sk) bri,bo,bn,rfl,y1,y2,λ v4 Hm sm br4=>?_⟩)))))
 refine w_neSelf (Ud (Qa sm br3)) (Ud br4) (Ue _).1 (Ue _).2 (Yq (iteF (Yk ?_)))
 have sim:=(sj.trans sk).trans sm
 have s1m:=s1i.trans sim
 have hppm:=sim _ _ hppi
 have hpqm:=sim _ _ hpqi
 have brm:=Qa sim bri
 clear sj sk sm br3 br4 sim hq5 hppi hpqi bri s1i
 try dsimp only
 refine w_seqI (λ σ' H'=>σ'=[some (.ref l),some (.ref bp),some (.int c),some (.ref pp),some (.ref pq),some (.str kd),some fv,some (.int (t:Nat)),some (.ref po),some (.int y),none,none,none]/\Same Hm H') (λ R kk=>?_) ?_
 · refine Yp (Ea (Yj (Zh (Zh (Yl (Zb (Za rfl (Zg ⟨pp,ps,rfl,.inr (SqT.of hppm),λ z=>?_,λ mx hm hle=>Za rfl (Yu (Za9 (by omega) (by omega)) (w_c (Zsi (Yq (iteD (λ le=>?_) λ gt=>iteF (Yk (kk _ _ ⟨rfl,Same.refl _⟩)))))))⟩))))))))
   · rw [z] at lps
     simp at lps
     omega
   refine Yj (Zh (Zv (Zb (Za rfl (Zb (Zv (Zb (Za rfl (Zb (Za rfl (Zg ⟨_,_,rfl,pp,ps,y,rfl,hppm,by omega,rfl,y1,y2,λ q6 Hn sn hq6=>?_⟩)))))))))))
   refine Zb (Za rfl (Zg ?_))
   refine bars (Rep.mono (s1m.trans sn) _ _ rB) gB (by decide) nr hq6 (sn _ _ hpqm) (Zqg gd y1 hle le) λ v5 Ho so br5 _ _=>?_
   rw [Zv5 (show 0<y by omega)] at br5
   exact Za rfl (w_neSelf (Ud br5) (Ud (Qa (sn.trans so) brm)) (Ue _).1 (Ue _).2 (Yq (iteF (Yk (kk _ _ ⟨rfl,sn.trans so⟩)))))
 rintro σ' Hn ⟨rfl,smn⟩
 have s1n:=s1m.trans smn
 have hppn:=smn _ _ hppm
 have hpqn:=smn _ _ hpqm
 have brn:=Qa smn brm
 clear smn brm hppm hpqm s1m
 try dsimp only
 refine Zr (Z9 (Zh (Za rfl (Zh (Zh (Za rfl (w_c (Qv (by decide) (by decide) (Yl (Zb (Za rfl (Zg (X4 (SqT.of (s1n _ _ hbp)) (Yv XI ?_))))))))))))))
 obtain ⟨e,ee,he⟩:=Zlw (c:=c / 16) (n:=xs'.length) X0
 rw [ee]
 obtain ⟨q0,p1,p2,e1,e2,e3,e4⟩:=atN he
 refine Yd (SqT.of (s1n _ _ hbp)) (Xv e1) (Zq ?_)
 try dsimp only
 have gE:=gN he
 have cov:∀ b∈Qk B (dyB B e).1 (dyB B e).2,¬ (b.1<=0/\0<=b.2):=λ b hb z=>Zw2 gB (by decide) nr (show e<B.length by omega) (((Zcl gB gE).2 0).mp ⟨b,hb,z.1,z.2⟩)
 refine Zr (Qc (X3 (Zv (Zb (Za rfl (Zb (Zh (Za rfl (w_c (Yd (v:=.ref p1) (SqT.of (s1n _ _ e2)) rfl (Zb (Zh (Za rfl (w_c (Yd (v:=.ref p2) (SqT.of (s1n _ _ e2)) rfl (Zg (bars (Rep.mono s1n _ _ rB) gB (by decide) nr (s1n _ _ e3) (s1n _ _ e4) gE λ v6 Ho so br6 bo6 bn6=>?_)))))))))))))))))
 obtain ⟨pz,zs,rfl,hpz,ez,hz⟩:=br6
 refine ⟨pz,rfl,.inl ⟨⟨_,SqL.of hpz⟩,Jj (K:=K) (a:=pz) (xs:=zs.map Prod.fst) (λ i σ H3=>Same Ho H3/\∃ r11 r12,σ=[some (.ref l),some (.ref bp),some (.int c),some (.ref pp),some (.ref pq),some (.str kd),some fv,some (.int (t:Nat)),some (.ref po),some (.int y),some (.ref q0),r11,r12]) ⟨Same.refl _,_,_,rfl⟩ (λ i σ H3 _ z=>SqL.of (z.1 _ _ hpz)) ?_ ?_⟩⟩
 · rintro i x σ H3 hx ⟨s3,r11,r12,rfl⟩
   obtain ⟨z,hm,rfl⟩:=List.mem_map.mp (List.mem_of_getElem? hx)
   obtain ⟨tz,w1,w2,ez1,htz,v1,v2⟩:=hz z hm
   have hb':z.2∈Qk B (dyB B e).1 (dyB B e).2:=by rw [← ez]; exact List.mem_map.mpr ⟨z,hm,rfl⟩
   have okb:=bo6.ok _ hb'
   have ncov:=cov _ hb'
   rw [ez1]
   refine Uu (SqT.of (s3 _ _ htz)) rfl (Xk (Zq (Xk (Zq (Uv ?_)))))
   have b0:Bd 1 (0:Sh):=by refine ⟨?_,?_⟩ <;> (show (1:Int)<2 ^ (150*1); decide +kernel)
   refine Yp (Ea (w_not (Xr (Zv (Zb (Wh (Zb (w_c (Zb (w_c (Zg ⟨by show 2<=sizeLine; decide,λ a1 ha1=>?_⟩)))))))))))
   have y1':=Same.laid (o:=.tup [.int 1,.int 1]) ha1
   have s4:=s3.trans y1'
   refine Zb (Za rfl (Zg ⟨_,_,rfl,(0:Sh),z.2.1,⟨a1,rfl,Zn⟩,Xh s4 v1,b0,okb.b1,Xa (iteB (λ na=>?_) λ _=>iteF (Yk ⟨s4,_,_,rfl⟩))⟩))
   have le1:z.2.1<=0:=RS.Sh.not_lt.mp λ lt=>by rw [decide_eq_true lt] at na; cases na
   have lt2:z.2.2<0:=RS.Sh.not_le.mp λ le=>ncov ⟨le1,le⟩
   refine w_not (Xr (Zv (Zb (Za rfl (Zb (Wh (Zb (w_c (Zb (w_c (Zg ⟨by show 2<=sizeLine; decide,λ a2 ha2=>?_⟩)))))))))))
   have y2':=Same.laid (o:=.tup [.int 1,.int 1]) ha2
   have s5:=s4.trans y2'
   exact Zg ⟨_,_,rfl,z.2.2,(0:Sh),Xh s5 v2,⟨a2,rfl,Zn⟩,okb.b2,b0,Xa (Ze8 lt2 (Yk ⟨s5,_,_,rfl⟩))⟩
 · rintro σ H3 ⟨s3,r11,r12,rfl⟩
   try dsimp only
   have sno:=so.trans s3
   have s13:=s1n.trans sno
   refine Yc (Zh (Zv (Zb (Za rfl (Zb (Za rfl (Zb (Za rfl (Zg (bars (Rep.mono s13 _ _ rB) gB (by decide) nr (sno _ _ hppn) (sno _ _ hpqn) gd λ v7 Hp' sp br7 _ _=>?_))))))))))
   exact Za rfl (w_eqSelf (Ud br7) (Ud (Qa (sno.trans sp) brn)) (Ue _).1 (Ue _).2 (q _))
abbrev BdP (x:Str) (st:Stmt) (ps:List Str):Prop:=∀ (kV doc pm:Value) (an:Option Addr) (cdv ct:Value) (us:List Value),us.length=ps.length->bindArgs (PySem.W.fnOf x x (Q4 st) (X7 st) (Zu st) .none kV doc pm an cdv ct) ⟨us,[]⟩=pure (ps.zip us)
section
variable {P:Program} {w:World} {K:Fq} {mg:Str->Option Value} {base:Heap}
abbrev W8:Stmt:=top 1
abbrev W0:List Str:=["one","other"]
theorem Xx:FnScope ["one","other","larger","smaller","rest"] W0 (Zu W8):=⟨rfl,rfl,rfl,by decide +kernel,rfl,by decide +kernel,by decide +kernel⟩
theorem Zfs (M:Md K mg) (D:Df K mg "greatest_divisor" W8)  : Fn P w K mg base CX0 "greatest_divisor" 1 W0 (Wz K):=D.to (λ F =>
 F.ok (k:=0) Xx (λ vs _ _ _ h=>Y7 h) (λ cdv A outer s H vs Q E hr h=>by
  have hu:=hr.units
  obtain ⟨a0,a1,rfl,h⟩:=h
  refine ⟨Wx K,?_,Zfq h⟩
  refine Zk ?_ (Zk ?_ (Zk ?_ (Zm ?_)))
  · exact (Z8 (i:=2) Xx.nd rfl (Or.inl rfl) (pv 0))
  · exact (Z8 (i:=3) Xx.nd rfl (Or.inl rfl) (pv 1))
  · exact (Zic PassesOwn.never (Ye Ze2 (pv 3) Zi (Yb _)) (Zk (Z8 (i:=4) Xx.nd rfl (Or.inl rfl) (Zt op_modU (pv 2) (pv 3)))
    (Zk (Z8 (i:=2) Xx.nd rfl (Or.inl rfl) (pv 3))
    (Zm (Z8 (i:=3) Xx.nd rfl (Or.inl rfl) (pv 4))))))
  · exact (Z0 (pv 2)))) (λ _ _ _ _ _ _ us hl=>match us,hl with | [_,_],_=>rfl)
abbrev Zen:Stmt:=top 2
abbrev Ej:List Str:=["top","bottom"]
theorem Zhj:FnScope ["top","bottom","divisor"] Ej (Zu Zen):=⟨rfl,rfl,rfl,by decide +kernel,rfl,by decide +kernel,by decide +kernel⟩
theorem Zqj (M:Md K mg) (D:Df K mg "share_of" Zen) (G_greatest_divisor:Fn P w K mg base CX0 "greatest_divisor" 1 W0 (Wz K)):Fn P w K mg base CX0 "share_of" 2 Ej (Wu K):=D.to (λ F =>
 F.ok (k:=1) Zhj (λ vs _ _ _ h=>Y7 h) (λ cdv A outer s H vs Q E hr h=>by
  have hu:=hr.units
  obtain ⟨a0,a1,rfl,h⟩:=h
  refine ⟨Zc0 K,?_,Zqa h⟩
  refine Zk ?_ (Zm ?_)
  · exact (Z8 (i:=2) Zhj.nd rfl (Or.inl rfl) (Z1 G_greatest_divisor (hr.mono (by decide)) (by rfl) Z6 (Ze (pv 0) (Ze (pv 1) Zf))))
  · exact (Z0 (Jt (Ze (Zt op_divU (pv 0) (pv 2)) (Ze (Zt op_divU (pv 1) (pv 2)) Zf)))))) (λ _ _ _ _ _ _ us hl=>match us,hl with | [_,_],_=>rfl)
abbrev Vv:Stmt:=top 4
abbrev Qp:List Str:=["share","other"]
theorem Zhx:FnScope ["share","other"] Qp (Zu Vv):=⟨rfl,rfl,rfl,by decide +kernel,rfl,by decide +kernel,by decide +kernel⟩
theorem Zim (M:Md K mg) (D:Df K mg "is_less_share" Vv)  : Fn P w K mg base CX0 "is_less_share" 1 Qp (Yw K):=D.to (λ F =>
 F.ok (k:=0) Zhx (λ vs _ _ _ h=>Y7 h) (λ cdv A outer s H vs Q E hr h=>by
  have hu:=hr.units
  obtain ⟨a0,a1,rfl,h⟩:=h
  refine ⟨tb_is_less_share K,?_,Ks h⟩
  refine Zm ?_
  exact (Z0 (Qq En (Zt op_mulU (Z2 Zw (pv 0) Zi (λ _ _=>rfl)) (Z2 Zw (pv 1) Zi (λ _ _=>rfl))) (Zt op_mulU (Z2 Zw (pv 1) Zi (λ _ _=>rfl)) (Z2 Zw (pv 0) Zi (λ _ _=>rfl))) (Yb _))))) (λ _ _ _ _ _ _ us hl=>match us,hl with | [_,_],_=>rfl)
abbrev Zc8:Stmt:=top 10
abbrev Wd:List Str:=["book","day"]
theorem Znx:FnScope ["book","day"] Wd (Zu Zc8):=⟨rfl,rfl,rfl,by decide +kernel,rfl,by decide +kernel,by decide +kernel⟩
theorem Zo8 (M:Md K mg) (D:Df K mg "check_day" Zc8)  : Fn P w K mg base (CXr P w base) "check_day" 1 Wd (Xe K mg):=D.to (λ F =>
 F.okR (k:=0) Znx (λ vs _ _ _ h=>Y7 h) (λ cdv A outer s H vs Q E hr h=>by
  have hu:=hr.units
  obtain ⟨a0,a1,rfl,h⟩:=h
  refine ⟨Ve K mg E,?_,Zb9 M h⟩
  refine Zm ?_
  exact (Yr (Qh (Zok Zs2 En Zi (pv 1) (Yh (call_lenU) (by rfl) M.b_len Ym (Ze (pv 0) Zf)))) (Zm (Zpg Zyc rfl M.x_NoDay (by rfl) (Ze Wf Zf))) Yg))) (λ _ _ _ _ _ _ us hl=>match us,hl with | [_,_],_=>rfl)
abbrev Zgi:Stmt:=top 11
abbrev V5:List Str:=["prices","amounts"]
theorem Zsu:FnScope ["prices","amounts"] V5 (Zu Zgi):=⟨rfl,rfl,rfl,by decide +kernel,rfl,by decide +kernel,by decide +kernel⟩
theorem Ztf (M:Md K mg) (D:Df K mg "cost_at" Zgi)  : Fn P w K mg base CX0 "cost_at" 1 V5 (Jp K):=D.to (λ F =>
 F.ok (k:=0) Zsu (λ vs _ _ _ h=>Y7 h) (λ cdv A outer s H vs Q E hr h=>by
  have hu:=hr.units
  obtain ⟨a0,a1,rfl,h⟩:=h
  refine ⟨Zeb K,?_,Zsz h⟩
  refine Zm ?_
  exact (Z0 (Yh (call_sumU rfl) (by rfl) M.b_sum Zks (Ze (Xl (N:=["price","amount"]) (l:=[none,none]) rfl ⟨rfl,by decide +kernel,by decide +kernel,by first | decide +kernel | rfl,  True.intro,by decide +kernel⟩ (Zr1 (by rfl) M.b_zip (Ze (pv 0) (Ze (pv 1) Zf))) (λ _ _ _ _ _=>(W9 rfl (Y6 (Z3 (i:=0) (show List.Nodup (["price","amount"]:List Str) by decide +kernel) rfl (Or.inl rfl)) (Y6 (Z3 (i:=1) (show List.Nodup (["price","amount"]:List Str) by decide +kernel) rfl (Or.inl rfl)) We)))) (λ _ _ _ _ _=>Xc) (λ _ _ _ _ _=>(Zt op_mulU (pv 0) (pv 1)))) Zf))))) (λ _ _ _ _ _ _ us hl=>match us,hl with | [_,_],_=>rfl)
abbrev Zn2:Stmt:=top 12
abbrev Zdw:List Str:=["book","day","other"]
theorem Zy5:FnScope ["book","day","other"] Zdw (Zu Zn2):=⟨rfl,rfl,rfl,by decide +kernel,rfl,by decide +kernel,by decide +kernel⟩
theorem Zz7 (M:Md K mg) (D:Df K mg "cost" Zn2) (G_check_day:Fn P w K mg base (CXr P w base) "check_day" 1 Wd (Xe K mg)) (G_cost_at:Fn P w K mg base CX0 "cost_at" 1 V5 (Jp K)):Fn P w K mg base (CXr P w base) "cost" 2 Zdw (Gi K mg):=D.to (λ F =>
 F.okR (k:=1) Zy5 (λ vs _ _ _ h=>Je h) (λ cdv A outer s H vs Q E hr h=>by
  have hu:=hr.units
  obtain ⟨a0,a1,a2,rfl,h⟩:=h
  refine ⟨Zg4 K mg E,?_,Zla M h⟩
  refine Zk ?_ (Zk ?_ (Zm ?_))
  · exact (Jg (Z1 G_check_day (hr.mono (by decide)) (by rfl) Em (Ze (pv 0) (Ze (pv 1) Zf))))
  · exact (Jg (Z1 G_check_day (hr.mono (by decide)) (by rfl) Em (Ze (pv 0) (Ze (pv 2) Zf))))
  · exact (Z0 (Z1 G_cost_at (hr.mono (by decide)) (by rfl) Z6 (Ze (Z2 Zw (Z2 Zw (pv 0) (pv 1) (λ _ _=>rfl)) Zi (λ _ _=>rfl)) (Ze (Z2 Zw (Z2 Zw (pv 0) (pv 2) (λ _ _=>rfl)) Zi (λ _ _=>rfl)) Zf)))))) (λ _ _ _ _ _ _ us hl=>match us,hl with | [_,_,_],_=>rfl)
abbrev Zk7:Stmt:=top 13
abbrev Zca:List Str:=["book","day"]
theorem Zwl:FnScope ["book","day"] Zca (Zu Zk7):=⟨rfl,rfl,rfl,by decide +kernel,rfl,by decide +kernel,by decide +kernel⟩
theorem Zxl (M:Md K mg) (D:Df K mg "purse" Zk7) (G_cost:Fn P w K mg base (CXr P w base) "cost" 2 Zdw (Gi K mg)):Fn P w K mg base (CXr P w base) "purse" 3 Zca (Km K mg):=D.to (λ F =>
 F.okR (k:=2) Zwl (λ vs _ _ _ h=>Y7 h) (λ cdv A outer s H vs Q E hr h=>by
  have hu:=hr.units
  obtain ⟨a0,a1,rfl,h⟩:=h
  refine ⟨Zd8 K mg E,?_,Zh6 M h⟩
  refine Zm ?_
  exact (Z0 (Z1 G_cost (hr.mono (by decide)) (by rfl) Em (Ze (pv 0) (Ze (pv 1) (Ze (pv 1) Zf))))))) (λ _ _ _ _ _ _ us hl=>match us,hl with | [_,_],_=>rfl)
abbrev Zgf:Stmt:=top 18
abbrev Zaz:List Str:=["gap"]
theorem Zsr:FnScope ["gap"] Zaz (Zu Zgf):=⟨rfl,rfl,rfl,by decide +kernel,rfl,by decide +kernel,by decide +kernel⟩
theorem Ztc (M:Md K mg) (D:Df K mg "mark_of" Zgf)  : Fn P w K mg base CX0 "mark_of" 1 Zaz (Vm K):=D.to (λ F =>
 F.ok (k:=0) Zsr (λ vs _ _ _ h=>Wa h) (λ cdv A outer s H vs Q E hr h=>by
  have hu:=hr.units
  obtain ⟨a0,rfl,h⟩:=h
  refine ⟨Zd9 K,?_,Zsx h⟩
  refine Zk ?_ (Zk ?_ (Zm ?_))
  · exact (Yr (Ye En (pv 0) Zi (Yb _)) (Zm (Z0 (Za7 M.c_BETTER))) Yg)
  · exact (Yr (Ye (op_eqU hu) (pv 0) Zi (Yb _)) (Zm (Z0 (Za7 M.c_AS_GOOD))) Yg)
  · exact (Z0 (Za7 M.c_NEITHER)))) (λ _ _ _ _ _ _ us hl=>match us,hl with | [_],_=>rfl)
abbrev Zgj:Stmt:=top 19
abbrev Ze1:List Str:=["book","day","other"]
theorem Zsv:FnScope ["book","day","other"] Ze1 (Zu Zgj):=⟨rfl,rfl,rfl,by decide +kernel,rfl,by decide +kernel,by decide +kernel⟩
theorem Ztg (M:Md K mg) (D:Df K mg "at_once" Zgj) (G_check_day:Fn P w K mg base (CXr P w base) "check_day" 1 Wd (Xe K mg)) (G_cost:Fn P w K mg base (CXr P w base) "cost" 2 Zdw (Gi K mg)) (G_purse:Fn P w K mg base (CXr P w base) "purse" 3 Zca (Km K mg)) (G_mark_of:Fn P w K mg base CX0 "mark_of" 1 Zaz (Vm K)):Fn P w K mg base (CXr P w base) "at_once" 4 Ze1 (Zeg K mg):=D.to (λ F =>
 F.okR (k:=3) Zsv (λ vs _ _ _ h=>Je h) (λ cdv A outer s H vs Q E hr h=>by
  have hu:=hr.units
  obtain ⟨a0,a1,a2,rfl,h⟩:=h
  refine ⟨Zaw K mg E,?_,Zeu M h⟩
  refine Zk ?_ (Zk ?_ (Zm ?_))
  · exact (Jg (Z1 G_check_day (hr.mono (by decide)) (by rfl) Em (Ze (pv 0) (Ze (pv 1) Zf))))
  · exact (Jg (Z1 G_check_day (hr.mono (by decide)) (by rfl) Em (Ze (pv 0) (Ze (pv 2) Zf))))
  · exact (Z0 (Z1 G_mark_of (hr.mono (by decide)) (by rfl) Z6 (Ze (Zt op_subU (Z1 G_cost (hr.mono (by decide)) (by rfl) Em (Ze (pv 0) (Ze (pv 1) (Ze (pv 2) Zf)))) (Z1 G_purse (hr.mono (by decide)) (by rfl) Em (Ze (pv 0) (Ze (pv 1) Zf)))) Zf))))) (λ _ _ _ _ _ _ us hl=>match us,hl with | [_,_,_],_=>rfl)
abbrev Zb2:Stmt:=top 20
abbrev Zap:List Str:=["book","day"]
theorem Zmt:FnScope ["book","day"] Zap (Zu Zb2):=⟨rfl,rfl,rfl,by decide +kernel,rfl,by decide +kernel,by decide +kernel⟩
theorem Zm2 (M:Md K mg) (D:Df K mg "marks_from" Zb2) (G_at_once:Fn P w K mg base (CXr P w base) "at_once" 4 Ze1 (Zeg K mg)):Fn P w K mg base CX0 "marks_from" 5 Zap (Zad K mg):=D.to (λ F =>
 F.ok (k:=4) Zmt (λ vs _ _ _ h=>Y7 h) (λ cdv A outer s H vs Q E hr h=>by
  have hu:=hr.units
  obtain ⟨a0,a1,rfl,h⟩:=h
  refine ⟨U7 K mg,?_,Zao M h⟩
  refine Zm ?_
  exact (Z0 (Xl (N:=["other","book","day"]) (l:=[none,some 0,some 1]) rfl ⟨rfl,by decide +kernel,by decide +kernel,by first | decide +kernel | rfl,⟨⟨rfl,Or.inl rfl,rfl⟩,⟨⟨rfl,Or.inl rfl,rfl⟩,True.intro⟩⟩,by decide +kernel⟩ (Y4 (by rfl) M.b_range (Ze (Yh (call_lenU) (by rfl) M.b_len Ym (Ze (pv 0) Zf)) Zf)) (λ _ _ _ _ _=>(Z3 (i:=0) (show List.Nodup (["other","book","day"]:List Str) by decide +kernel) rfl (Or.inl rfl))) (λ _ _ _ _ _=>Xc) (λ _ _ _ _ _=>(Z1 G_at_once (hr.mono (by decide)) (by rfl) Wr (Ze (pv 1) (Ze (pv 2) (Ze (pv 0) Zf))))))))) (λ _ _ _ _ _ _ us hl=>match us,hl with | [_,_],_=>rfl)
abbrev Zeo:Stmt:=top 21
abbrev Ek:List Str:=["book"]
theorem Zp4:FnScope ["book"] Ek (Zu Zeo):=⟨rfl,rfl,rfl,by decide +kernel,rfl,by decide +kernel,by decide +kernel⟩
theorem Zqk (M:Md K mg) (D:Df K mg "marks_of" Zeo) (G_marks_from:Fn P w K mg base CX0 "marks_from" 5 Zap (Zad K mg)):Fn P w K mg base CX0 "marks_of" 6 Ek (Uy K mg):=D.to (λ F =>
 F.ok (k:=5) Zp4 (λ vs _ _ _ h=>Wa h) (λ cdv A outer s H vs Q E hr h=>by
  have hu:=hr.units
  obtain ⟨a0,rfl,h⟩:=h
  refine ⟨Ec K mg,?_,Zdh M h⟩
  refine Zm ?_
  exact (Z0 (Xl (N:=["day","book"]) (l:=[none,some 0]) rfl ⟨rfl,by decide +kernel,by decide +kernel,by first | decide +kernel | rfl,⟨⟨rfl,Or.inl rfl,rfl⟩,True.intro⟩,by decide +kernel⟩ (Y4 (by rfl) M.b_range (Ze (Yh (call_lenU) (by rfl) M.b_len Ym (Ze (pv 0) Zf)) Zf)) (λ _ _ _ _ _=>(Z3 (i:=0) (show List.Nodup (["day","book"]:List Str) by decide +kernel) rfl (Or.inl rfl))) (λ _ _ _ _ _=>Xc) (λ _ _ _ _ _=>(Z1 G_marks_from (hr.mono (by decide)) (by rfl) Z6 (Ze (pv 1) (Ze (pv 0) Zf)))))))) (λ _ _ _ _ _ _ us hl=>match us,hl with | [_],_=>rfl)
abbrev Zak:Stmt:=top 22
abbrev Jh:List Str:=["marks","day"]
theorem Jf:FnScope ["marks","day","chains","waiting","last","other","mark"] Jh (Zu Zak):=⟨rfl,rfl,rfl,by decide +kernel,rfl,by decide +kernel,by decide +kernel⟩
theorem Zls (M:Md K mg) (D:Df K mg "chains_from" Zak)  : Fn P w K mg base CX0 "chains_from" 1 Jh (Xi K):=D.to (λ F =>
 F.ok (k:=0) Jf (λ vs _ _ _ h=>Y7 h) (λ cdv A outer s H vs Q E hr h=>by
  have hu:=hr.units
  obtain ⟨a0,a1,rfl,h⟩:=h
  refine ⟨Ga K,?_,Zlc h⟩
  refine Zk ?_ (Zk ?_ (Zk ?_ (Zm ?_)))
  · exact (Z8 (i:=2) Jf.nd rfl (Or.inl rfl) (Zzf (Zwv (pv 1) (Jk (Ze (pv 1) Zf)) Zzb) rfl rfl (by simp) (by decide)))
  · exact (Z8 (i:=3) Jf.nd rfl (Or.inl rfl) (Jk (Ze (pv 1) Zf)))
  · exact (Zic PassesOwn.never (Ye Ze2 (Yh (call_lenU) (by rfl) M.b_len Ym (Ze (pv 3) Zf)) Zi (Yb _)) (Zk (Z8 (i:=4) Jf.nd rfl (Or.inl rfl) (Zci PySem.F.plainAttrs_list PySem.F.slot_list_pop PySem.F.type_list_pop Zw5 (pv 3) (Ze Zi Zf)))
    (Zm (Xf PassesOwn.never rfl (Zfb (by rfl) M.b_enumerate (Ze (Z2 Zw (pv 0) (pv 4) (λ _ _=>rfl)) Zf)) (W9 rfl (Y6 (Z3 (i:=5) Jf.nd rfl (Or.inl rfl)) (Y6 (Z3 (i:=6) Jf.nd rfl (Or.inl rfl)) We))) (Zm (Yr (PW.pt (V0 (Ye (op_neU hu) (pv 6) (Za7 M.c_NEITHER) (Yb _)) (Gy (Zjt (Zul (hu1 hu) (pv 5) (pv 2)) (by with_unfolding_all rfl))))) (Zk (Zlg (hu1 hu) (pv 2) (pv 5) (Zt op_addU (Uo (hu1 hu) (pv 2) (pv 4) (λ _ _=>rfl)) (Jk (Ze (pv 5) Zf))) rfl)
    (Zm (Jg (Zci PySem.F.plainAttrs_list PySem.F.slot_list_append PySem.F.type_list_append Ua (pv 3) (Ze (pv 5) Zf))))) Yg))))))
  · exact (Z0 (pv 2)))) (λ _ _ _ _ _ _ us hl=>match us,hl with | [_,_],_=>rfl)
abbrev Zge:Stmt:=top 23
abbrev Zey:List Str:=["book","day"]
theorem Zsq:FnScope ["book","day"] Zey (Zu Zge):=⟨rfl,rfl,rfl,by decide +kernel,rfl,by decide +kernel,by decide +kernel⟩
theorem Zta (M:Md K mg) (D:Df K mg "reached" Zge) (G_check_day:Fn P w K mg base (CXr P w base) "check_day" 1 Wd (Xe K mg)) (G_marks_of:Fn P w K mg base CX0 "marks_of" 6 Ek (Uy K mg)) (G_chains_from:Fn P w K mg base CX0 "chains_from" 1 Jh (Xi K)):Fn P w K mg base (CXr P w base) "reached" 7 Zey (Zee K mg):=D.to (λ F =>
 F.okR (k:=6) Zsq (λ vs _ _ _ h=>Y7 h) (λ cdv A outer s H vs Q E hr h=>by
  have hu:=hr.units
  obtain ⟨a0,a1,rfl,h⟩:=h
  refine ⟨Zau K mg E,?_,Zes M h⟩
  refine Zk ?_ (Zm ?_)
  · exact (Jg (Z1 G_check_day (hr.mono (by decide)) (by rfl) Em (Ze (pv 0) (Ze (pv 1) Zf))))
  · exact (Z0 (Yh (Zgy rfl) (by rfl) M.b_sorted Zmn (Ze (Z1 G_chains_from (hr.mono (by decide)) (by rfl) Z6 (Ze (Z1 G_marks_of (hr.mono (by decide)) (by rfl) Z6 (Ze (pv 0) Zf)) (Ze (pv 1) Zf))) Zf))))) (λ _ _ _ _ _ _ us hl=>match us,hl with | [_,_],_=>rfl)
abbrev Gr:Stmt:=top 24
abbrev W6:List Str:=["marks"]
theorem Qy:FnScope ["marks","steps","day","row","other","mark"] W6 (Zu Gr):=⟨rfl,rfl,rfl,by decide +kernel,rfl,by decide +kernel,by decide +kernel⟩
theorem Zkh (M:Md K mg) (D:Df K mg "better_steps" Gr)  : Fn P w K mg base CX0 "better_steps" 1 W6 (Jq K):=D.to (λ F =>
 F.ok (k:=0) Qy (λ vs _ _ _ h=>Wa h) (λ cdv A outer s H vs Q E hr h=>by
  have hu:=hr.units
  obtain ⟨a0,rfl,h⟩:=h
  refine ⟨Vf K,?_,Zjp h⟩
  refine Zk ?_ (Zk ?_ (Zm ?_))
  · exact (Z8 (i:=1) Qy.nd rfl (Or.inl rfl) (Jk Zf))
  · exact (Xf PassesOwn.never rfl (Zfb (by rfl) M.b_enumerate (Ze (pv 0) Zf)) (W9 rfl (Y6 (Z3 (i:=2) Qy.nd rfl (Or.inl rfl)) (Y6 (Z3 (i:=3) Qy.nd rfl (Or.inl rfl)) We))) (Zm (Xf PassesOwn.never rfl (Zfb (by rfl) M.b_enumerate (Ze (pv 3) Zf)) (W9 rfl (Y6 (Z3 (i:=4) Qy.nd rfl (Or.inl rfl)) (Y6 (Z3 (i:=5) Qy.nd rfl (Or.inl rfl)) We))) (Zm (Yr (Ye (op_eqU hu) (pv 5) (Za7 M.c_BETTER) (Yb _)) (Zm (Jg (Zci PySem.F.plainAttrs_list PySem.F.slot_list_append PySem.F.type_list_append Ua (pv 1) (Ze (Jt (Ze (pv 2) (Ze (pv 4) Zf))) Zf)))) Yg)))))
  · exact (Z0 (pv 1)))) (λ _ _ _ _ _ _ us hl=>match us,hl with | [_],_=>rfl)
abbrev Gn:Stmt:=top 25
abbrev V2:List Str:=["book","day","other"]
theorem Jr:FnScope ["book","day","other","marks","ahead","step","behind"] V2 (Zu Gn):=⟨rfl,rfl,rfl,by decide +kernel,rfl,by decide +kernel,by decide +kernel⟩
theorem Zke (M:Md K mg) (D:Df K mg "strict_chain" Gn) (G_check_day:Fn P w K mg base (CXr P w base) "check_day" 1 Wd (Xe K mg)) (G_marks_of:Fn P w K mg base CX0 "marks_of" 6 Ek (Uy K mg)) (G_chains_from:Fn P w K mg base CX0 "chains_from" 1 Jh (Xi K)) (G_better_steps:Fn P w K mg base CX0 "better_steps" 1 W6 (Jq K)):Fn P w K mg base (CXr P w base) "strict_chain" 7 V2 (Vk K mg):=D.to (λ F =>
 F.okR (k:=6) Jr (λ vs _ _ _ h=>Je h) (λ cdv A outer s H vs Q E hr h=>by
  have hu:=hr.units
  obtain ⟨a0,a1,a2,rfl,h⟩:=h
  refine ⟨W2 K mg E,?_,Vz M h⟩
  refine Zk ?_ (Zk ?_ (Zk ?_ (Zk ?_ (Zk ?_ (Zm ?_)))))
  · exact (Jg (Z1 G_check_day (hr.mono (by decide)) (by rfl) Em (Ze (pv 0) (Ze (pv 1) Zf))))
  · exact (Jg (Z1 G_check_day (hr.mono (by decide)) (by rfl) Em (Ze (pv 0) (Ze (pv 2) Zf))))
  · exact (Z8 (i:=3) Jr.nd rfl (Or.inl rfl) (Z1 G_marks_of (hr.mono (by decide)) (by rfl) Z6 (Ze (pv 0) Zf)))
  · exact (Z8 (i:=4) Jr.nd rfl (Or.inl rfl) (Z1 G_chains_from (hr.mono (by decide)) (by rfl) Z6 (Ze (pv 3) (Ze (pv 1) Zf))))
  · exact (Zuf (Xf PassesOwn.never rfl (pi_seq (Z1 G_better_steps (hr.mono (by decide)) (by rfl) Z6 (Ze (pv 3) Zf))) (Z3 (i:=5) Jr.nd rfl (Or.inl rfl)) (Zk (Z8 (i:=6) Jr.nd rfl (Or.inl rfl) (Z1 G_chains_from (hr.mono (by decide)) (by rfl) Z6 (Ze (pv 3) (Ze (Z2 Zw (pv 5) Zi (λ _ _=>rfl)) Zf))))
    (Zm (Yr (PW.pt (V0 (Zjt (Zon (hu1 hu) (Z2 Zw (pv 5) Zi (λ _ _=>rfl)) (pv 4)) (by with_unfolding_all rfl)) (Gy (Zjt (Zon (hu1 hu) (pv 2) (pv 6)) (by with_unfolding_all rfl))))) (Zm (Z0 (Zt op_addU (Uo (hu1 hu) (pv 4) (Z2 Zw (pv 5) Zi (λ _ _=>rfl)) (λ _ _=>rfl)) (Uo (hu1 hu) (pv 6) (pv 2) (λ _ _=>rfl))))) Yg)))))
  · exact (Z0 Zgo))) (λ _ _ _ _ _ _ us hl=>match us,hl with | [_,_,_],_=>rfl)
abbrev Zgd:Stmt:=top 26
abbrev Zex:List Str:=["marks"]
theorem Zei:FnScope ["marks","step","back"] Zex (Zu Zgd):=⟨rfl,rfl,rfl,by decide +kernel,rfl,by decide +kernel,by decide +kernel⟩
theorem Zs9 (M:Md K mg) (D:Df K mg "ring_in" Zgd) (G_chains_from:Fn P w K mg base CX0 "chains_from" 1 Jh (Xi K)) (G_better_steps:Fn P w K mg base CX0 "better_steps" 1 W6 (Jq K)):Fn P w K mg base CX0 "ring_in" 2 Zex (Zax K):=D.to (λ F =>
 F.ok (k:=1) Zei (λ vs _ _ _ h=>Wa h) (λ cdv A outer s H vs Q E hr h=>by
  have hu:=hr.units
  obtain ⟨a0,rfl,h⟩:=h
  refine ⟨Zd7 K,?_,Zsw h⟩
  refine Zk ?_ (Zm ?_)
  · exact (Xf PassesOwn.never rfl (pi_seq (Z1 G_better_steps (hr.mono (by decide)) (by rfl) Z6 (Ze (pv 0) Zf))) (Z3 (i:=1) Zei.nd rfl (Or.inl rfl)) (Zk (Z8 (i:=2) Zei.nd rfl (Or.inl rfl) (Z1 G_chains_from (hr.mono (by decide)) (by rfl) Z6 (Ze (pv 0) (Ze (Z2 Zw (pv 1) Zi (λ _ _=>rfl)) Zf))))
    (Zm (Yr (Zjt (Zon (hu1 hu) (Z2 Zw (pv 1) Zi (λ _ _=>rfl)) (pv 2)) (by with_unfolding_all rfl)) (Zm (Z0 (Uo (hu1 hu) (pv 2) (Z2 Zw (pv 1) Zi (λ _ _=>rfl)) (λ _ _=>rfl)))) Yg))))
  · exact (Z0 Zgo))) (λ _ _ _ _ _ _ us hl=>match us,hl with | [_],_=>rfl)
abbrev Zc7:Stmt:=top 28
abbrev Zcc:List Str:=["book","day","share"]
theorem Zf1:FnScope ["book","day","share","left"] Zcc (Zu Zc7):=⟨rfl,rfl,rfl,by decide +kernel,rfl,by decide +kernel,by decide +kernel⟩
theorem Zo7 (M:Md K mg) (D:Df K mg "gaps_from" Zc7) (G_cost:Fn P w K mg base (CXr P w base) "cost" 2 Zdw (Gi K mg)) (G_purse:Fn P w K mg base (CXr P w base) "purse" 3 Zca (Km K mg)):Fn P w K mg base CX0 "gaps_from" 4 Zcc (Zbo K mg):=D.to (λ F =>
 F.ok (k:=3) Zf1 (λ vs _ _ _ h=>Je h) (λ cdv A outer s H vs Q E hr h=>by
  have hu:=hr.units
  obtain ⟨a0,a1,a2,rfl,h⟩:=h
  refine ⟨Vc K mg,?_,Zb8 M h⟩
  refine Zk ?_ (Zm ?_)
  · exact (Z8 (i:=3) Zf1.nd rfl (Or.inr rfl) (Zt op_mulU (Z2 Zw (pv 2) Zi (λ _ _=>rfl)) (Z1 G_purse (hr.mono (by decide)) (by rfl) Wr (Ze (pv 0) (Ze (pv 1) Zf)))))
  · exact (Z0 (Xl (N:=["other","share","book","day","left"]) (l:=[none,some 2,some 0,some 1,some 3]) rfl ⟨rfl,by decide +kernel,by decide +kernel,by first | decide +kernel | rfl,⟨⟨rfl,Or.inl rfl,rfl⟩,⟨⟨rfl,Or.inl rfl,rfl⟩,⟨⟨rfl,Or.inl rfl,rfl⟩,⟨⟨rfl,Or.inl rfl,rfl⟩,True.intro⟩⟩⟩⟩,by decide +kernel⟩ (Y4 (by rfl) M.b_range (Ze (Yh (call_lenU) (by rfl) M.b_len Ym (Ze (pv 0) Zf)) Zf)) (λ _ _ _ _ _=>(Z3 (i:=0) (show List.Nodup (["other","share","book","day","left"]:List Str) by decide +kernel) rfl (Or.inl rfl))) (λ _ _ _ _ _=>Xc) (λ _ _ _ _ _=>(Zt op_subU (Zt op_mulU (Z2 Zw (pv 1) Zi (λ _ _=>rfl)) (Z1 G_cost (hr.mono (by decide)) (by rfl) Wr (Ze (pv 2) (Ze (pv 3) (Ze (pv 0) Zf))))) (pv 4))))))) (λ _ _ _ _ _ _ us hl=>match us,hl with | [_,_,_],_=>rfl)
abbrev Zgh:Stmt:=top 29
abbrev Ze0:List Str:=["book","share"]
theorem Zst:FnScope ["book","share"] Ze0 (Zu Zgh):=⟨rfl,rfl,rfl,by decide +kernel,rfl,by decide +kernel,by decide +kernel⟩
theorem Zte (M:Md K mg) (D:Df K mg "gaps_of" Zgh) (G_gaps_from:Fn P w K mg base CX0 "gaps_from" 4 Zcc (Zbo K mg)):Fn P w K mg base CX0 "gaps_of" 5 Ze0 (Zay K mg):=D.to (λ F =>
 F.ok (k:=4) Zst (λ vs _ _ _ h=>Y7 h) (λ cdv A outer s H vs Q E hr h=>by
  have hu:=hr.units
  obtain ⟨a0,a1,rfl,h⟩:=h
  refine ⟨Zav K mg,?_,Zet M h⟩
  refine Zm ?_
  exact (Z0 (Xl (N:=["day","book","share"]) (l:=[none,some 0,some 1]) rfl ⟨rfl,by decide +kernel,by decide +kernel,by first | decide +kernel | rfl,⟨⟨rfl,Or.inl rfl,rfl⟩,⟨⟨rfl,Or.inl rfl,rfl⟩,True.intro⟩⟩,by decide +kernel⟩ (Y4 (by rfl) M.b_range (Ze (Yh (call_lenU) (by rfl) M.b_len Ym (Ze (pv 0) Zf)) Zf)) (λ _ _ _ _ _=>(Z3 (i:=0) (show List.Nodup (["day","book","share"]:List Str) by decide +kernel) rfl (Or.inl rfl))) (λ _ _ _ _ _=>Xc) (λ _ _ _ _ _=>(Z1 G_gaps_from (hr.mono (by decide)) (by rfl) Z6 (Ze (pv 1) (Ze (pv 0) (Ze (pv 2) Zf))))))))) (λ _ _ _ _ _ _ us hl=>match us,hl with | [_,_],_=>rfl)
abbrev Zep:Stmt:=top 30
abbrev Zdj:List Str:=["gaps","day","other"]
theorem Zp5:FnScope ["gaps","day","other"] Zdj (Zu Zep):=⟨rfl,rfl,rfl,by decide +kernel,rfl,by decide +kernel,by decide +kernel⟩
theorem Zql (M:Md K mg) (D:Df K mg "cut_mark" Zep) (G_mark_of:Fn P w K mg base CX0 "mark_of" 1 Zaz (Vm K)):Fn P w K mg base CX0 "cut_mark" 2 Zdj (Zc3 K):=D.to (λ F =>
 F.ok (k:=1) Zp5 (λ vs _ _ _ h=>Je h) (λ cdv A outer s H vs Q E hr h=>by
  have hu:=hr.units
  obtain ⟨a0,a1,a2,rfl,h⟩:=h
  refine ⟨Zc1 K,?_,Zqb h⟩
  refine Zk ?_ (Zm ?_)
  · exact (Yr (Ye (op_eqU hu) (pv 1) (pv 2) (Yb _)) (Zm (Z0 (Za7 M.c_AS_GOOD))) Yg)
  · exact (Z0 (Z1 G_mark_of (hr.mono (by decide)) (by rfl) Z6 (Ze (Z2 Zw (Z2 Zw (pv 0) (pv 1) (λ _ _=>rfl)) (pv 2) (λ _ _=>rfl)) Zf))))) (λ _ _ _ _ _ _ us hl=>match us,hl with | [_,_,_],_=>rfl)
abbrev Kr:Stmt:=top 31
abbrev Ut:List Str:=["gaps","day"]
theorem Zhd:FnScope ["gaps","day"] Ut (Zu Kr):=⟨rfl,rfl,rfl,by decide +kernel,rfl,by decide +kernel,by decide +kernel⟩
theorem Zhh (M:Md K mg) (D:Df K mg "cut_marks_from" Kr) (G_cut_mark:Fn P w K mg base CX0 "cut_mark" 2 Zdj (Zc3 K)):Fn P w K mg base CX0 "cut_marks_from" 3 Ut (Us K):=D.to (λ F =>
 F.ok (k:=2) Zhd (λ vs _ _ _ h=>Y7 h) (λ cdv A outer s H vs Q E hr h=>by
  have hu:=hr.units
  obtain ⟨a0,a1,rfl,h⟩:=h
  refine ⟨Ur K,?_,Zhf h⟩
  refine Zm ?_
  exact (Z0 (Xl (N:=["other","gaps","day"]) (l:=[none,some 0,some 1]) rfl ⟨rfl,by decide +kernel,by decide +kernel,by first | decide +kernel | rfl,⟨⟨rfl,Or.inl rfl,rfl⟩,⟨⟨rfl,Or.inl rfl,rfl⟩,True.intro⟩⟩,by decide +kernel⟩ (Y4 (by rfl) M.b_range (Ze (Yh (call_lenU) (by rfl) M.b_len Ym (Ze (pv 0) Zf)) Zf)) (λ _ _ _ _ _=>(Z3 (i:=0) (show List.Nodup (["other","gaps","day"]:List Str) by decide +kernel) rfl (Or.inl rfl))) (λ _ _ _ _ _=>Xc) (λ _ _ _ _ _=>(Z1 G_cut_mark (hr.mono (by decide)) (by rfl) Z6 (Ze (pv 1) (Ze (pv 2) (Ze (pv 0) Zf))))))))) (λ _ _ _ _ _ _ us hl=>match us,hl with | [_,_],_=>rfl)
abbrev Gq:Stmt:=top 32
abbrev V4:List Str:=["gaps"]
theorem Zjc:FnScope ["gaps"] V4 (Zu Gq):=⟨rfl,rfl,rfl,by decide +kernel,rfl,by decide +kernel,by decide +kernel⟩
theorem Zkg (M:Md K mg) (D:Df K mg "cut_marks_of" Gq) (G_cut_marks_from:Fn P w K mg base CX0 "cut_marks_from" 3 Ut (Us K)):Fn P w K mg base CX0 "cut_marks_of" 4 V4 (W4 K):=D.to (λ F =>
 F.ok (k:=3) Zjc (λ vs _ _ _ h=>Wa h) (λ cdv A outer s H vs Q E hr h=>by
  have hu:=hr.units
  obtain ⟨a0,rfl,h⟩:=h
  refine ⟨Vd K,?_,Zjo h⟩
  refine Zm ?_
  exact (Z0 (Xl (N:=["day","gaps"]) (l:=[none,some 0]) rfl ⟨rfl,by decide +kernel,by decide +kernel,by first | decide +kernel | rfl,⟨⟨rfl,Or.inl rfl,rfl⟩,True.intro⟩,by decide +kernel⟩ (Y4 (by rfl) M.b_range (Ze (Yh (call_lenU) (by rfl) M.b_len Ym (Ze (pv 0) Zf)) Zf)) (λ _ _ _ _ _=>(Z3 (i:=0) (show List.Nodup (["day","gaps"]:List Str) by decide +kernel) rfl (Or.inl rfl))) (λ _ _ _ _ _=>Xc) (λ _ _ _ _ _=>(Z1 G_cut_marks_from (hr.mono (by decide)) (by rfl) Z6 (Ze (pv 1) (Ze (pv 0) Zf)))))))) (λ _ _ _ _ _ _ us hl=>match us,hl with | [_],_=>rfl)
abbrev Zc6:Stmt:=top 33
abbrev Zcb:List Str:=["marks"]
theorem Vs:FnScope ["marks","heights","levels","height"] Zcb (Zu Zc6):=⟨rfl,rfl,rfl,by decide +kernel,rfl,by decide +kernel,by decide +kernel⟩
theorem Zo6 (M:Md K mg) (D:Df K mg "levels_of" Zc6) (G_chains_from:Fn P w K mg base CX0 "chains_from" 1 Jh (Xi K)):Fn P w K mg base CX0 "levels_of" 2 Zcb (Vn K):=D.to (λ F =>
 F.ok (k:=1) Vs (λ vs _ _ _ h=>Wa h) (λ cdv A outer s H vs Q E hr h=>by
  have hu:=hr.units
  obtain ⟨a0,rfl,h⟩:=h
  refine ⟨Zbe K,?_,Zoa h⟩
  refine Zk ?_ (Zk ?_ (Zk ?_ (Zm ?_)))
  · exact (Ul (N:=["day","marks"]) (l:=[none,some 0]) (i:=1) rfl Vs.nd rfl rfl ⟨rfl,by decide +kernel,by decide +kernel,by first | decide +kernel | rfl,⟨⟨rfl,Or.inl rfl,rfl⟩,True.intro⟩,by decide +kernel⟩ (Y4 (by rfl) M.b_range (Ze (Yh (call_lenU) (by rfl) M.b_len Ym (Ze (pv 0) Zf)) Zf)) (λ _ _ _ _ _=>(Z3 (i:=0) (show List.Nodup (["day","marks"]:List Str) by decide +kernel) rfl (Or.inl rfl))) (λ _ _ _ _ _=>Xc) (λ _ _ _ _ _=>(Yh Zvx (by rfl) M.b_len Ym (Ze (Z1 G_chains_from (hr.mono (by decide)) (by rfl) Z6 (Ze (pv 1) (Ze (pv 0) Zf))) Zf))))
  · exact (Z8 (i:=2) Vs.nd rfl (Or.inl rfl) (Jk Zf))
  · exact (Xf PassesOwn.never rfl (Z1s (by rfl) M.b_reversed (Ze (Zth rfl (by rfl) M.b_sorted (by rfl) M.b_set (pv 1)) Zf)) (Z3 (i:=3) Vs.nd rfl (Or.inr rfl)) (Zm (Jg (Zci PySem.F.plainAttrs_list PySem.F.slot_list_append PySem.F.type_list_append Ua (pv 2) (Ze (Xl (N:=["day","own","height"]) (l:=[none,none,some 3]) rfl ⟨rfl,by decide +kernel,by decide +kernel,by first | decide +kernel | rfl,⟨⟨rfl,Or.inl rfl,rfl⟩,True.intro⟩,by decide +kernel⟩ (Zfb (by rfl) M.b_enumerate (Ze (pv 1) Zf)) (λ _ _ _ _ _=>(W9 rfl (Y6 (Z3 (i:=0) (show List.Nodup (["day","own","height"]:List Str) by decide +kernel) rfl (Or.inl rfl)) (Y6 (Z3 (i:=1) (show List.Nodup (["day","own","height"]:List Str) by decide +kernel) rfl (Or.inl rfl)) We)))) (λ _ _ _ _ _=>(Zg7 (Ye (op_eqU hu) (pv 1) (pv 2) (Yb _)))) (λ _ _ _ _ _=>(pv 0))) Zf)))))
  · exact (Z0 (pv 2)))) (λ _ _ _ _ _ _ us hl=>match us,hl with | [_],_=>rfl)
abbrev Zah:Stmt:=top 34
abbrev Gz:List Str:=["gaps","worths","weights","level"]
theorem Wc:FnScope ["gaps","worths","weights","level","most","above","day"] Gz (Zu Zah):=⟨rfl,rfl,rfl,by decide +kernel,rfl,by decide +kernel,by decide +kernel⟩
theorem Zlp (M:Md K mg) (D:Df K mg "worth_below" Zah)  : Fn P w K mg base CX0 "worth_below" 1 Gz (Gg K):=D.to (λ F =>
 F.ok (k:=0) Wc (λ vs _ _ _ h=>Zdn h) (λ cdv A outer s H vs Q E hr h=>by
  have hu:=hr.units
  obtain ⟨a0,a1,a2,a3,rfl,h⟩:=h
  refine ⟨Hv K,?_,Zk8 h⟩
  refine Zk ?_ (Zk ?_ (Zm ?_))
  · exact (Z8 (i:=4) Wc.nd rfl (Or.inl rfl) Zi)
  · exact (Zq9 (Xf PassesOwn.never rfl (Zrb (pv 1)) (Z3 (i:=5) Wc.nd rfl (Or.inl rfl)) (Zm (Xf PassesOwn.never rfl (pi_seq (pv 3)) (Z3 (i:=6) Wc.nd rfl (Or.inl rfl)) (Zm (Z8 (i:=4) Wc.nd rfl (Or.inl rfl) (Yh (Zvs rfl) (by rfl) M.b_min Zpr (Ze (pv 4) (Ze (Zt op_addU (Uo (hu1 hu) (pv 1) (pv 5) (λ _ _=>rfl)) (Zt op_mulU (Uo (hu1 hu) (pv 2) (pv 5) (λ _ _=>rfl)) (Z2 Zw (Z2 Zw (pv 0) (pv 5) (λ _ _=>rfl)) (pv 6) (λ _ _=>rfl)))) Zf)))))))))
  · exact (Z0 (pv 4)))) (λ _ _ _ _ _ _ us hl=>match us,hl with | [_,_,_,_],_=>rfl)
abbrev Gm:Stmt:=top 35
abbrev V1:List Str:=["gaps","worths","day","own"]
theorem W5:FnScope ["gaps","worths","day","own","weight","above"] V1 (Zu Gm):=⟨rfl,rfl,rfl,by decide +kernel,rfl,by decide +kernel,by decide +kernel⟩
theorem Zkd (M:Md K mg) (D:Df K mg "weight_below" Gm)  : Fn P w K mg base CX0 "weight_below" 1 V1 (Vj K):=D.to (λ F =>
 F.ok (k:=0) W5 (λ vs _ _ _ h=>Zdn h) (λ cdv A outer s H vs Q E hr h=>by
  have hu:=hr.units
  obtain ⟨a0,a1,a2,a3,rfl,h⟩:=h
  refine ⟨Va K,?_,Zjm h⟩
  refine Zk ?_ (Zk ?_ (Zm ?_))
  · exact (Z8 (i:=4) W5.nd rfl (Or.inl rfl) Zi)
  · exact (Zq9 (Xf PassesOwn.never rfl (Zrb (pv 1)) (Z3 (i:=5) W5.nd rfl (Or.inl rfl)) (Zm (Z8 (i:=4) W5.nd rfl (Or.inl rfl) (Yh (Zvv rfl) (by rfl) M.b_max Zvz (Ze (pv 4) (Ze (Zx9 Ztx (Zt op_divU (Zt op_subU (pv 3) (Uo (hu1 hu) (pv 1) (pv 5) (λ _ _=>rfl))) (Z2 Zw (Z2 Zw (pv 0) (pv 2) (λ _ _=>rfl)) (pv 5) (λ _ _=>rfl)))) Zf)))))))
  · exact (Z0 (pv 4)))) (λ _ _ _ _ _ _ us hl=>match us,hl with | [_,_,_,_],_=>rfl)
abbrev Zem:Stmt:=top 36
abbrev Zdi:List Str:=["gaps","levels"]
theorem Jd:FnScope ["gaps","levels","worths","weights","level","own","day","days"] Zdi (Zu Zem):=⟨rfl,rfl,rfl,by decide +kernel,rfl,by decide +kernel,by decide +kernel⟩
theorem Zqi (M:Md K mg) (D:Df K mg "taste_by" Zem) (G_worth_below:Fn P w K mg base CX0 "worth_below" 1 Gz (Gg K)) (G_weight_below:Fn P w K mg base CX0 "weight_below" 1 V1 (Vj K)):Fn P w K mg base CX0 "taste_by" 2 Zdi (Ef K):=D.to (λ F =>
 F.ok (k:=1) Jd (λ vs _ _ _ h=>Y7 h) (λ cdv A outer s H vs Q E hr h=>by
  have hu:=hr.units
  obtain ⟨a0,a1,rfl,h⟩:=h
  refine ⟨Zcz K,?_,Zp9 h⟩
  refine Zk ?_ (Zk ?_ (Zk ?_ (Zk ?_ (Zm ?_))))
  · exact (Z8 (i:=2) Jd.nd rfl (Or.inr rfl) Zrc)
  · exact (Z8 (i:=3) Jd.nd rfl (Or.inr rfl) Zrc)
  · exact (Xf PassesOwn.never rfl (pi_seq (pv 1)) (Z3 (i:=4) Jd.nd rfl (Or.inl rfl)) (Zk (Z8 (i:=5) Jd.nd rfl (Or.inl rfl) (Z1 G_worth_below (hr.mono (by decide)) (by rfl) Z6 (Ze (pv 0) (Ze (pv 2) (Ze (pv 3) (Ze (pv 4) Zf))))))
    (Zk (Xf PassesOwn.never rfl (pi_seq (pv 4)) (Z3 (i:=6) Jd.nd rfl (Or.inl rfl)) (Zm (Zlg (hu1 hu) (pv 3) (pv 6) (Z1 G_weight_below (hr.mono (by decide)) (by rfl) Z6 (Ze (pv 0) (Ze (pv 2) (Ze (pv 6) (Ze (pv 5) Zf))))) rfl)))
    (Zm (Xf PassesOwn.never rfl (pi_seq (pv 4)) (Z3 (i:=6) Jd.nd rfl (Or.inl rfl)) (Zm (Zlg (hu1 hu) (pv 2) (pv 6) (pv 5) rfl)))))))
  · exact (Z8 (i:=7) Jd.nd rfl (Or.inl rfl) (Yh (Zgy rfl) (by rfl) M.b_sorted Zmn (Ze (pv 2) Zf)))
  · exact (Z0 (Jt (Ze Wf (Ze (Xl (N:=["day","worths"]) (l:=[none,some 2]) rfl ⟨rfl,by decide +kernel,by decide +kernel,by first | decide +kernel | rfl,⟨⟨rfl,Or.inl rfl,rfl⟩,True.intro⟩,by decide +kernel⟩ (pi_seq (pv 7)) (λ _ _ _ _ _=>(Z3 (i:=0) (show List.Nodup (["day","worths"]:List Str) by decide +kernel) rfl (Or.inl rfl))) (λ _ _ _ _ _=>Xc) (λ _ _ _ _ _=>(Uo (hu1 hu) (pv 1) (pv 0) (λ _ _=>rfl)))) (Ze (Xl (N:=["day","weights"]) (l:=[none,some 3]) rfl ⟨rfl,by decide +kernel,by decide +kernel,by first | decide +kernel | rfl,⟨⟨rfl,Or.inl rfl,rfl⟩,True.intro⟩,by decide +kernel⟩ (pi_seq (pv 7)) (λ _ _ _ _ _=>(Z3 (i:=0) (show List.Nodup (["day","weights"]:List Str) by decide +kernel) rfl (Or.inl rfl))) (λ _ _ _ _ _=>Xc) (λ _ _ _ _ _=>(Uo (hu1 hu) (pv 1) (pv 0) (λ _ _=>rfl)))) Zf))))))) (λ _ _ _ _ _ _ us hl=>match us,hl with | [_,_],_=>rfl)
abbrev Ja:Stmt:=top 37
abbrev Ei:List Str:=["book","share"]
theorem Eh:FnScope ["book","share","gaps","marks","ring"] Ei (Zu Ja):=⟨rfl,rfl,rfl,by decide +kernel,rfl,by decide +kernel,by decide +kernel⟩
theorem Zqr:∀ (T:Addr) (kV doc pm:Value) (an:Option Addr) (cdv ct u v:Value),∃ k,bindArgs (PySem.W.fnOf "taste_of" "taste_of" (Q4 Ja) (X7 Ja) (Zu Ja) (.ref T) kV doc pm an cdv ct) ⟨[u,v],[]⟩=seqItems? (.ref T) >>= k/\k (some #[Value.none])=pure [(("book":Str),u),(("share":Str),v)] :=
 λ _ _ _ _ _ _ _ _ _=>⟨_,rfl,rfl⟩
theorem Zqs:∀ (T:Addr) (kV doc pm:Value) (an:Option Addr) (cdv ct u:Value),∃ k,bindArgs (PySem.W.fnOf "taste_of" "taste_of" (Q4 Ja) (X7 Ja) (Zu Ja) (.ref T) kV doc pm an cdv ct) ⟨[u],[]⟩=seqItems? (.ref T) >>= k/\k (some #[Value.none])=pure [(("book":Str),u),(("share":Str),Value.none)] :=
 λ _ _ _ _ _ _ _ _=>⟨_,rfl,rfl⟩
theorem Zqh (M:Md K mg) (D:DfD K mg "taste_of" Ja) (G_ring_in:Fn P w K mg base CX0 "ring_in" 2 Zex (Zax K)) (G_gaps_of:Fn P w K mg base CX0 "gaps_of" 5 Ze0 (Zay K mg)) (G_cut_marks_of:Fn P w K mg base CX0 "cut_marks_of" 4 V4 (W4 K)) (G_levels_of:Fn P w K mg base CX0 "levels_of" 2 Zcb (Vn K)) (G_taste_by:Fn P w K mg base CX0 "taste_by" 2 Zdi (Ef K)):FnD P w K mg base CX0 "taste_of" 6 Ei (Ux K mg):=D.to (λ F =>
 F.ok (k:=5) Eh (λ vs _ _ _ h=>Y7 h) (λ cdv A outer s H vs Q E hr h=>by
  have hu:=hr.units
  obtain ⟨a0,a1,rfl,h⟩:=h
  refine ⟨Eb K mg,?_,Zdg M h⟩
  refine Zk ?_ (Zk ?_ (Zk ?_ (Zk ?_ (Zm ?_))))
  · exact (Z8 (i:=2) Eh.nd rfl (Or.inl rfl) (Z1 G_gaps_of (hr.mono (by decide)) (by rfl) Z6 (Ze (pv 0) (Ze (Zid (Ye op_isU (pv 1) Zgo (Yb _)) (Jt (Ze Zi (Ze Zi Zf))) (pv 1)) Zf))))
  · exact (Z8 (i:=3) Eh.nd rfl (Or.inl rfl) (Z1 G_cut_marks_of (hr.mono (by decide)) (by rfl) Z6 (Ze (pv 2) Zf)))
  · exact (Z8 (i:=4) Eh.nd rfl (Or.inl rfl) (Z1 G_ring_in (hr.mono (by decide)) (by rfl) Z6 (Ze (pv 3) Zf)))
  · exact (Yr (Ye op_isnotU (pv 4) Zgo (Yb _)) (Zm (Z0 (Jt (Ze Wf (Ze (pv 4) Zf))))) Yg)
  · exact (Z0 (Z1 G_taste_by (hr.mono (by decide)) (by rfl) Z6 (Ze (pv 2) (Ze (Z1 G_levels_of (hr.mono (by decide)) (by rfl) Z6 (Ze (pv 3) Zf)) Zf)))))) Zqr Zqs
abbrev Gp:Stmt:=top 39
abbrev V3:List Str:=["book","day","prices","shape"]
theorem Zjb:FnScope ["book","day","prices","shape"] V3 (Zu Gp):=⟨rfl,rfl,rfl,by decide +kernel,rfl,by decide +kernel,by decide +kernel⟩
theorem Zkf (M:Md K mg) (D:Df K mg "share_to_pay" Gp) (G_share_of:Fn P w K mg base CX0 "share_of" 2 Ej (Wu K)) (G_cost_at:Fn P w K mg base CX0 "cost_at" 1 V5 (Jp K)):Fn P w K mg base CX0 "share_to_pay" 3 V3 (Vl K):=D.to (λ F =>
 F.ok (k:=2) Zjb (λ vs _ _ _ h=>Zdn h) (λ cdv A outer s H vs Q E hr h=>by
  have hu:=hr.units
  obtain ⟨a0,a1,a2,a3,rfl,h⟩:=h
  refine ⟨Vb K,?_,Zjn h⟩
  refine Zm ?_
  exact (Z0 (Z1 G_share_of (hr.mono (by decide)) (by rfl) Z6 (Ze (Z1 G_cost_at (hr.mono (by decide)) (by rfl) Z6 (Ze (pv 2) (Ze (Z2 Zw (Z2 Zw (pv 0) (pv 1) (λ _ _=>rfl)) Zi (λ _ _=>rfl)) Zf))) (Ze (Z1 G_cost_at (hr.mono (by decide)) (by rfl) Z6 (Ze (pv 2) (Ze (pv 3) Zf))) Zf)))))) (λ _ _ _ _ _ _ us hl=>match us,hl with | [_,_,_,_],_=>rfl)
abbrev Vu:Stmt:=top 40
abbrev Ku:List Str:=["book","day","shape"]
theorem Zhw:FnScope ["book","day","shape"] Ku (Zu Vu):=⟨rfl,rfl,rfl,by decide +kernel,rfl,by decide +kernel,by decide +kernel⟩
theorem Zil (M:Md K mg) (D:Df K mg "share_paid_by" Vu) (G_share_of:Fn P w K mg base CX0 "share_of" 2 Ej (Wu K)) (G_cost_at:Fn P w K mg base CX0 "cost_at" 1 V5 (Jp K)) (G_purse:Fn P w K mg base (CXr P w base) "purse" 3 Zca (Km K mg)):Fn P w K mg base CX0 "share_paid_by" 4 Ku (Kl K mg):=D.to (λ F =>
 F.ok (k:=3) Zhw (λ vs _ _ _ h=>Je h) (λ cdv A outer s H vs Q E hr h=>by
  have hu:=hr.units
  obtain ⟨a0,a1,a2,rfl,h⟩:=h
  refine ⟨Ke K mg,?_,Zh5 M h⟩
  refine Zm ?_
  exact (Z0 (Z1 G_share_of (hr.mono (by decide)) (by rfl) Z6 (Ze (Z1 G_purse (hr.mono (by decide)) (by rfl) Wr (Ze (pv 0) (Ze (pv 1) Zf))) (Ze (Z1 G_cost_at (hr.mono (by decide)) (by rfl) Z6 (Ze (Z2 Zw (Z2 Zw (pv 0) (pv 1) (λ _ _=>rfl)) Zi (λ _ _=>rfl)) (Ze (pv 2) Zf))) Zf)))))) (λ _ _ _ _ _ _ us hl=>match us,hl with | [_,_,_],_=>rfl)
abbrev Zaj:Stmt:=top 41
abbrev G4:List Str:=["book","day","other","low","high"]
theorem Zk4:FnScope ["book","day","other","low","high"] G4 (Zu Zaj):=⟨rfl,rfl,rfl,by decide +kernel,rfl,by decide +kernel,by decide +kernel⟩
theorem Zlr (M:Md K mg) (D:Df K mg "closes_ring" Zaj) (G_is_less_share:Fn P w K mg base CX0 "is_less_share" 1 Qp (Yw K)) (G_strict_chain:Fn P w K mg base (CXr P w base) "strict_chain" 7 V2 (Vk K mg)):Fn P w K mg base CX0 "closes_ring" 8 G4 (Gj K mg):=D.to (λ F =>
 F.ok (k:=7) Zk4 (λ vs _ _ _ h=>Zq2 h) (λ cdv A outer s H vs Q E hr h=>by
  have hu:=hr.units
  obtain ⟨a0,a1,a2,a3,a4,rfl,h⟩:=h
  refine ⟨Hz K mg,?_,Zlb M h⟩
  refine Zk ?_ (Zm ?_)
  · exact (Yr (Ye (op_eqU hu) (pv 3) (pv 4) (Yb _)) (Zm (Z0 (Qq op_isnotU (Z1 G_strict_chain (hr.mono (by decide)) (by rfl) Wr (Ze (pv 0) (Ze (pv 1) (Ze (pv 2) Zf)))) Zgo (Yb _)))) Yg)
  · exact (Z0 (Z1 G_is_less_share (hr.mono (by decide)) (by rfl) Z6 (Ze (pv 3) (Ze (pv 4) Zf)))))) (λ _ _ _ _ _ _ us hl=>match us,hl with | [_,_,_,_,_],_=>rfl)
abbrev Zh0:Stmt:=top 42
abbrev Zgl:List Str:=["share","other"]
theorem Zt6:FnScope ["share","other"] Zgl (Zu Zh0):=⟨rfl,rfl,rfl,by decide +kernel,rfl,by decide +kernel,by decide +kernel⟩
theorem Zvc (M:Md K mg) (D:Df K mg "lesser" Zh0) (G_is_less_share:Fn P w K mg base CX0 "is_less_share" 1 Qp (Yw K)):Fn P w K mg base CX0 "lesser" 2 Zgl (Zfx K):=D.to (λ F =>
 F.ok (k:=1) Zt6 (λ vs _ _ _ h=>Y7 h) (λ cdv A outer s H vs Q E hr h=>by
  have hu:=hr.units
  obtain ⟨a0,a1,rfl,h⟩:=h
  refine ⟨Zfu K,?_,Zud h⟩
  refine Zm ?_
  exact (Z0 (Zid (Xb (Z1 G_is_less_share (hr.mono (by decide)) (by rfl) Z6 (Ze (pv 0) (Ze (pv 1) Zf))) (λ _=>rfl)) (pv 0) (pv 1))))) (λ _ _ _ _ _ _ us hl=>match us,hl with | [_,_],_=>rfl)
abbrev Zgg:Stmt:=top 43
abbrev Zez:List Str:=["share","other"]
theorem Zss:FnScope ["share","other"] Zez (Zu Zgg):=⟨rfl,rfl,rfl,by decide +kernel,rfl,by decide +kernel,by decide +kernel⟩
theorem Ztd (M:Md K mg) (D:Df K mg "greater" Zgg) (G_is_less_share:Fn P w K mg base CX0 "is_less_share" 1 Qp (Yw K)):Fn P w K mg base CX0 "greater" 2 Zez (Zef K):=D.to (λ F =>
 F.ok (k:=1) Zss (λ vs _ _ _ h=>Y7 h) (λ cdv A outer s H vs Q E hr h=>by
  have hu:=hr.units
  obtain ⟨a0,a1,rfl,h⟩:=h
  refine ⟨Zea K,?_,Zsy h⟩
  refine Zm ?_
  exact (Z0 (Zid (Xb (Z1 G_is_less_share (hr.mono (by decide)) (by rfl) Z6 (Ze (pv 0) (Ze (pv 1) Zf))) (λ _=>rfl)) (pv 1) (pv 0))))) (λ _ _ _ _ _ _ us hl=>match us,hl with | [_,_],_=>rfl)
abbrev Zai:Stmt:=top 44
abbrev G3:List Str:=["told","low","high"]
theorem X5:FnScope ["told","low","high","below","above","least","most","bar"] G3 (Zu Zai):=⟨rfl,rfl,rfl,by decide +kernel,rfl,by decide +kernel,by decide +kernel⟩
theorem Zlq (M:Md K mg) (D:Df K mg "joined_with" Zai) (G_is_less_share:Fn P w K mg base CX0 "is_less_share" 1 Qp (Yw K)) (G_lesser:Fn P w K mg base CX0 "lesser" 2 Zgl (Zfx K)) (G_greater:Fn P w K mg base CX0 "greater" 2 Zez (Zef K)):Fn P w K mg base CX0 "joined_with" 3 G3 (Gh K):=D.to (λ F =>
 F.ok (k:=2) X5 (λ vs _ _ _ h=>Je h) (λ cdv A outer s H vs Q E hr h=>by
  have hu:=hr.units
  obtain ⟨a0,a1,a2,rfl,h⟩:=h
  refine ⟨Hw K,?_,Zk9 h⟩
  refine Zk ?_ (Zk ?_ (Zk ?_ (Zk ?_ (Zk ?_ (Zm ?_)))))
  · exact (Ul (N:=["bar","low"]) (l:=[none,some 1]) (i:=3) rfl X5.nd rfl rfl ⟨rfl,by decide +kernel,by decide +kernel,by first | decide +kernel | rfl,⟨⟨rfl,Or.inl rfl,rfl⟩,True.intro⟩,by decide +kernel⟩ (pi_seq (pv 0)) (λ _ _ _ _ _=>(Z3 (i:=0) (show List.Nodup (["bar","low"]:List Str) by decide +kernel) rfl (Or.inl rfl))) (λ _ _ _ _ _=>(Zg7 (Xb (Z1 G_is_less_share (hr.mono (by decide)) (by rfl) Z6 (Ze (Z2 Zw (pv 0) Zi (λ _ _=>rfl)) (Ze (pv 1) Zf))) (λ _=>rfl)))) (λ _ _ _ _ _=>(pv 0)))
  · exact (Ul (N:=["bar","high"]) (l:=[none,some 2]) (i:=4) rfl X5.nd rfl rfl ⟨rfl,by decide +kernel,by decide +kernel,by first | decide +kernel | rfl,⟨⟨rfl,Or.inl rfl,rfl⟩,True.intro⟩,by decide +kernel⟩ (pi_seq (pv 0)) (λ _ _ _ _ _=>(Z3 (i:=0) (show List.Nodup (["bar","high"]:List Str) by decide +kernel) rfl (Or.inl rfl))) (λ _ _ _ _ _=>(Zg7 (Xb (Z1 G_is_less_share (hr.mono (by decide)) (by rfl) Z6 (Ze (pv 1) (Ze (Z2 Zw (pv 0) Zi (λ _ _=>rfl)) Zf))) (λ _=>rfl)))) (λ _ _ _ _ _=>(pv 0)))
  · exact (Z8 (i:=5) X5.nd rfl (Or.inl rfl) (pv 1))
  · exact (Z8 (i:=6) X5.nd rfl (Or.inl rfl) (pv 2))
  · exact (Xf PassesOwn.never rfl (pi_seq (Kz sl_U (pv 0) (K7 (Yh (call_lenU) (by rfl) M.b_len Ym (Ze (pv 3) Zf))) (K7 (Zt op_subU (Yh (call_lenU) (by rfl) M.b_len Ym (Ze (pv 0) Zf)) (Yh (call_lenU) (by rfl) M.b_len Ym (Ze (pv 4) Zf)))))) (Z3 (i:=7) X5.nd rfl (Or.inl rfl)) (Zk (Z8 (i:=5) X5.nd rfl (Or.inl rfl) (Z1 G_lesser (hr.mono (by decide)) (by rfl) Z6 (Ze (pv 5) (Ze (Z2 Zw (pv 7) Zi (λ _ _=>rfl)) Zf))))
    (Zm (Z8 (i:=6) X5.nd rfl (Or.inl rfl) (Z1 G_greater (hr.mono (by decide)) (by rfl) Z6 (Ze (pv 6) (Ze (Z2 Zw (pv 7) Zi (λ _ _=>rfl)) Zf)))))))
  · exact (Z0 (Zt op_addU (Zt op_addU (pv 3) (Jk (Ze (Jt (Ze (pv 5) (Ze (pv 6) Zf))) Zf))) (pv 4))))) (λ _ _ _ _ _ _ us hl=>match us,hl with | [_,_,_],_=>rfl)
abbrev Zn3:Stmt:=top 45
abbrev Zlh:List Str:=["book","prices","shape"]
theorem Gk:FnScope ["book","prices","shape","told","day","low","other","high"] Zlh (Zu Zn3):=⟨rfl,rfl,rfl,by decide +kernel,rfl,by decide +kernel,by decide +kernel⟩
theorem Zz8 (M:Md K mg) (D:Df K mg "bars" Zn3) (G_reached:Fn P w K mg base (CXr P w base) "reached" 7 Zey (Zee K mg)) (G_taste_of:FnD P w K mg base CX0 "taste_of" 6 Ei (Ux K mg)) (G_share_to_pay:Fn P w K mg base CX0 "share_to_pay" 3 V3 (Vl K)) (G_share_paid_by:Fn P w K mg base CX0 "share_paid_by" 4 Ku (Kl K mg)) (G_closes_ring:Fn P w K mg base CX0 "closes_ring" 8 G4 (Gj K mg)) (G_joined_with:Fn P w K mg base CX0 "joined_with" 3 G3 (Gh K)):Fn P w K mg base (CXr P w base) "bars" 9 Zlh (Uh K mg):=D.to (λ F =>
 F.okR (k:=8) Gk (λ vs _ _ _ h=>Je h) (λ cdv A outer s H vs Q E hr h=>by
  have hu:=hr.units
  obtain ⟨a0,a1,a2,rfl,h⟩:=h
  refine ⟨Zk0 K mg E,?_,Zy9 M h⟩
  refine Zk ?_ (Zk ?_ (Zk ?_ (Zm ?_)))
  · exact (Yr (Ye (op_eqU hu) (Z2 Zw (Zvd G_taste_of (hr.mono (by decide)) (by rfl) Z6 (Ze (pv 0) Zf)) Zi (λ _ _=>rfl)) Wf (Yb _)) (Zm (Zpg Zyc rfl M.x_NoTaste (by rfl) (Ze Wf Zf))) Yg)
  · exact (Z8 (i:=3) Gk.nd rfl (Or.inl rfl) (Jk Zf))
  · exact (Xf PassesOwn.leaving rfl (Y4 (by rfl) M.b_range (Ze (Yh (call_lenU) (by rfl) M.b_len Ym (Ze (pv 0) Zf)) Zf)) (Z3 (i:=4) Gk.nd rfl (Or.inl rfl)) (Zk (Z8 (i:=5) Gk.nd rfl (Or.inl rfl) (Z1 G_share_to_pay (hr.mono (by decide)) (by rfl) Z6 (Ze (pv 0) (Ze (pv 4) (Ze (pv 1) (Ze (pv 2) Zf))))))
    (Zm (Zuf (Xf PassesOwn.never rfl (pi_seq (Z1 G_reached (hr.mono (by decide)) (by rfl) Wr (Ze (pv 0) (Ze (pv 4) Zf)))) (Z3 (i:=6) Gk.nd rfl (Or.inl rfl)) (Zk (Z8 (i:=7) Gk.nd rfl (Or.inl rfl) (Z1 G_share_paid_by (hr.mono (by decide)) (by rfl) Z6 (Ze (pv 0) (Ze (pv 6) (Ze (pv 2) Zf)))))
    (Zm (Yr (Xb (Z1 G_closes_ring (hr.mono (by decide)) (by rfl) Z6 (Ze (pv 0) (Ze (pv 4) (Ze (pv 6) (Ze (pv 5) (Ze (pv 7) Zf)))))) (λ _=>rfl)) (Zm (Z8 (i:=3) Gk.nd rfl (Or.inl rfl) (Z1 G_joined_with (hr.mono (by decide)) (by rfl) Z6 (Ze (pv 3) (Ze (pv 5) (Ze (pv 7) Zf)))))) Yg))))))))
  · exact (Z0 (pv 3)))) (λ _ _ _ _ _ _ us hl=>match us,hl with | [_,_,_],_=>rfl)
abbrev Zdd:Stmt:=top 47
abbrev Hl:List Str:=["_law_script","_law_k"]
theorem Zbv:FnScope ["_law_script","_law_k","_law_number"] Hl (Zu Zdd):=⟨rfl,rfl,rfl,by decide +kernel,rfl,by decide +kernel,by decide +kernel⟩
theorem Zpd (M:Md K mg) (D:Df K mg "_law_cell" Zdd)  : Fn P w K mg base CX0 "_law_cell" 1 Hl (Qw K):=D.to (λ F =>
 F.ok (k:=0) Zbv (λ vs _ _ _ h=>Y7 h) (λ cdv A outer s H vs Q E hr h=>by
  have hu:=hr.units
  obtain ⟨a0,a1,rfl,h⟩:=h
  refine ⟨Zbj K,?_,Zof h⟩
  refine Zk ?_ (Zk ?_ (Zk ?_ (Zm ?_)))
  · exact (Yr (Ye En (pv 1) (Yh (call_lenU) (by rfl) M.b_len Ym (Ze (pv 0) Zf)) (Yb _)) (Zm (Z0 (Zt op_modU (Zt op_mulU (Zt op_addU (Z2 Zw (pv 0) (pv 1) (λ _ _=>rfl)) Zi) Zi) (Jm (by decide +kernel) (by decide) (by decide) (by decide))))) Yg)
  · exact (Z8 (i:=2) Zbv.nd rfl (Or.inl rfl) (Zt op_addU (Zt op_mulU (Zt op_mulU (pv 1) (pv 1)) Zi) Zi))
  · exact (Yr (Ye Ze2 (Yh (call_lenU) (by rfl) M.b_len Ym (Ze (pv 0) Zf)) Zi (Yb _)) (Zm (Z8 (i:=2) Zbv.nd rfl (Or.inl rfl) (Zt op_addU (pv 2) (Zt op_mulU (Zt op_modU (Z2 Zw (pv 0) (Zt op_modU (Zt op_mulU (pv 1) Zi) (Yh (call_lenU) (by rfl) M.b_len Ym (Ze (pv 0) Zf))) (λ _ _=>rfl)) (Jm (by decide +kernel) (by decide) (by decide) (by decide))) Zi)))) Yg)
  · exact (Z0 (Zt op_modU (Zt op_mulU (Zt op_modU (Zt op_mulU (pv 2) (pv 2)) Zi) Zi) (Jm (by decide +kernel) (by decide) (by decide) (by decide)))))) (λ _ _ _ _ _ _ us hl=>match us,hl with | [_,_],_=>rfl)
abbrev Zeq:Stmt:=top 48
abbrev U3:List Str:=["_law_found"]
theorem Zp6:FnScope ["_law_found"] U3 (Zu Zeq):=⟨rfl,rfl,rfl,by decide +kernel,rfl,by decide +kernel,by decide +kernel⟩
theorem Zqm (M:Md K mg) (D:Df K mg "_law_int" Zeq)  : Fn P w K mg base CX0 "_law_int" 1 U3 (Jc K):=D.to (λ F =>
 F.ok (k:=0) Zp6 (λ vs _ _ _ h=>Wa h) (λ cdv A outer s H vs Q E hr h=>by
  have hu:=hr.units
  obtain ⟨a0,rfl,h⟩:=h
  refine ⟨Zhi K,?_,Zqc h⟩
  refine Zm ?_
  exact (Z0 (Zgp (Yh call_isinst (by rfl) M.b_isinstance Qm (Ze (pv 0) (Ze (Ew M.b_int Zgz) Zf))) (Zjw (Z04 (Yh call_isinst (by rfl) M.b_isinstance Qm (Ze (pv 0) (Ze (Ew M.b_bool Z0d) Zf))))))))) (λ _ _ _ _ _ _ us hl=>match us,hl with | [_],_=>rfl)
abbrev Zc9:Stmt:=top 49
abbrev V6:List Str:=["_law_cell_here"]
theorem Zny:FnScope ["_law_cell_here"] V6 (Zu Zc9):=⟨rfl,rfl,rfl,by decide +kernel,rfl,by decide +kernel,by decide +kernel⟩
theorem Zo9 (M:Md K mg) (D:Df K mg "_law_next" Zc9)  : Fn P w K mg base CX0 "_law_next" 1 V6 (W7 K):=D.to (λ F =>
 F.ok (k:=0) Zny (λ vs _ _ _ h=>Wa h) (λ cdv A outer s H vs Q E hr h=>by
  have hu:=hr.units
  obtain ⟨a0,rfl,h⟩:=h
  refine ⟨Zbf K,?_,Zob h⟩
  refine Zm ?_
  exact (Z0 (Zt op_modU (Zt op_addU (Zt op_mulU (pv 0) Zi) Zi) (Jm (by decide +kernel) (by decide) (by decide) (by decide)))))) (λ _ _ _ _ _ _ us hl=>match us,hl with | [_],_=>rfl)
abbrev Zb4:Stmt:=top 50
abbrev Zar:List Str:=["_law_cell_here","_law_wares"]
theorem Ka:FnScope ["_law_cell_here","_law_wares","_law_shape_here","_law_k"] Zar (Zu Zb4):=⟨rfl,rfl,rfl,by decide +kernel,rfl,by decide +kernel,by decide +kernel⟩
theorem Zm4 (M:Md K mg) (D:Df K mg "_law_shape" Zb4) (G__law_next:Fn P w K mg base CX0 "_law_next" 1 V6 (W7 K)):Fn P w K mg base CX0 "_law_shape" 2 Zar (Zae K):=D.to (λ F =>
 F.ok (k:=1) Ka (λ vs _ _ _ h=>Y7 h) (λ cdv A outer s H vs Q E hr h=>by
  have hu:=hr.units
  obtain ⟨a0,a1,rfl,h⟩:=h
  refine ⟨Zaa K,?_,Zmz h⟩
  refine Zk ?_ (Zk ?_ (Zk ?_ (Zm ?_)))
  · exact (Z8 (i:=2) Ka.nd rfl (Or.inl rfl) (Jk Zf))
  · exact (Xf PassesOwn.never rfl (Y4 (by rfl) M.b_range (Ze (pv 1) Zf)) (Z3 (i:=3) Ka.nd rfl (Or.inl rfl)) (Zk (Z8 (i:=0) Ka.nd rfl (Or.inl rfl) (Z1 G__law_next (hr.mono (by decide)) (by rfl) Z6 (Ze (pv 0) Zf)))
    (Zm (Jg (Zci PySem.F.plainAttrs_list PySem.F.slot_list_append PySem.F.type_list_append Ua (pv 2) (Ze (Zt op_modU (Zt op_divU (pv 0) (Jm (by decide +kernel) (by decide) (by decide) (by decide))) Zi) Zf))))))
  · exact (Yr (Ye (op_eqU hu) (Yh (call_sumU rfl) (by rfl) M.b_sum Zks (Ze (pv 2) Zf)) Zi (Yb _)) (Zm (Zdx Zi (Zjv (pv 2) Zi Zeh))) Yg)
  · exact (Z0 (pv 2)))) (λ _ _ _ _ _ _ us hl=>match us,hl with | [_,_],_=>rfl)
abbrev Zdf:Stmt:=top 51
abbrev Zcg:List Str:=["_law_prices","_law_shape_here","_law_j"]
theorem Zf3:FnScope ["_law_prices","_law_shape_here","_law_j","_law_k"] Zcg (Zu Zdf):=⟨rfl,rfl,rfl,by decide +kernel,rfl,by decide +kernel,by decide +kernel⟩
theorem Zpf (M:Md K mg) (D:Df K mg "_law_best" Zdf)  : Fn P w K mg base CX0 "_law_best" 1 Zcg (Zbr K):=D.to (λ F =>
 F.ok (k:=0) Zf3 (λ vs _ _ _ h=>Je h) (λ cdv A outer s H vs Q E hr h=>by
  have hu:=hr.units
  obtain ⟨a0,a1,a2,rfl,h⟩:=h
  refine ⟨Zbl K,?_,Zoh h⟩
  refine Zk ?_ (Zm ?_)
  · exact (Xf PassesOwn.never rfl (Y4 (by rfl) M.b_range (Ze (Yh (call_lenU) (by rfl) M.b_len Ym (Ze (pv 0) Zf)) Zf)) (Z3 (i:=3) Zf3.nd rfl (Or.inl rfl)) (Zm (Yr (Ye Ze2 (Zt op_mulU (Zt op_addU Zi (Z2 Zw (pv 1) (pv 3) (λ _ _=>rfl))) (Z2 Zw (pv 0) (pv 2) (λ _ _=>rfl))) (Zt op_mulU (Zt op_addU Zi (Z2 Zw (pv 1) (pv 2) (λ _ _=>rfl))) (Z2 Zw (pv 0) (pv 3) (λ _ _=>rfl))) (Yb _)) (Zm (Z0 Zi)) Yg)))
  · exact (Z0 Zi))) (λ _ _ _ _ _ _ us hl=>match us,hl with | [_,_,_],_=>rfl)
abbrev Zan:Stmt:=top 52
abbrev G6:List Str:=["_law_way","_law_prices","_law_amounts","_law_shape_here","_law_times_here"]
theorem Zk5:FnScope ["_law_way","_law_prices","_law_amounts","_law_shape_here","_law_times_here"] G6 (Zu Zan):=⟨rfl,rfl,rfl,by decide +kernel,rfl,by decide +kernel,by decide +kernel⟩
theorem Zlv (M:Md K mg) (D:Df K mg "_law_bought" Zan) (G__law_best:Fn P w K mg base CX0 "_law_best" 1 Zcg (Zbr K)):Fn P w K mg base CX0 "_law_bought" 2 G6 (Uj K):=D.to (λ F =>
 F.ok (k:=1) Zk5 (λ vs _ _ _ h=>Zq2 h) (λ cdv A outer s H vs Q E hr h=>by
  have hu:=hr.units
  obtain ⟨a0,a1,a2,a3,a4,rfl,h⟩:=h
  refine ⟨Ge K,?_,Zlf h⟩
  refine Zk ?_ (Zk ?_ (Zk ?_ (Zk ?_ (Zk ?_ (Zm ?_)))))
  · exact (Yr (Ye (op_eqU hu) (pv 0) Zi (Yb _)) (Zm (Z0 (Xl (N:=["_law_k","_law_times_here","_law_shape_here"]) (l:=[none,some 4,some 3]) rfl ⟨rfl,by decide +kernel,by decide +kernel,by first | decide +kernel | rfl,⟨⟨rfl,Or.inl rfl,rfl⟩,⟨⟨rfl,Or.inl rfl,rfl⟩,True.intro⟩⟩,by decide +kernel⟩ (Y4 (by rfl) M.b_range (Ze (Yh (call_lenU) (by rfl) M.b_len Ym (Ze (pv 1) Zf)) Zf)) (λ _ _ _ _ _=>(Z3 (i:=0) (show List.Nodup (["_law_k","_law_times_here","_law_shape_here"]:List Str) by decide +kernel) rfl (Or.inl rfl))) (λ _ _ _ _ _=>Xc) (λ _ _ _ _ _=>(Zt op_mulU (pv 1) (Z2 Zw (pv 2) (pv 0) (λ _ _=>rfl))))))) Yg)
  · exact (Yr (Ye (op_eqU hu) (pv 0) Zi (Yb _)) (Zm (Z0 (Xl (N:=["_law_k","_law_times_here","_law_shape_here","_law_prices"]) (l:=[none,some 4,some 3,some 1]) rfl ⟨rfl,by decide +kernel,by decide +kernel,by first | decide +kernel | rfl,⟨⟨rfl,Or.inl rfl,rfl⟩,⟨⟨rfl,Or.inl rfl,rfl⟩,⟨⟨rfl,Or.inl rfl,rfl⟩,True.intro⟩⟩⟩,by decide +kernel⟩ (Y4 (by rfl) M.b_range (Ze (Yh (call_lenU) (by rfl) M.b_len Ym (Ze (pv 1) Zf)) Zf)) (λ _ _ _ _ _=>(Z3 (i:=0) (show List.Nodup (["_law_k","_law_times_here","_law_shape_here","_law_prices"]:List Str) by decide +kernel) rfl (Or.inl rfl))) (λ _ _ _ _ _=>Xc) (λ _ _ _ _ _=>(Zt op_divU (Zt op_mulU (Zt op_mulU (pv 1) (Z2 Zw (pv 2) (pv 0) (λ _ _=>rfl))) Zi) (Z2 Zw (pv 3) (pv 0) (λ _ _=>rfl))))))) Yg)
  · exact (Yr (Ye (op_eqU hu) (pv 0) Zi (Yb _)) (Zm (Z0 (Xl (N:=["_law_k","_law_amounts","_law_prices","_law_shape_here"]) (l:=[none,some 2,some 1,some 3]) rfl ⟨rfl,by decide +kernel,by decide +kernel,by first | decide +kernel | rfl,⟨⟨rfl,Or.inl rfl,rfl⟩,⟨⟨rfl,Or.inl rfl,rfl⟩,⟨⟨rfl,Or.inl rfl,rfl⟩,True.intro⟩⟩⟩,by decide +kernel⟩ (Y4 (by rfl) M.b_range (Ze (Yh (call_lenU) (by rfl) M.b_len Ym (Ze (pv 1) Zf)) Zf)) (λ _ _ _ _ _=>(Z3 (i:=0) (show List.Nodup (["_law_k","_law_amounts","_law_prices","_law_shape_here"]:List Str) by decide +kernel) rfl (Or.inl rfl))) (λ _ _ _ _ _=>Xc) (λ _ _ _ _ _=>(Zt op_mulU (Zt op_addU Zi (Z2 Zw (pv 1) (pv 0) (λ _ _=>rfl))) (Z1 G__law_best (hr.mono (by decide)) (by rfl) Z6 (Ze (pv 2) (Ze (pv 3) (Ze (pv 0) Zf))))))))) Yg)
  · exact (Yr (Ye (op_eqU hu) (pv 0) Zi (Yb _)) (Zm (Z0 (Xl (N:=["_law_k","_law_amounts","_law_prices"]) (l:=[none,some 2,some 1]) rfl ⟨rfl,by decide +kernel,by decide +kernel,by first | decide +kernel | rfl,⟨⟨rfl,Or.inl rfl,rfl⟩,⟨⟨rfl,Or.inl rfl,rfl⟩,True.intro⟩⟩,by decide +kernel⟩ (Y4 (by rfl) M.b_range (Ze (Yh (call_lenU) (by rfl) M.b_len Ym (Ze (pv 1) Zf)) Zf)) (λ _ _ _ _ _=>(Z3 (i:=0) (show List.Nodup (["_law_k","_law_amounts","_law_prices"]:List Str) by decide +kernel) rfl (Or.inl rfl))) (λ _ _ _ _ _=>Xc) (λ _ _ _ _ _=>(Zt op_mulU (Zt op_addU Zi (Z2 Zw (pv 1) (pv 0) (λ _ _=>rfl))) (U6 call_ty_int (by rfl) M.b_int Zgz (Ze (Qq (op_eqU hu) (Z2 Zw (pv 2) (pv 0) (λ _ _=>rfl)) (Yh (call_minU rfl) (by rfl) M.b_min Zpr (Ze (pv 2) Zf)) (Yb _)) Zf))))))) Yg)
  · exact (Yr (Ye (op_eqU hu) (pv 0) Zi (Yb _)) (Zm (Z0 (Xl (N:=["_law_price_here"]) (l:=[none]) rfl ⟨rfl,by decide +kernel,by decide +kernel,by first | decide +kernel | rfl,  True.intro,by decide +kernel⟩ (pi_seq (pv 1)) (λ _ _ _ _ _=>(Z3 (i:=0) (show List.Nodup (["_law_price_here"]:List Str) by decide +kernel) rfl (Or.inl rfl))) (λ _ _ _ _ _=>Xc) (λ _ _ _ _ _=>(Zt op_subU Zi (pv 0)))))) Yg)
  · exact (Z0 (pv 2)))) (λ _ _ _ _ _ _ us hl=>match us,hl with | [_,_,_,_,_],_=>rfl)
abbrev Zb5:Stmt:=top 53
abbrev Zas:List Str:=["_law_way","_law_high"]
theorem Zmv:FnScope ["_law_way","_law_high"] Zas (Zu Zb5):=⟨rfl,rfl,rfl,by decide +kernel,rfl,by decide +kernel,by decide +kernel⟩
theorem Zm5 (M:Md K mg) (D:Df K mg "_law_price" Zb5)  : Fn P w K mg base CX0 "_law_price" 1 Zas (Zaf K):=D.to (λ F =>
 F.ok (k:=0) Zmv (λ vs _ _ _ h=>Y7 h) (λ cdv A outer s H vs Q E hr h=>by
  have hu:=hr.units
  obtain ⟨a0,a1,rfl,h⟩:=h
  refine ⟨Zab K,?_,Zm0 h⟩
  refine Zk ?_ (Zk ?_ (Zk ?_ (Zk ?_ (Zm ?_))))
  · exact (Yr (Ye (op_eqU hu) (pv 0) Zi (Yb _)) (Zm (Z0 (Zt op_addU Zi (Zt op_modU (pv 1) Zi)))) Yg)
  · exact (Yr (Ye (op_eqU hu) (pv 0) Zi (Yb _)) (Zm (Z0 (Zt op_addU Zi (Zt op_modU (pv 1) Zi)))) Yg)
  · exact (Yr (Ye (op_eqU hu) (pv 0) Zi (Yb _)) (Zm (Z0 (Zt op_addU Zi (Zt op_modU (pv 1) (Jm (by decide +kernel) (by decide) (by decide) (by decide)))))) Yg)
  · exact (Yr (Ye (op_eqU hu) (pv 0) Zi (Yb _)) (Zm (Z0 (Z2 Zw (Jk (Ze Zi (Ze Zi (Ze Zi (Ze Zi (Ze Zi (Ze Zi Zf))))))) (Zt op_modU (pv 1) Zi) (λ _ _=>rfl)))) Yg)
  · exact (Z0 (Zt op_addU Zi (Zt op_modU (pv 1) Zi))))) (λ _ _ _ _ _ _ us hl=>match us,hl with | [_,_],_=>rfl)
abbrev Zer:Stmt:=top 54
abbrev El:List Str:=["_law_cell_here","_law_way","_law_shape_here"]
theorem Qe:FnScope ["_law_cell_here","_law_way","_law_shape_here","_law_prices","_law_amounts","_law_k","_law_high","_law_at"] El (Zu Zer):=⟨rfl,rfl,rfl,by decide +kernel,rfl,by decide +kernel,by decide +kernel⟩
theorem Zqn (M:Md K mg) (D:Df K mg "_law_day" Zer) (G__law_next:Fn P w K mg base CX0 "_law_next" 1 V6 (W7 K)) (G__law_bought:Fn P w K mg base CX0 "_law_bought" 2 G6 (Uj K)) (G__law_price:Fn P w K mg base CX0 "_law_price" 1 Zas (Zaf K)):Fn P w K mg base CX0 "_law_day" 3 El (Uz K):=D.to (λ F =>
 F.ok (k:=2) Qe (λ vs _ _ _ h=>Je h) (λ cdv A outer s H vs Q E hr h=>by
  have hu:=hr.units
  obtain ⟨a0,a1,a2,rfl,h⟩:=h
  refine ⟨Zc2 K,?_,Zqd h⟩
  refine Zk ?_ (Zk ?_ (Zk ?_ (Zk ?_ (Zk ?_ (Zk ?_ (Zm ?_))))))
  · exact (Z8 (i:=3) Qe.nd rfl (Or.inl rfl) (Jk Zf))
  · exact (Z8 (i:=4) Qe.nd rfl (Or.inl rfl) (Jk Zf))
  · exact (Xf PassesOwn.never rfl (Y4 (by rfl) M.b_range (Ze (Yh (call_lenU) (by rfl) M.b_len Ym (Ze (pv 2) Zf)) Zf)) (Z3 (i:=5) Qe.nd rfl (Or.inl rfl)) (Zk (Z8 (i:=0) Qe.nd rfl (Or.inr rfl) (Z1 G__law_next (hr.mono (by decide)) (by rfl) Z6 (Ze (pv 0) Zf)))
    (Zk (Z8 (i:=6) Qe.nd rfl (Or.inl rfl) (Zt op_divU (pv 0) (Jm (by decide +kernel) (by decide) (by decide) (by decide))))
    (Zk (Jg (Zci PySem.F.plainAttrs_list PySem.F.slot_list_append PySem.F.type_list_append Ua (pv 3) (Ze (Z1 G__law_price (hr.mono (by decide)) (by rfl) Z6 (Ze (pv 1) (Ze (pv 6) Zf))) Zf)))
    (Zm (Jg (Zci PySem.F.plainAttrs_list PySem.F.slot_list_append PySem.F.type_list_append Ua (pv 4) (Ze (Z2 Zw (Jk (Ze (Zt op_modU (Zt op_divU (pv 6) Zi) Zi) (Ze (Zt op_modU (Zt op_divU (pv 6) (Jm (by decide +kernel) (by decide) (by decide) (by decide))) (Jm (by decide +kernel) (by decide) (by decide) (by decide))) Zf))) (U6 call_ty_int (by rfl) M.b_int Zgz (Ze (Qq (op_eqU hu) (pv 1) Zi (Yb _)) Zf)) (λ _ _=>rfl)) Zf))))))))
  · exact (Yr (Ye (op_eqU hu) (pv 1) Zi (Yb _)) (Zk (Z8 (i:=7) Qe.nd rfl (Or.inr rfl) (Zt op_modU (Zt op_divU (pv 0) (Jm (by decide +kernel) (by decide) (by decide) (by decide))) (Yh (call_lenU) (by rfl) M.b_len Ym (Ze (pv 3) Zf))))
    (Zk (Ul (N:=["_law_k","_law_cell_here","_law_at","_law_shape_here"]) (l:=[none,some 0,some 7,some 2]) (i:=3) rfl Qe.nd rfl rfl ⟨rfl,by decide +kernel,by decide +kernel,by first | decide +kernel | rfl,⟨⟨rfl,Or.inl rfl,rfl⟩,⟨⟨rfl,Or.inl rfl,rfl⟩,⟨⟨rfl,Or.inl rfl,rfl⟩,True.intro⟩⟩⟩,by decide +kernel⟩ (Y4 (by rfl) M.b_range (Ze (Yh (call_lenU) (by rfl) M.b_len Ym (Ze (pv 2) Zf)) Zf)) (λ _ _ _ _ _=>(Z3 (i:=0) (show List.Nodup (["_law_k","_law_cell_here","_law_at","_law_shape_here"]:List Str) by decide +kernel) rfl (Or.inl rfl))) (λ _ _ _ _ _=>Xc) (λ _ _ _ _ _=>(Z2 Zw (Jk (Ze Zi (Ze (Zt op_addU Zi (Zt op_modU (pv 1) Zi)) Zf))) (U6 call_ty_int (by rfl) M.b_int Zgz (Ze (Qq (op_eqU hu) (pv 0) (Zt op_modU (Zt op_addU (pv 2) Zi) (Yh (call_lenU) (by rfl) M.b_len Ym (Ze (pv 3) Zf))) (Yb _)) Zf)) (λ _ _=>rfl))))
    (Zk (Zdx Zi (Zjv (pv 3) (pv 7) Zeh))
    (Zm (Ul (N:=["_law_k","_law_at"]) (l:=[none,some 7]) (i:=4) rfl Qe.nd rfl rfl ⟨rfl,by decide +kernel,by decide +kernel,by first | decide +kernel | rfl,⟨⟨rfl,Or.inl rfl,rfl⟩,True.intro⟩,by decide +kernel⟩ (Y4 (by rfl) M.b_range (Ze (Yh (call_lenU) (by rfl) M.b_len Ym (Ze (pv 2) Zf)) Zf)) (λ _ _ _ _ _=>(Z3 (i:=0) (show List.Nodup (["_law_k","_law_at"]:List Str) by decide +kernel) rfl (Or.inl rfl))) (λ _ _ _ _ _=>Xc) (λ _ _ _ _ _=>(U6 call_ty_int (by rfl) M.b_int Zgz (Ze (Qq (op_eqU hu) (pv 0) (pv 1) (Yb _)) Zf)))))))) Yg)
  · exact (Z8 (i:=4) Qe.nd rfl (Or.inl rfl) (Z1 G__law_bought (hr.mono (by decide)) (by rfl) Z6 (Ze (pv 1) (Ze (pv 3) (Ze (pv 4) (Ze (pv 2) (Ze (Zt op_addU Zi (Zt op_modU (Zt op_divU (pv 0) (Jm (by decide +kernel) (by decide) (by decide) (by decide))) Zi)) Zf)))))))
  · exact (Yr (Ye (op_eqU hu) (Yh (call_sumU rfl) (by rfl) M.b_sum Zks (Ze (pv 4) Zf)) Zi (Yb _)) (Zm (Zdx Zi (Zjv (pv 4) Zi Zeh))) Yg)
  · exact (Z0 (Jt (Ze (U6 call_ty_tuple (by rfl) M.b_tuple Uc (Ze (pv 3) Zf)) (Ze (U6 call_ty_tuple (by rfl) M.b_tuple Uc (Ze (pv 4) Zf)) Zf)))))) (λ _ _ _ _ _ _ us hl=>match us,hl with | [_,_,_],_=>rfl)
abbrev Zde:Stmt:=top 55
abbrev Zcf:List Str:=["_law_script","_law_start","_law_most","_law_wares"]
theorem Qx:FnScope ["_law_script","_law_start","_law_most","_law_wares","_law_cell_here","_law_way","_law_shape_here","_law_book_here","_law_k","_law_j","_law_amounts"] Zcf (Zu Zde):=⟨rfl,rfl,rfl,by decide +kernel,rfl,by decide +kernel,by decide +kernel⟩
theorem Zpe (M:Md K mg) (D:Df K mg "_law_book" Zde) (G__law_cell:Fn P w K mg base CX0 "_law_cell" 1 Hl (Qw K)) (G__law_shape:Fn P w K mg base CX0 "_law_shape" 2 Zar (Zae K)) (G__law_day:Fn P w K mg base CX0 "_law_day" 3 El (Uz K)):Fn P w K mg base CX0 "_law_book" 4 Zcf (Zbq K):=D.to (λ F =>
 F.ok (k:=3) Qx (λ vs _ _ _ h=>Zdn h) (λ cdv A outer s H vs Q E hr h=>by
  have hu:=hr.units
  obtain ⟨a0,a1,a2,a3,rfl,h⟩:=h
  refine ⟨Zbk K,?_,Zog h⟩
  refine Zk ?_ (Zk ?_ (Zk ?_ (Zk ?_ (Zk ?_ (Zm ?_)))))
  · exact (Z8 (i:=4) Qx.nd rfl (Or.inl rfl) (Z1 G__law_cell (hr.mono (by decide)) (by rfl) Z6 (Ze (pv 0) (Ze (pv 1) Zf))))
  · exact (Z8 (i:=5) Qx.nd rfl (Or.inr rfl) (Z2 Zw (Jk (Ze Zi (Ze Zi (Ze Zi (Ze Zi (Ze Zi (Ze Zi (Ze Zi (Ze Zi (Ze Zi (Ze Zi Zf))))))))))) (Zt op_modU (Zt op_divU (pv 4) Zi) Zi) (λ _ _=>rfl)))
  · exact (Z8 (i:=6) Qx.nd rfl (Or.inr rfl) (Z1 G__law_shape (hr.mono (by decide)) (by rfl) Z6 (Ze (pv 4) (Ze (Zt op_addU Zi (Zt op_modU (pv 4) (pv 3))) Zf))))
  · exact (Ul (N:=["_law_k","_law_script","_law_start","_law_way","_law_shape_here"]) (l:=[none,some 0,some 1,some 5,some 6]) (i:=7) rfl Qx.nd rfl rfl ⟨rfl,by decide +kernel,by decide +kernel,by first | decide +kernel | rfl,⟨⟨rfl,Or.inl rfl,rfl⟩,⟨⟨rfl,Or.inl rfl,rfl⟩,⟨⟨rfl,Or.inl rfl,rfl⟩,⟨⟨rfl,Or.inl rfl,rfl⟩,True.intro⟩⟩⟩⟩,by decide +kernel⟩ (Y4 (by rfl) M.b_range (Ze (Zt op_addU Zi (Zt op_modU (Zt op_divU (pv 4) Zi) (pv 2))) Zf)) (λ _ _ _ _ _=>(Z3 (i:=0) (show List.Nodup (["_law_k","_law_script","_law_start","_law_way","_law_shape_here"]:List Str) by decide +kernel) rfl (Or.inl rfl))) (λ _ _ _ _ _=>Xc) (λ _ _ _ _ _=>(Z1 G__law_day (hr.mono (by decide)) (by rfl) Z6 (Ze (Z1 G__law_cell (hr.mono (by decide)) (by rfl) Z6 (Ze (pv 1) (Ze (Zt op_addU (Zt op_addU (pv 2) Zi) (pv 0)) Zf))) (Ze (pv 3) (Ze (pv 4) Zf))))))
  · exact (Yr (Ye (op_eqU hu) (Zt op_modU (Zt op_divU (pv 4) Zi) Zi) Zi (Yb _)) (Zk (Z8 (i:=8) Qx.nd rfl (Or.inl rfl) (Zt op_modU (Zt op_divU (pv 4) Zi) (Yh (call_lenU) (by rfl) M.b_len Ym (Ze (pv 7) Zf))))
    (Zk (Z8 (i:=9) Qx.nd rfl (Or.inl rfl) (Zt op_modU (Zt op_divU (pv 4) Zi) (Yh (call_lenU) (by rfl) M.b_len Ym (Ze (pv 6) Zf))))
    (Zk (Z8 (i:=10) Qx.nd rfl (Or.inl rfl) (Zt op_addU (Zt op_addU (Kz sl_U (Z2 Zw (Z2 Zw (pv 7) (pv 8) (λ _ _=>rfl)) Zi (λ _ _=>rfl)) Za6 (K7 (pv 9))) (Jt (Ze (Zt op_addU (Z2 Zw (Z2 Zw (Z2 Zw (pv 7) (pv 8) (λ _ _=>rfl)) Zi (λ _ _=>rfl)) (pv 9) (λ _ _=>rfl)) Zi) Zf))) (Kz sl_U (Z2 Zw (Z2 Zw (pv 7) (pv 8) (λ _ _=>rfl)) Zi (λ _ _=>rfl)) (K7 (Zt op_addU (pv 9) Zi)) Za6)))
    (Zm (Zdx (Jt (Ze (Z2 Zw (Z2 Zw (pv 7) (pv 8) (λ _ _=>rfl)) Zi (λ _ _=>rfl)) (Ze (pv 10) Zf))) (Zjv (pv 7) (pv 8) Zeh)))))) Yg)
  · exact (Z0 (U6 call_ty_tuple (by rfl) M.b_tuple Uc (Ze (pv 7) Zf))))) (λ _ _ _ _ _ _ us hl=>match us,hl with | [_,_,_,_],_=>rfl)
abbrev Zdc:Stmt:=top 56
abbrev Ha:List Str:=["_law_book_here","_law_day_here","_law_other"]
theorem Zn0:FnScope ["_law_book_here","_law_day_here","_law_other"] Ha (Zu Zdc):=⟨rfl,rfl,rfl,by decide +kernel,rfl,by decide +kernel,by decide +kernel⟩
theorem Zpc (M:Md K mg) (D:Df K mg "_law_cost" Zdc)  : Fn P w K mg base CX0 "_law_cost" 1 Ha (Ji K):=D.to (λ F =>
 F.ok (k:=0) Zn0 (λ vs _ _ _ h=>Je h) (λ cdv A outer s H vs Q E hr h=>by
  have hu:=hr.units
  obtain ⟨a0,a1,a2,rfl,h⟩:=h
  refine ⟨Zbi K,?_,Zoe h⟩
  refine Zm ?_
  exact (Z0 (Yh (call_sumU rfl) (by rfl) M.b_sum Zks (Ze (Xl (N:=["_law_price_here","_law_amount"]) (l:=[none,none]) rfl ⟨rfl,by decide +kernel,by decide +kernel,by first | decide +kernel | rfl,  True.intro,by decide +kernel⟩ (Zr1 (by rfl) M.b_zip (Ze (Z2 Zw (Z2 Zw (pv 0) (pv 1) (λ _ _=>rfl)) Zi (λ _ _=>rfl)) (Ze (Z2 Zw (Z2 Zw (pv 0) (pv 2) (λ _ _=>rfl)) Zi (λ _ _=>rfl)) Zf))) (λ _ _ _ _ _=>(W9 rfl (Y6 (Z3 (i:=0) (show List.Nodup (["_law_price_here","_law_amount"]:List Str) by decide +kernel) rfl (Or.inl rfl)) (Y6 (Z3 (i:=1) (show List.Nodup (["_law_price_here","_law_amount"]:List Str) by decide +kernel) rfl (Or.inl rfl)) We)))) (λ _ _ _ _ _=>Xc) (λ _ _ _ _ _=>(Zt op_mulU (pv 0) (pv 1)))) Zf))))) (λ _ _ _ _ _ _ us hl=>match us,hl with | [_,_,_],_=>rfl)
abbrev Zdb:Stmt:=top 57
abbrev Zce:List Str:=["_law_found","_law_many"]
theorem Zf2:FnScope ["_law_found","_law_many","_law_day_here"] Zce (Zu Zdb):=⟨rfl,rfl,rfl,by decide +kernel,rfl,by decide +kernel,by decide +kernel⟩
theorem Zpb (M:Md K mg) (D:Df K mg "_law_days" Zdb) (G__law_int:Fn P w K mg base CX0 "_law_int" 1 U3 (Jc K)):Fn P w K mg base CX0 "_law_days" 2 Zce (Zbp K):=D.to (λ F =>
 F.ok (k:=1) Zf2 (λ vs _ _ _ h=>Y7 h) (λ cdv A outer s H vs Q E hr h=>by
  have hu:=hr.units
  obtain ⟨a0,a1,rfl,h⟩:=h
  refine ⟨Zbh K,?_,Zod h⟩
  refine Zk ?_ (Zk ?_ (Zm ?_))
  · exact (Yr (PW.pt (Uk (Qh (Xb (Yh call_isinst (by rfl) M.b_isinstance Qm (Ze (pv 0) (Ze (Ew M.b_list Zl0) Zf))) (λ _=>rfl))) (Eu (Ye (op_neU hu) (Yh (call_lenU) (by rfl) M.b_len Ym (Ze (pv 0) Zf)) (Yh Zvw (by rfl) M.b_len Ym (Ze (U6 (Zqq rfl) (by rfl) M.b_set Z1u (Ze (pv 0) Zf)) Zf)) (Yb _))))) (Zm (Z0 Jb)) Yg)
  · exact (Xf PassesOwn.never rfl (pi_seq (pv 0)) (Z3 (i:=2) Zf2.nd rfl (Or.inl rfl)) (Zm (Yr (PW.pt (Uk (Qh (Xb (Z1 G__law_int (hr.mono (by decide)) (by rfl) Z6 (Ze (pv 2) Zf)) (λ _=>rfl))) (Eu (Qh (Zok Zs2 En Zi (pv 2) (pv 1)))))) (Zm (Z0 Jb)) Yg)))
  · exact (Z0 Jb))) (λ _ _ _ _ _ _ us hl=>match us,hl with | [_,_],_=>rfl)
abbrev Gu:Stmt:=top 58
abbrev V8:List Str:=["_law_book_here","_law_share","_law_ring"]
theorem Qz:FnScope ["_law_book_here","_law_share","_law_ring","_law_better","_law_k","_law_day_here","_law_gap"] V8 (Zu Gu):=⟨rfl,rfl,rfl,by decide +kernel,rfl,by decide +kernel,by decide +kernel⟩
theorem Zkj (M:Md K mg) (D:Df K mg "_law_is_ring" Gu) (G__law_cost:Fn P w K mg base CX0 "_law_cost" 1 Ha (Ji K)) (G__law_days:Fn P w K mg base CX0 "_law_days" 2 Zce (Zbp K)):Fn P w K mg base CX0 "_law_is_ring" 3 V8 (Vp K):=D.to (λ F =>
 F.ok (k:=2) Qz (λ vs _ _ _ h=>Je h) (λ cdv A outer s H vs Q E hr h=>by
  have hu:=hr.units
  obtain ⟨a0,a1,a2,rfl,h⟩:=h
  refine ⟨Vh K,?_,Zjr h⟩
  refine Zk ?_ (Zk ?_ (Zk ?_ (Zm ?_)))
  · exact (Yr (PW.pt (Uk (Qh (Xb (Z1 G__law_days (hr.mono (by decide)) (by rfl) Z6 (Ze (pv 2) (Ze (Yh (call_lenU) (by rfl) M.b_len Ym (Ze (pv 0) Zf)) Zf))) (λ _=>rfl))) (Eu (Ye En (Yh (call_lenU) (by rfl) M.b_len Ym (Ze (pv 2) Zf)) Zi (Yb _))))) (Zm (Z0 Jb)) Yg)
  · exact (Z8 (i:=3) Qz.nd rfl (Or.inl rfl) Jb)
  · exact (Xf PassesOwn.never rfl (Y4 (by rfl) M.b_range (Ze (Yh (call_lenU) (by rfl) M.b_len Ym (Ze (pv 2) Zf)) Zf)) (Z3 (i:=4) Qz.nd rfl (Or.inl rfl)) (Zk (Z8 (i:=5) Qz.nd rfl (Or.inl rfl) (Z2 Zw (pv 2) (pv 4) (λ _ _=>rfl)))
    (Zk (Z8 (i:=6) Qz.nd rfl (Or.inl rfl) (Zt op_subU (Zt op_mulU (Z2 Zw (pv 1) Zi (λ _ _=>rfl)) (Z1 G__law_cost (hr.mono (by decide)) (by rfl) Z6 (Ze (pv 0) (Ze (pv 5) (Ze (Z2 Zw (pv 2) (Zt op_modU (Zt op_addU (pv 4) Zi) (Yh (call_lenU) (by rfl) M.b_len Ym (Ze (pv 2) Zf))) (λ _ _=>rfl)) Zf))))) (Zt op_mulU (Z2 Zw (pv 1) Zi (λ _ _=>rfl)) (Z1 G__law_cost (hr.mono (by decide)) (by rfl) Z6 (Ze (pv 0) (Ze (pv 5) (Ze (pv 5) Zf)))))))
    (Zk (Yr (Ye Ze2 (pv 6) Zi (Yb _)) (Zm (Z0 Jb)) Yg)
    (Zm (Z8 (i:=3) Qz.nd rfl (Or.inl rfl) (Z13 (pv 3) (Zjw (Qq En (pv 6) Zi (Yb _))))))))))
  · exact (Z0 (pv 3)))) (λ _ _ _ _ _ _ us hl=>match us,hl with | [_,_,_],_=>rfl)
abbrev Zda:Stmt:=top 59
abbrev Zcd:List Str:=["_law_found","_law_many"]
theorem Znz:FnScope ["_law_found","_law_many"] Zcd (Zu Zda):=⟨rfl,rfl,rfl,by decide +kernel,rfl,by decide +kernel,by decide +kernel⟩
theorem Zpa (M:Md K mg) (D:Df K mg "_law_ints" Zda) (G__law_int:Fn P w K mg base CX0 "_law_int" 1 U3 (Jc K)):Fn P w K mg base CX0 "_law_ints" 2 Zcd (Vq K):=D.to (λ F =>
 F.ok (k:=1) Znz (λ vs _ _ _ h=>Y7 h) (λ cdv A outer s H vs Q E hr h=>by
  have hu:=hr.units
  obtain ⟨a0,a1,rfl,h⟩:=h
  refine ⟨Zbg K,?_,Zoc h⟩
  refine Zm ?_
  exact (Z0 (Zgp (Yh call_isinst (by rfl) M.b_isinstance Qm (Ze (pv 0) (Ze (Ew M.b_list Zl0) Zf))) (Zgp (Qq (op_eqU hu) (Yh (call_lenU) (by rfl) M.b_len Ym (Ze (pv 0) Zf)) (pv 1) (Yb _)) (Zjw (Qq (op_eqU hu) (Yh (call_lenU) (by rfl) M.b_len Ym (Ze (Xl (N:=["_law_one"]) (l:=[none]) rfl ⟨rfl,by decide +kernel,by decide +kernel,by first | decide +kernel | rfl,  True.intro,by decide +kernel⟩ (pi_seq (pv 0)) (λ _ _ _ _ _=>(Z3 (i:=0) (show List.Nodup (["_law_one"]:List Str) by decide +kernel) rfl (Or.inl rfl))) (λ _ _ _ _ _=>(Zg7 (Xb (Z1 G__law_int (hr.mono (by decide)) (by rfl) Z6 (Ze (pv 0) Zf)) (λ _=>rfl)))) (λ _ _ _ _ _=>(pv 0))) Zf)) (pv 1) (Yb _)))))))) (λ _ _ _ _ _ _ us hl=>match us,hl with | [_,_],_=>rfl)
abbrev Vw:Stmt:=top 60
abbrev Kv:List Str:=["_law_book_here","_law_share","_law_worths","_law_weights"]
theorem Wm:FnScope ["_law_book_here","_law_share","_law_worths","_law_weights","_law_day_here","_law_other","_law_gap"] Kv (Zu Vw):=⟨rfl,rfl,rfl,by decide +kernel,rfl,by decide +kernel,by decide +kernel⟩
theorem Zin (M:Md K mg) (D:Df K mg "_law_is_taste" Vw) (G__law_cost:Fn P w K mg base CX0 "_law_cost" 1 Ha (Ji K)) (G__law_ints:Fn P w K mg base CX0 "_law_ints" 2 Zcd (Vq K)):Fn P w K mg base CX0 "_law_is_taste" 3 Kv (Ko K):=D.to (λ F =>
 F.ok (k:=2) Wm (λ vs _ _ _ h=>Zdn h) (λ cdv A outer s H vs Q E hr h=>by
  have hu:=hr.units
  obtain ⟨a0,a1,a2,a3,rfl,h⟩:=h
  refine ⟨Kf K,?_,Zh7 h⟩
  refine Zk ?_ (Zk ?_ (Zm ?_))
  · exact (Yr (PW.pt (Uk (Qh (Xb (Z1 G__law_ints (hr.mono (by decide)) (by rfl) Z6 (Ze (pv 2) (Ze (Yh (call_lenU) (by rfl) M.b_len Ym (Ze (pv 0) Zf)) Zf))) (λ _=>rfl))) (Uk (Qh (Xb (Z1 G__law_ints (hr.mono (by decide)) (by rfl) Z6 (Ze (pv 3) (Ze (Yh (call_lenU) (by rfl) M.b_len Ym (Ze (pv 0) Zf)) Zf))) (λ _=>rfl))) (Eu (Ye En (Yh (call_minU rfl) (by rfl) M.b_min Zpr (Ze (pv 3) Zf)) Zi (Yb _)))))) (Zm (Z0 Jb)) Yg)
  · exact (Xf PassesOwn.never rfl (Y4 (by rfl) M.b_range (Ze (Yh (call_lenU) (by rfl) M.b_len Ym (Ze (pv 0) Zf)) Zf)) (Z3 (i:=4) Wm.nd rfl (Or.inl rfl)) (Zm (Xf PassesOwn.never rfl (Y4 (by rfl) M.b_range (Ze (Yh (call_lenU) (by rfl) M.b_len Ym (Ze (pv 0) Zf)) Zf)) (Z3 (i:=5) Wm.nd rfl (Or.inl rfl)) (Zk (Z8 (i:=6) Wm.nd rfl (Or.inl rfl) (Zt op_subU (Zt op_mulU (Z2 Zw (pv 1) Zi (λ _ _=>rfl)) (Z1 G__law_cost (hr.mono (by decide)) (by rfl) Z6 (Ze (pv 0) (Ze (pv 4) (Ze (pv 5) Zf))))) (Zt op_mulU (Z2 Zw (pv 1) Zi (λ _ _=>rfl)) (Z1 G__law_cost (hr.mono (by decide)) (by rfl) Z6 (Ze (pv 0) (Ze (pv 4) (Ze (pv 4) Zf)))))))
    (Zm (Yr (PW.pt (V0 (Ye (op_neU hu) (pv 5) (pv 4) (Yb _)) (Gy (Ye Ze2 (Z2 Zw (pv 2) (pv 5) (λ _ _=>rfl)) (Zt op_addU (Z2 Zw (pv 2) (pv 4) (λ _ _=>rfl)) (Zt op_mulU (Z2 Zw (pv 3) (pv 4) (λ _ _=>rfl)) (pv 6))) (Yb _))))) (Zm (Z0 Jb)) Yg))))))
  · exact (Z0 Jb))) (λ _ _ _ _ _ _ us hl=>match us,hl with | [_,_,_,_],_=>rfl)
abbrev Gs:Stmt:=top 61
abbrev V7:List Str:=["_law_found","_law_book_here","_law_share"]
theorem Zjd:FnScope ["_law_found","_law_book_here","_law_share"] V7 (Zu Gs):=⟨rfl,rfl,rfl,by decide +kernel,rfl,by decide +kernel,by decide +kernel⟩
theorem Zki (M:Md K mg) (D:Df K mg "_law_kind_of" Gs) (G__law_is_ring:Fn P w K mg base CX0 "_law_is_ring" 3 V8 (Vp K)) (G__law_is_taste:Fn P w K mg base CX0 "_law_is_taste" 3 Kv (Ko K)):Fn P w K mg base CX0 "_law_kind_of" 4 V7 (Vo K):=D.to (λ F =>
 F.ok (k:=3) Zjd (λ vs _ _ _ h=>Je h) (λ cdv A outer s H vs Q E hr h=>by
  have hu:=hr.units
  obtain ⟨a0,a1,a2,rfl,h⟩:=h
  refine ⟨Vg K,?_,Zjq h⟩
  refine Zk ?_ (Zk ?_ (Zk ?_ (Zm ?_)))
  · exact (Yr (PW.pt (Uk (Qh (Xb (Yh call_isinst (by rfl) M.b_isinstance Qm (Ze (pv 0) (Ze (Ew M.b_tuple Uc) Zf))) (λ _=>rfl))) (Eu (Ye En (Yh (call_lenU) (by rfl) M.b_len Ym (Ze (pv 0) Zf)) Zi (Yb _))))) (Zm (Z0 Wf)) Yg)
  · exact (Yr (PW.pt (V0 (Ye (op_eqU hu) (Z2 Zw (pv 0) Zi (λ _ _=>rfl)) Wf (Yb _)) (V0 (Ye (op_eqU hu) (Yh (call_lenU) (by rfl) M.b_len Ym (Ze (pv 0) Zf)) Zi (Yb _)) (Gy (Xb (Z1 G__law_is_taste (hr.mono (by decide)) (by rfl) Z6 (Ze (pv 1) (Ze (pv 2) (Ze (Z2 Zw (pv 0) Zi (λ _ _=>rfl)) (Ze (Z2 Zw (pv 0) Zi (λ _ _=>rfl)) Zf))))) (λ _=>rfl)))))) (Zm (Z0 Wf)) Yg)
  · exact (Yr (PW.pt (V0 (Ye (op_eqU hu) (Z2 Zw (pv 0) Zi (λ _ _=>rfl)) Wf (Yb _)) (V0 (Ye (op_eqU hu) (Yh (call_lenU) (by rfl) M.b_len Ym (Ze (pv 0) Zf)) Zi (Yb _)) (Gy (Xb (Z1 G__law_is_ring (hr.mono (by decide)) (by rfl) Z6 (Ze (pv 1) (Ze (pv 2) (Ze (Z2 Zw (pv 0) Zi (λ _ _=>rfl)) Zf)))) (λ _=>rfl)))))) (Zm (Z0 Wf)) Yg)
  · exact (Z0 Wf))) (λ _ _ _ _ _ _ us hl=>match us,hl with | [_,_,_],_=>rfl)
abbrev Zam:Stmt:=top 62
abbrev Um:List Str:=["_law_one","_law_other"]
theorem Zdq:FnScope ["_law_one","_law_other"] Um (Zu Zam):=⟨rfl,rfl,rfl,by decide +kernel,rfl,by decide +kernel,by decide +kernel⟩
theorem Zlu (M:Md K mg) (D:Df K mg "_law_common" Zam)  : Fn P w K mg base CX0 "_law_common" 1 Um (J3 K):=D.to (λ F =>
 F.ok (k:=0) Zdq (λ vs _ _ _ h=>Y7 h) (λ cdv A outer s H vs Q E hr h=>by
  have hu:=hr.units
  obtain ⟨a0,a1,rfl,h⟩:=h
  refine ⟨Gd K,?_,Zle h⟩
  refine Zk ?_ (Zm ?_)
  · exact (Zic PassesOwn.never (Ye Ze2 (pv 1) Zi (Yb _)) (Zm (Z0y (i:=0) (j:=1) rfl Zdq.nd rfl rfl (by decide) rfl rfl (Zw1 (pv 1) (Zw1 (Zt op_modU (pv 0) (pv 1)) Zum)) rfl)))
  · exact (Z0 (pv 0)))) (λ _ _ _ _ _ _ us hl=>match us,hl with | [_,_],_=>rfl)
abbrev Zal:Stmt:=top 63
abbrev G5:List Str:=["_law_top","_law_bottom"]
theorem Zdp:FnScope ["_law_top","_law_bottom","_law_by"] G5 (Zu Zal):=⟨rfl,rfl,rfl,by decide +kernel,rfl,by decide +kernel,by decide +kernel⟩
theorem Zlt (M:Md K mg) (D:Df K mg "_law_lowest" Zal) (G__law_common:Fn P w K mg base CX0 "_law_common" 1 Um (J3 K)):Fn P w K mg base CX0 "_law_lowest" 2 G5 (Ui K):=D.to (λ F =>
 F.ok (k:=1) Zdp (λ vs _ _ _ h=>Y7 h) (λ cdv A outer s H vs Q E hr h=>by
  have hu:=hr.units
  obtain ⟨a0,a1,rfl,h⟩:=h
  refine ⟨Gb K,?_,Zld h⟩
  refine Zk ?_ (Zm ?_)
  · exact (Z8 (i:=2) Zdp.nd rfl (Or.inl rfl) (Z1 G__law_common (hr.mono (by decide)) (by rfl) Z6 (Ze (pv 0) (Ze (pv 1) Zf))))
  · exact (Z0 (Jt (Ze (Zt op_divU (pv 0) (pv 2)) (Ze (Zt op_divU (pv 1) (pv 2)) Zf)))))) (λ _ _ _ _ _ _ us hl=>match us,hl with | [_,_],_=>rfl)
abbrev Zb6:Stmt:=top 64
abbrev Kc:List Str:=["_law_one","_law_other"]
theorem Zmw:FnScope ["_law_one","_law_other"] Kc (Zu Zb6):=⟨rfl,rfl,rfl,by decide +kernel,rfl,by decide +kernel,by decide +kernel⟩
theorem Zm6 (M:Md K mg) (D:Df K mg "_law_below" Zb6)  : Fn P w K mg base CX0 "_law_below" 1 Kc (Q5 K):=D.to (λ F =>
 F.ok (k:=0) Zmw (λ vs _ _ _ h=>Y7 h) (λ cdv A outer s H vs Q E hr h=>by
  have hu:=hr.units
  obtain ⟨a0,a1,rfl,h⟩:=h
  refine ⟨Zac K,?_,Zm1 h⟩
  refine Zm ?_
  exact (Z0 (Qq En (Zt op_mulU (Z2 Zw (pv 0) Zi (λ _ _=>rfl)) (Z2 Zw (pv 1) Zi (λ _ _=>rfl))) (Zt op_mulU (Z2 Zw (pv 1) Zi (λ _ _=>rfl)) (Z2 Zw (pv 0) Zi (λ _ _=>rfl))) (Yb _))))) (λ _ _ _ _ _ _ us hl=>match us,hl with | [_,_],_=>rfl)
abbrev Vx:Stmt:=top 65
abbrev Kw:List Str:=["_law_found"]
theorem Zhy:FnScope ["_law_found"] Kw (Zu Vx):=⟨rfl,rfl,rfl,by decide +kernel,rfl,by decide +kernel,by decide +kernel⟩
theorem Zio (M:Md K mg) (D:Df K mg "_law_is_share" Vx) (G__law_int:Fn P w K mg base CX0 "_law_int" 1 U3 (Jc K)) (G__law_common:Fn P w K mg base CX0 "_law_common" 1 Um (J3 K)):Fn P w K mg base CX0 "_law_is_share" 2 Kw (Wl K):=D.to (λ F =>
 F.ok (k:=1) Zhy (λ vs _ _ _ h=>Wa h) (λ cdv A outer s H vs Q E hr h=>by
  have hu:=hr.units
  obtain ⟨a0,rfl,h⟩:=h
  refine ⟨Kg K,?_,Zh8 h⟩
  refine Zk ?_ (Zm ?_)
  · exact (Yr (PW.pt (Uk (Qh (Xb (Yh call_isinst (by rfl) M.b_isinstance Qm (Ze (pv 0) (Ze (Ew M.b_tuple Uc) Zf))) (λ _=>rfl))) (Uk (Ye (op_neU hu) (Yh (call_lenU) (by rfl) M.b_len Ym (Ze (pv 0) Zf)) Zi (Yb _)) (Uk (Qh (Xb (Z1 G__law_int (hr.mono (by decide)) (by rfl) Z6 (Ze (Z2 Zw (pv 0) Zi (λ _ _=>rfl)) Zf)) (λ _=>rfl))) (Eu (Qh (Xb (Z1 G__law_int (hr.mono (by decide)) (by rfl) Z6 (Ze (Z2 Zw (pv 0) Zi (λ _ _=>rfl)) Zf)) (λ _=>rfl)))))))) (Zm (Z0 Jb)) Yg)
  · exact (Z0 (Zgp (Qq Zya (Z2 Zw (pv 0) Zi (λ _ _=>rfl)) Zi (Yb _)) (Zgp (Qq Zya (Z2 Zw (pv 0) Zi (λ _ _=>rfl)) Zi (Yb _)) (Zjw (Qq (op_eqU hu) (Z1 G__law_common (hr.mono (by decide)) (by rfl) Z6 (Ze (Z2 Zw (pv 0) Zi (λ _ _=>rfl)) (Ze (Z2 Zw (pv 0) Zi (λ _ _=>rfl)) Zf))) Zi (Yb _)))))))) (λ _ _ _ _ _ _ us hl=>match us,hl with | [_],_=>rfl)
abbrev Vy:Stmt:=top 66
abbrev Ky:List Str:=["_law_found"]
theorem Wn:FnScope ["_law_found","_law_bar","_law_one","_law_other"] Ky (Zu Vy):=⟨rfl,rfl,rfl,by decide +kernel,rfl,by decide +kernel,by decide +kernel⟩
theorem Zip (M:Md K mg) (D:Df K mg "_law_are_bars" Vy) (G__law_below:Fn P w K mg base CX0 "_law_below" 1 Kc (Q5 K)) (G__law_is_share:Fn P w K mg base CX0 "_law_is_share" 2 Kw (Wl K)):Fn P w K mg base CX0 "_law_are_bars" 3 Ky (Kp K):=D.to (λ F =>
 F.ok (k:=2) Wn (λ vs _ _ _ h=>Wa h) (λ cdv A outer s H vs Q E hr h=>by
  have hu:=hr.units
  obtain ⟨a0,rfl,h⟩:=h
  refine ⟨Kh K,?_,Zh9 h⟩
  refine Zk ?_ (Zk ?_ (Zk ?_ (Zm ?_)))
  · exact (Yr (Qh (Xb (Yh call_isinst (by rfl) M.b_isinstance Qm (Ze (pv 0) (Ze (Ew M.b_list Zl0) Zf))) (λ _=>rfl))) (Zm (Z0 Jb)) Yg)
  · exact (Xf PassesOwn.never rfl (pi_seq (pv 0)) (Z3 (i:=1) Wn.nd rfl (Or.inl rfl)) (Zk (Yr (PW.pt (Uk (Qh (Xb (Yh call_isinst (by rfl) M.b_isinstance Qm (Ze (pv 1) (Ze (Ew M.b_tuple Uc) Zf))) (λ _=>rfl))) (Uk (Ye (op_neU hu) (Yh (call_lenU) (by rfl) M.b_len Ym (Ze (pv 1) Zf)) Zi (Yb _)) (Uk (Qh (Xb (Z1 G__law_is_share (hr.mono (by decide)) (by rfl) Z6 (Ze (Z2 Zw (pv 1) Zi (λ _ _=>rfl)) Zf)) (λ _=>rfl))) (Eu (Qh (Xb (Z1 G__law_is_share (hr.mono (by decide)) (by rfl) Z6 (Ze (Z2 Zw (pv 1) Zi (λ _ _=>rfl)) Zf)) (λ _=>rfl)))))))) (Zm (Z0 Jb)) Yg)
    (Zm (Yr (Xb (Z1 G__law_below (hr.mono (by decide)) (by rfl) Z6 (Ze (Z2 Zw (pv 1) Zi (λ _ _=>rfl)) (Ze (Z2 Zw (pv 1) Zi (λ _ _=>rfl)) Zf))) (λ _=>rfl)) (Zm (Z0 Jb)) Yg))))
  · exact (Xf PassesOwn.never rfl (Zxm (by rfl) M.b_zip (Ze (Kz sl_U (pv 0) Za6 (K7 (Zx9 Ztx Zi))) (Ze (Kz sl_U (pv 0) (K7 Zi) Za6) Zf))) (W9 rfl (Y6 (Z3 (i:=2) Wn.nd rfl (Or.inl rfl)) (Y6 (Z3 (i:=3) Wn.nd rfl (Or.inl rfl)) We))) (Zm (Yr (Qh (Xb (Z1 G__law_below (hr.mono (by decide)) (by rfl) Z6 (Ze (Z2 Zw (pv 2) Zi (λ _ _=>rfl)) (Ze (Z2 Zw (pv 3) Zi (λ _ _=>rfl)) Zf))) (λ _=>rfl))) (Zm (Z0 Jb)) Yg)))
  · exact (Z0 Jb))) (λ _ _ _ _ _ _ us hl=>match us,hl with | [_],_=>rfl)
abbrev Gv:Stmt:=top 67
abbrev V9:List Str:=["_law_found","_law_by"]
theorem Zje:FnScope ["_law_found","_law_by"] V9 (Zu Gv):=⟨rfl,rfl,rfl,by decide +kernel,rfl,by decide +kernel,by decide +kernel⟩
theorem Zkk (M:Md K mg) (D:Df K mg "_law_divided" Gv) (G__law_lowest:Fn P w K mg base CX0 "_law_lowest" 2 G5 (Ui K)):Fn P w K mg base CX0 "_law_divided" 3 V9 (Vr K):=D.to (λ F =>
 F.ok (k:=2) Zje (λ vs _ _ _ h=>Y7 h) (λ cdv A outer s H vs Q E hr h=>by
  have hu:=hr.units
  obtain ⟨a0,a1,rfl,h⟩:=h
  refine ⟨Vi K,?_,Zjs h⟩
  refine Zm ?_
  exact (Z0 (Xl (N:=["_law_low","_law_high","_law_by"]) (l:=[none,none,some 1]) rfl ⟨rfl,by decide +kernel,by decide +kernel,by first | decide +kernel | rfl,⟨⟨rfl,Or.inl rfl,rfl⟩,True.intro⟩,by decide +kernel⟩ (pi_seq (pv 0)) (λ _ _ _ _ _=>(W9 rfl (Y6 (Z3 (i:=0) (show List.Nodup (["_law_low","_law_high","_law_by"]:List Str) by decide +kernel) rfl (Or.inl rfl)) (Y6 (Z3 (i:=1) (show List.Nodup (["_law_low","_law_high","_law_by"]:List Str) by decide +kernel) rfl (Or.inl rfl)) We)))) (λ _ _ _ _ _=>Xc) (λ _ _ _ _ _=>(Jt (Ze (Z1 G__law_lowest (hr.mono (by decide)) (by rfl) Z6 (Ze (Z2 Zw (pv 0) Zi (λ _ _=>rfl)) (Ze (Zt op_mulU (Z2 Zw (pv 0) Zi (λ _ _=>rfl)) (pv 2)) Zf))) (Ze (Z1 G__law_lowest (hr.mono (by decide)) (by rfl) Z6 (Ze (Z2 Zw (pv 1) Zi (λ _ _=>rfl)) (Ze (Zt op_mulU (Z2 Zw (pv 1) Zi (λ _ _=>rfl)) (pv 2)) Zf))) Zf)))))))) (λ _ _ _ _ _ _ us hl=>match us,hl with | [_,_],_=>rfl)
abbrev Zb3:Stmt:=top 68
abbrev Zaq:List Str:=["_law_things","_law_by"]
theorem Zmu:FnScope ["_law_things","_law_by"] Zaq (Zu Zb3):=⟨rfl,rfl,rfl,by decide +kernel,rfl,by decide +kernel,by decide +kernel⟩
theorem Zm3 (M:Md K mg) (D:Df K mg "_law_times" Zb3)  : Fn P w K mg base CX0 "_law_times" 1 Zaq (U9 K):=D.to (λ F =>
 F.ok (k:=0) Zmu (λ vs _ _ _ h=>Y7 h) (λ cdv A outer s H vs Q E hr h=>by
  have hu:=hr.units
  obtain ⟨a0,a1,rfl,h⟩:=h
  refine ⟨Ez K,?_,Zmy h⟩
  refine Zm ?_
  exact (Z0 (U6 call_ty_tuple (by rfl) M.b_tuple Uc (Ze (Xl (N:=["_law_thing","_law_by"]) (l:=[none,some 1]) rfl ⟨rfl,by decide +kernel,by decide +kernel,by first | decide +kernel | rfl,⟨⟨rfl,Or.inl rfl,rfl⟩,True.intro⟩,by decide +kernel⟩ (pi_seq (pv 0)) (λ _ _ _ _ _=>(Z3 (i:=0) (show List.Nodup (["_law_thing","_law_by"]:List Str) by decide +kernel) rfl (Or.inl rfl))) (λ _ _ _ _ _=>Xc) (λ _ _ _ _ _=>(Zt op_mulU (pv 1) (pv 0)))) Zf))))) (λ _ _ _ _ _ _ us hl=>match us,hl with | [_,_],_=>rfl)
abbrev Zne:Stmt:=top 69
abbrev Zol:List Str:=["_law_script"]
theorem Q9:FnScope ["_law_script","_law_book_here","_law_cell_here","_law_prices","_law_shape_here","_law_kind","_law_found","_law_turn","_law_other","_law_by","_law_day_here","_law_low","_law_high"] Zol (Zu Zne):=⟨rfl,rfl,rfl,by decide +kernel,rfl,by decide +kernel,by decide +kernel⟩
theorem Zz6 (M:Md K mg) {f:Addr} {fd:FuncData} (F:Fun K "law" "law" Zne f fd) (G_taste_of:FnD P w K mg base CX0 "taste_of" 6 Ei (Ux K mg)) (G_bars:Fn P w K mg base (CXr P w base) "bars" 9 Zlh (Uh K mg)) (G__law_cell:Fn P w K mg base CX0 "_law_cell" 1 Hl (Qw K)) (G__law_day:Fn P w K mg base CX0 "_law_day" 3 El (Uz K)) (G__law_book:Fn P w K mg base CX0 "_law_book" 4 Zcf (Zbq K)) (G__law_kind_of:Fn P w K mg base CX0 "_law_kind_of" 4 V7 (Vo K)) (G__law_below:Fn P w K mg base CX0 "_law_below" 1 Kc (Q5 K)) (G__law_are_bars:Fn P w K mg base CX0 "_law_are_bars" 3 Ky (Kp K)) (G__law_divided:Fn P w K mg base CX0 "_law_divided" 3 V9 (Vr K)) (G__law_times:Fn P w K mg base CX0 "_law_times" 1 Zaq (U9 K)):FnOk P w K mg base CX0 10 f fd Zol (Z0s K mg) :=
 F.ok (k:=9) Q9 (λ vs _ _ _ h=>Wa h) (λ cdv A outer s H vs Q E hr h=>by
  have hu:=hr.units
  obtain ⟨a0,rfl,h⟩:=h
  refine ⟨Znr K mg,?_,Z0x M h⟩
  refine Zk ?_ (Zk ?_ (Zk ?_ (Zk ?_ (Zk ?_ (Zk ?_ (Zk ?_ (Zk ?_ (Zk ?_ (Zk ?_ (Zk ?_ (Zk ?_ (Zk ?_ (Zk ?_ (Zk ?_ (Zk ?_ (Zm ?_))))))))))))))))
  · exact (Z8 (i:=1) Q9.nd rfl (Or.inl rfl) (Z1 G__law_book (hr.mono (by decide)) (by rfl) Z6 (Ze (pv 0) (Ze Zi (Ze Zi (Ze Zi Zf))))))
  · exact (Z8 (i:=2) Q9.nd rfl (Or.inl rfl) (Z1 G__law_cell (hr.mono (by decide)) (by rfl) Z6 (Ze (pv 0) (Ze Zi Zf))))
  · exact (Zdx (Z1 G__law_day (hr.mono (by decide)) (by rfl) Z6 (Ze (Z1 G__law_cell (hr.mono (by decide)) (by rfl) Z6 (Ze (pv 0) (Ze Zi Zf))) (Ze (Z2 Zw (Jk (Ze Zi (Ze Zi (Ze Zi (Ze Zi Zf))))) (Zt op_modU (pv 2) Zi) (λ _ _=>rfl)) (Ze (Xl (N:=["_law_ware"]) (l:=[none]) rfl ⟨rfl,by decide +kernel,by decide +kernel,by first | decide +kernel | rfl,  True.intro,by decide +kernel⟩ (pi_seq (Z2 Zw (Z2 Zw (pv 1) Zi (λ _ _=>rfl)) Zi (λ _ _=>rfl))) (λ _ _ _ _ _=>(Z3 (i:=0) (show List.Nodup (["_law_ware"]:List Str) by decide +kernel) rfl (Or.inl rfl))) (λ _ _ _ _ _=>Xc) (λ _ _ _ _ _=>Zi)) Zf)))) (W9 rfl (Y6 (Z3 (i:=3) Q9.nd rfl (Or.inl rfl)) (Y6 (Z3 (i:=4) Q9.nd rfl (Or.inl rfl)) We))))
  · exact (Yr (Ye (op_eqU hu) (Zt op_modU (Zt op_divU (pv 2) Zi) Zi) Zi (Yb _)) (Zm (Zdx (Z2 Zw (pv 1) (Zt op_modU (Zt op_divU (pv 2) Zi) (Yh (call_lenU) (by rfl) M.b_len Ym (Ze (pv 1) Zf))) (λ _ _=>rfl)) (W9 rfl (Y6 (Z3 (i:=3) Q9.nd rfl (Or.inl rfl)) (Y6 (Z3 (i:=4) Q9.nd rfl (Or.inl rfl)) We))))) Yg)
  · exact (Z8 (i:=5) Q9.nd rfl (Or.inl rfl) (Z1 G__law_kind_of (hr.mono (by decide)) (by rfl) Z6 (Ze (Zvd G_taste_of (hr.mono (by decide)) (by rfl) Z6 (Ze (pv 1) Zf)) (Ze (pv 1) (Ze (Jt (Ze Zi (Ze Zi Zf))) Zf)))))
  · exact (Yr (Ye (op_neU hu) (pv 5) Wf (Yb _)) (Zm (Z0 (Qq (op_eqU hu) (pv 5) Wf (Yb _)))) Yg)
  · exact (Z8 (i:=6) Q9.nd rfl (Or.inl rfl) (Z1 G_bars (hr.mono (by decide)) (by rfl) Wr (Ze (pv 1) (Ze (pv 3) (Ze (pv 4) Zf)))))
  · exact (Z8 (i:=7) Q9.nd rfl (Or.inl rfl) (Zt op_modU (Zt op_divU (pv 2) Zi) (Yh (call_lenU) (by rfl) M.b_len Ym (Ze (pv 1) Zf))))
  · exact (Z8 (i:=8) Q9.nd rfl (Or.inl rfl) (Zt op_addU (Kz Z0u (pv 1) (K7 (pv 7)) Za6) (Kz Z0u (pv 1) Za6 (K7 (pv 7)))))
  · exact (Yr (Ye (op_eqU hu) (Zt op_modU (Zt op_divU (pv 2) Zi) Zi) Zi (Yb _)) (Zm (Z8 (i:=8) Q9.nd rfl (Or.inl rfl) (Zuj rfl (by rfl) M.b_tuple (by rfl) M.b_reversed (Ze (pv 1) Zf)))) Yg)
  · exact (Yr (PW.pt (Uk (Qh (Xb (Z1 G__law_are_bars (hr.mono (by decide)) (by rfl) Z6 (Ze (pv 6) Zf)) (λ _=>rfl))) (Eu (Ye (op_neU hu) (Z1 G_bars (hr.mono (by decide)) (by rfl) Wr (Ze (pv 8) (Ze (pv 3) (Ze (pv 4) Zf)))) (pv 6) (Yb _))))) (Zm (Z0 Jb)) Yg)
  · exact (Z8 (i:=9) Q9.nd rfl (Or.inl rfl) (Zt op_addU Zi (Zt op_modU (Z1 G__law_cell (hr.mono (by decide)) (by rfl) Z6 (Ze (pv 0) (Ze Zi Zf))) Zi)))
  · exact (Yr (Ye (op_neU hu) (Z1 G_bars (hr.mono (by decide)) (by rfl) Wr (Ze (pv 1) (Ze (pv 3) (Ze (Z1 G__law_times (hr.mono (by decide)) (by rfl) Z6 (Ze (pv 4) (Ze (pv 9) Zf))) Zf)))) (Z1 G__law_divided (hr.mono (by decide)) (by rfl) Z6 (Ze (pv 6) (Ze (pv 9) Zf))) (Yb _)) (Zm (Z0 Jb)) Yg)
  · exact (Yr (PW.pt (V0 (Ye Zs2 (Zt op_mulU (Yh (Zvt rfl) (by rfl) M.b_max Zvz (Ze (pv 3) Zf)) (pv 9)) (Jm (by decide +kernel) (by decide) (by decide) (by decide)) (Yb _)) (Gy (Ye (op_neU hu) (Z1 G_bars (hr.mono (by decide)) (by rfl) Wr (Ze (pv 1) (Ze (Z1 G__law_times (hr.mono (by decide)) (by rfl) Z6 (Ze (pv 3) (Ze (pv 9) Zf))) (Ze (pv 4) Zf)))) (pv 6) (Yb _))))) (Zm (Z0 Jb)) Yg)
  · exact (Z8 (i:=10) Q9.nd rfl (Or.inl rfl) (Z2 Zw (pv 1) (Zt op_modU (Zt op_divU (pv 2) Zi) (Yh (call_lenU) (by rfl) M.b_len Ym (Ze (pv 1) Zf))) (λ _ _=>rfl)))
  · exact (Xf PassesOwn.never rfl (pi_seq (Z1 G_bars (hr.mono (by decide)) (by rfl) Wr (Ze (pv 1) (Ze (Z2 Zw (pv 10) Zi (λ _ _=>rfl)) (Ze (Z2 Zw (pv 10) Zi (λ _ _=>rfl)) Zf))))) (W9 rfl (Y6 (Z3 (i:=11) Q9.nd rfl (Or.inl rfl)) (Y6 (Z3 (i:=12) Q9.nd rfl (Or.inl rfl)) We))) (Zm (Yr (PW.pt (V0 (Qh (Xb (Z1 G__law_below (hr.mono (by decide)) (by rfl) Z6 (Ze (Jt (Ze Zi (Ze Zi Zf))) (Ze (pv 11) Zf))) (λ _=>rfl))) (Gy (Qh (Xb (Z1 G__law_below (hr.mono (by decide)) (by rfl) Z6 (Ze (pv 12) (Ze (Jt (Ze Zi (Ze Zi Zf))) Zf))) (λ _=>rfl)))))) (Zm (Z0 Jb)) Yg)))
  · exact (Z0 (Qq (op_eqU hu) (Z1 G_bars (hr.mono (by decide)) (by rfl) Wr (Ze (pv 1) (Ze (pv 3) (Ze (pv 4) Zf)))) (pv 6) (Yb _))))
theorem Z1w:BdP "law" Zne Zol :=
 λ _ _ _ _ _ _ us hl=>match us,hl with | [_],_=>rfl
end
end K73
open K73
open PySem.Challenge renaming pw_tastesbook_k73_bars_scaled → PW9
/-! no twins of the opening's big constants: these names are taken (the compiled file would be above 64 MiB) -/
def PySem.W.Fast.tw1916547811567837730:Unit:=()
def PySem.W.Fast.tw4263840219332734925:Unit:=()
def PySem.W.Fast.tw7880460537535964929:Unit:=()
def PySem.W.Fast.tw13794730474349177992:Unit:=()
def PySem.W.Fast.tw2726427443805878913:Unit:=()
def PySem.W.Fast.tw12240283437387203812:Unit:=()
def PySem.W.Fast.tw15299287520960530453:Unit:=()
def PySem.W.Fast.tw137649332010317581:Unit:=()
def PySem.W.Fast.tw15043399006012480558:Unit:=()
def PySem.W.Fast.tw7070540043889046594:Unit:=()
def PySem.W.Fast.tw4021832611225905192:Unit:=()
def PySem.W.Fast.tw15118773856614552246:Unit:=()
def PySem.W.Fast.tw17273229544039901004:Unit:=()
def PySem.W.Fast.tw2502857611675669800:Unit:=()
def PySem.W.Fast.tw8996576519415984237:Unit:=()
def PySem.W.Fast.tw6137818511413672601:Unit:=()
def PySem.W.Fast.tw1045706481830915073:Unit:=()
def PySem.W.Fast.tw12406412879809321217:Unit:=()
def PySem.W.Fast.tw11891688570757059004:Unit:=()
def PySem.W.Fast.tw6794562453052810283:Unit:=()
def PySem.W.Fast.tw11833923188976876470:Unit:=()
def PySem.W.Fast.tw4522734997917547794:Unit:=()
def PySem.W.Fast.tw6347718096282922406:Unit:=()
def PySem.W.Fast.tw14155083016882989585:Unit:=()
def PySem.W.Fast.tw63698550033754388:Unit:=()
def PySem.W.Fast.tw7871889890527244242:Unit:=()
def PySem.W.Fast.tw9741490842236269368:Unit:=()
def PySem.W.Fast.tw10243551949220613439:Unit:=()
def PySem.W.Fast.tw3018616214149502301:Unit:=()
def PySem.W.Fast.tw1631298048486516329:Unit:=()
def PySem.W.Fast.tw4420183233764776901:Unit:=()
def PySem.W.Fast.tw905865698001156338:Unit:=()
def PySem.W.Fast.tw15000994297028532359:Unit:=()
def PySem.W.Fast.tw711606137560777393:Unit:=()
def PySem.W.Fast.tw10950127745411074899:Unit:=()
def PySem.W.Fast.tw15669216558788998324:Unit:=()
def PySem.W.Fast.tw2000765910644958290:Unit:=()
def PySem.W.Fast.tw4997252407890030579:Unit:=()
def PySem.W.Fast.tw15358726036463937928:Unit:=()
def PySem.W.Fast.tw2482393661173816204:Unit:=()
def PySem.W.Fast.tw16386407504611950956:Unit:=()
def PySem.W.Fast.tw7558231026471771582:Unit:=()
def PySem.W.Fast.tw4238873252938291456:Unit:=()
def PySem.W.Fast.tw15307693244112649069:Unit:=()
def PySem.W.Fast.tw6118030659450958602:Unit:=()
open PySem PySem.W PyProof.Rows L2
set_option maxRecDepth 100000 in
set_option maxHeartbeats 0 in
theorem PySem.Challenge.cw_tastesbook_k73_bars_scaled_holds : PySem.Challenge.rw_tastesbook_k73_bars_scaled.Holds := by
 w_on; o_law; k_head; (case hw=>w_witness2)
 k_fill
 refine L2.Zyq (l:=PySem.Challenge.rw_tastesbook_k73_bars_scaled) (x:="_law_script") 10 rfl rfl (by decide) (λ w h Y=>PySem.W.kIn_of Y) ?F
 case F =>
  intro w mg h KX G
  obtain ⟨D_greatest_divisor,D_share_of,D_is_less_share,D_check_day,D_cost_at,D_cost,D_purse,D_mark_of,D_at_once,D_marks_from,D_marks_of,D_chains_from,D_reached,D_better_steps,D_strict_chain,D_ring_in,D_gaps_from,D_gaps_of,D_cut_mark,D_cut_marks_from,D_cut_marks_of,D_levels_of,D_worth_below,D_weight_below,D_taste_by⟩:Df (KOf KX) mg "greatest_divisor" W8/\Df (KOf KX) mg "share_of" Zen/\Df (KOf KX) mg "is_less_share" Vv/\Df (KOf KX) mg "check_day" Zc8/\Df (KOf KX) mg "cost_at" Zgi/\Df (KOf KX) mg "cost" Zn2/\Df (KOf KX) mg "purse" Zk7/\Df (KOf KX) mg "mark_of" Zgf/\Df (KOf KX) mg "at_once" Zgj/\Df (KOf KX) mg "marks_from" Zb2/\Df (KOf KX) mg "marks_of" Zeo/\Df (KOf KX) mg "chains_from" Zak/\Df (KOf KX) mg "reached" Zge/\Df (KOf KX) mg "better_steps" Gr/\Df (KOf KX) mg "strict_chain" Gn/\Df (KOf KX) mg "ring_in" Zgd/\Df (KOf KX) mg "gaps_from" Zc7/\Df (KOf KX) mg "gaps_of" Zgh/\Df (KOf KX) mg "cut_mark" Zep/\Df (KOf KX) mg "cut_marks_from" Kr/\Df (KOf KX) mg "cut_marks_of" Gq/\Df (KOf KX) mg "levels_of" Zc6/\Df (KOf KX) mg "worth_below" Zah/\Df (KOf KX) mg "weight_below" Gm/\Df (KOf KX) mg "taste_by" Zem:=by
   dsimp only [KOf]
   refine ⟨?_,?_,?_,?_,?_,?_,?_,?_,?_,?_,?_,?_,?_,?_,?_,?_,?_,?_,?_,?_,?_,?_,?_,?_,?_⟩ <;> (refine' Zyj KX G ?a ?l ?c ?k; case a|l|c|k=>k_is)
  have D_taste_of:DfD (KOf KX) mg "taste_of" Ja:=by
   dsimp only [KOf]
   refine' Z1t KX G ?a ?l ?t ?c ?k
   (case a=>k_is); (case l=>k_is); (case t=>k_is); (case c=>k_is); (case k=>k_is)
  obtain ⟨D_share_to_pay,D_share_paid_by,D_closes_ring,D_lesser,D_greater,D_joined_with,D_bars,D__law_cell,D__law_int,D__law_next,D__law_shape,D__law_best,D__law_bought,D__law_price,D__law_day,D__law_book,D__law_cost,D__law_days,D__law_is_ring,D__law_ints,D__law_is_taste,D__law_kind_of,D__law_common,D__law_lowest,D__law_below,D__law_is_share,D__law_are_bars,D__law_divided,D__law_times,D_law⟩:Df (KOf KX) mg "share_to_pay" Gp/\Df (KOf KX) mg "share_paid_by" Vu/\Df (KOf KX) mg "closes_ring" Zaj/\Df (KOf KX) mg "lesser" Zh0/\Df (KOf KX) mg "greater" Zgg/\Df (KOf KX) mg "joined_with" Zai/\Df (KOf KX) mg "bars" Zn3/\Df (KOf KX) mg "_law_cell" Zdd/\Df (KOf KX) mg "_law_int" Zeq/\Df (KOf KX) mg "_law_next" Zc9/\Df (KOf KX) mg "_law_shape" Zb4/\Df (KOf KX) mg "_law_best" Zdf/\Df (KOf KX) mg "_law_bought" Zan/\Df (KOf KX) mg "_law_price" Zb5/\Df (KOf KX) mg "_law_day" Zer/\Df (KOf KX) mg "_law_book" Zde/\Df (KOf KX) mg "_law_cost" Zdc/\Df (KOf KX) mg "_law_days" Zdb/\Df (KOf KX) mg "_law_is_ring" Gu/\Df (KOf KX) mg "_law_ints" Zda/\Df (KOf KX) mg "_law_is_taste" Vw/\Df (KOf KX) mg "_law_kind_of" Gs/\Df (KOf KX) mg "_law_common" Zam/\Df (KOf KX) mg "_law_lowest" Zal/\Df (KOf KX) mg "_law_below" Zb6/\Df (KOf KX) mg "_law_is_share" Vx/\Df (KOf KX) mg "_law_are_bars" Vy/\Df (KOf KX) mg "_law_divided" Gv/\Df (KOf KX) mg "_law_times" Zb3/\Df (KOf KX) mg "law" Zne:=by
   dsimp only [KOf]
   refine ⟨?_,?_,?_,?_,?_,?_,?_,?_,?_,?_,?_,?_,?_,?_,?_,?_,?_,?_,?_,?_,?_,?_,?_,?_,?_,?_,?_,?_,?_,?_⟩ <;> (refine' Zyj KX G ?a ?l ?c ?k; case a|l|c|k=>k_is)
  have M:Md (KOf KX) mg:=by
   dsimp only [KOf]
   apply Z2b KX G
   (case n_NoDay=>k_is); (case n_NoTaste=>k_is); (case q_NoDay=>k_exc); (case q_NoTaste=>k_exc); (case s_NoDay_NoDay=>k_is); (case s_NoTaste_NoTaste=>k_is); (case v_NoDay=>kit_is); (case v_NoTaste=>kit_is); (case z_bool=>k_is); (case z_enumerate=>k_is); (case z_int=>k_is); (case z_isinstance=>k_is); (case z_len=>k_is); (case z_list=>k_is); (case z_max=>k_is); (case z_min=>k_is); (case z_range=>k_is); (case z_reversed=>k_is); (case z_set=>k_is); (case z_sorted=>k_is); (case z_sum=>k_is); (case z_tuple=>k_is); (case z_zip=>k_is); (case y_AS_GOOD=>k_is); (case y_BETTER=>k_is); (case y_NEITHER=>k_is)
  obtain ⟨f,fd,F,hm⟩:=D_law
  refine ⟨f,fd,hm,F.bind1 Z1w,λ base kb nb=>?_⟩
  · have G_greatest_divisor:=Zfs (P:=PW9) (w:=w) (base:=base) M D_greatest_divisor 
    have G_share_of:=Zqj (P:=PW9) (w:=w) (base:=base) M D_share_of G_greatest_divisor
    have G_is_less_share:=Zim (P:=PW9) (w:=w) (base:=base) M D_is_less_share 
    have G_check_day:=Zo8 (P:=PW9) (w:=w) (base:=base) M D_check_day 
    have G_cost_at:=Ztf (P:=PW9) (w:=w) (base:=base) M D_cost_at 
    have G_cost:=Zz7 (P:=PW9) (w:=w) (base:=base) M D_cost G_check_day G_cost_at
    have G_purse:=Zxl (P:=PW9) (w:=w) (base:=base) M D_purse G_cost
    have G_mark_of:=Ztc (P:=PW9) (w:=w) (base:=base) M D_mark_of 
    have G_at_once:=Ztg (P:=PW9) (w:=w) (base:=base) M D_at_once G_check_day G_cost G_purse G_mark_of
    have G_marks_from:=Zm2 (P:=PW9) (w:=w) (base:=base) M D_marks_from G_at_once
    have G_marks_of:=Zqk (P:=PW9) (w:=w) (base:=base) M D_marks_of G_marks_from
    have G_chains_from:=Zls (P:=PW9) (w:=w) (base:=base) M D_chains_from 
    have G_reached:=Zta (P:=PW9) (w:=w) (base:=base) M D_reached G_check_day G_marks_of G_chains_from
    have G_better_steps:=Zkh (P:=PW9) (w:=w) (base:=base) M D_better_steps 
    have G_strict_chain:=Zke (P:=PW9) (w:=w) (base:=base) M D_strict_chain G_check_day G_marks_of G_chains_from G_better_steps
    have G_ring_in:=Zs9 (P:=PW9) (w:=w) (base:=base) M D_ring_in G_chains_from G_better_steps
    have G_gaps_from:=Zo7 (P:=PW9) (w:=w) (base:=base) M D_gaps_from G_cost G_purse
    have G_gaps_of:=Zte (P:=PW9) (w:=w) (base:=base) M D_gaps_of G_gaps_from
    have G_cut_mark:=Zql (P:=PW9) (w:=w) (base:=base) M D_cut_mark G_mark_of
    have G_cut_marks_from:=Zhh (P:=PW9) (w:=w) (base:=base) M D_cut_marks_from G_cut_mark
    have G_cut_marks_of:=Zkg (P:=PW9) (w:=w) (base:=base) M D_cut_marks_of G_cut_marks_from
    have G_levels_of:=Zo6 (P:=PW9) (w:=w) (base:=base) M D_levels_of G_chains_from
    have G_worth_below:=Zlp (P:=PW9) (w:=w) (base:=base) M D_worth_below 
    have G_weight_below:=Zkd (P:=PW9) (w:=w) (base:=base) M D_weight_below 
    have G_taste_by:=Zqi (P:=PW9) (w:=w) (base:=base) M D_taste_by G_worth_below G_weight_below
    have G_taste_of:=Zqh (P:=PW9) (w:=w) (base:=base) M D_taste_of G_ring_in G_gaps_of G_cut_marks_of G_levels_of G_taste_by
    have G_share_to_pay:=Zkf (P:=PW9) (w:=w) (base:=base) M D_share_to_pay G_share_of G_cost_at
    have G_share_paid_by:=Zil (P:=PW9) (w:=w) (base:=base) M D_share_paid_by G_share_of G_cost_at G_purse
    have G_closes_ring:=Zlr (P:=PW9) (w:=w) (base:=base) M D_closes_ring G_is_less_share G_strict_chain
    have G_lesser:=Zvc (P:=PW9) (w:=w) (base:=base) M D_lesser G_is_less_share
    have G_greater:=Ztd (P:=PW9) (w:=w) (base:=base) M D_greater G_is_less_share
    have G_joined_with:=Zlq (P:=PW9) (w:=w) (base:=base) M D_joined_with G_is_less_share G_lesser G_greater
    have G_bars:=Zz8 (P:=PW9) (w:=w) (base:=base) M D_bars G_reached G_taste_of G_share_to_pay G_share_paid_by G_closes_ring G_joined_with
    have G__law_cell:=Zpd (P:=PW9) (w:=w) (base:=base) M D__law_cell 
    have G__law_int:=Zqm (P:=PW9) (w:=w) (base:=base) M D__law_int 
    have G__law_next:=Zo9 (P:=PW9) (w:=w) (base:=base) M D__law_next 
    have G__law_shape:=Zm4 (P:=PW9) (w:=w) (base:=base) M D__law_shape G__law_next
    have G__law_best:=Zpf (P:=PW9) (w:=w) (base:=base) M D__law_best 
    have G__law_bought:=Zlv (P:=PW9) (w:=w) (base:=base) M D__law_bought G__law_best
    have G__law_price:=Zm5 (P:=PW9) (w:=w) (base:=base) M D__law_price 
    have G__law_day:=Zqn (P:=PW9) (w:=w) (base:=base) M D__law_day G__law_next G__law_bought G__law_price
    have G__law_book:=Zpe (P:=PW9) (w:=w) (base:=base) M D__law_book G__law_cell G__law_shape G__law_day
    have G__law_cost:=Zpc (P:=PW9) (w:=w) (base:=base) M D__law_cost 
    have G__law_days:=Zpb (P:=PW9) (w:=w) (base:=base) M D__law_days G__law_int
    have G__law_is_ring:=Zkj (P:=PW9) (w:=w) (base:=base) M D__law_is_ring G__law_cost G__law_days
    have G__law_ints:=Zpa (P:=PW9) (w:=w) (base:=base) M D__law_ints G__law_int
    have G__law_is_taste:=Zin (P:=PW9) (w:=w) (base:=base) M D__law_is_taste G__law_cost G__law_ints
    have G__law_kind_of:=Zki (P:=PW9) (w:=w) (base:=base) M D__law_kind_of G__law_is_ring G__law_is_taste
    have G__law_common:=Zlu (P:=PW9) (w:=w) (base:=base) M D__law_common 
    have G__law_lowest:=Zlt (P:=PW9) (w:=w) (base:=base) M D__law_lowest G__law_common
    have G__law_below:=Zm6 (P:=PW9) (w:=w) (base:=base) M D__law_below 
    have G__law_is_share:=Zio (P:=PW9) (w:=w) (base:=base) M D__law_is_share G__law_int G__law_common
    have G__law_are_bars:=Zip (P:=PW9) (w:=w) (base:=base) M D__law_are_bars G__law_below G__law_is_share
    have G__law_divided:=Zkk (P:=PW9) (w:=w) (base:=base) M D__law_divided G__law_lowest
    have G__law_times:=Zm3 (P:=PW9) (w:=w) (base:=base) M D__law_times
    exact Zz6 M F G_taste_of G_bars G__law_cell G__law_day G__law_book G__law_kind_of G__law_below G__law_are_bars G__law_divided G__law_times
