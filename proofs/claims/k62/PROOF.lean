import PyProof.Rows.All
import Wide.All
import OpenK.AllK
import Wide.FinOn
import Lean
import PyProof.EqAt
import PyProof.EqKinds
import PyProof.TupleCall
import KE.KRevIter
import PyProof.EnumMake
import KE.KDictSum
import PyProof.Rows.SortWalk
import PyProof.Rows.SeqMore
import PyProof.Rows.SetFrom
import PyProof.SetRoads
import PyProof.Draws
import PyProof.DictWalks
import PyProof.SetKind
import OpenK.KMore
import PySem.Challenge.RW_tastesbook_k62_whole_fewest
set_option Elab.async false
set_option linter.all false
set_option maxRecDepth 100000
namespace L2
open PySem PySem.Spec PyProof.Rows
abbrev Key:=Sum Int Str
def keyIs:Key→Value→Bool
  | .inl k,v=>Value.isInt k v
  | .inr x,v=>Value.isStrOf x v
def keyH (w:World):Key→Int
  | .inl k=>hashInt k
  | .inr x=>hashStr w x
theorem keyIs_shape:∀ {k:Key} {v:Value},keyIs k v=true→(∃ i t,k=Sum.inl i∧v=Value.int i t)∨(∃ x t,k=Sum.inr x∧v=Value.str x t)
  | .inl i,v,h=>by
    obtain ⟨t,e⟩:=Value.isInt_shape (k:=i) (v:=v) h
    exact .inl ⟨i,t,rfl,e⟩
  | .inr x,v,h=>by
    obtain ⟨t,e⟩:=Value.isStrOf_shape (x:=x) (v:=v) h
    exact .inr ⟨x,t,rfl,e⟩
theorem keyIs_int (i:Int) (t:Tok):keyIs (.inl i) (.int i t)=true:=by simp [keyIs,Value.isInt]
theorem keyIs_str (x:Str) (t:Tok):keyIs (.inr x) (.str x t)=true:=by simp [keyIs,Value.isStrOf]
theorem key_ll (a b:Int):decide ((Sum.inl a:Key)=Sum.inl b)=(a == b):=by
  by_cases e:a=b
  · subst e; simp
  · have h:¬ (Sum.inl a:Key)=Sum.inl b:=fun q=>e (Sum.inl.inj q)
    rw [decide_eq_false h]
    exact (beq_eq_false_iff_ne.mpr e).symm
theorem key_rr (a b:Str):decide ((Sum.inr a:Key)=Sum.inr b)=decide (a=b):=by
  by_cases e:a=b
  · subst e; simp
  · have h:¬ (Sum.inr a:Key)=Sum.inr b:=fun q=>e (Sum.inr.inj q)
    rw [decide_eq_false h,decide_eq_false e]
theorem key_lr (a:Int) (b:Str):decide ((Sum.inl a:Key)=Sum.inr b)=false:=decide_eq_false (fun q=>nomatch q)
theorem key_rl (a:Str) (b:Int):decide ((Sum.inr a:Key)=Sum.inl b)=false:=decide_eq_false (fun q=>nomatch q)
def mixKind (prog:Program) (w:World):PySem.KeyKind prog w Key where
  is:=keyIs
  hash:=keyH w
  inj:=fun v a b ha hb=>by
    rcases keyIs_shape ha with ⟨i,t,rfl,rfl⟩ | ⟨x,t,rfl,rfl⟩
    · rcases keyIs_shape hb with ⟨j,u,rfl,e⟩ | ⟨y,u,rfl,e⟩
      · injection e with e1 _; rw [e1]
      · exact nomatch e
    · rcases keyIs_shape hb with ⟨j,u,rfl,e⟩ | ⟨y,u,rfl,e⟩
      · exact nomatch e
      · injection e with e1 _; rw [e1]
  byValue:=fun k v h=>by
    rcases keyIs_shape h with ⟨i,t,rfl,rfl⟩ | ⟨x,t,rfl,rfl⟩ <;> rfl
  pyHash:=fun hv h=>by
    rcases keyIs_shape hv with ⟨i,t,rfl,rfl⟩ | ⟨x,t,rfl,rfl⟩
    · exact wpAny_pyHash_int h
    · exact wpAny_pyHash_str h
  eqBool:=fun hu hv h=>by
    rcases keyIs_shape hu with ⟨i,t,rfl,rfl⟩ | ⟨x,t,rfl,rfl⟩
    · rcases keyIs_shape hv with ⟨j,u,rfl,rfl⟩ | ⟨y,u,rfl,rfl⟩
      · rw [key_ll] at h; exact wpAny_eqBool_int h
      · rw [key_lr] at h; exact SeqAt.EqAt.int_str i t y u _ _ _ _ h
    · rcases keyIs_shape hv with ⟨j,u,rfl,rfl⟩ | ⟨y,u,rfl,rfl⟩
      · rw [key_rl] at h; exact SeqAt.EqAt.str_int x t j u _ _ _ _ h
      · rw [key_rr] at h; exact wpAny_eqBool_str h
  «strs»:=fun k x t v h=>by
    rcases keyIs_shape h with ⟨i,u,rfl,e⟩ | ⟨y,u,rfl,e⟩
    · exact nomatch e
    · injection e with e1 _
      subst e1
      cases v <;> rfl
theorem mixKind_is (prog:Program) (w:World) (k:Key) (v:Value):(mixKind prog w).is k v=keyIs k v:=rfl
theorem mixKind_int (prog:Program) (w:World) (i:Int) (t:Tok):(mixKind prog w).is (.inl i) (.int i t)=true:=keyIs_int i t
theorem mixKind_str (prog:Program) (w:World) (x:Str) (t:Tok):(mixKind prog w).is (.inr x) (.str x t)=true:=keyIs_str x t
end L2
namespace L2
open PySem PySem.Spec PyProof.Rows
inductive V where
  | non | bl (b:Bool) | int (i:Int) | str (x:Str) | byt (b:Array UInt8) | flt (b:UInt64) | ref (a:Addr) | ty (n:String)
  deriving DecidableEq
def RelV:V→Value→Prop
  | .non,u=>u=Value.none
  | .bl b,u=>u=Value.bool b
  | .int i,u=>∃ t,u=Value.int i t
  | .str x,u=>∃ t,u=Value.str x t
  | .byt b,u=>∃ t,u=Value.bytes b t
  | .flt b,u=>∃ t,u=Value.float b t
  | .ref a,u=>u=Value.ref a
  | .ty n,u=>u=Value.type n
abbrev Vals:List V→List Value→Prop:=Paired RelV
theorem Vals.length {xs:List V} {us:List Value} (r:Vals xs us):xs.length=us.length:=Paired.length r
theorem Vals.get:∀ {xs:List V} {us:List Value} {i:Nat} {x:V},Vals xs us→xs[i]?=some x→∃ u,us[i]?=some u∧RelV x u
  | _,_,_,_,.nil,e=>by simp at e
  | _,_,0,_,.cons r _,e=>by simp at e; subst e; exact ⟨_,rfl,r⟩
  | _,_,i + 1,x,.cons _ t,e=>by
    obtain ⟨u,h1,h2⟩:=Vals.get (i:=i) (x:=x) t (by simpa using e)
    exact ⟨u,by simpa using h1,h2⟩
theorem Vals.set {x:V} {u:Value} (r:RelV x u):∀ {xs:List V} {us:List Value} (i:Nat),Vals xs us→Vals (xs.set i x) (us.set i u)
  | _,_,_,.nil=>.nil
  | _,_,0,.cons _ t=>.cons r t
  | _,_,i + 1,.cons q t=>.cons q (Vals.set r i t)
theorem Vals.append:∀ {xs ys:List V} {us ws:List Value},Vals xs us→Vals ys ws→Vals (xs ++ ys) (us ++ ws)
  | _,_,_,_,.nil,s=>s
  | _,_,_,_,.cons r t,s=>.cons r (Vals.append t s)
theorem Vals.take:∀ {xs:List V} {us:List Value} (n:Nat),Vals xs us→Vals (xs.take n) (us.take n)
  | _,_,0,_=>.nil
  | _,_,_ + 1,.nil=>.nil
  | _,_,n + 1,.cons r t=>.cons r (Vals.take n t)
theorem Vals.drop:∀ {xs:List V} {us:List Value} (n:Nat),Vals xs us→Vals (xs.drop n) (us.drop n)
  | _,_,0,r=>r
  | _,_,_ + 1,.nil=>.nil
  | _,_,n + 1,.cons _ t=>Vals.drop n t
def RelO:Option V→Option Value→Prop
  | some v,some u=>RelV v u
  | none,none=>True
  | _,_=>False
def KV {κ:Type}:List (κ×V)→List (κ×Value)→Prop:=Paired fun (p:κ×V) (q:κ×Value)=>p.1=q.1∧RelV p.2 q.2
def kV:Key→V
  | .inl i=>.int i
  | .inr x=>.str x
inductive HO where
    | lst (xs:List V)
    | tup (xs:List V)
    | dK (kvs:List (Key×V)) | dT (kvs:List (List Key×V))
    | set (S:Int→Bool) (n:Nat)
    | ins (C dx:Addr) (fs:List (Str×V))
    | own (x:Addr)
    | xd (fs:List (Str×V))
    | met (f x:Addr)
    | rng (lo hi:Int)
    | frz (o:Obj) (u:HO)
    | tbl (ps:Array Value)
    | ext (φ:Heap→Prop)
abbrev Hp:=Addr→Option HO
def upd (H:Hp) (a:Addr) (o:HO):Hp:=fun b=>if b=a then some o else H b
theorem upd_same {H:Hp} {a:Addr} {o:HO}:upd H a o a=some o:=by unfold upd; rw [if_pos rfl]
theorem upd_ne {H:Hp} {a b:Addr} {o:HO} (h:b≠a):upd H a o b=H b:=by unfold upd; rw [if_neg h]
theorem ne_of {H:Hp} {a b:Addr} {o u:HO} (h:H a=some o) (h':H b=some u) (d:o≠u):a≠b:=by
  intro e; subst e; rw [h] at h'; exact d (Option.some.inj h')
theorem ne_of_none {H:Hp} {a b:Addr} {o:HO} (h:H a=some o) (h':H b=none):a≠b:=by
  intro e; subst e; rw [h] at h'; cases h'
section
variable (P:Program) (w:World)
def ObjOk (H:Hp) (h:Heap) (a:Addr):HO→Prop
  | .lst xs=>xs.length≤sizeLine∧∃ (its:List Value) (n:Nat),Vals xs its∧h.get? a=some { cls:=.type "list",data:=.seq its.toArray n }
  | .tup xs=>xs.length≤sizeLine∧∃ its:List Value,Vals xs its∧IsTup h a its.toArray
  | .dK kvs=>kvs.length≤sizeLine∧(a == sysModules)=false∧∃ vs,KV kvs vs∧h.DictOf (mixKind P w) a vs
  | .dT kvs=>kvs.length≤sizeLine∧(a == sysModules)=false∧∃ xs:List (List Key×Addr×Value),
      Paired (fun (p:List Key×V) (q:List Key×Addr×Value)=>p.1=q.1∧H q.2.1=some (.tup (p.1.map kV))∧RelV p.2 q.2.2) kvs xs ∧
      ∃ o es ep,h.get? a=some o∧o.ExactDict∧o.data=.dict es ep∧es.toList=xs.map (entryOfKey (tupleKind (mixKind P w)))∧(xs.map (·.1)).Nodup
  | .set S n=>h.SetOf (intKind P w) a S n
  | .ins C dx fs=>H dx=some (.own a)∧fs.length≤1000∧dx≠a∧h.get? a=some (PySem.W.instObj C dx) ∧
      ∃ mA,h.Ns1 dx mA∧(∀ f,RelO (fs.lookup f) (mA f))∧PySem.Within mA (fs.map (·.1))
  | .own _=>∃ o,h.get? a=some o
  | .xd fs=>∃ mA,h.Ns1 a mA∧∀ f,RelO (fs.lookup f) (mA f)
  | .rng lo hi=>∃ t u v,h.get? a=some { cls:=.type "range",data:=.fields #[.int lo t,.int hi u,.int 1 v] }
  | .frz o u=>h.get? a=some o∧ObjOk H h a u
  | .tbl ps=>h.get? a=some { cls:=.none,data:=.fields ps }
  | .met f x=>h.get? a=some (PySem.W.methodObj (.ref f) (.ref x))
  | .ext φ=>φ h∧(∃ o,h.get? a=some o)∧∀ h1 h2:Heap,φ h1→(∀ o,h1.get? a=some o→h2.get? a=some o)→φ h2
def HOk (H:Hp) (h:Heap):Prop:=∀ a o,H a=some o→ObjOk P w H h a o
end
section
variable {P:Program} {w:World} {H H':Hp} {h h':Heap} {a:Addr} {o:HO}
theorem ObjOk.lt (x:ObjOk P w H h a o):a < h.objs.size:=by
  cases o with
  | lst xs=>obtain ⟨_,_,_,_,e⟩:=x; exact Heap.lt_size e
  | tup xs=>obtain ⟨_,_,_,p⟩:=x; exact p.lt
  | dK kvs=>obtain ⟨_,_,_,_,o,_,_,e,_⟩:=x; exact Heap.lt_size e
  | dT kvs=>obtain ⟨_,_,_,_,o,_,_,e,_⟩:=x; exact Heap.lt_size e
  | set S n=>obtain ⟨o,_,_,_,e,_⟩:=x; exact Heap.lt_size e
  | ins C dx fs=>obtain ⟨_,_,_,e,_⟩:=x; exact Heap.lt_size e
  | own y=>obtain ⟨_,e⟩:=x; exact Heap.lt_size e
  | xd fs=>obtain ⟨_,⟨_,_,_,e,_⟩,_⟩:=x; exact Heap.lt_size e
  | rng lo hi=>obtain ⟨_,_,_,e⟩:=x; exact Heap.lt_size e
  | frz ob u=>obtain ⟨e,_⟩:=x; exact Heap.lt_size e
  | tbl ps=>exact Heap.lt_size (show h.get? a=some _ from x)
  | met f y=>exact Heap.lt_size (show h.get? a=some _ from x)
  | ext φ=>obtain ⟨_,⟨_,e⟩,_⟩:=x; exact Heap.lt_size e
theorem Paired.mapP {α β:Type} {F G:α→β→Prop}:∀ {l₁:List α} {l₂:List β},Paired F l₁ l₂→(∀ a b,F a b→G a b)→Paired G l₁ l₂
  | _,_,.nil,_=>.nil
  | _,_,.cons r t,f=>.cons (f _ _ r) (Paired.mapP t f)
theorem ObjOk.stay (x:ObjOk P w H h a o) (k:∀ b u,(b=a∨H b=some (.own a))→h.get? b=some u→h'.get? b=some u)
    (ho:∀ b,H b=some (.own a)→H' b=some (.own a)) (ht:∀ b xs,H b=some (.tup xs)→H' b=some (.tup xs)):ObjOk P w H' h' a o:=by
  induction o with
  | lst xs=>obtain ⟨z,its,n,r,e⟩:=x; exact ⟨z,its,n,r,k _ _ (.inl rfl) e⟩
  | tup xs=>obtain ⟨z,its,r,ob,e,c⟩:=x; exact ⟨z,its,r,ob,k _ _ (.inl rfl) e,c⟩
  | dK kvs=>obtain ⟨z,y,vs,r,ob,es,ep,e,c⟩:=x; exact ⟨z,y,vs,r,ob,es,ep,k _ _ (.inl rfl) e,c⟩
  | dT kvs =>
    obtain ⟨z,y,xs,r,ob,es,ep,e,c⟩:=x
    exact ⟨z,y,xs,Paired.mapP r fun p q z=>⟨z.1,ht _ _ z.2.1,z.2.2⟩,ob,es,ep,k _ _ (.inl rfl) e,c⟩
  | set S n=>obtain ⟨ob,es,ep,t,e,c⟩:=x; exact ⟨ob,es,ep,t,k _ _ (.inl rfl) e,c⟩
  | ins C dx fs =>
    obtain ⟨d,z,ne,e,mA,⟨od,es,ep,e2,c⟩,r⟩:=x
    exact ⟨ho _ d,z,ne,k _ _ (.inl rfl) e,mA,⟨od,es,ep,k _ _ (.inr d) e2,c⟩,r⟩
  | own y=>obtain ⟨ob,e⟩:=x; exact ⟨ob,k _ _ (.inl rfl) e⟩
  | xd fs=>obtain ⟨mA,⟨od,es,ep,e,c⟩,r⟩:=x; exact ⟨mA,⟨od,es,ep,k _ _ (.inl rfl) e,c⟩,r⟩
  | rng lo hi=>obtain ⟨t,u,v,e⟩:=x; exact ⟨t,u,v,k _ _ (.inl rfl) e⟩
  | frz ob u ih=>obtain ⟨e,q⟩:=x; exact ⟨k _ _ (.inl rfl) e,ih q⟩
  | tbl ps =>
    have e:h.get? a=some { cls:=.none,data:=.fields ps }:=x
    show h'.get? a=some { cls:=.none,data:=.fields ps }
    exact k a _ (.inl rfl) e
  | met f y =>
    have e:h.get? a=some (PySem.W.methodObj (.ref f) (.ref y)):=x
    show h'.get? a=some (PySem.W.methodObj (.ref f) (.ref y))
    exact k a _ (.inl rfl) e
  | ext φ=>obtain ⟨p,⟨o,e⟩,st⟩:=x; exact ⟨st _ _ p fun o q=>k _ _ (.inl rfl) q,⟨o,k _ _ (.inl rfl) e⟩,st⟩
theorem HOk.lt (x:HOk P w H h) (e:H a=some o):a < h.objs.size:=(x a o e).lt
theorem HOk.fresh (x:HOk P w H h) (e:h.objs.size≤a):H a=none:=by
  cases q:H a with
  | none=>rfl
  | some u=>exact absurd (Nat.lt_of_lt_of_le (x.lt q) e) (Nat.lt_irrefl _)
theorem HOk.kept (x:HOk P w H h) (k:∀ b u,h.get? b=some u→h'.get? b=some u):HOk P w H h':=fun a o e =>
  (x a o e).stay (fun b u _ q=>k b u q) (fun _ q=>q) fun _ _ q=>q
theorem HOk.laid (x:HOk P w H h) (k:∀ b u,h.get? b=some u→h'.get? b=some u) (hp:h.objs.size≤a) (new:ObjOk P w (upd H a o) h' a o):HOk P w (upd H a o) h':=fun b u e=>by
  have hn:=x.fresh hp
  by_cases hb:b=a
  · subst hb; rw [upd_same] at e; cases e; exact new
  · rw [upd_ne hb] at e
    exact (x b u e).stay (fun c v _ q=>k c v q) (fun c q=>by rw [upd_ne (ne_of_none q hn)]; exact q) fun c xs q=>by rw [upd_ne (ne_of_none q hn)]; exact q
end
def Rd (H:Hp) (a:Addr) (u:HO):Prop:=H a=some u∨∃ o,H a=some (.frz o u)
theorem Rd.ok {P:Program} {w:World} {H:Hp} {h:Heap} {a:Addr} {u:HO} (r:Rd H a u) (x:HOk P w H h):ObjOk P w H h a u:=by
  rcases r with r | ⟨o,r⟩
  · exact x a u r
  · obtain ⟨_,q⟩:=x a _ r
    exact q
def Mut:Option HO→Prop
  | some (.lst _)=>True
  | some (.dK _)=>True
  | some (.dT _)=>True
  | some (.set _ _)=>True
  | some (.ins _ _ _)=>True
  | some (.ext _)=>True
  | _=>False
section
variable {P:Program} {w:World} {H:Hp} {h h':Heap} {x e:Addr} {o':HO}
theorem HOk.write (ok:HOk P w H h) (mu:Mut (H x)) (he:e=x∨H e=some (.own x)) (k:∀ b u,b≠e→h.get? b=some u→h'.get? b=some u) (heo:∃ u,h'.get? e=some u)
    (new:ObjOk P w (upd H x o') h' x o'):HOk P w (upd H x o') h':=fun b u q=>by
  have nown:∀ c y,H c=some (.own y)→c≠x:=fun c y r z=>by subst z; rw [r] at mu; exact mu
  have ntup:∀ c xs,H c=some (.tup xs)→c≠x:=fun c xs r z=>by subst z; rw [r] at mu; exact mu
  by_cases hb:b=x
  · subst hb; rw [upd_same] at q; cases q; exact new
  · rw [upd_ne hb] at q
    by_cases hbe:b=e
    · have q':H b=some (.own x):=by
        rcases he with z | z
        · exact absurd (hbe.trans z) hb
        · rw [hbe]; exact z
      rw [q] at q'; cases q'
      obtain ⟨v,hv⟩:=heo
      exact ⟨v,by rw [hbe]; exact hv⟩
    · refine (ok b u q).stay (fun c v hc r=>k c v ?_ r) (fun c r=>by rw [upd_ne (nown c b r)]; exact r) fun c xs r=>by rw [upd_ne (ntup c xs r)]; exact r
      rcases hc with rfl | hc
      · exact hbe
      · rintro rfl
        rcases he with z | z
        · exact nown c b hc z
        · rw [hc] at z; cases z; exact hb rfl
end
structure Un (fs ex:List Addr) (H H':Hp) (h h':Heap):Prop where
  keep:∀ b o,h.get? b=some o→H b=none→b ∉ fs→b ∉ ex→h'.get? b=some o
  slot:∀ b o,h.get? b=some o→H b=none→b∈fs→b ∉ ex→∃ sl,h'.get? b=some { o with slots:=sl }
  free:∀ b o,h.get? b=some o→H b=none→b ∉ ex→H' b=none
  there:∀ b o,h.get? b=some o→b ∉ ex→∃ o',h'.get? b=some o'
  tups:∀ b xs,H b=some (.tup xs)→H' b=some (.tup xs)
  frzs:∀ b o u,H b=some (.frz o u)→H' b=some (.frz o u)
  tbls:∀ b ps,H b=some (.tbl ps)→∃ more,H' b=some (.tbl (ps ++ more))
section
variable {fs fs' ex ex':List Addr} {H H1 H2:Hp} {h h1 h2 h':Heap} {a x e:Addr} {o:HO}
theorem Un.any (u:Un fs ex H H1 h h1) {b:Addr} {ob:Obj} (q:h.get? b=some ob) (n:H b=none) (hx:b ∉ ex):∃ sl,h1.get? b=some { ob with slots:=sl }:=by
  by_cases hb:b∈fs
  · exact u.slot b ob q n hb hx
  · exact ⟨ob.slots,u.keep b ob q n hb hx⟩
theorem Un.kept (k:∀ b u,h.get? b=some u→h'.get? b=some u):Un fs ex H H h h' :=
  ⟨fun b ob q _ _ _=>k b ob q,fun b ob q _ _ _=>⟨ob.slots,k b ob q⟩,fun _ _ _ n _=>n,fun b ob q _=>⟨ob,k b ob q⟩,fun _ _ q=>q,fun _ _ _ q=>q,fun _ ps q=>⟨#[],by rw [q]; simp⟩⟩
theorem Un.refl:Un fs ex H H h h:=Un.kept fun _ _ q=>q
theorem Un.laid (k:∀ b u,h.get? b=some u→h'.get? b=some u) (hp:h.objs.size≤a) (hn:H a=none):Un fs ex H (upd H a o) h h' where
  keep:=fun b u q _ _ _=>k b u q
  slot:=fun b u q _ _ _=>⟨u.slots,k b u q⟩
  free:=fun b u q n _=>by rw [upd_ne (Nat.ne_of_lt (Nat.lt_of_lt_of_le (Heap.lt_size q) hp))]; exact n
  there:=fun b u q _=>⟨u,k b u q⟩
  tups:=fun b xs q=>by rw [upd_ne (ne_of_none q hn)]; exact q
  frzs:=fun b u xs q=>by rw [upd_ne (ne_of_none q hn)]; exact q
  tbls:=fun b ps q=>⟨#[],by rw [upd_ne (ne_of_none q hn),q]; simp⟩
theorem Un.write (mu:Mut (H x)) (he:e=x∨H e=some (.own x)) (k:∀ b u,b≠e→h.get? b=some u→h'.get? b=some u) (heo:∃ u,h'.get? e=some u):Un fs ex H (upd H x o) h h':=by
  have hx:∀ b,H b=none→b≠x:=fun b n z=>by subst z; rw [n] at mu; exact mu
  have hb:∀ b,H b=none→b≠e:=fun b n z=>by
    subst z
    rcases he with r | r
    · exact hx b n r
    · rw [n] at r; cases r
  have hm:∀ b u,H b=some u→¬ Mut (some u)→b≠x:=fun b u q nm z=>by subst z; rw [q] at mu; exact nm mu
  refine ⟨fun b u q n _ _=>k b u (hb b n) q,fun b u q n _ _=>⟨u.slots,k b u (hb b n) q⟩,fun b u q n _=>by rw [upd_ne (hx b n)]; exact n,fun b u q _=>?_,
    fun b xs q=>by rw [upd_ne (hm b _ q fun z=>z)]; exact q,fun b u xs q=>by rw [upd_ne (hm b _ q fun z=>z)]; exact q,fun b ps q=>⟨#[],by rw [upd_ne (hm b _ q fun z=>z),q]; simp⟩⟩
  by_cases hbe:b=e
  · subst hbe; exact heo
  · exact ⟨u,k b u hbe q⟩
end
def trk (h:Heap) (H:Hp):List Addr:=(List.range h.objs.size).filter fun a=>(H a).isSome
def hidT (h:Heap) (H:Hp):Heap:=PySem.W.hideAll h (trk h H)
theorem hidT_size (h:Heap) (H:Hp):(hidT h H).objs.size=h.objs.size:=PySem.W.hideAll_size _ _
theorem hidT_get {h:Heap} {H:Hp} {b:Addr} {o:Obj} (e:h.get? b=some o) (n:H b=none):(hidT h H).get? b=some o :=
  PySem.W.hideAll_get _ e fun hm=>by
    have q:(H b).isSome=true:=(List.mem_filter.mp hm).2
    rw [n] at q; simp at q
theorem of_hidT {h:Heap} {H:Hp} {b:Addr} {o:Obj} (e:(hidT h H).get? b=some o):h.get? b=some o∧H b=none:=by
  have e':h.get? b=some o:=PySem.W.of_hideAll (trk h H) e
  refine ⟨e',?_⟩
  cases q:H b with
  | none=>rfl
  | some x =>
    have hm:b∈trk h H:=List.mem_filter.mpr ⟨List.mem_range.mpr (Heap.lt_size e'),by simp [q]⟩
    have z:(hidT h H).get? b=none:=PySem.W.hideAll_none (trk h H) hm
    rw [z] at e; cases e
def allNews (g h:Heap) (L:Addr):List (Addr×Obj):=(List.range h.objs.size).filterMap fun a=>if a=L∨(g.get? a).isSome=true then none else (h.get? a).map fun o=>(a,o)
def rest (g h:Heap) (L d:Addr):List (Addr×Obj):=(allNews g h L).filter fun p=>decide (p.1≠d)
end L2
namespace L2
open PySem PySem.Spec PyProof.Rows
structure Mod (K:PySem.W.Frag) (mg:Str→Option Value) (base:Heap):Prop where
  kin:K.In base
  glob:base.Ns mainGlobals mg
  blt:∃ mb,base.Ns builtinsNs mb∧∀ x:Str,x≠"__name__"→mb x=bootBuiltins x
  nolimit:base.NoLimit
structure Cx where
  prog:Program
  w:World
  K:PySem.W.Frag
  mg:Str→Option Value
  base:Heap
  A:Around
  N:List Str
  s₀:Shared
  H₀:Hp
  env:Env
  outer:List Env
  stack:List Env
  ex:List Addr
  fn:Str→Bool
  calm:Bool
  pn:List (Addr×Obj)
  xe:Value→Shared→Prop
def frs (l:List Env):List Addr:=l.filterMap (·.frame)
abbrev Cx.fs (X:Cx):List Addr:=frs X.outer
def Vis (sc:Scope) (x:Str):Prop:=sc.names.lookup x=some .local∨sc.names.lookup x=some .cell∨sc.names.lookup x=some .free
def Loc (sc:Scope) (x:Str):Prop:=sc.names.lookup x=some .local∨sc.names.lookup x=some .cell
def Look (env:Env) (h:Heap) (m:Str→Option Value) (x:Str) (u:Value):Prop :=
  (env.kindOf x=some .local∧m x=some u)∨((env.kindOf x=some .cell∨env.kindOf x=some .free)∧∃ c,env.cells.lookup x=some c∧h.IsCell c (some u))
structure Cx.Ok (X:Cx):Prop where
  mod:Mod X.K X.mg X.base
  kind:X.env.scope.kind=.function
  glob:X.env.globals=mainGlobals
  blt:X.env.builtins=builtinsNs
  above:X.s₀.heap.objs.size≤X.env.locals
  inj:∀ x y c,X.env.cells.lookup x=some c→X.env.cells.lookup y=some c→x=y
  has:∀ x,(X.env.kindOf x=some .cell∨X.env.kindOf x=some .free)→∃ c,X.env.cells.lookup x=some c
  cab:∀ x c,X.fn x=true→X.env.cells.lookup x=some c→X.s₀.heap.objs.size≤c
  hd:X.calm=true→X.A.handled=none
  frames:X.A.frames=some X.stack
  stk:X.stack=X.outer∨(X.stack=X.env :: X.outer∧X.env.frame=some X.env.locals)
  exf:∀ b∈X.ex,b≠X.env.locals∧∀ x c,X.env.cells.lookup x=some c→c≠b
  bs:∀ b o,X.base.get? b=some o→X.s₀.heap.get? b=some o∧X.H₀ b=none
  bsz:X.base.objs.size≤X.s₀.heap.objs.size
  noex:∀ b o,X.base.get? b=some o→b ∉ X.ex
  exfs:∀ b∈X.ex,b ∉ X.fs
  funs:X.s₀.heap.FunFrames X.base X.outer
  frf:∀ b∈X.fs,X.H₀ b=none
structure Inv (X:Cx) (pins:List (Addr×Obj)) (σ:List (Option V)) (H:Hp) (s:Shared):Prop where
  ok:X.Ok
  os:s.os=X.s₀.os
  bare:AllBare s.gens
  base:Un X.fs X.ex X.H₀ H X.s₀.heap s.heap
  loc:∃ m,s.heap.Ns X.env.locals m∧∀ (i:Nat) (x:Str) (v:V),X.N[i]?=some x→σ[i]?=some (some v)→Vis X.env.scope x→∃ u,RelV v u∧Look X.env s.heap m x u
  cell:∀ x c,X.env.cells.lookup x=some c→∃ v,s.heap.IsCell c v
  free:H X.env.locals=none
  freeC:∀ x c,X.env.cells.lookup x=some c→H c=none
  pin:∀ p∈X.pn ++ pins,s.heap.get? p.1=some p.2∧H p.1=none∧p.1≠X.env.locals∧p.1 ∉ X.fs∧∀ v,p.2.data≠.cell v
  hok:HOk X.prog X.w H s.heap
  len:σ.length=X.N.length
section
variable {X:Cx} {pins:List (Addr×Obj)} {σ:List (Option V)} {H H':Hp} {s:Shared} {h':Heap}
theorem Cx.Ok.nofr (ok:X.Ok) {b:Addr} {o:Obj} (e:X.base.get? b=some o):b ∉ X.fs:=fun hb=>by
  have:=(ok.funs.mem hb).1
  rw [e] at this; cases this
theorem Inv.bs (I:Inv X pins σ H s):∀ b o,X.base.get? b=some o→s.heap.get? b=some o∧H b=none:=fun b o e =>
  ⟨I.base.keep b o (I.ok.bs b o e).1 (I.ok.bs b o e).2 (I.ok.nofr e) (I.ok.noex b o e),I.base.free b o (I.ok.bs b o e).1 (I.ok.bs b o e).2 (I.ok.noex b o e)⟩
theorem Inv.bk (I:Inv X pins σ H s):∀ b o,X.base.get? b=some o→s.heap.get? b=some o:=fun b o e=>(I.bs b o e).1
theorem Inv.mod (I:Inv X pins σ H s):Mod X.K X.mg X.base:=I.ok.mod
theorem Inv.kIn (I:Inv X pins σ H s):X.K.In s.heap:=I.ok.mod.kin.keeps I.bk
theorem Inv.lt (I:Inv X pins σ H s):X.env.locals < s.heap.objs.size:=let ⟨_,hn,_⟩:=I.loc; hn.lt
theorem Inv.sz (I:Inv X pins σ H s):X.s₀.heap.objs.size≤s.heap.objs.size:=Nat.le_trans I.ok.above (Nat.le_of_lt I.lt)
theorem Inv.nofs (I:Inv X pins σ H s) {a:Addr} (h:s.heap.objs.size≤a):a ∉ X.fs:=fun hb=>by
  obtain ⟨_,o,ho,_⟩:=I.ok.funs.mem hb
  exact absurd (Nat.lt_of_lt_of_le (Heap.lt_size ho) (Nat.le_trans I.sz h)) (Nat.lt_irrefl _)
theorem Inv.cne (I:Inv X pins σ H s):∀ x c,X.env.cells.lookup x=some c→c≠X.env.locals:=fun x c e z=>by
  obtain ⟨v,o,ho,hd⟩:=I.cell x c e
  obtain ⟨m,⟨o',es,ep,ho',hd',_⟩,_⟩:=I.loc
  rw [z,ho'] at ho; cases ho; rw [hd'] at hd; cases hd
theorem Inv.funs (I:Inv X pins σ H s):s.heap.FunFrames X.base X.outer:=by
  have all:∀ (l:List Env),(∀ b∈frs l,b∈X.fs)→X.s₀.heap.FunFrames X.base l→s.heap.FunFrames X.base l:=by
    intro l
    induction l with
    | nil=>intro _ _; trivial
    | cons env r ih =>
      intro hs hl
      obtain ⟨hk,⟨L,o,hf,hn,ho,hd⟩,hr⟩:=hl
      have hL:L∈X.fs:=hs L (by unfold frs; rw [List.filterMap_cons,hf]; exact List.mem_cons_self)
      obtain ⟨sl,e⟩:=I.base.slot L o ho (I.ok.frf L hL) hL fun z=>I.ok.exfs L z hL
      exact ⟨hk,⟨L,_,hf,hn,e,hd⟩,ih (fun b hb=>hs b (by unfold frs; rw [List.filterMap_cons,hf]; exact List.mem_cons_of_mem _ hb)) hr⟩
  exact all X.outer (fun _ hb=>hb) I.ok.funs
theorem Inv.stack (I:Inv X pins σ H s):s.heap.FunFrames X.base X.stack:=by
  rcases I.ok.stk with e | ⟨e,hf⟩
  · rw [e]; exact I.funs
  · rw [e]
    obtain ⟨m,hn,_⟩:=I.loc
    refine .cons (by rw [I.ok.kind]; decide) hf hn ?_ I.funs
    exact Heap.get?_none_of_le (Nat.le_trans I.ok.bsz I.ok.above)
theorem Inv.stkSub (I:Inv X pins σ H s):∀ b∈frs X.stack,b∈X.env.locals :: X.fs:=fun b hb=>by
  rcases I.ok.stk with e | ⟨e,hf⟩
  · rw [e] at hb; exact List.mem_cons_of_mem _ hb
  · rw [e] at hb
    unfold frs at hb
    rw [List.filterMap_cons,hf] at hb
    exact hb
theorem Inv.stkFree (I:Inv X pins σ H s):∀ b∈frs X.stack,H b=none:=fun b hb=>by
  rcases List.mem_cons.mp (I.stkSub b hb) with e | hb
  · rw [e]; exact I.free
  · obtain ⟨_,o,ho,_⟩:=I.ok.funs.mem hb
    exact I.base.free b o ho (I.ok.frf b hb) fun z=>I.ok.exfs b z hb
theorem Inv.step {g':Array GenState} {t':Nat} {d':Drawn} {ch:List Addr} (I:Inv X pins σ H s)
    (hch:∀ b∈ch,(b∈X.ex∨X.s₀.heap.objs.size≤b)∧b≠X.env.locals∧(∀ x c,X.env.cells.lookup x=some c→c≠b)∧∀ p∈X.pn ++ pins,p.1≠b)
    (keep:∀ b o,b≠X.env.locals→b ∉ X.fs→b ∉ ch→s.heap.get? b=some o→H b=none→h'.get? b=some o)
    (slot:∀ b o,b≠X.env.locals→b∈X.fs→b ∉ ch→s.heap.get? b=some o→H b=none→∃ sl,h'.get? b=some { o with slots:=sl }) (free:∀ b o,b ∉ ch→s.heap.get? b=some o→H b=none→H' b=none)
    (there:∀ b o,b ∉ ch→s.heap.get? b=some o→∃ o',h'.get? b=some o')
    (tups:∀ b xs,H b=some (.tup xs)→H' b=some (.tup xs)) (frzs:∀ b o u,H b=some (.frz o u)→H' b=some (.frz o u)) (tbls:∀ b ps,H b=some (.tbl ps)→∃ more,H' b=some (.tbl (ps ++ more)))
    (ns:∀ m,s.heap.Ns X.env.locals m→h'.Ns X.env.locals m) (hok:HOk X.prog X.w H' h') (hg:AllBare g') :
    Inv X pins σ H' { s with heap:=h',gens:=g',drawn:=d',toks:=t' }:=by
  have neL:∀ b o,X.s₀.heap.get? b=some o→b≠X.env.locals:=fun b o e=>Nat.ne_of_lt (Nat.lt_of_lt_of_le (Heap.lt_size e) I.ok.above)
  have neC:∀ b o,X.s₀.heap.get? b=some o→b ∉ X.ex→b ∉ ch:=fun b o e hx hb=>by
    rcases (hch b hb).1 with z | z
    · exact hx z
    · exact absurd (Nat.lt_of_lt_of_le (Heap.lt_size e) z) (Nat.lt_irrefl _)
  have cellK:∀ x c,X.env.cells.lookup x=some c→∀ v,s.heap.IsCell c v→h'.IsCell c v:=fun x c e v ⟨o,ho,hd⟩=>by
    have nch:c ∉ ch:=fun z=>(hch c z).2.2.1 x c e rfl
    by_cases hc:c∈X.fs
    · obtain ⟨sl,q⟩:=slot c o (I.cne x c e) hc nch ho (I.freeC x c e)
      exact ⟨_,q,hd⟩
    · exact ⟨o,keep c o (I.cne x c e) hc nch ho (I.freeC x c e),hd⟩
  refine ⟨I.ok,I.os,hg,⟨fun b o e n hb hx=>?_,fun b o e n hb hx=>?_,fun b o e n hx=>?_,fun b o e hx=>?_,fun b xs e=>tups b xs (I.base.tups b xs e),fun b o xs e=>frzs b o xs (I.base.frzs b o xs e),fun b ps e=>?_⟩,?_,fun x c e=>?_,?_,fun x c e=>?_,fun p hp=>?_,hok,I.len⟩
  · exact keep b o (neL b o e) hb (neC b o e hx) (I.base.keep b o e n hb hx) (I.base.free b o e n hx)
  · obtain ⟨sl,e1⟩:=I.base.slot b o e n hb hx
    obtain ⟨sl',e2⟩:=slot b _ (neL b o e) hb (neC b o e hx) e1 (I.base.free b o e n hx)
    exact ⟨sl',e2⟩
  · obtain ⟨o',e1⟩:=I.base.there b o e hx
    exact free b o' (neC b o e hx) e1 (I.base.free b o e n hx)
  · obtain ⟨o',e1⟩:=I.base.there b o e hx
    exact there b o' (neC b o e hx) e1
  · obtain ⟨m1,e1⟩:=I.base.tbls b ps e
    obtain ⟨m2,e2⟩:=tbls b _ e1
    exact ⟨m1 ++ m2,by rw [e2,Array.append_assoc]⟩
  · obtain ⟨m,hn,hl⟩:=I.loc
    refine ⟨m,ns m hn,fun i x v e1 e2 e3=>?_⟩
    obtain ⟨u,r,l⟩:=hl i x v e1 e2 e3
    refine ⟨u,r,?_⟩
    rcases l with l | ⟨k,c,e,z⟩
    · exact .inl l
    · exact .inr ⟨k,c,e,cellK x c e _ z⟩
  · obtain ⟨v,z⟩:=I.cell x c e
    exact ⟨v,cellK x c e v z⟩
  · obtain ⟨m,⟨o,_,_,ho,_⟩,_⟩:=I.loc
    exact free _ o (fun z=>(hch _ z).2.1 rfl) ho I.free
  · obtain ⟨v,o,ho,hd⟩:=I.cell x c e
    exact free c o (fun z=>(hch c z).2.2.1 x c e rfl) ho (I.freeC x c e)
  · obtain ⟨e,n,ne,nf,d⟩:=I.pin p hp
    have nch:p.1 ∉ ch:=fun z=>(hch p.1 z).2.2.2 p hp rfl
    exact ⟨keep p.1 p.2 ne nf nch e n,free p.1 p.2 nch e n,ne,nf,d⟩
theorem Inv.un {t':Nat} (I:Inv X pins σ H s) (u:Un X.fs [] H H' s.heap h') (hok:HOk X.prog X.w H' h'):Inv X pins σ H' { s with heap:=h',toks:=t' }:=by
  obtain ⟨m,⟨o,es,ep,ho,r⟩,_⟩:=id I.loc
  obtain ⟨sl,hL⟩:=u.any ho I.free (by simp)
  exact I.step (g':=s.gens) (d':=s.drawn) (ch:=[]) (fun _ z=>nomatch z) (fun b o _ hb _ e n=>u.keep b o e n hb (by simp)) (fun b o _ hb _ e n=>u.slot b o e n hb (by simp)) (fun b o _ e n=>u.free b o e n (by simp)) (fun b o _ e=>u.there b o e (by simp)) u.tups u.frzs u.tbls (fun m' hm=>by
    obtain ⟨o',es',ep',ho',r'⟩:=hm
    rw [ho] at ho'; cases ho'
    exact ⟨_,es',ep',hL,r'⟩) hok I.bare
theorem Inv.call {g':Array GenState} {t':Nat} {d':Drawn} {ch:List Addr} (I:Inv X pins σ H s) (u:Un (frs X.stack) ch H H' s.heap h') (hok:HOk X.prog X.w H' h') (hg:AllBare g')
    (hch:∀ b∈ch,(b∈X.ex∨X.s₀.heap.objs.size≤b)∧b≠X.env.locals∧(∀ x c,X.env.cells.lookup x=some c→c≠b)∧∀ p∈X.pn ++ pins,p.1≠b) :
    Inv X pins σ H' { s with heap:=h',gens:=g',drawn:=d',toks:=t' }:=by
  obtain ⟨m,⟨o,es,ep,ho,r⟩,_⟩:=id I.loc
  obtain ⟨sl,hL⟩:=u.any ho I.free fun z=>(hch _ z).2.1 rfl
  exact I.step (ch:=ch) hch (fun b o hL hb hc e n=>u.keep b o e n (fun z=>(List.mem_cons.mp (I.stkSub b z)).elim hL hb) hc) (fun b o _ _ hc e n=>u.any e n hc) (fun b o hc e n=>u.free b o e n hc) (fun b o hc e=>u.there b o e hc) u.tups u.frzs u.tbls (fun m' hm=>by
    obtain ⟨o',es',ep',ho',r'⟩:=hm
    rw [ho] at ho'; cases ho'
    exact ⟨_,es',ep',hL,r'⟩) hok hg
theorem Inv.turned {t':Nat} {it:Addr} (I:Inv X pins σ H s) (k:∀ b o,b≠it→s.heap.get? b=some o→h'.get? b=some o) (hn:H it=none) (hL:it≠X.env.locals)
    (h1:it∈X.ex∨X.s₀.heap.objs.size≤it) (h2:∀ x c,X.env.cells.lookup x=some c→c≠it) (h3:∀ p∈X.pn ++ pins,p.1≠it):Inv X pins σ H { s with heap:=h',toks:=t' }:=by
  have nit:∀ b u,H b=some u→b≠it:=fun b u e z=>by rw [z,hn] at e; cases e
  refine I.step (g':=s.gens) (d':=s.drawn) (ch:=[it]) (fun b hb=>?_) (fun b o _ _ hc e _=>k b o (fun z=>hc (by simp [z])) e) (fun b o _ _ hc e _=>⟨o.slots,k b o (fun z=>hc (by simp [z])) e⟩) (fun _ _ _ _ n=>n)
    (fun b o hc e=>⟨o,k b o (fun z=>hc (by simp [z])) e⟩) (fun _ _ e=>e) (fun _ _ _ e=>e) (fun b ps e=>⟨#[],by rw [e]; simp⟩) (fun m hm=>?_) (fun b u e=>?_) I.bare
  · have e:b=it:=by simpa using hb
    subst e
    exact ⟨h1,hL,h2,h3⟩
  · obtain ⟨o,es,ep,ho,r⟩:=hm
    exact ⟨o,es,ep,k _ o (Ne.symm hL) ho,r⟩
  · refine (I.hok b u e).stay (fun c v hc q=>k c v ?_ q) (fun _ q=>q) fun _ _ q=>q
    rcases hc with z | z
    · rw [z]; exact nit b u e
    · exact nit c _ z
theorem Inv.tok (I:Inv X pins σ H s) (t:Nat):Inv X pins σ H { s with toks:=t }:=I.un (h':=s.heap) (t':=t) Un.refl I.hok
theorem Inv.kept {t':Nat} (I:Inv X pins σ H s) (k:∀ b u,s.heap.get? b=some u→h'.get? b=some u):Inv X pins σ H { s with heap:=h',toks:=t' }:=I.un (Un.kept k) (I.hok.kept k)
theorem Inv.laid {a:Addr} {o:HO} {t':Nat} (I:Inv X pins σ H s) (k:∀ b u,s.heap.get? b=some u→h'.get? b=some u) (hp:s.heap.objs.size≤a) (new:ObjOk X.prog X.w (upd H a o) h' a o) :
    Inv X pins σ (upd H a o) { s with heap:=h',toks:=t' }:=I.un (Un.laid k hp (I.hok.fresh hp)) (I.hok.laid k hp new)
theorem Inv.write {x e:Addr} {o:HO} {t':Nat} (I:Inv X pins σ H s) (mu:Mut (H x)) (he:e=x∨H e=some (.own x)) (k:∀ b u,b≠e→s.heap.get? b=some u→h'.get? b=some u) (heo:∃ u,h'.get? e=some u)
    (new:ObjOk X.prog X.w (upd H x o) h' x o):Inv X pins σ (upd H x o) { s with heap:=h',toks:=t' }:=I.un (Un.write mu he k heo) (I.hok.write mu he k heo new)
theorem Inv.pins_of {pins':List (Addr×Obj)} (I:Inv X pins σ H s) (h:∀ p∈pins',s.heap.get? p.1=some p.2∧H p.1=none∧p.1≠X.env.locals∧p.1 ∉ X.fs∧∀ v,p.2.data≠.cell v):Inv X pins' σ H s :=
  ⟨I.ok,I.os,I.bare,I.base,I.loc,I.cell,I.free,I.freeC,fun p hp=>(List.mem_append.mp hp).elim (fun z=>I.pin p (List.mem_append_left _ z)) (h p),I.hok,I.len⟩
theorem nodup_ix {N:List Str} (hN:N.Nodup) {i j:Nat} {x:Str} (a:N[i]?=some x) (b:N[j]?=some x):i=j:=by
  obtain ⟨h1,e1⟩:=List.getElem?_eq_some_iff.mp a
  obtain ⟨h2,e2⟩:=List.getElem?_eq_some_iff.mp b
  exact (List.getElem_inj hN).mp (e1.trans e2.symm)
theorem store_ok2 {M:Model} {A:Around} {E:Value→Shared→Prop} {i:Nat} {x:Str} {v:V} {u:Value} {Q:Unit→Shared→Prop} (I:Inv X pins σ H s) (hN:X.N.Nodup) (hi:X.N[i]?=some x) (hx:Loc X.env.scope x) (r:RelV v u)
    (h:∀ s',Inv X pins (σ.set i (some v)) H s'→(∃ a,Heap.SameBut a s.heap s'.heap∧(a=X.env.locals∨X.env.cells.lookup x=some a))→Q () s') (hf:X.fn x=true∨X.env.scope.names.lookup x=some .local:=by first | exact .inl rfl | exact .inr rfl | assumption):wpAny M A (storeName X.env x u) Q E s:=by
  obtain ⟨m,hn,hl⟩:=id I.loc
  have hcls:(X.env.scope.kind == .class || (X.env.scope.kind == .module && X.env.locals != X.env.globals))=false:=by rw [I.ok.kind]; rfl
  have hiσ:i < σ.length:=by rw [I.len]; exact (List.getElem?_eq_some_iff.mp hi).1
  have cne:=I.cne
  have tracked:∀ {a:Addr} {h':Heap},(∃ o,s.heap.get? a=some o∧H a=none)→Heap.SameBut a s.heap h'→HOk X.prog X.w H h':=fun {a h'} ha hs b ob e=>by
    obtain ⟨_,_,hfree⟩:=ha
    refine (I.hok b ob e).stay (fun c w' hc q=>(hs.2 c ?_).trans q) (fun _ q=>q) fun _ _ q=>q
    rintro rfl
    rcases hc with rfl | hc
    · rw [hfree] at e; cases e
    · rw [hfree] at hc; cases hc
  rcases hx with hk | hk
  · refine wpAny_storeName_local hk hn (fun h' hn' hs=>?_) hcls
    obtain ⟨oL,_,_,hoL,_⟩:=id hn
    refine h _ ⟨I.ok,I.os,I.bare,⟨fun b o e n hb hx=>?_,fun b o e n hb hx=>?_,I.base.free,fun b o e hx=>?_,I.base.tups,I.base.frzs,I.base.tbls⟩,⟨_,hn',fun j y v' e1 e2 e3=>?_⟩,fun y c e=>?_,I.free,I.freeC,fun p hp=>?_,tracked ⟨oL,hoL,I.free⟩ hs,by simpa using I.len⟩ ⟨_,hs,.inl rfl⟩
    · exact (hs.2 b (Nat.ne_of_lt (Nat.lt_of_lt_of_le (Heap.lt_size e) I.ok.above))).trans (I.base.keep b o e n hb hx)
    · obtain ⟨sl,e1⟩:=I.base.slot b o e n hb hx
      exact ⟨sl,(hs.2 b (Nat.ne_of_lt (Nat.lt_of_lt_of_le (Heap.lt_size e) I.ok.above))).trans e1⟩
    · obtain ⟨o',e1⟩:=I.base.there b o e hx
      exact ⟨o',(hs.2 b (Nat.ne_of_lt (Nat.lt_of_lt_of_le (Heap.lt_size e) I.ok.above))).trans e1⟩
    · by_cases hj:j=i
      · subst hj
        rw [hi] at e1; cases e1
        rw [List.getElem?_set_self hiσ] at e2
        cases e2
        exact ⟨u,r,.inl ⟨hk,by simp⟩⟩
      · rw [List.getElem?_set_ne (Ne.symm hj)] at e2
        obtain ⟨u',r',q⟩:=hl j y v' e1 e2 e3
        refine ⟨u',r',?_⟩
        rcases q with ⟨k,e⟩ | ⟨k,c,e,z⟩
        · refine .inl ⟨k,?_⟩
          have:y≠x:=fun e=>hj (nodup_ix hN e1 (e ▸ hi))
          simp [this,e]
        · exact .inr ⟨k,c,e,z.sameBut hs (cne y c e)⟩
    · obtain ⟨w',z⟩:=I.cell y c e
      exact ⟨w',z.sameBut hs (cne y c e)⟩
    · obtain ⟨e,n,ne,nf,d⟩:=I.pin p hp
      exact ⟨(hs.2 p.1 ne).trans e,n,ne,nf,d⟩
  · have hfn:X.fn x=true:=by
      rcases hf with z | z
      · exact z
      · rw [z] at hk; cases hk
    obtain ⟨c,hc⟩:=I.ok.has x (.inl hk)
    obtain ⟨w',z⟩:=I.cell x c hc
    refine wpAny_storeName_cell I.ok.kind hk hc z (fun h' hc' hs=>?_)
    obtain ⟨oc,hoc,hocd⟩:=id z
    refine h { s with heap:=h' } ⟨I.ok,I.os,I.bare,⟨fun b o e n hb hx=>?_,fun b o e n hb hx=>?_,I.base.free,fun b o e hx=>?_,I.base.tups,I.base.frzs,I.base.tbls⟩,⟨m,hn.sameBut hs (Ne.symm (cne x c hc)),fun j y v' e1 e2 e3=>?_⟩,fun y c' e=>?_,I.free,I.freeC,fun p hp=>?_,tracked ⟨oc,hoc,I.freeC x c hc⟩ hs,by simpa using I.len⟩ ⟨c,hs,.inr hc⟩
    · exact (hs.2 b (Nat.ne_of_lt (Nat.lt_of_lt_of_le (Heap.lt_size e) (I.ok.cab x c hfn hc)))).trans (I.base.keep b o e n hb hx)
    · obtain ⟨sl,e1⟩:=I.base.slot b o e n hb hx
      exact ⟨sl,(hs.2 b (Nat.ne_of_lt (Nat.lt_of_lt_of_le (Heap.lt_size e) (I.ok.cab x c hfn hc)))).trans e1⟩
    · obtain ⟨o',e1⟩:=I.base.there b o e hx
      exact ⟨o',(hs.2 b (Nat.ne_of_lt (Nat.lt_of_lt_of_le (Heap.lt_size e) (I.ok.cab x c hfn hc)))).trans e1⟩
    · by_cases hj:j=i
      · subst hj
        rw [hi] at e1; cases e1
        rw [List.getElem?_set_self hiσ] at e2
        cases e2
        exact ⟨u,r,.inr ⟨.inl hk,c,hc,hc'⟩⟩
      · rw [List.getElem?_set_ne (Ne.symm hj)] at e2
        obtain ⟨u',r',q⟩:=hl j y v' e1 e2 e3
        refine ⟨u',r',?_⟩
        rcases q with q | ⟨k,c',e,z'⟩
        · exact .inl q
        · refine .inr ⟨k,c',e,z'.sameBut hs ?_⟩
          rintro rfl
          exact hj (nodup_ix hN e1 (I.ok.inj _ _ _ e hc ▸ hi))
    · by_cases hcc:c'=c
      · subst hcc; exact ⟨_,hc'⟩
      · obtain ⟨w2,z2⟩:=I.cell y c' e
        exact ⟨w2,z2.sameBut hs hcc⟩
    · obtain ⟨e,n,ne,nf,d⟩:=I.pin p hp
      refine ⟨(hs.2 p.1 ?_).trans e,n,ne,nf,d⟩
      intro q
      rw [q,hoc] at e
      have q':oc=p.2:=Option.some.inj e
      exact d w' (by rw [← q']; exact hocd)
theorem store_ok {M:Model} {A:Around} {E:Value→Shared→Prop} {i:Nat} {x:Str} {v:V} {u:Value} {Q:Unit→Shared→Prop} (I:Inv X pins σ H s) (hN:X.N.Nodup) (hi:X.N[i]?=some x) (hx:Loc X.env.scope x) (r:RelV v u)
    (h:∀ s',Inv X pins (σ.set i (some v)) H s'→Q () s') (hf:X.fn x=true∨X.env.scope.names.lookup x=some .local:=by first | exact .inl rfl | exact .inr rfl | assumption):wpAny M A (storeName X.env x u) Q E s :=
  store_ok2 I hN hi hx r (fun s' I' _=>h s' I') hf
theorem Inv.call' {s':Shared} {ch:List Addr} (I:Inv X pins σ H s) (ho:s'.os=s.os) (u:Un (frs X.stack) ch H H' s.heap s'.heap) (hok:HOk X.prog X.w H' s'.heap) (hg:AllBare s'.gens)
    (hch:∀ b∈ch,(b∈X.ex∨X.s₀.heap.objs.size≤b)∧b≠X.env.locals∧(∀ x c,X.env.cells.lookup x=some c→c≠b)∧∀ p∈X.pn ++ pins,p.1≠b):Inv X pins σ H' s':=by
  obtain ⟨h',g',d',t',o'⟩:=s'
  have e:o'=s.os:=ho
  subst e
  exact I.call (g':=g') (t':=t') (d':=d') u hok hg hch
end
abbrev XK:=Value→Option Addr→Hp→Prop
abbrev St:=List (Option V)
abbrev VK:=V→Hp→Prop
abbrev TE:=St→Hp→VK→Prop
abbrev TT:=St→Hp→(Bool→Hp→Prop)→Prop
abbrev TA:=St→Hp→(List V→Hp→Prop)→Prop
structure Ends where
  nx:St→Hp→Prop
  rt:VK
  bk:St→Hp→Prop:=fun _ _=>False
  ct:St→Hp→Prop:=fun _ _=>False
abbrev TS:=Ends→St→Hp→Prop
def EP (X:Cx) (pins:List (Addr×Obj)) (σ:St) (Q:VK) (u:Value) (s':Shared):Prop:=∃ v H',Inv X pins σ H' s'∧RelV v u∧Q v H'
def TP (X:Cx) (pins:List (Addr×Obj)) (σ:St) (Q:Bool→Hp→Prop) (b:Bool) (s':Shared):Prop:=∃ H',Inv X pins σ H' s'∧Q b H'
def AP (X:Cx) (pins:List (Addr×Obj)) (σ:St) (Q:List V→Hp→Prop) (us:List Value) (s':Shared):Prop:=∃ vs H',Inv X pins σ H' s'∧Vals vs us∧Q vs H'
def SP (X:Cx) (pins:List (Addr×Obj)) (D:Ends) (f:Flow) (s':Shared):Prop :=
  match f with
  | .next=>∃ σ' H',Inv X pins σ' H' s'∧D.nx σ' H'
  | .brk=>∃ σ' H',Inv X pins σ' H' s'∧D.bk σ' H'
  | .cont=>∃ σ' H',Inv X pins σ' H' s'∧D.ct σ' H'
  | .ret u=>∃ v σ' H',Inv X pins σ' H' s'∧RelV v u∧D.rt v H'
def PE (X:Cx) (e:Expr) (t:TE):Prop :=
  ∀ (pins:List (Addr×Obj)) (s:Shared) (σ:St) (H:Hp) (Q:VK),Inv X pins σ H s→t σ H Q→wpAny (model X.prog X.w) X.A (eval e X.env) (EP X pins σ Q) X.xe s
def PT (X:Cx) (e:Expr) (t:TT):Prop :=
  ∀ (pins:List (Addr×Obj)) (s:Shared) (σ:St) (H:Hp) (Q:Bool→Hp→Prop),Inv X pins σ H s→t σ H Q→wpAny (model X.prog X.w) X.A (isTrue e X.env (eval e X.env)) (TP X pins σ Q) X.xe s
def PW (X:Cx) (e:Expr) (t:TT):Prop :=
  ∀ (whole:Sem Value) (pins:List (Addr×Obj)) (s:Shared) (σ:St) (H:Hp) (Q:Bool→Hp→Prop),Inv X pins σ H s→t σ H Q→wpAny (model X.prog X.w) X.A (isTrue e X.env whole) (TP X pins σ Q) X.xe s
theorem PW.pt {X:Cx} {e:Expr} {t:TT} (h:PW X e t):PT X e t:=h _
def PA (X:Cx) (es:List Expr) (t:TA):Prop :=
  ∀ (pos:Pos) (pins:List (Addr×Obj)) (s:Shared) (σ:St) (H:Hp) (Q:List V→Hp→Prop),Inv X pins σ H s→t σ H Q→wpAny (model X.prog X.w) X.A (spliced (backTo pos (starEach es X.env))) (AP X pins σ Q) X.xe s
def PS (X:Cx) (st:Stmt) (t:TS):Prop :=
  ∀ (pins:List (Addr×Obj)) (s:Shared) (σ:St) (H:Hp) (D:Ends),Inv X pins σ H s→t D σ H→wpAny (model X.prog X.w) X.A (exec st X.env) (SP X pins D) X.xe s
def PSs (X:Cx) (st:List Stmt) (t:TS):Prop :=
  ∀ (pins:List (Addr×Obj)) (s:Shared) (σ:St) (H:Hp) (D:Ends),Inv X pins σ H s→t D σ H→wpAny (model X.prog X.w) X.A (execs st X.env) (SP X pins D) X.xe s
theorem thn {α:Type} {t:Sem α} {Q Q':α→Shared→Prop} {M:Model} {A:Around} {E:Value→Shared→Prop} {s:Shared} (h:wpAny M A t Q E s) (hQ:∀ a s,Q a s→Q' a s):wpAny M A t Q' E s:=wpAny_mono h hQ fun _ _ x=>x
end L2
namespace L2
open PySem PySem.Spec PyProof.Rows
section
variable {X:Cx}
theorem bin {a b:Expr} {ta tb:TE} (ha:PE X a ta) (hb:PE X b tb) {pins:List (Addr×Obj)} {s:Shared} {σ:St} {H:Hp} {R:V→V→Hp→Prop} (I:Inv X pins σ H s) (h:ta σ H fun x H1=>tb σ H1 fun y H2=>R x y H2)
    {α:Type} {Q:α→Shared→Prop} {f:Value→Value→Sem α}
    (hf:∀ v u s2 x y H2,Inv X pins σ H2 s2→RelV x v→RelV y u→R x y H2→wpAny (model X.prog X.w) X.A (f v u) Q X.xe s2) :
    wpAny (model X.prog X.w) X.A (eval a X.env) (fun v s₁=>wpAny (model X.prog X.w) X.A (eval b X.env) (fun u s₂=>wpAny (model X.prog X.w) X.A (f v u) Q X.xe s₂) X.xe s₁) X.xe s:=by
  refine thn (ha pins s σ H _ I h) fun v s1 ⟨x,H1,I1,r1,q1⟩=>?_
  refine thn (hb pins s1 σ H1 _ I1 q1) fun u s2 ⟨y,H2,I2,r2,q2⟩=>?_
  exact hf v u s2 x y H2 I2 r1 r2 q2
def tVar (i:Nat):TE:=fun σ H Q=>∃ v,σ[i]?=some (some v)∧Q v H
def tC (v:V):TE:=fun _ H Q=>Q v H
theorem pe_var {i:Nat} {x:Str} {pos:Pos} (hN:X.N[i]?=some x) (hv:Vis X.env.scope x) (hd:(x == ("__debug__":Str))=false:=by decide) (hcd:(x == ("__classdict__":Str))=false:=by decide):PE X (.Name x pos) (tVar i):=by
  intro pins s σ H Q I h
  obtain ⟨v,e,h⟩:=h
  obtain ⟨m,hn,hl⟩:=I.loc
  obtain ⟨u,r,l⟩:=hl i x v hN e hv
  have fin:EP X pins σ Q u s:=⟨v,H,I,r,h⟩
  rcases l with ⟨hk,hm⟩ | ⟨hk,c,hc,hcell⟩
  · exact wpAny_Name (wpAny_loadName_local I.ok.kind hk hn hm fin) hd
  · rcases hk with hk | hk
    · exact wpAny_Name (wpAny_loadName_cell I.ok.kind hk hc hcell fin) hd
    · exact wpAny_Name (wpAny_loadName_free I.ok.kind hk hc hcell fin hcd) hd
theorem pe_int {i j pos}:PE X (.Constant (.int i) j pos) (tC (.int i)):=fun _ _ _ H _ I h=>wpAny_Constant_int ⟨.int i,H,I.tok _,⟨_,rfl⟩,h⟩
theorem pe_bl {b j pos}:PE X (.Constant (.bool b) j pos) (tC (.bl b)):=fun _ _ _ H _ I h=>Constant_bool ⟨.bl b,H,I,rfl,h⟩
theorem pe_non {j pos}:PE X (.Constant .none j pos) (tC .non):=fun _ _ _ H _ I h=>Constant_none ⟨.non,H,I,rfl,h⟩
theorem pe_str {x j pos}:PE X (.Constant (.str x) j pos) (tC (.str x)):=fun _ _ _ H _ I h=>Calls.Constant_str ⟨.str x,H,I.tok _,⟨_,rfl⟩,h⟩
def Gl (X:Cx) (x:Str):Prop:=X.env.kindOf x=some .globalImplicit
theorem ld_glob {E:Value→Shared→Prop} {pins:List (Addr×Obj)} {s:Shared} {σ:St} {H:Hp} {x:Str} {u:Value} {pos:Pos} {Q:Value→Shared→Prop} (I:Inv X pins σ H s) (hg:Gl X x) (hm:X.mg x=some u) (h:Q u s)
    (hd:(x == ("__debug__":Str))=false:=by decide):wpAny (model X.prog X.w) X.A (eval (.Name x pos) X.env) Q E s :=
  Calls.Name_function_global I.ok.kind hg (Calls.loadGlobal_global (by rw [I.ok.glob]; exact I.mod.glob.keeps I.bk) hm h) hd
theorem ld_blt {E:Value→Shared→Prop} {pins:List (Addr×Obj)} {s:Shared} {σ:St} {H:Hp} {x:Str} {u:Value} {pos:Pos} {Q:Value→Shared→Prop} (I:Inv X pins σ H s) (hg:Gl X x) (hm:X.mg x=none) (hv:bootBuiltins x=some u) (h:Q u s)
    (hn:x≠"__name__":=by decide) (hd:(x == ("__debug__":Str))=false:=by decide):wpAny (model X.prog X.w) X.A (eval (.Name x pos) X.env) Q E s:=by
  obtain ⟨mb,h1,h2⟩:=I.mod.blt
  exact Calls.Name_function_global I.ok.kind hg (Calls.loadGlobal_builtin (by rw [I.ok.glob]; exact I.mod.glob.keeps I.bk) hm (by rw [I.ok.blt]; exact h1.keeps I.bk) ((h2 x hn).trans hv) h) hd
theorem pe_glob {x:Str} {v:V} {u:Value} {pos:Pos} (hg:Gl X x) (hm:X.mg x=some u) (r:RelV v u) (hd:(x == ("__debug__":Str))=false:=by decide):PE X (.Name x pos) (tC v) :=
  fun _ _ _ H _ I h=>ld_glob I hg hm ⟨v,H,I,r,h⟩ hd
theorem pe_bltn {x:Str} {v:V} {u:Value} {pos:Pos} (hg:Gl X x) (hm:X.mg x=none) (hv:bootBuiltins x=some u) (r:RelV v u) (hn:x≠"__name__":=by decide) (hd:(x == ("__debug__":Str))=false:=by decide):PE X (.Name x pos) (tC v) :=
  fun _ _ _ H _ I h=>ld_blt I hg hm hv ⟨v,H,I,r,h⟩ hn hd
variable {a b:Expr} {ta tb:TE} {pos:Pos}
def PC (X:Cx) (op:CmpOp) (a b:Expr) (t:TE):Prop :=
  ∀ (pins:List (Addr×Obj)) (s:Shared) (σ:St) (H:Hp) (Q:VK),Inv X pins σ H s→t σ H Q →
    wpAny (model X.prog X.w) X.A (eval a X.env) (fun v s₁=>wpAny (model X.prog X.w) X.A (eval b X.env) (fun u s₂=>wpAny (model X.prog X.w) X.A (compareOp op v u) (EP X pins σ Q) X.xe s₂) X.xe s₁) X.xe s
def tB (t:TE):TT:=fun σ H Q=>t σ H fun x H1=>∃ c,x=.bl c∧Q c H1
theorem pt_cmp {op:CmpOp} {t:TE} (h:PC X op a b t) (h1:behindInMarks op b=false:=by first | exact nobehind _ (by decide) (by decide) | rfl):PT X (.Compare a [op] [b] pos) (tB t):=by
  intro pins s σ H Q I hw
  refine wpAny_isTrue_Compare1 (thn (h pins s σ H _ I hw) fun v s1 h1=>thn h1 fun u s2 h2=>thn h2 fun c s3 ⟨x,H1,I1,r1,q1⟩=>?_) h1
  obtain ⟨d,rfl,q⟩:=q1
  cases r1
  exact wpAny_truthy_bool ⟨H1,I1,q⟩
variable {tA tB':TT} {rest:List Expr}
def tAnd (t u:TT):TT:=fun σ H Q=>t σ H fun c H1=>if c=true then u σ H1 Q else Q false H1
def tOr (t u:TT):TT:=fun σ H Q=>t σ H fun c H1=>if c=true then Q true H1 else u σ H1 Q
def tNot (t:TT):TT:=fun σ H Q=>t σ H fun c H1=>Q (!c) H1
theorem pw_and1 (ha:PT X a tA):PW X (.BoolOp .And [a] pos) tA:=by
  intro wh pins s σ H Q I h
  refine isTrue_and (thn (ha pins s σ H Q I h) fun c s1 e=>?_)
  cases c with
  | true=>exact isTrue_and_nil e
  | false=>exact e
theorem pw_or1 (ha:PT X a tA):PW X (.BoolOp .Or [a] pos) tA:=by
  intro wh pins s σ H Q I h
  refine isTrue_or (thn (ha pins s σ H Q I h) fun c s1 e=>?_)
  cases c with
  | false=>exact isTrue_or_nil e
  | true=>exact e
theorem pw_and (ha:PT X a tA) (hb:PW X (.BoolOp .And (b :: rest) pos) tB'):PW X (.BoolOp .And (a :: b :: rest) pos) (tAnd tA tB'):=by
  intro wh pins s σ H Q I h
  refine isTrue_and (thn (ha pins s σ H _ I h) fun c s1 ⟨H1,I1,q1⟩=>?_)
  cases c with
  | true=>exact hb wh pins s1 σ H1 Q I1 q1
  | false=>exact ⟨H1,I1,q1⟩
theorem pw_or (ha:PT X a tA) (hb:PW X (.BoolOp .Or (b :: rest) pos) tB'):PW X (.BoolOp .Or (a :: b :: rest) pos) (tOr tA tB'):=by
  intro wh pins s σ H Q I h
  refine isTrue_or (thn (ha pins s σ H _ I h) fun c s1 ⟨H1,I1,q1⟩=>?_)
  cases c with
  | true=>exact ⟨H1,I1,q1⟩
  | false=>exact hb wh pins s1 σ H1 Q I1 q1
theorem pt_not (ha:PT X a tA):PT X (.UnaryOp .Not a pos) (tNot tA):=by
  intro pins s σ H Q I h
  exact isTrue_not (ha pins s σ H (fun c H1=>Q (!c) H1) I h)
def tAndV (ta tb:TE):TE:=fun σ H Q=>ta σ H fun x H1=>∃ c,x=.bl c∧if c=true then tb σ H1 Q else Q (.bl false) H1
def tOrV (ta tb:TE):TE:=fun σ H Q=>ta σ H fun x H1=>∃ c,x=.bl c∧if c=true then Q (.bl true) H1 else tb σ H1 Q
def tNotV (ta:TE):TE:=fun σ H Q=>ta σ H fun x H1=>∃ c,x=.bl c∧Q (.bl (!c)) H1
theorem pe_one {op} {t:TE} (h:PE X a t):PE X (.BoolOp op [a] pos) t:=fun pins s σ H Q I hw=>BoolOp_one (h pins s σ H Q I hw)
theorem pe_and (ha:PE X a ta) (hb:PE X (.BoolOp .And (b :: rest) pos) tb):PE X (.BoolOp .And (a :: b :: rest) pos) (tAndV ta tb):=by
  intro pins s σ H Q I h
  refine BoolOp_and (thn (ha pins s σ H _ I h) fun v s1 ⟨x,H1,I1,r1,q1⟩=>?_)
  obtain ⟨c,rfl,q1⟩:=q1
  cases r1
  refine wpAny_truthy_bool ?_
  cases c with
  | true=>exact hb pins s1 σ H1 Q I1 q1
  | false=>exact ⟨.bl false,H1,I1,rfl,q1⟩
theorem pe_or (ha:PE X a ta) (hb:PE X (.BoolOp .Or (b :: rest) pos) tb):PE X (.BoolOp .Or (a :: b :: rest) pos) (tOrV ta tb):=by
  intro pins s σ H Q I h
  refine BoolOp_or (thn (ha pins s σ H _ I h) fun v s1 ⟨x,H1,I1,r1,q1⟩=>?_)
  obtain ⟨c,rfl,q1⟩:=q1
  cases r1
  refine wpAny_truthy_bool ?_
  cases c with
  | false=>exact hb pins s1 σ H1 Q I1 q1
  | true=>exact ⟨.bl true,H1,I1,rfl,q1⟩
theorem pe_not (ha:PE X a ta):PE X (.UnaryOp .Not a pos) (tNotV ta):=by
  intro pins s σ H Q I h
  refine UnaryOp_ (thn (ha pins s σ H _ I h) fun v s1 ⟨x,H1,I1,r1,q1⟩=>?_)
  obtain ⟨c,rfl,q1⟩:=q1
  cases r1
  exact not_of (wpAny_truthy_bool ⟨.bl (!c),H1,I1,rfl,q1⟩)
def tIf (t:TT) (ta tb:TE):TE:=fun σ H Q=>t σ H fun c H1=>if c=true then ta σ H1 Q else tb σ H1 Q
theorem pe_ifExp {c:Expr} (hc:PT X c tA) (ha:PE X a ta) (hb:PE X b tb):PE X (.IfExp c a b pos) (tIf tA ta tb):=by
  intro pins s σ H Q I h
  refine wpAny_IfExp (thn (hc pins s σ H _ I h) fun d s1 ⟨H1,I1,q1⟩=>?_)
  cases d with
  | true=>exact ha pins s1 σ H1 Q I1 q1
  | false=>exact hb pins s1 σ H1 Q I1 q1
end
end L2
namespace L2
open PySem PySem.Spec PyProof.Rows
def SqL (K:PySem.W.Frag) (H:Hp) (a:Addr) (xs:List V):Prop :=
  Rd H a (.lst xs) ∨
    ∃ (o:Obj) (its:Array Value) (n:Nat),K.lookup a=some o∧o.cls=.type "list"∧o.dict=none∧o.data=.seq its n∧its.size≤sizeLine∧Vals xs its.toList
def SqT (K:PySem.W.Frag) (H:Hp) (a:Addr) (xs:List V):Prop :=
  Rd H a (.tup xs) ∨
    ∃ (o:Obj) (its:Array Value) (n:Nat),K.lookup a=some o∧o.cls=.type "tuple"∧o.data=.seq its n∧its.size≤sizeLine∧Vals xs its.toList
def absV:Value→Option V
  | .none=>some .non
  | .bool b=>some (.bl b)
  | .int i _=>some (.int i)
  | .str x _=>some (.str x)
  | .bytes b _=>some (.byt b)
  | .float b _=>some (.flt b)
  | .ref a=>some (.ref a)
  | .type n=>some (.ty n)
  | _=>none
theorem RelV.abs {x:V} {u:Value} (r:RelV x u):absV u=some x:=by
  cases x with
  | non=>cases r; rfl
  | bl _=>cases r; rfl
  | int _=>obtain ⟨t,rfl⟩:=r; rfl
  | str _=>obtain ⟨t,rfl⟩:=r; rfl
  | byt _=>obtain ⟨t,rfl⟩:=r; rfl
  | flt _=>obtain ⟨t,rfl⟩:=r; rfl
  | ref _=>cases r; rfl
  | ty _=>cases r; rfl
theorem RelV.inj {x y:V} {u:Value} (r:RelV x u) (q:RelV y u):x=y:=Option.some.inj (r.abs.symm.trans q.abs)
theorem Vals.inj:∀ {xs ys:List V} {us:List Value},Vals xs us→Vals ys us→xs=ys
  | _,_,_,.nil,.nil=>rfl
  | _,_,_,.cons r t,.cons r' t'=>by rw [r.inj r',Vals.inj t t']
section
variable {X:Cx} {pins:List (Addr×Obj)} {σ:St} {H:Hp} {s:Shared} {a:Addr} {xs ys:List V}
theorem SqL.of {K:PySem.W.Frag} (h:H a=some (.lst xs)):SqL K H a xs:=.inl (.inl h)
theorem SqT.of {K:PySem.W.Frag} (h:H a=some (.tup xs)):SqT K H a xs:=.inl (.inl h)
theorem Inv.list (I:Inv X pins σ H s) (h:SqL X.K H a xs):∃ its:List Value,Vals xs its∧PlainL s.heap a its.toArray∧xs.length≤sizeLine:=by
  rcases h with h | ⟨o,its,n,hk,hc,hd,hs,hz,r⟩
  · obtain ⟨z,its,n,r,e⟩:=h.ok I.hok
    exact ⟨its,r,⟨_,n,e,rfl,rfl,rfl⟩,z⟩
  · refine ⟨its.toList,r,⟨o,n,I.kIn a o hk,hc,hd,by simpa using hs⟩,?_⟩
    have e:=r.length
    simp only [Array.length_toList] at e
    omega
theorem Inv.tuple (I:Inv X pins σ H s) (h:SqT X.K H a xs):∃ its:List Value,Vals xs its∧IsTup s.heap a its.toArray∧xs.length≤sizeLine:=by
  rcases h with h | ⟨o,its,n,hk,hc,hs,hz,r⟩
  · obtain ⟨z,its,r,p⟩:=h.ok I.hok
    exact ⟨its,r,p,z⟩
  · refine ⟨its.toList,r,⟨o,I.kIn a o hk,hc,n,by simpa using hs⟩,?_⟩
    have e:=r.length
    simp only [Array.length_toList] at e
    omega
theorem Inv.list_inj (I:Inv X pins σ H s) (h:SqL X.K H a xs) (h':SqL X.K H a ys):xs=ys:=by
  obtain ⟨its,r,⟨o,n,e,_,_,d⟩,_⟩:=I.list h
  obtain ⟨its',r',⟨o',n',e',_,_,d'⟩,_⟩:=I.list h'
  rw [e] at e'; cases e'
  rw [d] at d'
  injection d' with d1 _
  have:its=its':=by simpa using congrArg Array.toList d1
  subst this
  exact r.inj r'
theorem Inv.tuple_inj (I:Inv X pins σ H s) (h:SqT X.K H a xs) (h':SqT X.K H a ys):xs=ys:=by
  obtain ⟨its,r,⟨o,e,_,n,d⟩,_⟩:=I.tuple h
  obtain ⟨its',r',⟨o',e',_,n',d'⟩,_⟩:=I.tuple h'
  rw [e] at e'; cases e'
  rw [d] at d'
  injection d' with d1 _
  have:its=its':=by simpa using congrArg Array.toList d1
  subst this
  exact r.inj r'
end
abbrev Cx.wish (X:Cx) (E:Value→Shared→Prop):Cx:={ X with xe:=E }
abbrev Cx.nox (X:Cx):Cx:=X.wish fun _ _=>False
theorem Cx.Ok.wish {X:Cx} (ok:X.Ok) (E:Value→Shared→Prop):(X.wish E).Ok :=
  ⟨ok.mod,ok.kind,ok.glob,ok.blt,ok.above,ok.inj,ok.has,ok.cab,ok.hd,ok.frames,ok.stk,ok.exf,ok.bs,ok.bsz,ok.noex,ok.exfs,ok.funs,ok.frf⟩
theorem Cx.Ok.unwish {X:Cx} {E:Value→Shared→Prop} (ok:(X.wish E).Ok):X.Ok :=
  ⟨ok.mod,ok.kind,ok.glob,ok.blt,ok.above,ok.inj,ok.has,ok.cab,ok.hd,ok.frames,ok.stk,ok.exf,ok.bs,ok.bsz,ok.noex,ok.exfs,ok.funs,ok.frf⟩
section
variable {X:Cx} {pins:List (Addr×Obj)} {σ:St} {H:Hp} {s:Shared} {E:Value→Shared→Prop}
theorem Inv.wish (I:Inv X pins σ H s) (E:Value→Shared→Prop):Inv (X.wish E) pins σ H s:=⟨I.ok.wish E,I.os,I.bare,I.base,I.loc,I.cell,I.free,I.freeC,I.pin,I.hok,I.len⟩
theorem Inv.unwish (I:Inv (X.wish E) pins σ H s):Inv X pins σ H s:=⟨I.ok.unwish,I.os,I.bare,I.base,I.loc,I.cell,I.free,I.freeC,I.pin,I.hok,I.len⟩
theorem SP.unwish {D:Ends} {f:Flow} {s':Shared} (h:SP (X.wish E) pins D f s'):SP X pins D f s':=by
  cases f with
  | next=>obtain ⟨σ',H',I,q⟩:=h; exact ⟨σ',H',I.unwish,q⟩
  | brk=>obtain ⟨σ',H',I,q⟩:=h; exact ⟨σ',H',I.unwish,q⟩
  | cont=>obtain ⟨σ',H',I,q⟩:=h; exact ⟨σ',H',I.unwish,q⟩
  | ret u=>obtain ⟨v,σ',H',I,r,q⟩:=h; exact ⟨v,σ',H',I.unwish,r,q⟩
theorem PSs.nox {st:List Stmt} {t:TS} (h:PSs X.nox st t):PSs X st t:=fun pins s σ H D I hw =>
  wpAny_mono (h pins s σ H D (I.wish _) hw) (fun _ _ q=>q.unwish) fun _ _ z=>False.elim z
end
section
variable {X:Cx} {st:Stmt} {rest:List Stmt} {t u:TS} {e:Expr} {te:TE} {pos:Pos}
def tNext:TS:=fun D σ H=>D.nx σ H
def tSeq (t u:TS):TS:=fun D σ H=>t { D with nx:=u D } σ H
theorem pss_nil:PSs X [] tNext:=fun _ _ σ H _ I h=>wpAny_execs_nil ⟨σ,H,I,h⟩
theorem pss_cons (h1:PS X st t) (h2:PSs X rest u):PSs X (st :: rest) (tSeq t u):=by
  intro pins s σ H D I h
  refine wpAny_execs_cons (thn (h1 pins s σ H { D with nx:=u D } I h) fun f s1 q=>?_)
  cases f with
  | next =>
    obtain ⟨σ',H',I',q⟩:=q
    exact h2 pins s1 σ' H' D I' q
  | ret v=>exact q
  | brk=>exact q
  | cont=>exact q
theorem pss_one (h1:PS X st t):PSs X [st] t:=by
  intro pins s σ H D I h
  refine wpAny_execs_cons (thn (h1 pins s σ H D I h) fun f s1 q=>?_)
  cases f with
  | next=>exact wpAny_execs_nil q
  | ret v=>exact q
  | brk=>exact q
  | cont=>exact q
theorem Inv.quiet {pins:List (Addr×Obj)} {σ:St} {H:Hp} {s:Shared} (I:Inv X pins σ H s):interactive X.env=false:=by simp [interactive,I.ok.kind]
def tDrop (te:TE):TS:=fun D σ H=>te σ H fun _ H1=>D.nx σ H1
theorem ps_expr (he:PE X e te) (hs:swapsWith e none pos.line X.env=pure false:=by rfl):PS X (.Expr e pos) (tDrop te):=by
  intro pins s σ H D I h
  exact wpAny_Expr_any (thn (he pins s σ H _ I h) fun v s1 ⟨x,H1,I1,r1,q1⟩=>⟨σ,H1,I1,q1⟩) I.quiet hs
def tRet (te:TE):TS:=fun D σ H=>te σ H D.rt
theorem ps_ret (he:PE X e te):PS X (.Return (some e) pos) (tRet te):=by
  intro pins s σ H D I h
  exact wpAny_Return_some (thn (he pins s σ H _ I h) fun v s1 ⟨x,H1,I1,r1,q1⟩=>⟨x,σ,H1,I1,r1,q1⟩)
def tIfS (c:TT) (t u:TS):TS:=fun D σ H=>c σ H fun b H1=>if b=true then t D σ H1 else u D σ H1
theorem ps_if {c:Expr} {a b:List Stmt} {tc:TT} (hc:PT X c tc) (ha:PSs X a t) (hb:PSs X b u):PS X (.If c a b pos) (tIfS tc t u):=by
  intro pins s σ H D I h
  refine wpAny_If (thn (hc pins s σ H _ I h) fun d s1 ⟨H1,I1,q1⟩=>?_)
  cases d with
  | true=>exact ha pins s1 σ H1 D I1 q1
  | false=>exact hb pins s1 σ H1 D I1 q1
end
abbrev TG:=V→St→Hp→(St→Hp→Prop)→Prop
abbrev TGs:=List V→St→Hp→(St→Hp→Prop)→Prop
def PG (X:Cx) (target:Expr) (t:TG):Prop :=
  ∀ (pins:List (Addr×Obj)) (s:Shared) (σ:St) (H:Hp) (v:V) (u:Value) (Q:St→Hp→Prop),Inv X pins σ H s→RelV v u→t v σ H Q →
    wpAny (model X.prog X.w) X.A (assign target X.env u) (fun _ s'=>∃ σ' H',Inv X pins σ' H' s'∧Q σ' H') X.xe s
def PGs (X:Cx) (ts:List Expr) (t:TGs):Prop :=
  ∀ (pins:List (Addr×Obj)) (s:Shared) (σ:St) (H:Hp) (vs:List V) (us:List Value) (Q:St→Hp→Prop),Inv X pins σ H s→Vals vs us→t vs σ H Q →
    wpAny (model X.prog X.w) X.A (assignInOrder ((assignEach ts X.env).map (·.2)) us) (fun _ s'=>∃ σ' H',Inv X pins σ' H' s'∧Q σ' H') X.xe s
abbrev TSet:=V→V→V→Hp→(Hp→Prop)→Prop
def PSet (X:Cx) (t:TSet):Prop :=
  ∀ (pins:List (Addr×Obj)) (s:Shared) (σ:St) (H:Hp) (o i v:V) (ov iv u:Value) (Q:Hp→Prop),Inv X pins σ H s→RelV o ov→RelV i iv→RelV v u→t o i v H Q →
    wpAny (model X.prog X.w) X.A (setItem ov iv u) (fun _ s'=>∃ H',Inv X pins σ H' s'∧Q H') X.xe s
abbrev TIp:=V→V→Hp→VK→Prop
def PIp (X:Cx) (op:Operator) (t:TIp):Prop :=
  ∀ (pins:List (Addr×Obj)) (s:Shared) (σ:St) (H:Hp) (x y:V) (v u:Value) (Q:VK),Inv X pins σ H s→RelV x v→RelV y u→t x y H Q →
    wpAny (model X.prog X.w) X.A (inplaceOp op v u) (EP X pins σ Q) X.xe s
section
variable {X:Cx} {pos:Pos}
def gName (i:Nat):TG:=fun v σ H Q=>Q (σ.set i (some v)) H
theorem pg_name {i:Nat} {x:Str} (hN:X.N.Nodup) (hi:X.N[i]?=some x) (hx:Loc X.env.scope x) (hf:X.fn x=true∨X.env.scope.names.lookup x=some .local:=by first | exact .inl rfl | exact .inr rfl | assumption):PG X (.Name x pos) (gName i):=by
  intro pins s σ H v u Q I r h
  exact wpAny_assign_Name (store_ok I hN hi hx r (fun s' I'=>⟨_,H,I',h⟩) hf)
def gNil:TGs:=fun vs σ H Q=>vs=[]∧Q σ H
def gCons (t:TG) (u:TGs):TGs:=fun vs σ H Q=>∃ v r,vs=v :: r∧t v σ H fun σ' H'=>u r σ' H' Q
theorem pgs_nil:PGs X [] gNil:=by
  intro pins s σ H vs us Q I r h
  obtain ⟨e,h⟩:=h
  subst e
  cases r
  exact assignInOrder_nil ⟨σ,H,I,h⟩
theorem pgs_cons {e:Expr} {es:List Expr} {t:TG} {u:TGs} (h1:PG X e t) (h2:PGs X es u)
    (hs:(assignEach (e :: es) X.env).map (·.2)=assign e X.env :: (assignEach es X.env).map (·.2):=by rfl):PGs X (e :: es) (gCons t u):=by
  intro pins s σ H vs us Q I r h
  obtain ⟨v,vr,e1,h⟩:=h
  subst e1
  cases r with
  | cons r rr =>
    rw [hs]
    refine assignInOrder_cons (thn (h1 pins s σ H _ _ _ I r h) fun _ s1 ⟨σ1,H1,I1,q1⟩=>?_)
    exact h2 pins s1 σ1 H1 _ _ Q I1 rr q1
def gTup (K:PySem.W.Frag) (n:Nat) (t:TGs):TG:=fun v σ H Q=>∃ a xs,v=.ref a∧SqT K H a xs∧xs.length=n∧t xs σ H Q
theorem pg_tup {es:List Expr} {k:Nat} {t:TGs} {n:Nat} (hc:X.calm=true) (h:PGs X es t)
    (hn:(assignEach es X.env).length=n:=by rfl) (hst:(assignEach es X.env).findIdx? (·.1)=none:=by rfl):PG X (.Tuple es k pos) (gTup X.K n t):=by
  intro pins s σ H v u Q I r hw
  obtain ⟨a,xs,e1,hq,hl,hw⟩:=hw
  subst e1
  cases r
  obtain ⟨its,rv,ht,hz⟩:=I.tuple hq
  refine assign_Tuple_tuple (I.ok.hd hc) ht (by simp [hn,← hl,rv.length]) hst fun h' hx=>?_
  have I1:Inv X pins σ H { s with heap:=h' }:=I.kept (t':=s.toks) fun b o e=>hx b o (Nat.ne_of_lt (Heap.lt_size e)) e
  exact h pins _ σ H xs _ Q I1 (by simpa using rv) hw
def gSub (to ti:TE) (t:TSet):TG:=fun v σ H Q=>to σ H fun o H1=>ti σ H1 fun i H2=>t o i v H2 fun H3=>Q σ H3
theorem pg_sub {o i:Expr} {to ti:TE} {t:TSet} (ho:PE X o to) (hi:PE X i ti) (hs:PSet X t)
    (ha:∀ v,assign (.Subscript o i pos) X.env v=(do
      let ov ← holding [v] (eval o X.env)
      let iv ← holding [v,ov] (eval i X.env)
      standAt pos
      holding [v,ov,iv] (setItem ov iv v)
      release [v,ov,iv] []):=by intro _; rfl):PG X (.Subscript o i pos) (gSub to ti t):=by
  intro pins s σ H v u Q I r h
  rw [ha]
  refine wpAny_bind (wpAny_holding (thn (ho pins s σ H _ I h) fun ov s1 ⟨x,H1,I1,r1,q1⟩=>?_))
  refine wpAny_bind (wpAny_holding (thn (hi pins s1 σ H1 _ I1 q1) fun iv s2 ⟨y,H2,I2,r2,q2⟩=>?_))
  refine wpAny_bind (wpAny_standAt (wpAny_bind (wpAny_holding (thn (hs pins s2 σ H2 x y v ov iv u _ I2 r1 r2 r q2) fun _ s3 ⟨H3,I3,q3⟩=>?_))))
  exact wpAny_release ⟨σ,H3,I3,q3⟩
def tAsg (te:TE) (g:TG):TS:=fun D σ H=>te σ H fun x H1=>g x σ H1 D.nx
theorem ps_asg {tg e:Expr} {te:TE} {g:TG} (he:PE X e te) (hg:PG X tg g) (hs:swapsWithSole [tg] e pos.line X.env=pure false:=by rfl) (hw:swappedStores [tg] e X.env=pure none:=by rfl)
    (h1:(assignEach [tg] X.env).map (·.2)=[assign tg X.env]:=by rfl):PS X (.Assign [tg] e pos) (tAsg te g):=by
  intro pins s σ H D I h
  refine wpAny_Assign_stores (thn (he pins s σ H _ I h) fun v s1 ⟨x,H1,I1,r1,q1⟩=>?_) hs hw
  rw [h1]
  exact thn (hg pins s1 σ H1 x v _ I1 r1 q1) fun _ s2 q=>q
theorem ps_set {i:Nat} {x:Str} {e:Expr} {te:TE} {pos':Pos} (hN:X.N.Nodup) (hi:X.N[i]?=some x) (hx:Loc X.env.scope x) (he:PE X e te) (hs:swapsWith e (some (.Name x pos')) pos.line X.env=pure false:=by rfl) (hf:X.fn x=true∨X.env.scope.names.lookup x=some .local:=by first | exact .inl rfl | exact .inr rfl | assumption) :
    PS X (.Assign [.Name x pos'] e pos) (tAsg te (gName i)):=by
  intro pins s σ H D I h
  refine wpAny_Assign_Name (thn (he pins s σ H _ I h) fun v s1 ⟨y,H1,I1,r1,q1⟩=>?_) hs
  exact store_ok I1 hN hi hx r1 (fun s2 I2=>⟨_,H1,I2,q1⟩) hf
def tAug (i:Nat) (te:TE) (ti:TIp):TS:=fun D σ H=>∃ x,σ[i]?=some (some x)∧te σ H fun y H1=>ti x y H1 fun z H2=>D.nx (σ.set i (some z)) H2
theorem ps_aug {i:Nat} {x:Str} {e:Expr} {te:TE} {op:Operator} {ti:TIp} {pos':Pos} (hN:X.N.Nodup) (hi:X.N[i]?=some x) (hx:Loc X.env.scope x) (he:PE X e te) (ho:PIp X op ti) (hf:X.fn x=true∨X.env.scope.names.lookup x=some .local:=by first | exact .inl rfl | exact .inr rfl | assumption) :
    PS X (.AugAssign (.Name x pos') op e pos) (tAug i te ti):=by
  intro pins s σ H D I h
  obtain ⟨v,e1,h⟩:=h
  obtain ⟨m,hn,hl⟩:=I.loc
  have vis:Vis X.env.scope x:=by rcases hx with k | k; exact .inl k; exact .inr (.inl k)
  obtain ⟨u,r,l⟩:=hl i x v hi e1 vis
  refine wpAny_AugAssign_Name ?_
  have go:wpAny (model X.prog X.w) X.A (eval e X.env) (fun w s₂=>wpAny (model X.prog X.w) X.A (inplaceOp op u w) (fun r s₃=>wpAny (model X.prog X.w) X.A (storeName X.env x r) (fun _=>SP X pins D .next) X.xe s₃) X.xe s₂) X.xe s:=by
    refine thn (he pins s σ H _ I h) fun w s1 ⟨y,H1,I1,r1,q1⟩=>?_
    refine thn (ho pins s1 σ H1 v y u w _ I1 r r1 q1) fun z s2 ⟨zv,H2,I2,r2,q2⟩=>?_
    exact store_ok I2 hN hi hx r2 (fun s3 I3=>⟨_,H2,I3,q2⟩) hf
  rcases l with ⟨hk,hm⟩ | ⟨hk,c,hc,hcell⟩
  · exact wpAny_loadName_local I.ok.kind hk hn hm go
  · rcases hk with hk | hk
    · exact wpAny_loadName_cell I.ok.kind hk hc hcell go
    · rcases hx with k | k
      · have:X.env.scope.names.lookup x=some .free:=hk
        rw [k] at this; cases this
      · have:X.env.scope.names.lookup x=some .free:=hk
        rw [k] at this; cases this
def ipI (f:Int→Int→Int):TIp:=fun x y H Q=>∃ i j,x=.int i∧y=.int j∧Q (.int (f i j)) H
theorem ip_add:PIp X .Add (ipI fun i j=>i + j):=by
  intro pins s σ H x y v u Q I r1 r2 h
  obtain ⟨i,j,e1,e2,q⟩:=h
  subst e1; subst e2
  obtain ⟨t,rfl⟩:=r1
  obtain ⟨t',rfl⟩:=r2
  exact iadd_int ⟨.int _,H,I.tok _,⟨_,rfl⟩,q⟩
end
section
variable {X:Cx} {pos:Pos}
def tWhile (c:TT) (tb:TS):TS:=fun D σ H=>∃ W:Nat→St→Hp→Prop,(∃ m,W m σ H)∧∀ m σ H,W m σ H →
  c σ H fun b H1=>if b=true then ∃ N:St→Hp→Prop,(∀ σ' H',N σ' H'→∃ m',m' < m∧W m' σ' H')∧tb { D with nx:=N,ct:=N,bk:=D.nx } σ H1 else D.nx σ H1
theorem ps_while {c:Expr} {body:List Stmt} {tc:TT} {tb:TS} (hp:PassesOwn (model X.prog X.w) X.A X.env X.xe) (hc:PT X c tc) (hb:PSs X body tb):PS X (.While c body [] pos) (tWhile tc tb):=by
  intro pins s σ H D I h
  obtain ⟨W,⟨m0,w0⟩,turn⟩:=h
  refine wpAny_While (codeAny_whileLoop (fun n s'=>∃ σ' H',Inv X pins σ' H' s'∧W n σ' H') ?_ m0 ⟨σ,H,I,w0⟩)
  rintro n s1 ⟨σ1,H1,I1,w1⟩
  refine wpAny_passesOwn hp (thn (hc pins s1 σ1 H1 _ I1 (turn n σ1 H1 w1)) fun b s2 ⟨H2,I2,q2⟩=>?_)
  cases b with
  | true =>
    obtain ⟨N,hN,q2⟩:=q2
    rw [if_pos rfl]
    refine wpAny_passesOwn hp (thn (hb pins s2 σ1 H2 _ I2 q2) fun f s3 q3=>?_)
    cases f with
    | next =>
      obtain ⟨σ3,H3,I3,n3⟩:=q3
      obtain ⟨m',hm,w3⟩:=hN σ3 H3 n3
      exact ⟨m',hm,σ3,H3,I3,w3⟩
    | cont =>
      obtain ⟨σ3,H3,I3,n3⟩:=q3
      obtain ⟨m',hm,w3⟩:=hN σ3 H3 n3
      exact ⟨m',hm,σ3,H3,I3,w3⟩
    | brk=>exact q3
    | ret v=>exact q3
  | false =>
    rw [if_neg Bool.false_ne_true]
    exact wpAny_execs_nil ⟨σ1,H2,I2,q2⟩
end
structure It where
  go:Nat→Hp→Prop
  yld:Nat→Hp→V→Hp→Prop
  stop:Nat→Hp→Prop
def FpOk (X:Cx) (pins:List (Addr×Obj)) (H:Hp) (b:Addr):Prop :=
  H b=none∧b≠X.env.locals∧b ∉ X.fs∧(b∈X.ex∨X.s₀.heap.objs.size≤b)∧(∀ x c,X.env.cells.lookup x=some c→c≠b)∧∀ p∈X.pn ++ pins,p.1≠b
theorem Inv.fpOk {X:Cx} {pins:List (Addr×Obj)} {σ:St} {H H':Hp} {s:Shared} {b:Addr} (I:Inv X pins σ H s) (hb:s.heap.objs.size≤b) (hn:H' b=none):FpOk X pins H' b:=by
  refine ⟨hn,Nat.ne_of_gt (Nat.lt_of_lt_of_le I.lt hb),I.nofs hb,.inr (Nat.le_trans I.sz hb),fun x c e z=>?_,fun p hp z=>?_⟩
  · obtain ⟨v,q⟩:=I.cell x c e
    exact absurd (Nat.lt_of_lt_of_le q.lt (by rw [z]; exact hb)) (Nat.lt_irrefl _)
  · exact absurd (Nat.lt_of_lt_of_le (Heap.lt_size (I.pin p hp).1) (by rw [z]; exact hb)) (Nat.lt_irrefl _)
structure Turn (P:Program) (w:World) (K:PySem.W.Frag) (tg:Expr) (J:It) (fp:List Addr) (it:Addr) (tn:Nat→Heap→Prop):Prop where
  mem:it∈fp
  obj:∀ i h,tn i h→∀ b∈fp,∃ o,h.get? b=some o∧∀ v,o.data≠.cell v
  keep:∀ i h h',tn i h→(∀ b∈fp,∀ o,h.get? b=some o→h'.get? b=some o)→tn i h'
  item:∀ (X:Cx),X.prog=P→X.w=w→X.K=K→X.calm=true→∀ (i:Nat) (pins:List (Addr×Obj)) (s:Shared) (σ:St) (H:Hp) (E:Value→Shared→Prop),Inv X pins σ H s→(∀ b∈fp,FpOk X pins H b)→tn i s.heap→J.go i H →
    wpAny (model P w) X.A (pyNext (.ref it)) (fun r s1=>∃ u,r=some u ∧
      wpAny (model P w) X.A (letOwnedTupleGo tg (.ref it) u) (fun _ s2=>∃ x H',Inv X pins σ H' s2∧RelV x u∧J.yld i H x H'∧tn (i + 1) s2.heap∧∀ b∈fp,H' b=none) E s1) E s
  done:∀ (X:Cx),X.prog=P→X.w=w→X.K=K→X.calm=true→∀ (i:Nat) (pins:List (Addr×Obj)) (s:Shared) (σ:St) (H:Hp) (E:Value→Shared→Prop),Inv X pins σ H s→(∀ b∈fp,FpOk X pins H b)→tn i s.heap→J.stop i H →
    wpAny (model P w) X.A (pyNext (.ref it)) (fun r s1=>r=none∧Inv X pins σ H s1) E s
  self:∀ (A:Around) (i:Nat) (s:Shared) (Q:Value→Shared→Prop) (E:Value→Shared→Prop),tn i s.heap→Q (.ref it) s→wpAny (model P w) A (pyIter (.ref it)) Q E s
abbrev TI:=St→Hp→(It→Hp→Prop)→Prop
def PIE (X:Cx) (pins:List (Addr×Obj)) (σ:St) (tg:Expr) (R:It→Hp→Prop) (itv:Value) (s2:Shared):Prop :=
  ∃ (it:Addr) (fp:List Addr) (tn:Nat→Heap→Prop) (J:It) (H':Hp),itv=.ref it∧Inv X pins σ H' s2∧Turn X.prog X.w X.K tg J fp it tn∧tn 0 s2.heap∧(∀ b∈fp,FpOk X pins H' b)∧R J H'
def PI (X:Cx) (tg iter:Expr) (wi:TI):Prop :=
  ∀ (pins:List (Addr×Obj)) (s:Shared) (σ:St) (H:Hp) (R:It→Hp→Prop),Inv X pins σ H s→wi σ H R →
    wpAny (model X.prog X.w) X.A (eval iter X.env) (fun v s1=>wpAny (model X.prog X.w) X.A (pyIter v) (PIE X pins σ tg R) X.xe s1) X.xe s
theorem go_of {M:Model} {A:Around} {E:Value→Shared→Prop} {s:Shared} {tg:Expr} {it:Addr} {u:Value} {o:Obj} {n:String} {vs:Array Value} {Q:Unit→Shared→Prop} (ho:s.heap.get? it=some o) (hc:o.cls=.type n) (hd:o.data=.fields vs)
    (hn:["enumerate","zip","dict_itemiterator","dict_reverseitemiterator","odict_iterator","itertools.zip_longest","itertools.pairwise"].contains n=false) (hQ:Q () s):wpAny M A (letOwnedTupleGo tg (.ref it) u) Q E s:=by
  unfold letOwnedTupleGo
  cases tg <;> first
    | exact wpAny_pure hQ
    | (cases u <;> first
        | exact wpAny_pure hQ
        | (refine wpAny_bind (wpAny_load ho ?_)
           rw [hc,hd]
           show wpAny M A (if (["enumerate","zip","dict_itemiterator","dict_reverseitemiterator","odict_iterator","itertools.zip_longest","itertools.pairwise"].contains n && vs[0]? == some (rawInt _))=true then _ else _) Q E s
           rw [if_neg (by intro h; rw [hn,Bool.false_and] at h; cases h)]
           exact wpAny_pure hQ))
def Itl (K:PySem.W.Frag) (a:Addr):It :=
  ⟨fun i H=>∃ xs x,SqL K H a xs∧xs[i]?=some x,fun i H x H'=>H'=H∧∀ xs,SqL K H a xs→xs[i]?=some x,fun i H=>∃ xs,SqL K H a xs∧xs.length≤i⟩
def Itt (K:PySem.W.Frag) (a:Addr):It :=
  ⟨fun i H=>∃ xs x,SqT K H a xs∧xs[i]?=some x,fun i H x H'=>H'=H∧∀ xs,SqT K H a xs→xs[i]?=some x,fun i H=>∃ xs,SqT K H a xs∧xs.length≤i⟩
def Itr (lo:Int) (n:Nat):It:=⟨fun i _=>i < n,fun i H x H'=>H'=H∧x=.int (lo + i),fun i _=>n≤i⟩
theorem turn_list {P:Program} {w:World} {K:PySem.W.Frag} {tg:Expr} (a it:Addr):Turn P w K tg (Itl K a) [it] it (fun i h=>h.IsListIter it a i) where
  mem:=by simp
  obj:=fun i h st b hb=>by
    have e:b=it:=by simpa using hb
    subst e
    obtain ⟨o,e,c,d⟩:=st
    exact ⟨o,e,fun v z=>by rw [d] at z; cases z⟩
  keep:=fun i h h' st k=>st.at fun o e=>k it (by simp) o e
  item:=by
    intro X hP hw hK hc i pins s σ H E I hf st hg
    subst hP hw hK
    obtain ⟨xs,x,hq,hx⟩:=hg
    obtain ⟨its,rv,p,hz⟩:=I.list hq
    obtain ⟨u,hu,ru⟩:=rv.get hx
    obtain ⟨f0,f1,f2,f3,f4,f5⟩:=hf it (by simp)
    refine wpAny_pyNext_list_item st p.isList (x:=u) (by simpa using hu) fun h' st' sb=>?_
    have I1:Inv X pins σ H { s with heap:=h' }:=I.turned (t':=s.toks) (fun b o hb e=>(sb.2 b hb).trans e) f0 f1 f3 f4 f5
    obtain ⟨o,e,c,d⟩:=id st'
    exact ⟨u,rfl,go_of (s:={ s with heap:=h' }) e c d (by decide) ⟨x,H,I1,ru,⟨rfl,fun ys hy=>by rw [I.list_inj hy hq]; exact hx⟩,st',fun b hb=>(hf b hb).1⟩⟩
  done:=by
    intro X hP hw hK hc i pins s σ H E I hf st hg
    subst hP hw hK
    obtain ⟨xs,hq,hx⟩:=hg
    obtain ⟨its,rv,p,hz⟩:=I.list hq
    obtain ⟨f0,f1,f2,f3,f4,f5⟩:=hf it (by simp)
    have hl:=rv.length
    exact wpAny_pyNext_list_end (I.ok.hd hc) st p.isList (by simp; omega) fun h' eb=>⟨rfl,I.turned (t':=s.toks) (fun b o hb e=>eb b o hb e) f0 f1 f3 f4 f5⟩
  self:=fun _ _ _ _ _ st h=>wpAny_pyIter_listiter st h
theorem turn_tuple {P:Program} {w:World} {K:PySem.W.Frag} {tg:Expr} (a it:Addr):Turn P w K tg (Itt K a) [it] it (fun i h=>h.IsTupleIter it a i) where
  mem:=by simp
  obj:=fun i h st b hb=>by
    have e:b=it:=by simpa using hb
    subst e
    obtain ⟨o,e,c,d⟩:=st
    exact ⟨o,e,fun v z=>by rw [d] at z; cases z⟩
  keep:=fun i h h' st k=>st.at fun o e=>k it (by simp) o e
  item:=by
    intro X hP hw hK hc i pins s σ H E I hf st hg
    subst hP hw hK
    obtain ⟨xs,x,hq,hx⟩:=hg
    obtain ⟨its,rv,p,hz⟩:=I.tuple hq
    obtain ⟨u,hu,ru⟩:=rv.get hx
    obtain ⟨f0,f1,f2,f3,f4,f5⟩:=hf it (by simp)
    refine wpAny_pyNext_tuple_item st (show s.heap.IsTuple a its.toArray from p) (x:=u) (by simpa using hu) fun h' st' sb=>?_
    have I1:Inv X pins σ H { s with heap:=h' }:=I.turned (t':=s.toks) (fun b o hb e=>(sb.2 b hb).trans e) f0 f1 f3 f4 f5
    obtain ⟨o,e,c,d⟩:=id st'
    exact ⟨u,rfl,go_of (s:={ s with heap:=h' }) e c d (by decide) ⟨x,H,I1,ru,⟨rfl,fun ys hy=>by rw [I.tuple_inj hy hq]; exact hx⟩,st',fun b hb=>(hf b hb).1⟩⟩
  done:=by
    intro X hP hw hK hc i pins s σ H E I hf st hg
    subst hP hw hK
    obtain ⟨xs,hq,hx⟩:=hg
    obtain ⟨its,rv,p,hz⟩:=I.tuple hq
    obtain ⟨f0,f1,f2,f3,f4,f5⟩:=hf it (by simp)
    have hl:=rv.length
    exact wpAny_pyNext_tuple_end (I.ok.hd hc) st (show s.heap.IsTuple a its.toArray from p) (by simp; omega) fun h' eb=>⟨rfl,I.turned (t':=s.toks) (fun b o hb e=>eb b o hb e) f0 f1 f3 f4 f5⟩
  self:=fun _ _ _ _ _ st h=>wpAny_pyIter_tupleiter st h
theorem turn_range {P:Program} {w:World} {K:PySem.W.Frag} {tg:Expr} (it:Addr) (lo:Int) (n:Nat):Turn P w K tg (Itr lo n) [it] it (fun i h=>IsRangeIter h it (lo + (i:Nat) * 1) ((n:Int) - (i:Nat)) 1) where
  mem:=by simp
  obj:=fun i h st b hb=>by
    have e:b=it:=by simpa using hb
    subst e
    exact ⟨_,st,fun v z=>by
      have z':Data.fields _=Data.cell v:=z
      cases z'⟩
  keep:=fun i h h' st k=>k it (by simp) _ st
  item:=by
    intro X hP hw hK hc i pins s σ H E I hf st hg
    subst hP hw hK
    obtain ⟨f0,f1,f2,f3,f4,f5⟩:=hf it (by simp)
    have W:=Walks.range (prog:=X.prog) (w:=X.w) (I.ok.hd hc) it lo 1 n
    refine W.item i s _ _ hg st fun v h' tk hv st' kk=>?_
    obtain ⟨t,rfl⟩:=hv
    have I1:Inv X pins σ H { s with heap:=h',toks:=tk }:=I.turned (fun b o hb e=>kk b o (by simpa using hb) e) f0 f1 f3 f4 f5
    refine ⟨_,rfl,go_of (s:={ s with heap:=h',toks:=tk }) (n:="range_iterator") st' rfl rfl (by decide) ⟨.int (lo + i),H,I1,⟨t,?_⟩,⟨rfl,rfl⟩,st',fun b hb=>(hf b hb).1⟩⟩
    rw [Int.mul_one]
  done:=by
    intro X hP hw hK hc i pins s σ H E I hf st hg
    subst hP hw hK
    obtain ⟨f0,f1,f2,f3,f4,f5⟩:=hf it (by simp)
    exact wpAny_pyNext_range_end (I.ok.hd hc) st (by have:n≤i:=hg; omega) fun h' eb=>⟨rfl,I.turned (t':=s.toks) (fun b o hb e=>eb b o hb e) f0 f1 f3 f4 f5⟩
  self:=fun _ _ _ _ _ st h=>wpAny_pyIter_rangeiter st h
end L2
namespace L2
open PySem PySem.Spec PyProof.Rows
section
variable {X:Cx} {tg:Expr}
theorem range_it {pins:List (Addr×Obj)} {σ:St} {H:Hp} {s:Shared} {R:It→Hp→Prop} {E:Value→Shared→Prop} {lo hi:Int} {t u v:Tok} {tk:Nat} (I:Inv X pins σ H s) (h1:-(2 ^ 62)≤lo) (h2:lo < 2 ^ 62) (h3:-(2 ^ 62)≤hi) (h4:hi < 2 ^ 62)
    (q:R (Itr lo (hi - lo).toNat) H):wpAny (model X.prog X.w) X.A (pyIter (.ref s.heap.objs.size)) (PIE X pins σ tg R) E { s with heap:=s.heap.push { cls:=.type "range",data:=.fields #[.int lo t,.int hi u,.int 1 v] },toks:=tk }:=by
  refine wpAny_pyIter_range (IsRange.new ..) (small_one h1 h2 h3 h4) ?_
  have I1:Inv X pins σ H { s with heap:=s.heap.push { cls:=.type "range",data:=.fields #[.int lo t,.int hi u,.int 1 v] },toks:=tk }:=I.kept fun b o e=>Heap.get?_push_of_some _ e
  refine ⟨(s.heap.push { cls:=.type "range",data:=.fields #[.int lo t,.int hi u,.int 1 v] }).objs.size,[(s.heap.push { cls:=.type "range",data:=.fields #[.int lo t,.int hi u,.int 1 v] }).objs.size],_,_,H,rfl,
    I1.kept (t':=tk) fun b o e=>Heap.get?_push_of_some _ e,turn_range _ lo (hi - lo).toNat,?_,fun b hb=>?_,q⟩
  · have e1:lo + ((0:Nat):Int) * 1=lo:=by simp
    have e2:(((hi - lo).toNat:Nat):Int) - ((0:Nat):Int)=Builtin.Range.rangeSize lo hi 1:=by rw [rangeSize_one]; split <;> omega
    show IsRangeIter _ _ (lo + ((0:Nat):Int) * 1) ((((hi - lo).toNat:Nat):Int) - ((0:Nat):Int)) 1
    rw [e1,e2]
    exact Heap.get?_push_size _ rfl
  · have e:b=(s.heap.push { cls:=.type "range",data:=.fields #[.int lo t,.int hi u,.int 1 v] }).objs.size:=by simpa using hb
    subst e
    exact I1.fpOk (Nat.le_refl _) (I1.hok.fresh (Nat.le_refl _))
def iRng1 (ta:TA):TI:=fun σ H R=>ta σ H fun vs H1=>∃ j:Int,vs=[.int j]∧-(2 ^ 62)≤j∧j < 2 ^ 62∧R (Itr 0 j.toNat) H1
def iRng2 (ta:TA):TI:=fun σ H R=>ta σ H fun vs H1=>∃ i j:Int,vs=[.int i,.int j]∧(-(2 ^ 62)≤i∧i < 2 ^ 62∧-(2 ^ 62)≤j∧j < 2 ^ 62)∧R (Itr i (j - i).toNat) H1
theorem pi_range1 {a:Expr} {ta:TA} {p pos:Pos} (hg:Gl X "range") (hm:X.mg "range"=none) (ha:PA X [a] ta) (hs:starEach [a] X.env=[(false,eval a X.env)]:=by rfl):PI X tg (.Call (.Name "range" p) [a] [] pos) (iRng1 ta):=by
  intro pins s σ H R I h
  refine Call_ (ld_blt I hg hm boot_range (PyProof.Rows.callWith_type1 (thn (ha pos pins s σ H _ I h) fun us s1 ⟨vs,H1,I1,r1,q1⟩=>?_) hs rfl))
  obtain ⟨j,e,q1,q2,q⟩:=q1
  subst e
  cases r1 with
  | cons r rr =>
    cases rr
    obtain ⟨t,rfl⟩:=r
    exact call_range_1 (range_it I1 (by omega) (by omega) q1 q2 (by simpa using q))
theorem pi_range2 {a b:Expr} {ta:TA} {p pos:Pos} (hg:Gl X "range") (hm:X.mg "range"=none) (ha:PA X [a,b] ta) (hs:starEach [a,b] X.env=[(false,eval a X.env),(false,eval b X.env)]:=by rfl) (hs2:starEach [b] X.env=[(false,eval b X.env)]:=by rfl) :
    PI X tg (.Call (.Name "range" p) [a,b] [] pos) (iRng2 ta):=by
  intro pins s σ H R I h
  refine Call_ (ld_blt I hg hm boot_range (PyProof.Rows.callWith_type1 (thn (ha pos pins s σ H _ I h) fun us s1 ⟨vs,H1,I1,r1,q1⟩=>?_) (by rw [hs,hs2]) (by rw [hs2]; rfl)))
  obtain ⟨i,j,e,⟨q1,q2,q3,q4⟩,q⟩:=q1
  subst e
  cases r1 with
  | cons r rr =>
    cases rr with
    | cons r' rr =>
      cases rr
      obtain ⟨t,rfl⟩:=r
      obtain ⟨t',rfl⟩:=r'
      exact call_range_2 (range_it I1 q1 q2 q3 q4 q)
def tFor (wi:TI) (g:TG) (tb:TS):TS:=fun D σ H=>wi σ H fun J H1=>∃ W:Nat→Nat→St→Hp→Prop,(∃ m,W 0 m σ H1)∧∀ i m σ H,W i m σ H →
  (J.stop i H∧D.nx σ H)∨(J.go i H∧∃ N:St→Hp→Prop,(∀ σ' H',N σ' H'→∃ m',m' < m∧W (i + 1) m' σ' H')∧∀ x H',J.yld i H x H'→g x σ H' fun σ2 H2=>tb { D with nx:=N,ct:=N,bk:=D.nx } σ2 H2)
def pinsAt (fp:List Addr) (h:Heap):List (Addr×Obj):=fp.filterMap fun b=>(h.get? b).map fun o=>(b,o)
theorem mem_pinsAt {fp:List Addr} {h:Heap} {b:Addr} {o:Obj} (hb:b∈fp) (e:h.get? b=some o):(b,o)∈pinsAt fp h:=List.mem_filterMap.mpr ⟨b,hb,by rw [e]; rfl⟩
theorem of_pinsAt {fp:List Addr} {h:Heap} {p:Addr×Obj} (hp:p∈pinsAt fp h):p.1∈fp∧h.get? p.1=some p.2:=by
  obtain ⟨b,hb,e⟩:=List.mem_filterMap.mp hp
  cases q:h.get? b with
  | none=>rw [q] at e; cases e
  | some o =>
    rw [q] at e
    have e':(b,o)=p:=Option.some.inj e
    subst e'
    exact ⟨hb,q⟩
theorem Inv.pinned {pins:List (Addr×Obj)} {σ:St} {H:Hp} {s:Shared} {fp:List Addr} (I:Inv X pins σ H s) (hf:∀ b∈fp,FpOk X pins H b) (ho:∀ b∈fp,∃ o,s.heap.get? b=some o∧∀ v,o.data≠.cell v):Inv X (pins ++ pinsAt fp s.heap) σ H s :=
  I.pins_of fun p hp=>(List.mem_append.mp hp).elim (fun z=>I.pin p (List.mem_append_right _ z)) fun z=>by
    obtain ⟨hb,e⟩:=of_pinsAt z
    obtain ⟨f0,f1,f2,_⟩:=hf p.1 hb
    obtain ⟨o,e',d⟩:=ho p.1 hb
    rw [e] at e'; cases e'
    exact ⟨e,f0,f1,f2,d⟩
theorem Inv.unpinned {pins pl:List (Addr×Obj)} {σ:St} {H:Hp} {s:Shared} (I:Inv X (pins ++ pl) σ H s):Inv X pins σ H s:=I.pins_of fun p hp=>I.pin p (List.mem_append_right _ (List.mem_append_left _ hp))
theorem ps_for {iter:Expr} {body:List Stmt} {wi:TI} {g:TG} {tb:TS} {pos:Pos} (hp:PassesOwn (model X.prog X.w) X.A X.env X.xe) (hc:X.calm=true) (hi:PI X tg iter wi) (hg:PG X tg g) (hb:PSs X body tb)
    (hs:∀ x,foldedSetIterable iter X.env x=pure x:=by intro _; rfl):PS X (.For tg iter body [] pos) (tFor wi g tb):=by
  intro pins s σ H D I h
  refine wpAny_For (thn (hi pins s σ H _ I h) fun v s1 h1=>thn h1 fun itv s2 h2=>?_) hs
  obtain ⟨it,fp,tn,J,H2,e,I2,T,st2,f2,W,⟨m0,w0⟩,turn⟩:=h2
  subst e
  have stat:∀ {H':Hp},(∀ b∈fp,H' b=none)→∀ b∈fp,FpOk X pins H' b:=fun hn b hb=>⟨hn b hb,(f2 b hb).2⟩
  refine codeAny_forLoop_any (fun n s'=>∃ i σ' H',Inv X pins σ' H' s'∧tn i s'.heap∧(∀ b∈fp,H' b=none)∧W i n σ' H') ?_ m0 ⟨0,σ,H2,I2,st2,fun b hb=>(f2 b hb).1,w0⟩
  rintro n s3 ⟨i,σ3,H3,I3,st3,fr3,w3⟩
  rcases turn i n σ3 H3 w3 with ⟨stop,qn⟩ | ⟨go,N,hN,step⟩
  · refine wpAny_passesOwn hp (thn (T.done X rfl rfl rfl hc i pins s3 σ3 H3 X.xe I3 (stat fr3) st3 stop) fun r s4 ⟨hr,I4⟩=>?_)
    subst hr
    exact wpAny_execs_nil ⟨σ3,H3,I4,qn⟩
  · refine wpAny_passesOwn hp (thn (T.item X rfl rfl rfl hc i pins s3 σ3 H3 X.xe I3 (stat fr3) st3 go) fun r s4 ⟨u,hr,h4⟩=>?_)
    subst hr
    refine wpAny_passesOwn hp (thn h4 fun _ s5 ⟨x,H5,I5,r5,y5,st5,fr5⟩=>?_)
    have I5':=I5.pinned (stat fr5) (T.obj _ _ st5)
    refine wpAny_passesOwn hp (thn (hg _ s5 σ3 H5 x u _ I5' r5 (step x H5 y5)) fun _ s6 ⟨σ6,H6,I6,q6⟩=>?_)
    refine wpAny_passesOwn hp (thn (hb _ s6 σ6 H6 _ I6 q6) fun f s7 q7=>?_)
    have again:∀ {σ7:St} {H7:Hp},Inv X (pins ++ pinsAt fp s5.heap) σ7 H7 s7→N σ7 H7→∃ m,m < n∧∃ i σ' H',Inv X pins σ' H' s7∧tn i s7.heap∧(∀ b∈fp,H' b=none)∧W i m σ' H':=fun {σ7 H7} I7 n7=>by
      obtain ⟨m',hm,w7⟩:=hN σ7 H7 n7
      refine ⟨m',hm,i + 1,σ7,H7,I7.unpinned,T.keep _ _ _ st5 fun b hb o e=>(I7.pin (b,o) (List.mem_append_right _ (List.mem_append_right _ (mem_pinsAt hb e)))).1,fun b hb=>?_,w7⟩
      obtain ⟨o,e,d⟩:=T.obj _ _ st5 b hb
      exact (I7.pin (b,o) (List.mem_append_right _ (List.mem_append_right _ (mem_pinsAt hb e)))).2.1
    cases f with
    | next=>obtain ⟨σ7,H7,I7,n7⟩:=q7; exact again I7 n7
    | cont=>obtain ⟨σ7,H7,I7,n7⟩:=q7; exact again I7 n7
    | brk=>obtain ⟨σ7,H7,I7,q7⟩:=q7; exact ⟨σ7,H7,I7.unpinned,q7⟩
    | ret v=>obtain ⟨x7,σ7,H7,I7,r7,q7⟩:=q7; exact ⟨x7,σ7,H7,I7.unpinned,r7,q7⟩
end
theorem for_list {K:PySem.W.Frag} {a:Addr} {xs:List V} {g:TG} {tb:TS} {D:Ends} {σ:St} {H:Hp} (Pv:Nat→St→Hp→Prop) (h0:Pv 0 σ H) (hl:∀ i σ H,i≤xs.length→Pv i σ H→SqL K H a xs)
    (hs:∀ i x σ H,xs[i]?=some x→Pv i σ H→g x σ H fun σ2 H2=>tb { D with nx:=Pv (i + 1),ct:=Pv (i + 1),bk:=D.nx } σ2 H2) (hd:∀ σ H,Pv xs.length σ H→D.nx σ H) :
    ∃ W:Nat→Nat→St→Hp→Prop,(∃ m,W 0 m σ H)∧∀ i m σ H,W i m σ H →
      ((Itl K a).stop i H∧D.nx σ H)∨((Itl K a).go i H∧∃ N:St→Hp→Prop,(∀ σ' H',N σ' H'→∃ m',m' < m∧W (i + 1) m' σ' H')∧∀ x H',(Itl K a).yld i H x H'→g x σ H' fun σ2 H2=>tb { D with nx:=N,ct:=N,bk:=D.nx } σ2 H2):=by
  refine ⟨fun i m σ H=>m=xs.length - i∧i≤xs.length∧Pv i σ H,⟨xs.length,by simp,Nat.zero_le _,h0⟩,?_⟩
  rintro i m σ H ⟨rfl,hi,p⟩
  have q:=hl i σ H hi p
  by_cases hlt:i < xs.length
  · refine .inr ⟨⟨xs,xs[i],q,by simp [hlt]⟩,Pv (i + 1),fun σ' H' p'=>⟨xs.length - (i + 1),by omega,rfl,hlt,p'⟩,fun x H' y=>?_⟩
    obtain ⟨e,y⟩:=y
    subst e
    exact hs i x σ _ (y xs q) p
  · have e:i=xs.length:=by omega
    subst e
    exact .inl ⟨⟨xs,q,Nat.le_refl _⟩,hd σ H p⟩
theorem for_range {lo:Int} {n:Nat} {g:TG} {tb:TS} {D:Ends} {σ:St} {H:Hp} (Pv:Nat→St→Hp→Prop) (h0:Pv 0 σ H)
    (hs:∀ i σ H,i < n→Pv i σ H→g (.int (lo + i)) σ H fun σ2 H2=>tb { D with nx:=Pv (i + 1),ct:=Pv (i + 1),bk:=D.nx } σ2 H2) (hd:∀ σ H,Pv n σ H→D.nx σ H) :
    ∃ W:Nat→Nat→St→Hp→Prop,(∃ m,W 0 m σ H)∧∀ i m σ H,W i m σ H →
      ((Itr lo n).stop i H∧D.nx σ H)∨((Itr lo n).go i H∧∃ N:St→Hp→Prop,(∀ σ' H',N σ' H'→∃ m',m' < m∧W (i + 1) m' σ' H')∧∀ x H',(Itr lo n).yld i H x H'→g x σ H' fun σ2 H2=>tb { D with nx:=N,ct:=N,bk:=D.nx } σ2 H2):=by
  refine ⟨fun i m σ H=>m=n - i∧i≤n∧Pv i σ H,⟨n,by simp,Nat.zero_le _,h0⟩,?_⟩
  rintro i m σ H ⟨rfl,hi,p⟩
  by_cases hlt:i < n
  · refine .inr ⟨hlt,Pv (i + 1),fun σ' H' p'=>⟨n - (i + 1),by omega,rfl,hlt,p'⟩,fun x H' y=>?_⟩
    obtain ⟨e,y⟩:=y
    subst e y
    exact hs i σ _ hlt p
  · have e:i=n:=by omega
    subst e
    exact .inl ⟨Nat.le_refl _,hd σ H p⟩
end L2
namespace L2
open PySem PySem.Spec PyProof.Rows
abbrev R2:=V→V→Hp→VK→Prop
def OpR (X:Cx) (f:Value→Value→Sem Value) (r:R2):Prop :=
  ∀ (pins:List (Addr×Obj)) (s:Shared) (σ:St) (H:Hp) (x y:V) (v u:Value) (Q:VK),Inv X pins σ H s→RelV x v→RelV y u→r x y H Q →
    wpAny (model X.prog X.w) X.A (f v u) (EP X pins σ Q) X.xe s
def UnR (X:Cx) (f:Value→Sem Value) (r:V→Hp→VK→Prop):Prop :=
  ∀ (pins:List (Addr×Obj)) (s:Shared) (σ:St) (H:Hp) (x:V) (v:Value) (Q:VK),Inv X pins σ H s→RelV x v→r x H Q →
    wpAny (model X.prog X.w) X.A (f v) (EP X pins σ Q) X.xe s
def CallR (X:Cx) (f:Value) (r:List V→Hp→VK→Prop):Prop :=
  ∀ (pins:List (Addr×Obj)) (s:Shared) (σ:St) (H:Hp) (xs:List V) (us:List Value) (Q:VK),Inv X pins σ H s→Vals xs us→r xs H Q →
    wpAny (model X.prog X.w) X.A (call f us) (EP X pins σ Q) X.xe s
def TruR (X:Cx) (r:V→Hp→(Bool→Hp→Prop)→Prop):Prop :=
  ∀ (pins:List (Addr×Obj)) (s:Shared) (σ:St) (H:Hp) (x:V) (v:Value) (Q:Bool→Hp→Prop),Inv X pins σ H s→RelV x v→r x H Q →
    wpAny (model X.prog X.w) X.A (truthy v) (TP X pins σ Q) X.xe s
def tOp (r:R2) (ta tb:TE):TE:=fun σ H Q=>ta σ H fun x H1=>tb σ H1 fun y H2=>r x y H2 Q
def tUn (r:V→Hp→VK→Prop) (ta:TE):TE:=fun σ H Q=>ta σ H fun x H1=>r x H1 Q
def rI (C:Int→Int→Prop) (g:Int→Int→V):R2:=fun x y H Q=>∃ i j,x=.int i∧y=.int j∧C i j∧Q (g i j) H
def rI0 (g:Int→Int→V):R2:=fun x y H Q=>∃ i j,x=.int i∧y=.int j∧Q (g i j) H
def rU (g:Int→V):V→Hp→VK→Prop:=fun x H Q=>∃ i,x=.int i∧Q (g i) H
section
variable {X:Cx} {a b c:Expr} {ta tb tc:TE} {pos:Pos}
theorem binT (ha:PE X a ta) (hb:PE X b tb) {pins:List (Addr×Obj)} {s:Shared} {σ:St} {H:Hp} {R:V→V→Hp→Prop} (I:Inv X pins σ H s)
    (h:ta σ H fun x H1=>tb σ H1 fun y H2=>R x y H2) {Q:Value→Shared→Prop} {f:Value→Value→Sem Value}
    (hf:∀ v u s2 x y H2,Inv X pins σ H2 s2→RelV x v→RelV y u→R x y H2→wpAny (model X.prog X.w) X.A (f v u) Q X.xe s2) :
    wpAny (model X.prog X.w) X.A (eval a X.env) (fun v s₁=>wpAny (model X.prog X.w) X.A (eval b X.env) (fun u s₂=>wpAny (model X.prog X.w) X.A (f v u) Q X.xe s₂) X.xe s₁) X.xe s:=by
  refine thn (ha pins s σ H _ I h) fun v s1 ⟨x,H1,I1,r1,q1⟩=>?_
  refine thn (hb pins s1 σ H1 _ I1 q1) fun u s2 ⟨y,H2,I2,r2,q2⟩=>?_
  exact hf v u s2 x y H2 I2 r1 r2 q2
theorem pe_op {op:Operator} {r:R2} (ho:OpR X (binaryOp op) r) (ha:PE X a ta) (hb:PE X b tb):PE X (.BinOp a op b pos) (tOp r ta tb):=by
  intro pins s σ H Q I h
  exact wpAny_BinOp (binT ha hb I h fun v u s2 x y H2 I2 rx ry q=>ho pins s2 σ H2 x y v u Q I2 rx ry q)
theorem pe_un {op:UnaryOp} {r:V→Hp→VK→Prop} (ho:UnR X (unaryOp op) r) (ha:PE X a ta):PE X (.UnaryOp op a pos) (tUn r ta):=by
  intro pins s σ H Q I h
  exact UnaryOp_ (thn (ha pins s σ H _ I h) fun v s1 ⟨x,H1,I1,r1,q1⟩=>ho pins s1 σ H1 x v Q I1 r1 q1)
theorem opI {f:Value→Value→Sem Value} {C:Int→Int→Prop} {g:Int→Int→Int}
    (rule:∀ (i j:Int) (t u:Tok) (s:Shared) (Q:Value→Shared→Prop) (E:Value→Shared→Prop),C i j→Q (.int (g i j) s.toks) { s with toks:=s.toks + 1 }→wpAny (model X.prog X.w) X.A (f (.int i t) (.int j u)) Q E s) :
    OpR X f (rI C fun i j=>.int (g i j)):=by
  intro pins s σ H x y v u Q I rx ry h
  obtain ⟨i,j,rfl,rfl,hc,q⟩:=h
  obtain ⟨t,rfl⟩:=rx
  obtain ⟨t',rfl⟩:=ry
  exact rule i j t t' s _ _ hc ⟨.int (g i j),H,I.tok _,⟨_,rfl⟩,q⟩
theorem opI0 {f:Value→Value→Sem Value} {g:Int→Int→Int}
    (rule:∀ (i j:Int) (t u:Tok) (s:Shared) (Q:Value→Shared→Prop) (E:Value→Shared→Prop),Q (.int (g i j) s.toks) { s with toks:=s.toks + 1 }→wpAny (model X.prog X.w) X.A (f (.int i t) (.int j u)) Q E s) :
    OpR X f (rI0 fun i j=>.int (g i j)):=by
  intro pins s σ H x y v u Q I rx ry h
  obtain ⟨i,j,rfl,rfl,q⟩:=h
  obtain ⟨t,rfl⟩:=rx
  obtain ⟨t',rfl⟩:=ry
  exact rule i j t t' s _ _ ⟨.int (g i j),H,I.tok _,⟨_,rfl⟩,q⟩
theorem opB0 {f:Value→Value→Sem Value} {g:Int→Int→Bool}
    (rule:∀ (i j:Int) (t u:Tok) (s:Shared) (Q:Value→Shared→Prop) (E:Value→Shared→Prop),Q (.bool (g i j)) s→wpAny (model X.prog X.w) X.A (f (.int i t) (.int j u)) Q E s) :
    OpR X f (rI0 fun i j=>.bl (g i j)):=by
  intro pins s σ H x y v u Q I rx ry h
  obtain ⟨i,j,rfl,rfl,q⟩:=h
  obtain ⟨t,rfl⟩:=rx
  obtain ⟨t',rfl⟩:=ry
  exact rule i j t t' s _ _ ⟨.bl (g i j),H,I,rfl,q⟩
def CPow (i j:Int):Prop:=0≤j∧j≤1000000∧i.natAbs < 2 ^ 64
theorem op_add:OpR X (binaryOp .Add) (rI0 fun i j=>.int (i + j)):=opI0 fun _ _ _ _ _ _ _ q=>add_int q
theorem op_sub:OpR X (binaryOp .Sub) (rI0 fun i j=>.int (i - j)):=opI0 fun _ _ _ _ _ _ _ q=>sub_int q
theorem op_mod:OpR X (binaryOp .Mod) (rI (fun _ j=>0 < j) fun i j=>.int (i % j)):=opI fun i j _ _ _ _ _ hc q=>by
  have h1:(0:Int) < j:=hc
  exact mod_int' (by omega) (by rw [Int.fmod_eq_emod_of_nonneg i (by omega)]; exact q)
theorem op_pow:OpR X (binaryOp .Pow) (rI CPow fun i j=>.int (i ^ j.toNat)):=opI fun _ _ _ _ _ _ _ hc q=>pow_int_small hc.1 hc.2.1 hc.2.2 q
theorem unI {f:Value→Sem Value} {g:Int→Int}
    (rule:∀ (i:Int) (t:Tok) (s:Shared) (Q:Value→Shared→Prop) (E:Value→Shared→Prop),Q (.int (g i) s.toks) { s with toks:=s.toks + 1 }→wpAny (model X.prog X.w) X.A (f (.int i t)) Q E s) :
    UnR X f (rU fun i=>.int (g i)):=by
  intro pins s σ H x v Q I rx h
  obtain ⟨i,rfl,q⟩:=h
  obtain ⟨t,rfl⟩:=rx
  exact rule i t s _ _ ⟨.int (g i),H,I.tok _,⟨_,rfl⟩,q⟩
theorem un_neg:UnR X (unaryOp .USub) (rU fun i=>.int (-i)):=unI fun _ _ _ _ _ q=>neg_int q
end
def scal:V→V→Bool
  | .non,.non=>true | .non,.int _=>true | .int _,.non=>true | .non,.bl _=>true | .bl _,.non=>true | .non,.str _=>true | .str _,.non=>true
  | .int _,.int _=>true | .bl _,.bl _=>true | .str _,.str _=>true | .byt _,.byt _=>true
  | .int _,.str _=>true | .str _,.int _=>true | .bl _,.str _=>true | .str _,.bl _=>true
  | _,_=>false
def rEq:R2:=fun x y H Q=>scal x y=true∧Q (.bl (decide (x=y))) H
def rNe:R2:=fun x y H Q=>scal x y=true∧Q (.bl (!decide (x=y))) H
theorem dec_int {i j:Int}:decide (V.int i=V.int j)=(i == j):=by
  rw [Bool.eq_iff_iff]
  simp
theorem dec_bl {i j:Bool}:decide (V.bl i=V.bl j)=(i == j):=by
  rw [Bool.eq_iff_iff]
  simp
theorem dec_str {i j:Str}:decide (V.str i=V.str j)=(i == j):=by
  rw [Bool.eq_iff_iff]
  simp
theorem dec_byt {i j:Array UInt8}:decide (V.byt i=V.byt j)=(i.toList == j.toList):=by
  rw [Bool.eq_iff_iff]
  cases i
  cases j
  simp
section
variable {X:Cx} {a b c:Expr} {ta tb tc:TE} {pos:Pos}
theorem fin_bl {pins:List (Addr×Obj)} {σ:St} {H:Hp} {s:Shared} {Q:VK} {k k':Bool} (I:Inv X pins σ H s) (q:Q (.bl k) H) (e:k=k'):EP X pins σ Q (.bool k') s:=by
  subst e
  exact ⟨.bl k,H,I,rfl,q⟩
theorem op_eq:OpR X (compareOp .Eq) rEq:=by
  intro pins s σ H x y v u Q I rx ry h
  obtain ⟨hs,q⟩:=h
  cases x with
  | non =>
    cases rx
    cases y with
    | non=>cases ry; exact PySem.EqNone.eq_none_none (fin_bl I q (by simp))
    | bl j=>cases ry; exact PySem.EqNone.eq_none_bool (fin_bl I q (by simp))
    | int j=>obtain ⟨t',rfl⟩:=ry; exact PySem.EqNone.eq_none_int (fin_bl I q (by simp))
    | str j=>obtain ⟨t',rfl⟩:=ry; exact PySem.EqNone.eq_none_str (fin_bl I q (by simp))
    | _=>exact absurd (show false=true from hs) Bool.false_ne_true
  | bl i =>
    cases rx
    cases y with
    | non=>cases ry; exact PySem.EqNone.eq_bool_none (fin_bl I q (by simp))
    | bl j=>cases ry; exact eq_bool (fin_bl I q dec_bl)
    | str j=>obtain ⟨t',rfl⟩:=ry; exact PySem.EqMixed.eq_bool_str (fin_bl I q (by simp))
    | _=>exact absurd (show false=true from hs) Bool.false_ne_true
  | int i =>
    obtain ⟨t,rfl⟩:=rx
    cases y with
    | non=>cases ry; exact PySem.EqNone.eq_int_none (fin_bl I q (by simp))
    | int j=>obtain ⟨t',rfl⟩:=ry; exact eq_int (fin_bl I q dec_int)
    | str j=>obtain ⟨t',rfl⟩:=ry; exact PySem.EqMixed.eq_int_str (fin_bl I q (by simp))
    | _=>exact absurd (show false=true from hs) Bool.false_ne_true
  | str i =>
    obtain ⟨t,rfl⟩:=rx
    cases y with
    | non=>cases ry; exact PySem.EqNone.eq_str_none (fin_bl I q (by simp))
    | bl j=>cases ry; exact PySem.EqMixed.eq_str_bool (fin_bl I q (by simp))
    | int j=>obtain ⟨t',rfl⟩:=ry; exact PySem.EqMixed.eq_str_int (fin_bl I q (by simp))
    | str j=>obtain ⟨t',rfl⟩:=ry; exact eq_str (fin_bl I q dec_str)
    | _=>exact absurd (show false=true from hs) Bool.false_ne_true
  | byt i =>
    obtain ⟨t,rfl⟩:=rx
    cases y with
    | byt j=>obtain ⟨t',rfl⟩:=ry; exact PySem.W.eq_bytes (fin_bl I q dec_byt)
    | _=>exact absurd (show false=true from hs) Bool.false_ne_true
  | _=>cases y <;> exact absurd (show false=true from hs) Bool.false_ne_true
theorem op_ne:OpR X (compareOp .NotEq) rNe:=by
  intro pins s σ H x y v u Q I rx ry h
  obtain ⟨hs,q⟩:=h
  cases x with
  | non =>
    cases rx
    cases y with
    | non=>cases ry; exact PySem.EqNone.ne_none_none (fin_bl I q (by simp))
    | bl j=>cases ry; exact PySem.EqNone.ne_none_bool (fin_bl I q (by simp))
    | int j=>obtain ⟨t',rfl⟩:=ry; exact PySem.EqNone.ne_none_int (fin_bl I q (by simp))
    | str j=>obtain ⟨t',rfl⟩:=ry; exact PySem.EqNone.ne_none_str (fin_bl I q (by simp))
    | _=>exact absurd (show false=true from hs) Bool.false_ne_true
  | bl i =>
    cases rx
    cases y with
    | non=>cases ry; exact PySem.EqNone.ne_bool_none (fin_bl I q (by simp))
    | bl j=>cases ry; exact ne_bool (fin_bl I q (congrArg not dec_bl))
    | str j=>obtain ⟨t',rfl⟩:=ry; exact PySem.EqMixed.ne_bool_str (fin_bl I q (by simp))
    | _=>exact absurd (show false=true from hs) Bool.false_ne_true
  | int i =>
    obtain ⟨t,rfl⟩:=rx
    cases y with
    | non=>cases ry; exact PySem.EqNone.ne_int_none (fin_bl I q (by simp))
    | int j=>obtain ⟨t',rfl⟩:=ry; exact ne_int (fin_bl I q (congrArg not dec_int))
    | str j=>obtain ⟨t',rfl⟩:=ry; exact PySem.EqMixed.ne_int_str (fin_bl I q (by simp))
    | _=>exact absurd (show false=true from hs) Bool.false_ne_true
  | str i =>
    obtain ⟨t,rfl⟩:=rx
    cases y with
    | non=>cases ry; exact PySem.EqNone.ne_str_none (fin_bl I q (by simp))
    | bl j=>cases ry; exact PySem.EqMixed.ne_str_bool (fin_bl I q (by simp))
    | int j=>obtain ⟨t',rfl⟩:=ry; exact PySem.EqMixed.ne_str_int (fin_bl I q (by simp))
    | str j=>obtain ⟨t',rfl⟩:=ry; exact ne_str (fin_bl I q (congrArg not dec_str))
    | _=>exact absurd (show false=true from hs) Bool.false_ne_true
  | byt i =>
    obtain ⟨t,rfl⟩:=rx
    cases y with
    | byt j=>obtain ⟨t',rfl⟩:=ry; exact PySem.W.ne_bytes (fin_bl I q (congrArg not dec_byt))
    | _=>exact absurd (show false=true from hs) Bool.false_ne_true
  | _=>cases y <;> exact absurd (show false=true from hs) Bool.false_ne_true
theorem op_lt:OpR X (compareOp .Lt) (rI0 fun i j=>.bl (decide (i < j))):=opB0 fun _ _ _ _ _ _ _ q=>lt_int q
theorem op_le:OpR X (compareOp .LtE) (rI0 fun i j=>.bl (decide (i≤j))):=opB0 fun _ _ _ _ _ _ _ q=>le_int q
theorem op_gt:OpR X (compareOp .Gt) (rI0 fun i j=>.bl (decide (j < i))):=opB0 fun _ _ _ _ _ _ _ q=>gt_int q
theorem op_ge:OpR X (compareOp .GtE) (rI0 fun i j=>.bl (decide (j≤i))):=opB0 fun _ _ _ _ _ _ _ q=>ge_int q
theorem op_isN:OpR X (compareOp .Is) (fun x y H Q=>y=.non∧Q (.bl (decide (x=.non))) H):=by
  intro pins s σ H x y v u Q I rx ry h
  obtain ⟨rfl,q⟩:=h
  cases ry
  refine is_none_gen (fin_bl I q ?_)
  cases x <;> first
    | (cases rx; rfl)
    | (obtain ⟨t,rfl⟩:=rx; rfl)
theorem op_notN:OpR X (compareOp .IsNot) (fun x y H Q=>y=.non∧Q (.bl (!decide (x=.non))) H):=by
  intro pins s σ H x y v u Q I rx ry h
  obtain ⟨rfl,q⟩:=h
  cases ry
  refine isnot_none_gen (fin_bl I q ?_)
  cases x <;> first
    | (cases rx; rfl)
    | (obtain ⟨t,rfl⟩:=rx; rfl)
theorem OpR.or {f:Value→Value→Sem Value} {r r':R2} (h:OpR X f r) (h':OpR X f r'):OpR X f (fun x y H Q=>r x y H Q∨r' x y H Q):=by
  intro pins s σ H x y v u Q I rx ry q
  rcases q with q | q
  · exact h pins s σ H x y v u Q I rx ry q
  · exact h' pins s σ H x y v u Q I rx ry q
theorem nomark (b:Expr) {op:CmpOp} (h:op≠.In:=by decide) (h2:op≠.NotIn:=by decide):behindInMarks op b=false:=by
  have e1:(op == CmpOp.In)=false:=by cases op <;> first | rfl | exact absurd rfl h
  have e2:(op == CmpOp.NotIn)=false:=by cases op <;> first | rfl | exact absurd rfl h2
  cases b <;> simp [behindInMarks,e1,e2]
theorem pe_cmpR {op:CmpOp} {r:R2} (ho:OpR X (compareOp op) r) (ha:PE X a ta) (hb:PE X b tb) (hm:behindInMarks op b=false):PE X (.Compare a [op] [b] pos) (tOp r ta tb):=by
  intro pins s σ H Q I h
  exact wpAny_Compare1 (binT ha hb I h fun v u s2 x y H2 I2 rx ry q=>ho pins s2 σ H2 x y v u Q I2 rx ry q) hm
def tTest (t:TE):TT:=fun σ H Q=>t σ H fun x H'=>∃ k,x=.bl k∧Q k H'
theorem pt_cmpR {op:CmpOp} {r:R2} (ho:OpR X (compareOp op) r) (ha:PE X a ta) (hb:PE X b tb) (hm:behindInMarks op b=false):PT X (.Compare a [op] [b] pos) (tTest (tOp r ta tb)):=by
  intro pins s σ H Q I h
  refine wpAny_isTrue_Compare1 (thn (ha pins s σ H _ I h) fun v s1 ⟨x,H1,I1,r1,q1⟩=>thn (hb pins s1 σ H1 _ I1 q1) fun u s2 ⟨y,H2,I2,r2,q2⟩ =>
    thn (ho pins s2 σ H2 x y v u _ I2 r1 r2 q2) fun c s3 ⟨z,H3,I3,r3,k,e,q3⟩=>?_) hm
  subst e
  cases r3
  exact wpAny_truthy_bool ⟨H3,I3,q3⟩
def tChain (r r':R2) (ta tb tc:TE):TE:=fun σ H Q=>ta σ H fun x H1=>tb σ H1 fun y H2=>r x y H2 fun z H3=>∃ k,z=.bl k ∧
  (if k=true then tc σ H3 fun w' H4=>r' y w' H4 Q else Q (.bl false) H3)
theorem pt_chain {op op':CmpOp} {r r':R2} (ho:OpR X (compareOp op) r) (ho':OpR X (compareOp op') r') (ha:PE X a ta) (hb:PE X b tb) (hc:PE X c tc)
    (hm:lastMarks [op,op'] [b,c]=false:=by with_unfolding_all rfl):PT X (.Compare a [op,op'] [b,c] pos) (tTest (tChain r r' ta tb tc)):=by
  intro pins s σ H Q I h
  refine isTrue_chain (thn (ha pins s σ H _ I h) fun v s1 ⟨x,H1,I1,r1,q1⟩=>test_link (thn (hb pins s1 σ H1 _ I1 q1) fun u s2 ⟨y,H2,I2,r2,q2⟩ =>
    thn (ho pins s2 σ H2 x y v u _ I2 r1 r2 q2) fun d s3 ⟨z,H3,I3,r3,k,e,q3⟩=>?_)) hm
  subst e
  cases r3
  refine wpAny_truthy_bool ?_
  cases k with
  | false =>
    obtain ⟨k',e',q'⟩:=q3
    cases e'
    exact ite_ff ⟨H3,I3,q'⟩
  | true =>
    refine ite_tt (test_last (thn (hc pins s3 σ H3 _ I3 q3) fun w' s4 ⟨z',H4,I4,r4,q4⟩=>thn (ho' pins s4 σ H4 y z' u w' _ I4 r2 r4 q4) fun d' s5 ⟨z2,H5,I5,r5,k2,e2,q5⟩=>?_))
    subst e2
    cases r5
    exact wpAny_truthy_bool ⟨H5,I5,q5⟩
def TruV (K:PySem.W.Frag) (x:V) (H:Hp) (k:Bool):Prop :=
  match x with
  | .non=>k=false
  | .bl b=>k=b
  | .int i=>k=(i != 0)
  | .str y=>y.length≤sizeLine∧k=((y.length:Int) != 0)
  | .byt y=>y.size≤sizeLine∧k=((y.size:Int) != 0)
  | .ref p=>(∃ xs,SqL K H p xs∧k=!xs.isEmpty)∨(∃ xs,SqT K H p xs∧k=!xs.isEmpty)∨∃ kvs,H p=some (.dK kvs)∧k=!kvs.isEmpty
  | _=>False
theorem isEmpty_kv {κ:Type} {kvs:List (κ×V)} {vs:List (κ×Value)} (r:KV kvs vs):(!vs.isEmpty)=!kvs.isEmpty:=by
  cases r <;> rfl
theorem isEmpty_of {xs:List V} {its:List Value} (r:Vals xs its):(!its.toArray.isEmpty)=!xs.isEmpty:=by
  cases r <;> simp
theorem line63:(sizeLine:Nat) < 2 ^ 63:=by rw [sizeLine_eq]; decide
theorem tru_ok:TruR X (fun x H Q=>∃ k,TruV X.K x H k∧Q k H):=by
  intro pins s σ H x v Q I rx h
  obtain ⟨k,e,q⟩:=h
  have hl:=line63
  have hs:sizeLine=16777216:=sizeLine_eq
  cases x with
  | non =>
    cases rx
    have e':k=false:=e
    subst e'
    exact truthy_none ⟨H,I,q⟩
  | bl b =>
    cases rx
    have e':k=b:=e
    subst e'
    exact wpAny_truthy_bool ⟨H,I,q⟩
  | int i =>
    obtain ⟨t,rfl⟩:=rx
    have e':k=(i != 0):=e
    subst e'
    exact PySem.P.truthy_int ⟨H,I,q⟩
  | str y =>
    obtain ⟨t,rfl⟩:=rx
    obtain ⟨hy,e'⟩:y.length≤sizeLine∧k=((y.length:Int) != 0):=e
    subst e'
    exact PySem.P.truthy_str (by omega) ⟨H,I.tok _,q⟩
  | byt y =>
    obtain ⟨t,rfl⟩:=rx
    obtain ⟨hy,e'⟩:y.size≤sizeLine∧k=((y.size:Int) != 0):=e
    subst e'
    exact PySem.W.truthy_bytes (by omega) ⟨H,I.tok _,q⟩
  | ref p =>
    cases rx
    have e':(∃ xs,SqL X.K H p xs∧k=!xs.isEmpty)∨(∃ xs,SqT X.K H p xs∧k=!xs.isEmpty)∨∃ kvs,H p=some (.dK kvs)∧k=!kvs.isEmpty:=e
    rcases e' with ⟨xs,hx,e'⟩ | ⟨xs,hx,e'⟩ | ⟨kvs,hx,e'⟩
    · subst e'
      obtain ⟨its,r,pl,hz⟩:=I.list hx
      have hlen:=r.length
      exact wpAny_truthy_list pl.isList (by simp only [List.size_toArray]; omega) ⟨H,I.tok _,by rw [isEmpty_of r]; exact q⟩
    · subst e'
      obtain ⟨its,r,pl,hz⟩:=I.tuple hx
      have hlen:=r.length
      exact truthy_tuple pl (by simp only [List.size_toArray]; omega) ⟨H,I.tok _,by rw [isEmpty_of r]; exact q⟩
    · subst e'
      obtain ⟨hz,hS,vs,r,m⟩:kvs.length≤sizeLine∧(p == sysModules)=false∧∃ vs,KV kvs vs∧s.heap.DictOf (mixKind X.prog X.w) p vs:=I.hok p _ hx
      have hlen:kvs.length=vs.length:=Paired.length r
      exact wpAny_truthy_dict hS m (by omega) ⟨H,I.tok _,by rw [isEmpty_kv r]; exact q⟩
  | _=>exact (show False from e).elim
theorem pt_truth (ha:PE X a ta) (he:∀ whole,isTrue a X.env whole=(do let v ← whole; standAt a.pos; holding [v] (truthy v))) :
    PT X a (fun σ H Q=>ta σ H fun x H'=>∃ k,TruV X.K x H' k∧Q k H'):=by
  intro pins s σ H Q I h
  exact isTrue_plain (thn (ha pins s σ H _ I h) fun v s1 ⟨x,H1,I1,r1,q1⟩=>tru_ok pins s1 σ H1 x v Q I1 r1 q1) (he _)
theorem vals1 {x:V} {us:List Value} (r:Vals [x] us):∃ u,us=[u]∧RelV x u:=by
  cases r with
  | cons r1 r2=>cases r2; exact ⟨_,rfl,r1⟩
theorem vals2 {x y:V} {us:List Value} (r:Vals [x,y] us):∃ u w',us=[u,w']∧RelV x u∧RelV y w':=by
  cases r with
  | cons r1 r2 =>
    cases r2 with
    | cons r3 r4=>cases r4; exact ⟨_,_,rfl,r1,r3⟩
theorem call_max2 (hc:X.calm=true):CallR X (.builtin "max") (fun xs H Q=>∃ i j,xs=[.int i,.int j]∧Q (.int (if j > i then j else i)) H):=by
  intro pins s σ H xs us Q I r h
  obtain ⟨i,j,rfl,q⟩:=h
  obtain ⟨u,w',rfl,⟨t,rfl⟩,⟨t',rfl⟩⟩:=vals2 r
  refine max_two_ints (I.ok.hd hc) fun h' tk k=>⟨_,H,I.kept k,?_,q⟩
  by_cases hj:j > i
  · rw [if_pos hj,if_pos hj]; exact ⟨_,rfl⟩
  · rw [if_neg hj,if_neg hj]; exact ⟨_,rfl⟩
theorem call_min2 (hc:X.calm=true):CallR X (.builtin "min") (fun xs H Q=>∃ i j,xs=[.int i,.int j]∧Q (.int (if j < i then j else i)) H):=by
  intro pins s σ H xs us Q I r h
  obtain ⟨i,j,rfl,q⟩:=h
  obtain ⟨u,w',rfl,⟨t,rfl⟩,⟨t',rfl⟩⟩:=vals2 r
  refine min_two_ints (I.ok.hd hc) fun h' tk k=>⟨_,H,I.kept k,?_,q⟩
  by_cases hj:j < i
  · rw [if_pos hj,if_pos hj]; exact ⟨_,rfl⟩
  · rw [if_neg hj,if_neg hj]; exact ⟨_,rfl⟩
theorem call_int1:CallR X (.type "int") (fun xs H Q=>(∃ i,xs=[.int i]∧Q (.int i) H)∨∃ k,xs=[.bl k]∧Q (.int (if k then 1 else 0)) H):=by
  intro pins s σ H xs us Q I r h
  rcases h with ⟨i,rfl,q⟩ | ⟨k,rfl,q⟩
  · obtain ⟨u,rfl,t,rfl⟩:=vals1 r
    exact call_int_int ⟨.int i,H,I,⟨_,rfl⟩,q⟩
  · obtain ⟨u,rfl,r1⟩:=vals1 r
    cases r1
    exact call_int_bool ⟨.int (if k then 1 else 0),H,I.tok _,⟨_,rfl⟩,q⟩
def LenV (K:PySem.W.Frag) (x:V) (H:Hp) (n:Nat):Prop :=
  match x with
  | .str y=>y.length≤sizeLine∧n=y.length
  | .byt y=>y.size≤sizeLine∧n=y.size
  | .ref p=>(∃ xs,SqL K H p xs∧n=xs.length)∨∃ xs,SqT K H p xs∧n=xs.length
  | _=>False
theorem call_len:CallR X (.builtin "len") (fun xs H Q=>∃ x n,xs=[x]∧LenV X.K x H n∧Q (.int n) H):=by
  intro pins s σ H xs us Q I r h
  obtain ⟨x,n,rfl,e,q⟩:=h
  obtain ⟨u,rfl,rx⟩:=vals1 r
  have hl:=line63
  have hs:sizeLine=16777216:=sizeLine_eq
  cases x with
  | str y =>
    obtain ⟨t,rfl⟩:=rx
    obtain ⟨hy,e'⟩:y.length≤sizeLine∧n=y.length:=e
    subst e'
    exact len_str (by omega) ⟨.int _,H,I.tok _,⟨_,rfl⟩,q⟩
  | byt y =>
    obtain ⟨t,rfl⟩:=rx
    obtain ⟨hy,e'⟩:y.size≤sizeLine∧n=y.size:=e
    subst e'
    exact PySem.W.len_bytes (by omega) ⟨.int _,H,I.tok _,⟨_,rfl⟩,q⟩
  | ref p =>
    cases rx
    have e':(∃ xs,SqL X.K H p xs∧n=xs.length)∨∃ xs,SqT X.K H p xs∧n=xs.length:=e
    rcases e' with ⟨xs,hx,e'⟩ | ⟨xs,hx,e'⟩
    · subst e'
      obtain ⟨its,r',pl,hz⟩:=I.list hx
      have hlen:=r'.length
      exact Calls.call_len_list pl.isList (by simp only [List.size_toArray]; omega) ⟨.int xs.length,H,I.tok _,⟨_,by simp only [List.size_toArray]; rw [hlen]⟩,q⟩
    · subst e'
      obtain ⟨its,r',pl,hz⟩:=I.tuple hx
      have hlen:=r'.length
      exact len_tuple pl (by simp only [List.size_toArray]; omega) ⟨.int xs.length,H,I.tok _,⟨_,by simp only [List.size_toArray]; rw [hlen]⟩,q⟩
  | _=>exact (show False from e).elim
end
end L2
namespace L2
open PySem PySem.Spec PyProof.Rows
structure ObjM (h:Heap) (x dx C:Addr) (mA:Str→Option Value):Prop where
  obj:h.get? x=some (PySem.W.instObj C dx)
  ns:h.Ns1 dx mA
  ne:dx≠x
theorem lookIn_ns {h:Heap} {dx:Addr} {mA:Str→Option Value} (n:h.Ns1 dx mA):∃ od,h.get? dx=some od∧∀ name,PySem.W.lookIn name od=some (mA name):=by
  obtain ⟨o,es,ep,ho,hd,hk,_,hm⟩:=n
  refine ⟨o,ho,fun name=>?_⟩
  have e:=hm name
  unfold nsFind findBy at e
  rw [← Array.find?_toList] at e
  unfold PySem.W.lookIn
  rw [hd]
  dsimp only
  split
  · rename_i y q
    rw [q] at e
    exact congrArg some e
  · rename_i q
    rw [q] at e
    have a:es.toList.any (·.refKey)=false:=by
      rw [List.any_eq_false]
      intro y hy
      obtain ⟨z,t,hkey⟩:=hk y (Array.mem_toList_iff.mp hy)
      simp [DictEntry.refKey,hkey]
    have a':¬ es.toList.any (·.refKey)=true:=by rw [a]; exact Bool.false_ne_true
    rw [if_neg a']
    exact congrArg some e
theorem ObjM.look {h:Heap} {x dx C:Addr} {mA:Str→Option Value} (I:ObjM h x dx C mA):∃ od,PySem.W.InstAt h x (PySem.W.instObj C dx) C (some od)∧∀ name,PySem.W.lookIn name od=some (mA name) :=
  let ⟨od,ho,hl⟩:=lookIn_ns I.ns
  ⟨od,⟨I.obj,rfl,rfl,ho⟩,hl⟩
section
variable {prog:Program} {w:World} {A:Around} {E:Value→Shared→Prop} {s:Shared} {K:PySem.W.Frag} {x dx C f:Addr} {mA:Str→Option Value} {name:Str} {v:Value}
end
theorem RelO.some_of {v:V} {o:Option Value} (r:RelO (some v) o):∃ u,o=some u∧RelV v u:=by
  cases o with
  | none=>exact (show False from r).elim
  | some u=>exact ⟨u,rfl,r⟩
section
variable {P:Program} {w:World} {H H':Hp} {h h':Heap} {a C dx:Addr} {fs fs':List (Str×V)}
theorem ins_get (hok:HOk P w H h) (e:H a=some (.ins C dx fs)):∃ mA,ObjM h a dx C mA∧(∀ f,RelO (fs.lookup f) (mA f))∧PySem.Within mA (fs.map (·.1))∧fs.length≤1000∧H dx=some (.own a):=by
  obtain ⟨d,z,ne,ob,mA,n,r,q⟩:=(show ObjOk P w H h a (.ins C dx fs) from hok a _ e)
  exact ⟨mA,⟨ob,n,ne⟩,r,q,z,d⟩
end
structure Cls (K:PySem.W.Frag) (C:Addr):Prop where
  pg:PySem.W.plainGet K C Str.empty=true
  hd:PySem.W.hasDictIn K C=true
  po:PySem.W.plainOver K C=true
  sa:PySem.W.findIn K (.ref C) "__setattr__"=some (some (.builtin "object.__setattr__"))
theorem Cls.get {K:PySem.W.Frag} {C:Addr} (c:Cls K C) (f:Str):PySem.W.plainGet K C f=true:=c.pg
section
variable {X:Cx} {pins:List (Addr×Obj)} {σ:St} {H:Hp} {s:Shared} {a C dx:Addr} {fs:List (Str×V)} {f:Str} {v:V} {A:Around} {E:Value→Shared→Prop}
end
section
variable {X:Cx} {o e value:Expr} {f:Str} {pos pos' tpos:Pos} {ta tv:TE}
end
section
variable {X:Cx} {pins:List (Addr×Obj)} {σ:St} {H:Hp} {s:Shared} {A:Around} {E:Value→Shared→Prop} {Q:Value→Shared→Prop} {c:Value} {b:Bool}
inductive TyOf (K:PySem.W.Frag) (H:Hp):V→Value→Prop where
  | non:TyOf K H .non (.type "NoneType")
  | bl (x:Bool):TyOf K H (.bl x) (.type "bool")
  | int (i:Int):TyOf K H (.int i) (.type "int")
  | str (x:Str):TyOf K H (.str x) (.type "str")
  | flt (x:UInt64):TyOf K H (.flt x) (.type "float")
  | lst {a:Addr} {xs:List V} (e:H a=some (.lst xs)):TyOf K H (.ref a) (.type "list")
  | frz {a:Addr} {o:Obj} {xs:List V} (e:H a=some (.frz o (.lst xs))):TyOf K H (.ref a) (.type "list")
  | tup {a:Addr} {xs:List V} (e:H a=some (.tup xs)):TyOf K H (.ref a) (.type "tuple")
  | dK {a:Addr} {kvs:List (Key×V)} (e:H a=some (.dK kvs)):TyOf K H (.ref a) (.type "dict")
  | dT {a:Addr} {kvs:List (List Key×V)} (e:H a=some (.dT kvs)):TyOf K H (.ref a) (.type "dict")
  | ins {a C dx:Addr} {fs:List (Str×V)} (e:H a=some (.ins C dx fs)) (cl:Cls K C) (ha:PySem.W.findIn K (.ref C) "__class__"=some (some (.builtin "object.__class__")))
      (hn:PySem.W.specialIn K (.builtin "object.__class__") "__get__"=some (some (.builtin "getset_descriptor.__get__"))) (htk:PySem.W.takesIn K (.builtin "object.__class__")=some true)
      (hm:PySem.W.mroIn K C (.type "object")=some true):TyOf K H (.ref a) (.ref C)
theorem isinst_ok {x:V} {u t:Value} (I:Inv X pins σ H s) (rx:RelV x u) (ty:TyOf X.K H x t) (e:PySem.W.kitOne X.K t c=some b) (h:∀ tk,Q (.bool b) { s with toks:=tk }) :
    wpAny (model X.prog X.w) A (call (.builtin "isinstance") [u,c]) Q E s:=by
  cases ty with
  | non=>cases (show u=Value.none from rx); exact PySem.W.kia_one PySem.W.kitx_none I.kIn True.intro e (fun z=>nomatch z) h
  | bl y=>cases (show u=Value.bool y from rx); exact PySem.W.kia_one PySem.W.kitx_bool I.kIn True.intro e (fun z=>nomatch z) h
  | int i=>obtain ⟨t,q⟩:=(show ∃ t,u=Value.int i t from rx); cases q; exact PySem.W.kia_one PySem.W.kitx_int I.kIn True.intro e (fun z=>nomatch z) h
  | str y=>obtain ⟨t,q⟩:=(show ∃ t,u=Value.str y t from rx); cases q; exact PySem.W.kia_one PySem.W.kitx_str I.kIn True.intro e (fun z=>nomatch z) h
  | flt y=>obtain ⟨t,q⟩:=(show ∃ t,u=Value.float y t from rx); cases q; exact PySem.W.kia_one PySem.W.kitx_float I.kIn True.intro e (fun z=>nomatch z) h
  | @lst a xs ea =>
    cases (show u=Value.ref a from rx)
    obtain ⟨_,_,n,_,h1⟩:=(show ObjOk X.prog X.w H s.heap a (.lst xs) from I.hok a _ ea)
    exact PySem.W.kia_one PySem.W.kitx_list I.kIn ⟨_,h1,rfl⟩ e (fun z=>nomatch z) h
  | @frz a ob xs ea =>
    cases (show u=Value.ref a from rx)
    obtain ⟨_,_,_,n,_,h1⟩:=(show ObjOk X.prog X.w H s.heap a (.frz ob (.lst xs)) from I.hok a _ ea)
    exact PySem.W.kia_one PySem.W.kitx_list I.kIn ⟨_,h1,rfl⟩ e (fun z=>nomatch z) h
  | @tup a xs ea =>
    cases (show u=Value.ref a from rx)
    obtain ⟨_,_,_,p⟩:=(show ObjOk X.prog X.w H s.heap a (.tup xs) from I.hok a _ ea)
    obtain ⟨o,h1,h2,_⟩:=p
    exact PySem.W.kia_one PySem.W.kitx_tuple I.kIn ⟨o,h1,h2⟩ e (fun z=>nomatch z) h
  | @dK a kvs ea =>
    cases (show u=Value.ref a from rx)
    obtain ⟨_,_,vs,_,p⟩:=(show ObjOk X.prog X.w H s.heap a (.dK kvs) from I.hok a _ ea)
    obtain ⟨o,es,ep,h1,h2,_⟩:=p
    exact PySem.W.kia_one PySem.W.kitx_dict I.kIn ⟨o,h1,h2.1⟩ e (fun z=>nomatch z) h
  | @dT a kvs ea =>
    cases (show u=Value.ref a from rx)
    obtain ⟨_,_,xs,_,o,es,ep,h1,h2,_⟩:=(show ObjOk X.prog X.w H s.heap a (.dT kvs) from I.hok a _ ea)
    exact PySem.W.kia_one PySem.W.kitx_dict I.kIn ⟨o,h1,h2.1⟩ e (fun z=>nomatch z) h
  | @ins a C dx fs ea cl ha hn htk hm =>
    cases (show u=Value.ref a from rx)
    obtain ⟨mA,O,_⟩:=ins_get I.hok ea
    obtain ⟨od,J,_⟩:=O.look
    exact PySem.W.kia_one (PySem.W.kitx_own (cl.get _) cl.hd ha hn htk hm) I.kIn J e (fun z=>nomatch z) h
end
end L2
namespace L2
open PySem PySem.Spec PyProof.Rows
structure Room (k:Nat) (A:Around):Prop where
  hd:A.handled=none
  dp:A.depth + 3 * k + 5 < recursionLimit
  un:A.units + 16 * k + 200 < cLine
theorem Room.mono {j k:Nat} {A:Around} (r:Room k A) (h:j≤k):Room j A:=⟨r.hd,by have:=r.dp; omega,by have:=r.un; omega⟩
theorem Room.deeper {k:Nat} {A:Around} (r:Room (k + 1) A) (env:Env):Room k (A.deeper env) :=
  ⟨r.hd,by have:=r.dp; show A.depth + 1 + 3 * k + 5 < _; omega,by have:=r.un; show A.units + 3 + 16 * k + 200 < _; omega⟩
theorem Room.depth {k:Nat} {A:Around} (r:Room k A):A.depth < recursionLimit:=by have:=r.dp; omega
theorem Room.units {k:Nat} {A:Around} (r:Room k A):A.units + 64 < cLine:=by have:=r.un; omega
def tNil:TA:=fun _ H Q=>Q [] H
def tCons (ta:TE) (tr:TA):TA:=fun σ H Q=>ta σ H fun x H1=>tr σ H1 fun xs H2=>Q (x :: xs) H2
section
variable {X:Cx} {e:Expr} {es:List Expr} {te:TE} {t:TA} {pos:Pos}
theorem pa_nil:PA X [] tNil:=fun _ _ _ _ H Q I h=>Calls.spliced_nil ⟨[],H,I,.nil,h⟩
theorem pa_cons (ha:PE X e te) (hr:PA X es t) (hs:starEach (e :: es) X.env=(false,eval e X.env) :: starEach es X.env:=by rfl):PA X (e :: es) (tCons te t):=by
  intro pos pins s σ H Q I h
  rw [hs]
  show wpAny _ _ (spliced ((false,eval e X.env) :: backTo pos (starEach es X.env))) _ _ s
  refine Calls.spliced_cons (thn (ha pins s σ H _ I h) fun u s1 ⟨x,H1,I1,r1,q1⟩=>?_)
  exact thn (hr pos pins s1 σ H1 _ I1 q1) fun us s2 ⟨xs,H2,I2,r2,q2⟩=>⟨x :: xs,H2,I2,.cons r1 r2,q2⟩
def tTup (t:TA):TE:=fun σ H Q=>t σ H fun xs H1=>xs.length≤sizeLine∧∀ p,H1 p=none→Q (.ref p) (upd H1 p (.tup xs))
def tLst (t:TA):TE:=fun σ H Q=>t σ H fun xs H1=>xs.length≤sizeLine∧∀ p,H1 p=none→Q (.ref p) (upd H1 p (.lst xs))
theorem pe_tup {x1} (h:PA X es t):PE X (.Tuple es x1 pos) (tTup t):=by
  intro pins s σ H Q I hq
  refine wpAny_Tuple_spliced (thn (h pos pins s σ H _ I hq) fun us s1 ⟨xs,H1,I1,r,z,q⟩=>⟨by rw [← r.length]; exact z,?_⟩)
  have hf:H1 s1.heap.objs.size=none:=I1.hok.fresh (Nat.le_refl _)
  refine ⟨.ref s1.heap.objs.size,upd H1 s1.heap.objs.size (.tup xs),I1.laid (t':=s1.toks) (fun b u e=>Heap.get?_push_of_some _ e) (Nat.le_refl _) ?_,rfl,q _ hf⟩
  exact ⟨z,us,r,⟨_,Heap.get?_push_size _ rfl,rfl,_,rfl⟩⟩
theorem pe_lst (h:PA X es t):PE X (.List es pos) (tLst t):=by
  intro pins s σ H Q I hq
  refine wpAny_List_spliced (thn (h pos pins s σ H _ I hq) fun us s1 ⟨xs,H1,I1,r,z,q⟩=>⟨by rw [← r.length]; exact z,?_⟩)
  have hf:H1 s1.heap.objs.size=none:=I1.hok.fresh (Nat.le_refl _)
  refine ⟨.ref s1.heap.objs.size,upd H1 s1.heap.objs.size (.lst xs),I1.laid (t':=s1.toks) (fun b u e=>Heap.get?_push_of_some _ e) (Nat.le_refl _) ?_,rfl,q _ hf⟩
  exact ⟨z,us,0,r,Heap.get?_push_size _ rfl⟩
end
abbrev Sp:=List V→Hp→VK→XK→Prop
abbrev CXT:=List Env→Hp→Shared→XK→Value→Shared→Prop
structure Env0 (P:Program) (w:World) (K:PySem.W.Frag) (mg:Str→Option Value) (base:Heap) (A:Around) (outer:List Env) (s:Shared) (H:Hp):Prop where
  frames:A.frames=some outer
  mod:Mod K mg base
  bs:∀ b o,base.get? b=some o→s.heap.get? b=some o∧H b=none
  bsz:base.objs.size≤s.heap.objs.size
  funs:s.heap.FunFrames base outer
  frf:∀ b∈frs outer,H b=none
  hok:HOk P w H s.heap
  bare:AllBare s.gens
def CE (outer:List Env) (P:Program) (w:World) (H:Hp) (s:Shared) (Q:VK) (u:Value) (s':Shared):Prop :=
  ∃ v H',s'.os=s.os∧AllBare s'.gens∧Un (frs outer) [] H H' s.heap s'.heap∧HOk P w H' s'.heap∧RelV v u∧Q v H'
def CR (CX:CXT) (outer:List Env) (P:Program) (w:World) (H:Hp) (s:Shared) (Q:VK) (E:XK) (r:Result) (s':Shared):Prop :=
  match r with
  | .ok (.ret u)=>CE outer P w H s Q u s'
  | .ok _=>False
  | .error e=>CX outer H s E e s'
structure FnOk (P:Program) (w:World) (K:PySem.W.Frag) (mg:Str→Option Value) (base:Heap) (CX:CXT) (k:Nat) (f:Addr) (fd:FuncData) (ps:List Str) (sp:Sp):Prop where
  len:∀ vs H Q E,sp vs H Q E→vs.length=ps.length
  run:∀ (A:Around) (outer:List Env) (s:Shared) (H:Hp) (args:Args) (us:List Value) (vs:List V) (Q:VK) (E:XK),Room k A→Env0 P w K mg base A outer s H→BindsTo s fd args (ps.zip us)→Vals vs us→sp vs H Q E →
    codeAny (model P w) A (.call (.ref f) args) (CR CX outer P w H s Q E) s
section
variable {X:Cx} {pins:List (Addr×Obj)} {σ:St} {H:Hp} {s s':Shared}
theorem Inv.env0 (I:Inv X pins σ H s):Env0 X.prog X.w X.K X.mg X.base X.A X.stack s H :=
  ⟨I.ok.frames,I.ok.mod,I.bs,Nat.le_trans I.ok.bsz I.sz,I.stack,I.stkFree,I.hok,I.bare⟩
theorem Inv.after {Q:VK} {u:Value} (I:Inv X pins σ H s) (h:CE X.stack X.prog X.w H s Q u s'):EP X pins σ Q u s':=by
  obtain ⟨v,H',os,bare,un,hok,r,q⟩:=h
  obtain ⟨hh,g,d,t,os'⟩:=s'
  obtain rfl:os'=s.os:=os
  exact ⟨v,H',I.call (h':=hh) (g':=g) (d':=d) (t':=t) (ch:=[]) un hok bare (fun b z=>absurd z (by simp)),r,q⟩
end
def tCall (sp:Sp) (dvs:List V) (E:XK) (t:TA):TE:=fun σ H Q=>t σ H fun vs H1=>sp (vs ++ dvs) H1 Q E
def Binds (K:PySem.W.Frag) (fd:FuncData) (ps:List Str) (ds:List Value):Prop :=
  ∀ (s:Shared) (us:List Value),K.In s.heap→(us ++ ds).length=ps.length→BindsTo s fd ⟨us,[]⟩ (ps.zip (us ++ ds))
theorem Binds.all {K:PySem.W.Frag} {fd:FuncData} {ps:List Str} (h:∀ us:List Value,us.length=ps.length→bindArgs fd ⟨us,[]⟩=pure (ps.zip us)):Binds K fd ps []:=fun s us _ hl=>by
  rw [List.append_nil] at hl ⊢
  exact .of_eq (h us hl)
def Passes (CX:CXT) (X:Cx) (E:XK):Prop:=∀ (pins:List (Addr×Obj)) (σ:St) (H:Hp) (s:Shared) (e:Value) (s':Shared),Inv X pins σ H s→CX X.stack H s E e s'→X.xe e s'
section
variable {X:Cx} {CX:CXT} {k:Nat} {f C:Addr} {fd:FuncData} {ps:List Str} {sp:Sp} {dvs:List V} {ds:List Value} {E:XK} {x m:Str} {p pos apos:Pos} {e o:Expr} {es:List Expr} {ta:TE} {t:TA}
theorem run_fn {pins:List (Addr×Obj)} {σ:St} {H:Hp} {s:Shared} {Q:VK} {us:List Value} {vs:List V} (F:FnOk X.prog X.w X.K X.mg X.base CX k f fd ps sp) (hr:Room k X.A) (hb:Binds X.K fd ps ds) (hd:Vals dvs ds) (hx:Passes CX X E)
    (I:Inv X pins σ H s) (r:Vals vs us) (h:sp (vs ++ dvs) H Q E):wpAny (model X.prog X.w) X.A (call (.ref f) us) (EP X pins σ Q) X.xe s:=by
  have r2:Vals (vs ++ dvs) (us ++ ds):=r.append hd
  have hl:(us ++ ds).length=ps.length:=by rw [← r2.length]; exact F.len _ _ _ _ h
  refine wpAny_call (codeAny_mono (F.run X.A X.stack s H ⟨us,[]⟩ (us ++ ds) (vs ++ dvs) Q E hr I.env0 (hb s us I.kIn hl) r2 h) fun r s' hq=>?_)
  cases r with
  | error e=>exact hx pins σ H s e s' I hq
  | ok fl =>
    cases fl with
    | ret u=>exact I.after hq
    | next=>exact False.elim hq
    | brk=>exact False.elim hq
    | cont=>exact False.elim hq
theorem pe_call (F:FnOk X.prog X.w X.K X.mg X.base CX k f fd ps sp) (hr:Room k X.A) (hg:Gl X x) (hm:X.mg x=some (.ref f)) (hk:PySem.W.keepIn X.K (.ref f)=true) (hb:Binds X.K fd ps ds) (hd:Vals dvs ds) (hx:Passes CX X E)
    (ha:PA X (e :: es) t) (hdb:(x == ("__debug__":Str))=false:=by decide) (he:starEach (e :: es) X.env=(false,eval e X.env) :: starEach es X.env:=by rfl) (hpl:(backTo pos (starEach es X.env)).any (·.1)=false:=by rfl) :
    PE X (.Call (.Name x p) (e :: es) [] pos) (tCall sp dvs E t):=by
  intro pins s σ H Q I h
  refine wpAny_Call_Name_kw (ld_glob I hg hm ?_ hdb)
  refine PySem.W.callWith_K (h₀:=X.base) I.ok.mod.kin hk (thn (ha pos pins s σ H _ I h) fun us s1 ⟨vs,H1,I1,r,q⟩=>⟨I1.kIn,?_⟩) he hpl
  exact run_fn F hr hb hd hx I1 r q
end
section
variable {X:Cx} {CX:CXT} {k:Nat} {f C:Addr} {fd:FuncData} {ps ks:List Str} {sp:Sp} {E:XK} {x m:Str} {p pos apos kpos:Pos} {e o:Expr} {es:List Expr} {kws:List Keyword} {te ta:TE} {t tk:TA} {nm:Option Str}
variable {g:List Value→List Value→List Value} {gV:List V→List V→List V}
end
structure FnScope (N P:List Str) (sc:Scope):Prop where
  kind:sc.kind=.function
  co:sc.isCoroutine=false
  gen:sc.isGenerator=false
  nd:N.Nodup
  pre:N.take P.length=P
  par:∀ x∈P,sc.names.lookup x=some .local∨sc.names.lookup x=some .cell
  nofree:∀ y∈sc.names,y.2≠.free
theorem bindL_out {kindOf:Str→Option NameKind} {x:Str}:∀ {binds:List (Str×Value)} {m:Str→Option Value},(∀ v,(x,v) ∉ binds)→bindL kindOf binds m x=m x
  | [],_,_=>rfl
  | (n,v) :: r,m,h=>by
    unfold bindL
    rw [bindL_out fun w hw=>h w (List.mem_cons_of_mem _ hw)]
    split
    · have:x≠n:=by rintro rfl; exact h v List.mem_cons_self
      simp [this]
    · rfl
theorem bindC_out {kindOf:Str→Option NameKind} {x:Str}:∀ {binds:List (Str×Value)} {m:Str→Option Value},(∀ v,(x,v) ∉ binds)→bindC kindOf binds m x=m x
  | [],_,_=>rfl
  | (n,v) :: r,m,h=>by
    unfold bindC
    rw [bindC_out fun w hw=>h w (List.mem_cons_of_mem _ hw)]
    split
    · rfl
    · have:x≠n:=by rintro rfl; exact h v List.mem_cons_self
      simp [this]
theorem bindL_get {kindOf:Str→Option NameKind} {x:Str} {v:Value}:∀ {P:List Str} {vs:List Value} {i:Nat} {m:Str→Option Value},P.Nodup→P[i]?=some x→vs[i]?=some v→kindOf x=some .local →
    bindL kindOf (P.zip vs) m x=some v
  | [],_,_,_,_,h,_,_=>by simp at h
  | _ :: _,[],_,_,_,_,h,_=>by simp at h
  | p :: P,w :: vs,0,m,nd,h1,h2,hk=>by
    simp at h1 h2; subst h1; subst h2
    show bindL kindOf ((p,w) :: P.zip vs) m p=_
    unfold bindL
    rw [bindL_out fun v hv=>(List.nodup_cons.mp nd).1 (List.of_mem_zip hv).1,if_pos hk]
    simp
  | p :: P,w :: vs,i + 1,m,nd,h1,h2,hk=>by
    show bindL kindOf ((p,w) :: P.zip vs) m x=_
    unfold bindL
    exact bindL_get (i:=i) (List.nodup_cons.mp nd).2 (by simpa using h1) (by simpa using h2) hk
theorem bindC_get {kindOf:Str→Option NameKind} {x:Str} {v:Value}:∀ {P:List Str} {vs:List Value} {i:Nat} {m:Str→Option Value},P.Nodup→P[i]?=some x→vs[i]?=some v→kindOf x≠some .local →
    bindC kindOf (P.zip vs) m x=some v
  | [],_,_,_,_,h,_,_=>by simp at h
  | _ :: _,[],_,_,_,_,h,_=>by simp at h
  | p :: P,w :: vs,0,m,nd,h1,h2,hk=>by
    simp at h1 h2; subst h1; subst h2
    show bindC kindOf ((p,w) :: P.zip vs) m p=_
    unfold bindC
    rw [bindC_out fun v hv=>(List.nodup_cons.mp nd).1 (List.of_mem_zip hv).1,if_neg hk]
    simp
  | p :: P,w :: vs,i + 1,m,nd,h1,h2,hk=>by
    show bindC kindOf ((p,w) :: P.zip vs) m x=_
    unfold bindC
    exact bindC_get (i:=i) (List.nodup_cons.mp nd).2 (by simpa using h1) (by simpa using h2) hk
def start (N:List Str) (vs:List V):St:=vs.map some ++ List.replicate (N.length - vs.length) none
def cxOf (CX:CXT) (P:Program) (w:World) (K:PySem.W.Frag) (mg:Str→Option Value) (base:Heap) (N:List Str) (qual:Str) (scope:Scope) (f:Addr) (cd:Value) (A:Around) (outer:List Env) (s:Shared) (H:Hp) (E:XK):Cx where
  prog:=P
  w:=w
  K:=K
  mg:=mg
  base:=base
  A:=A.deeper (envOfC qual scope s.heap.objs.size f cd)
  N:=N
  s₀:=s
  H₀:=H
  env:=envOfC qual scope s.heap.objs.size f cd
  outer:=outer
  stack:=envOfC qual scope s.heap.objs.size f cd :: outer
  ex:=[]
  calm:=true
  fn:=fun _=>true
  pn:=[]
  xe:=fun e s'=>wpAny (model P w) (A.deeper (envOfC qual scope s.heap.objs.size f cd)) (leaving (envOfC qual scope s.heap.objs.size f cd) e) (fun _ s''=>CX outer H s E e s'') (fun e' s''=>CX outer H s E e' s'') s'
theorem cell_has {sc:Scope} {n:Nat} {x:Str} (h:sc.names.lookup x=some .cell):∃ c,(cellsFrom n sc.names []).lookup x=some c:=by
  have q:=PySem.W.cellsFrom_some sc.names n [] (.inl h)
  exact Option.isSome_iff_exists.mp q
theorem inv_start {CX:CXT} {P:Program} {w:World} {K:PySem.W.Frag} {mg:Str→Option Value} {base:Heap} {N ps:List Str} {qual:Str} {scope:Scope} {f:Addr} {cd:Value} {A:Around} {outer:List Env} {s s1:Shared} {H:Hp} {E:XK} {us:List Value} {vs:List V}
    (S:FnScope N ps scope) (hd:A.handled=none) (e0:Env0 P w K mg base A outer s H) (hl:vs.length=ps.length) (r:Vals vs us)
    (x:InCallC s s.heap.objs.size (bindL (envOfC qual scope s.heap.objs.size f cd).kindOf (ps.zip us) fun _=>none) (cellsFrom (s.heap.objs.size + 1) scope.names []) (bindC (envOfC qual scope s.heap.objs.size f cd).kindOf (ps.zip us) fun _=>none) s1) :
    Inv (cxOf CX P w K mg base N qual scope f cd A outer s H E) [] (start N vs) H s1:=by
  have hpl:ps.length≤N.length:=by have:=congrArg List.length S.pre; rw [List.length_take] at this; omega
  obtain ⟨h1,tk,rfl,hk⟩:=x.done
  have noA:∀ b:Addr,b ∉ (cxOf CX P w K mg base N qual scope f cd A outer s H E).ex:=fun b z=>absurd (show b∈([]:List Addr) from z) (by simp)
  refine ⟨⟨e0.mod,S.kind,rfl,rfl,Nat.le_refl _,fun y z c h1 h2=>?_,fun y hy=>?_,fun y c _ h=>?_,fun _=>hd,Around.frames_deeper e0.frames,.inr ⟨rfl,rfl⟩,fun b z=>absurd z (noA b),e0.bs,e0.bsz,fun b _ _=>noA b,fun b z=>absurd z (noA b),e0.funs,e0.frf⟩,
    rfl,e0.bare,Un.kept hk,⟨_,x.toInCall.ns,fun i y v h1 h2 h3=>?_⟩,fun y c h=>⟨_,x.cell y c h⟩,e0.hok.fresh (Nat.le_refl _),fun y c h=>?_,fun p hp=>absurd (show p∈([]:List (Addr×Obj)) from hp) (by simp),e0.hok.kept hk,?_⟩
  · exact name_of_addr x.apart (PySem.mem_of_lookup h1) (PySem.mem_of_lookup h2)
  · have hy:scope.names.lookup y=some .cell∨scope.names.lookup y=some .free:=hy
    rcases hy with hy | hy
    · exact cell_has hy
    · exact absurd rfl (S.nofree _ (PySem.mem_of_lookup hy))
  · exact Nat.le_of_lt (x.above y c (PySem.mem_of_lookup h))
  · have hi:i < vs.length:=by
      unfold start at h2
      by_cases hi:i < vs.length
      · exact hi
      · rw [List.getElem?_append_right (by simpa using hi)] at h2
        rw [List.getElem?_replicate] at h2
        split at h2 <;> cases h2
    have ha:vs[i]?=some v:=by
      unfold start at h2
      rw [List.getElem?_append_left (by simpa using hi),List.getElem?_map] at h2
      cases e:vs[i]? with
      | none=>rw [e] at h2; cases h2
      | some a=>rw [e] at h2; cases h2; rfl
    obtain ⟨u,hu,rv⟩:=r.get ha
    have hp:ps[i]?=some y:=by
      rw [← S.pre,List.getElem?_take_of_lt (by omega)]; exact h1
    have ndP:ps.Nodup:=by rw [← S.pre]; exact S.nd.sublist (List.take_sublist _ _)
    refine ⟨u,rv,?_⟩
    rcases S.par y (List.mem_of_getElem? hp) with k | k
    · exact .inl ⟨k,bindL_get ndP hp hu k⟩
    · obtain ⟨c,e⟩:=cell_has (n:=s.heap.objs.size + 1) k
      refine .inr ⟨.inl k,c,e,?_⟩
      have q:=x.cell y c e
      rw [bindC_get ndP hp hu (by show scope.names.lookup y≠_; rw [k]; decide)] at q
      exact q
  · exact e0.hok.fresh (Nat.le_of_lt (x.above y c (PySem.mem_of_lookup h)))
  · unfold start
    show _=N.length
    rw [List.length_append,List.length_map,List.length_replicate]
    omega
theorem fn_of {CX:CXT} {P:Program} {w:World} {K:PySem.W.Frag} {mg:Str→Option Value} {base:Heap} {k:Nat} {f:Addr} {name qual:Str} {params:Arguments} {body:List Stmt} {scope:Scope} {dV kV doc pm cdv ct oc:Value} {an od:Option Addr}
    {osl:Array (Option Value)} {N ps:List Str} {sp:Sp} (lk:K.lookup f=some ⟨oc,od,.func (PySem.W.fnOf name qual params body scope dV kV doc pm an cdv ct),osl⟩) (hcd:PySem.W.codeIn K cdv qual=true) (S:FnScope N ps scope)
    (len:∀ vs H Q E,sp vs H Q E→vs.length=ps.length)
    (hbody:∀ (A:Around) (outer:List Env) (s:Shared) (H:Hp) (vs:List V) (Q:VK) (E:XK),Room k (A.deeper (envOfC qual scope s.heap.objs.size f cdv))→sp vs H Q E →
      ∃ t,PSs (cxOf CX P w K mg base N qual scope f cdv A outer s H E) body t∧t { nx:=fun _ H'=>Q .non H',rt:=Q } (start N vs) H) :
    FnOk P w K mg base CX (k + 1) f (PySem.W.fnOf name qual params body scope dV kV doc pm an cdv ct) ps sp:=by
  refine ⟨len,fun A outer s H args us vs Q E hr e0 hb r hsp=>?_⟩
  have hl:=len _ _ _ _ hsp
  have KX:K.In s.heap:=e0.mod.kin.keeps fun b o e=>(e0.bs b o e).1
  have lim:s.heap.NoLimit:=e0.mod.nolimit.keeps fun b o e=>(e0.bs b o e).1
  have hkind:∀ y∈ps.zip us,scope.names.lookup y.1=some .local∨(scope.names.lookup y.1=some .cell∧((cellsFrom (s.heap.objs.size + 1) scope.names []).lookup y.1).isSome=true):=fun ⟨n,v⟩ hy=>by
    rcases S.par n (List.of_mem_zip hy).1 with q | q
    · exact .inl q
    · exact .inr ⟨q,PySem.W.cellsFrom_some _ _ _ (.inl q)⟩
  refine codeAny_call_function hr.depth (KX _ _ lk) rfl S.co S.gen rfl (PySem.W.codeRec_of KX hcd) (hb _ _ _ _ ?_)
  refine wpAny_newFunctionEnv_cells S.kind hkind fun env he s1 x=>?_
  subst he
  refine ⟨lim.keeps x.toInCall.keep,codeAny_func ?_⟩
  obtain ⟨t,ht,hq⟩:=hbody A outer s H vs Q E (hr.deeper _) hsp
  have I:Inv (cxOf CX P w K mg base N qual scope f cdv A outer s H E) [] (start N vs) H s1:=inv_start S hr.hd e0 hl r x
  refine wpAny_mono (ht [] s1 (start N vs) H _ I hq) (fun fl s' hs=>?_) fun e s' hs=>hs
  have fin:∀ {σ':St} {H':Hp} {v:V} {u:Value},Inv (cxOf CX P w K mg base N qual scope f cdv A outer s H E) [] σ' H' s'→RelV v u→Q v H'→CE outer P w H s Q u s' :=
    fun {σ' H' v u} J rv q=>⟨v,H',J.os,J.bare,J.base,J.hok,rv,q⟩
  cases fl with
  | ret u =>
    obtain ⟨v,σ',H',J,rv,q⟩:=hs
    exact fin J rv q
  | next =>
    obtain ⟨σ',H',J,q⟩:=hs
    exact fin (v:=V.non) (u:=Value.none) J rfl q
  | brk =>
    obtain ⟨_,_,_,q⟩:=hs
    exact False.elim q
  | cont =>
    obtain ⟨_,_,_,q⟩:=hs
    exact False.elim q
end L2
namespace L2
open PySem PySem.Spec PyProof.Rows
section
variable {X:Cx} {x:Str} {p pos:Pos} {e:Expr} {es:List Expr} {t:TA} {id T:String} {r:List V→Hp→VK→Prop}
def tCB (r:List V→Hp→VK→Prop) (t:TA):TE:=fun σ H Q=>t σ H fun vs H1=>r vs H1 Q
theorem pe_callB (hc:CallR X (.builtin id) r) (hg:Gl X x) (hm:X.mg x=none) (hv:bootBuiltins x=some (.builtin id)) (ha:PA X (e :: es) t) (hn:x≠"__name__":=by decide) (hdb:(x == ("__debug__":Str))=false:=by decide)
    (he:starEach (e :: es) X.env=(false,eval e X.env) :: starEach es X.env:=by rfl) (hpl:(backTo pos (starEach es X.env)).any (·.1)=false:=by rfl):PE X (.Call (.Name x p) (e :: es) [] pos) (tCB r t):=by
  intro pins s σ H Q I h
  refine wpAny_Call_Name_kw (ld_blt I hg hm hv ?_ hn hdb)
  exact PyProof.Rows.callWith_builtin1 (thn (ha pos pins s σ H _ I h) fun us s1 ⟨vs,H1,I1,r1,q1⟩=>hc pins s1 σ H1 vs us Q I1 r1 q1) he hpl
theorem pe_callTy (hc:CallR X (.type T) r) (hg:Gl X x) (hm:X.mg x=none) (hv:bootBuiltins x=some (.type T)) (ha:PA X (e :: es) t) (hn:x≠"__name__":=by decide) (hdb:(x == ("__debug__":Str))=false:=by decide)
    (he:starEach (e :: es) X.env=(false,eval e X.env) :: starEach es X.env:=by rfl) (hpl:(backTo pos (starEach es X.env)).any (·.1)=false:=by rfl):PE X (.Call (.Name x p) (e :: es) [] pos) (tCB r t):=by
  intro pins s σ H Q I h
  refine wpAny_Call_Name_kw (ld_blt I hg hm hv ?_ hn hdb)
  exact PyProof.Rows.callWith_type1 (thn (ha pos pins s σ H _ I h) fun us s1 ⟨vs,H1,I1,r1,q1⟩=>hc pins s1 σ H1 vs us Q I1 r1 q1) he hpl
end
end L2
namespace HT
open PySem PyProof.Rows
def lexLt:List Int→List Int→Bool
  | [],[]=>false
  | [],_ :: _=>true
  | _ :: _,[]=>false
  | x :: xs,y :: ys=>if x=y then lexLt xs ys else decide (x < y)
theorem lexLt_cons (x y:Int) (xs ys:List Int):lexLt (x :: xs) (y :: ys)=if x=y then lexLt xs ys else decide (x < y):=rfl
theorem lexLt_nil_nil:lexLt [] []=false:=rfl
theorem eqAt_int (A:Around) (s:Shared) (a:Int) (t:Tok) (c:Int) (u:Tok):∃ e,SeqAt.EqAt A s (.int a t) (.int c u) e∧(e=true↔a=c) :=
  ⟨(a == c),SeqAt.EqAt.int_int a t c u,by simp⟩
theorem rcLt_int (A:Around) (s:Shared) (a:Int) (t:Tok) (c:Int) (u:Tok) (prog:Program) (w:World) (E:Value→Shared→Prop) (Q:Value→Shared→Prop) (h:Q (.bool (decide (a < c))) s) :
    wpAny (model prog w) A (richCompare .Lt (.int a t) (.int c u)) Q E s :=
  (PyProof.Rows.lt_int h:wpAny (model prog w) A (compareOp .Lt (.int a t) (.int c u)) Q E s)
section
open PySem.SeqAt
open PySem.AutoSeq1 (wpAny_loadPart')
open PySem.MeetsSeq PySem.MeetsSeq2 PySem.MeetsSeq3
end
section
variable {prog:Program} {w:World} {A:Around} {E:Value→Shared→Prop} {s:Shared}
theorem cat_tup {t b:Addr} {vs ws:List Value} {Q:Value→Shared→Prop} (ht:IsTup s.heap t vs.toArray) (hb:IsTup s.heap b ws.toArray) (hv:vs≠[])
    (h1:ws=[]→Q (.ref t) s) (h2:ws≠[]→Q (.ref s.heap.objs.size) { s with heap:=s.heap.push { cls:=.type "tuple",data:=.seq (vs ++ ws).toArray } })
    (hsz:vs.length + ws.length≤sizeLine):wpAny (model prog w) A (binaryOp .Add (.ref t) (.ref b)) Q E s:=by
  obtain ⟨⟨cls,dd,data,sl⟩,ho,hc,n,hd⟩:=id ht
  obtain ⟨⟨cls2,dd2,data2,sl2⟩,ho2,hc2,n2,hd2⟩:=id hb
  simp only at hc hd hc2 hd2
  subst hc hd hc2 hd2
  have e:vs.toArray ++ ws.toArray=(vs ++ ws).toArray:=by simp
  by_cases hw:ws=[]
  · exact concat_meets ⟨_,ho,rfl⟩ ⟨_,ho2,rfl⟩ noFill_tuple_add seq_tuple_add PySem.F.slot_tuple_add PySem.F.entry_tuple_add (PySem.F.args_tuple_add_2 _ _)
      (tuple_addW1 t b vs.toArray ws.toArray n n2 dd dd2 sl sl2 (by simpa using hv) (by simp [hw])) ⟨ho,ho2,h1 hw⟩
  · refine concat_meets ⟨_,ho,rfl⟩ ⟨_,ho2,rfl⟩ noFill_tuple_add seq_tuple_add PySem.F.slot_tuple_add PySem.F.entry_tuple_add (PySem.F.args_tuple_add_2 _ _)
      (tuple_addW2 t b vs.toArray ws.toArray n n2 dd dd2 sl sl2 (by simpa using hv) (by simpa using hw) (by rw [List.size_toArray,List.size_toArray]; exact hsz)) ⟨ho,ho2,?_⟩
    rw [e]
    exact h2 hw
def sIx (n d:Nat):Option Int→Nat
  | none=>d
  | some v=>if v < 0 then (v + (n:Int)).toNat else min v.toNat n
theorem sIx_nat (n d k:Nat):sIx n d (some (k:Int))=min k n:=by
  show (if (k:Int) < 0 then ((k:Int) + (n:Int)).toNat else min (k:Int).toNat n)=min k n
  rw [if_neg (by omega),Int.toNat_natCast]
theorem sIx_le (n d:Nat) (hd:d≤n) (o:Option Int):sIx n d o≤n:=by
  cases o with
  | none=>exact hd
  | some v =>
    show (if v < 0 then (v + (n:Int)).toNat else min v.toNat n)≤n
    by_cases hv:v < 0
    · rw [if_pos hv]; omega
    · rw [if_neg hv]; exact Nat.min_le_right _ _
theorem clip_eq (v:Int) (n d:Nat):(if v < 0 then max (v + (n:Int)) 0 else min v (n:Int))=((sIx n d (some v):Nat):Int):=by
  show (if v < 0 then max (v + (n:Int)) 0 else min v (n:Int))=(((if v < 0 then (v + (n:Int)).toNat else min v.toNat n):Nat):Int)
  by_cases hv:v < 0
  · simp only [if_pos hv]; omega
  · simp only [if_neg hv]; omega
theorem adjust_gen (lo hi:Option Int) (n:Nat):Builtin.Slice.sliceAdjust lo hi 1 (n:Int)=(((sIx n 0 lo:Nat):Int),((sIx n n hi:Nat):Int)):=by
  have h1:¬ ((1:Int) < 0):=by omega
  unfold Builtin.Slice.sliceAdjust
  simp only [h1,if_false]
  refine Prod.ext ?_ ?_
  · cases lo with
    | none=>rfl
    | some v=>exact clip_eq v n 0
  · cases hi with
    | none=>rfl
    | some v=>exact clip_eq v n n
theorem places_gen (i j:Nat):Builtin.Slice.slicePlaces (i:Int) (j:Int) 1=j - i:=by
  unfold Builtin.Slice.slicePlaces
  have h1:(1:Int) > 0:=by omega
  simp only [h1,if_true,Int.ediv_one]
  split <;> omega
theorem slicePart_ {v:Value} {o:Option Int} {Q:Option Int→Shared→Prop} (p:IsPart v o) (h:Q o s):wpAny (model prog w) A (Builtin.Slice.slicePartIndex v) Q E s:=by
  cases p with
  | none=>exact slicePart_none h
  | int i t=>exact slicePart_int h
theorem sliceApplied_gen {sl:Addr} {vl vu:Value} {lo hi:Option Int} {n:Nat} {Q:Int×Int×Nat→Shared→Prop} (hs:s.heap.IsSliceOf sl vl vu .none) (pl:IsPart vl lo) (pu:IsPart vu hi)
    (h:Q (((sIx n 0 lo:Nat):Int),1,sIx n n hi - sIx n 0 lo) s):wpAny (model prog w) A (Builtin.Slice.sliceApplied (.ref sl) (pure (n:Int))) Q E s:=by
  obtain ⟨os,hos,hcs,hds⟩:=id hs
  unfold Builtin.Slice.sliceApplied Builtin.Slice.sliceFields
  refine wpAny_bind (wpAny_bind (wpAny_field hos hds (x:=vl) rfl (wpAny_bind (wpAny_field hos hds (x:=vu) rfl (wpAny_bind (wpAny_field hos hds (x:=.none) rfl (wpAny_pure ?_)))))))
  refine wpAny_bind (slicePart_none ?_)
  show wpAny _ _ (if ((1:Int) == 0)=true then _ else _) _ _ s
  rw [if_neg (by decide)]
  refine wpAny_bind (slicePart_ pl (wpAny_bind (slicePart_ pu (wpAny_bind (wpAny_pure ?_)))))
  show wpAny _ _ (match Builtin.Slice.sliceAdjust lo hi 1 (n:Int) with | (lo,hi)=>pure (lo,(1:Int),Builtin.Slice.slicePlaces lo hi 1)) _ _ s
  rw [adjust_gen lo hi n]
  show wpAny _ _ (pure (((sIx n 0 lo:Nat):Int),(1:Int),Builtin.Slice.slicePlaces ((sIx n 0 lo:Nat):Int) ((sIx n n hi:Nat):Int) 1)) _ _ s
  rw [places_gen]
  exact wpAny_pure h
theorem pick_gen (xs:Array Value) (i k:Nat):((List.range k).filterMap fun (m:Nat)=>xs[((i:Int) + (m:Int) * 1).toNat]?).toArray=((xs.toList.drop i).take k).toArray:=by
  have e:(fun (m:Nat)=>xs[((i:Int) + (m:Int) * 1).toNat]?)=fun m=>xs[i + m]?:=by
    funext m
    have:((i:Int) + (m:Int) * 1).toNat=i + m:=by omega
    rw [this]
  rw [e]
  have:=pick_run xs i k
  rw [List.filterMap_map] at this
  have e2:((fun x=>xs[x]?) ∘ fun x=>i + x)=fun m=>xs[i + m]?:=rfl
  rw [e2] at this
  rw [this]
theorem getItem_tuple_cut {t sl:Addr} {items:Array Value} {vl vu:Value} {lo hi:Option Int} {Q:Value→Shared→Prop} (ht:IsTup s.heap t items) (hs:s.heap.IsSliceOf sl vl vu .none) (pl:IsPart vl lo) (pu:IsPart vu hi)
    (hw:¬ (sIx items.size 0 lo=0∧sIx items.size items.size hi=items.size))
    (h:Q (.ref s.heap.objs.size) { s with heap:=s.heap.push { cls:=.type "tuple",data:=.seq ((items.toList.drop (sIx items.size 0 lo)).take (sIx items.size items.size hi - sIx items.size 0 lo)).toArray } })
    (hsz:items.size≤sizeLine):wpAny (model prog w) A (getItem (.ref t) (.ref sl)) Q E s:=by
  have htake:sizeOk (.seq ((items.toList.drop (sIx items.size 0 lo)).take (sIx items.size items.size hi - sIx items.size 0 lo)).toArray):=by
    show ((items.toList.drop (sIx items.size 0 lo)).take (sIx items.size items.size hi - sIx items.size 0 lo)).toArray.size≤sizeLine
    rw [List.size_toArray,List.length_take,List.length_drop,Array.length_toList]
    omega
  have hj:sIx items.size items.size hi≤items.size:=sIx_le _ _ (Nat.le_refl _) hi
  obtain ⟨os,hos,hcs,hds⟩:=id hs
  have hTs:s.TypeIs (.ref sl) "slice":=⟨os,hos,hcs⟩
  unfold getItem
  try with_reducible refine wpAny_holding ?_
  first | refine wpAny_bind (wpAny_pure ?_) | skip
  refine wpAny_bind (wpAny_sequenceKey ht.typeIs (by decide) ?_)
  refine wpAny_bind (wpAny_callSpecial?_slot (name:=Str.ofString "__getitem__") ht.typeIs PyProof.Rows.slot_tuple_getitem
    (wpAny_call_entry PyProof.Rows.slot_tuple_getitem ht.typeIs entry_tuple_getitem ?_ (args_tuple_getitem _ _)))
  show wpAny _ _ (Builtin.Tuple.tupleItemsOf (.ref t) >>= _) _ _ s
  refine wpAny_bind (tupleItemsOf_ ht ?_)
  refine wpAny_bind (wpAny_typeOf hTs ?_)
  rw [if_pos (by decide)]
  refine wpAny_bind (sliceApplied_gen hs pl pu ?_)
  have hno:¬ ((((sIx items.size 0 lo:Nat):Int) == 0 && (1:Int) == 1 && (sIx items.size items.size hi - sIx items.size 0 lo) == items.size)=true):=by
    intro q
    rw [Bool.and_eq_true,Bool.and_eq_true] at q
    have q1:((sIx items.size 0 lo:Nat):Int)=0:=eq_of_beq q.1.1
    have q2:sIx items.size items.size hi - sIx items.size 0 lo=items.size:=eq_of_beq q.2
    exact hw ⟨by omega,by omega⟩
  show wpAny _ _ (if (((sIx items.size 0 lo:Nat):Int) == 0 && (1:Int) == 1 && (sIx items.size items.size hi - sIx items.size 0 lo) == items.size)=true then _ else _) _ _ s
  rw [if_neg hno,pick_gen]
  first
    | exact wpAny_bind (m:=Builtin.Tuple.tupleExact _) (wpAny_newObj_type (wpAny_pure ⟨_,rfl,wpAny_pure h⟩) htake)
    | exact wpAny_bind (m:=Builtin.Tuple.tupleExact _) (wpAny_newObj_type (wpAny_bind (wpAny_pure (wpAny_pure ⟨_,rfl,wpAny_pure h⟩))) htake)
    | exact wpAny_bind (wpAny_bind (m:=Builtin.Tuple.tupleExact _) (wpAny_newObj_type (wpAny_pure (wpAny_pure ⟨_,rfl,wpAny_pure h⟩)) htake))
    | exact wpAny_bind (wpAny_bind (m:=Builtin.Tuple.tupleExact _) (wpAny_newObj_type (wpAny_pure ⟨_,rfl,wpAny_pure h⟩) htake))
end
end HT
namespace L2
open PySem PySem.Spec PyProof.Rows
abbrev TO:=St→Hp→(Option Int→Hp→Prop)→Prop
def PO (X:Cx) (e:Option Expr) (t:TO):Prop :=
  ∀ (pins:List (Addr×Obj)) (s:Shared) (σ:St) (H:Hp) (Q:Option Int→Hp→Prop),Inv X pins σ H s→t σ H Q →
    wpAny (model X.prog X.w) X.A (evalPart e X.env) (fun u s'=>∃ o H',Inv X pins σ H' s'∧IsPart u o∧Q o H') X.xe s
def tNoPart:TO:=fun _ H Q=>Q none H
def tPart (t:TE):TO:=fun σ H Q=>t σ H fun x H1=>∃ i,x=.int i∧Q (some i) H1
theorem intsAre_of {ns:List Int}:∀ {us:List Value},Vals (ns.map V.int) us→IntsAre us ns:=by
  induction ns with
  | nil=>intro us r; rw [List.map_nil] at r; cases r; exact .nil
  | cons n ns ih =>
    intro us r
    rw [List.map_cons] at r
    cases r with
    | cons r1 r2 =>
      obtain ⟨t,e⟩:=r1
      subst e
      exact .cons n t (ih r2)
section
variable {X:Cx} {e:Expr} {te:TE} {lo hi:Option Expr} {tl th:TO} {pos p2:Pos}
theorem po_none:PO X none tNoPart:=by
  intro pins s σ H Q I h
  rw [evalPart_none]
  exact wpAny_pure ⟨none,H,I,.none,h⟩
theorem po_some (h:PE X e te):PO X (some e) (tPart te):=by
  intro pins s σ H Q I hw
  rw [evalPart_some]
  refine thn (h pins s σ H _ I hw) fun u s1 ⟨x,H1,I1,r1,q1⟩=>?_
  obtain ⟨i,rfl,q⟩:=q1
  obtain ⟨t,rfl⟩:=r1
  exact ⟨some i,H1,I1,.int i t,q⟩
def SlR (X:Cx) (r:V→Option Int→Option Int→Hp→VK→Prop):Prop :=
  ∀ (pins:List (Addr×Obj)) (s:Shared) (σ:St) (H:Hp) (x:V) (v vl vu:Value) (lo hi:Option Int) (sl:Addr) (Q:VK),Inv X pins σ H s→RelV x v→s.heap.IsSliceOf sl vl vu .none→IsPart vl lo→IsPart vu hi→r x lo hi H Q →
    ∃ T id,typeLookup (.type T) "__getitem__"=pure (some (.builtin id))∧s.TypeIs v T∧wpAny (model X.prog X.w) X.A (getItem v (.ref sl)) (EP X pins σ Q) X.xe s
theorem SlR.or {r r':V→Option Int→Option Int→Hp→VK→Prop} (h:SlR X r) (h':SlR X r'):SlR X (fun x lo hi H Q=>r x lo hi H Q∨r' x lo hi H Q):=by
  intro pins s σ H x v vl vu lo hi sl Q I rx hs pl pu q
  rcases q with q | q
  · exact h pins s σ H x v vl vu lo hi sl Q I rx hs pl pu q
  · exact h' pins s σ H x v vl vu lo hi sl Q I rx hs pl pu q
def tSl (r:V→Option Int→Option Int→Hp→VK→Prop) (te:TE) (tl th:TO):TE:=fun σ H Q=>te σ H fun x H1=>tl σ H1 fun l H2=>th σ H2 fun u H3=>r x l u H3 Q
theorem pe_slice {r:V→Option Int→Option Int→Hp→VK→Prop} (hr:SlR X r) (he:PE X e te) (hl:PO X lo tl) (hu:PO X hi th):PE X (.Subscript e (.Slice lo hi none p2) pos) (tSl r te tl th):=by
  intro pins s σ H Q I h
  refine Subscript_ (thn (he pins s σ H _ I h) fun v s1 ⟨x,H1,I1,r1,q1⟩=>?_)
  refine wpAny_Slice (thn (hl pins s1 σ H1 _ I1 q1) fun vl s2 ⟨l,H2,I2,pl,q2⟩=>thn (hu pins s2 σ H2 _ I2 q2) fun vu s3 ⟨u,H3,I3,pu,q3⟩=>?_)
  rw [evalPart_none]
  refine wpAny_pure ?_
  have I4:Inv X pins σ H3 { s3 with heap:=s3.heap.push { cls:=.type "slice",data:=.fields #[vl,vu,.none] } }:=I3.kept (t':=s3.toks) fun b ob q=>Heap.get?_push_of_some _ q
  obtain ⟨T,id,hT,ht,hg⟩:=hr pins { s3 with heap:=s3.heap.push { cls:=.type "slice",data:=.fields #[vl,vu,.none] } } σ H3 x v vl vu l u s3.heap.objs.size Q I4 r1 (Heap.IsSliceOf.new ..) pl pu q3
  show wpAny (model X.prog X.w) X.A (subscriptTail e (.Slice lo hi none p2) v (.ref s3.heap.objs.size)) (EP X pins σ Q) X.xe { s3 with heap:=s3.heap.push { cls:=.type "slice",data:=.fields #[vl,vu,.none] } }
  exact tail_any (ops:=[.ref s3.heap.objs.size,v]) ht hT hg (by with_unfolding_all rfl)
def cutV (xs:List V) (lo hi:Option Int):List V:=(xs.drop (HT.sIx xs.length 0 lo)).take (HT.sIx xs.length xs.length hi - HT.sIx xs.length 0 lo)
theorem cutV_length (xs:List V) (lo hi:Option Int):(cutV xs lo hi).length≤xs.length:=by
  unfold cutV
  rw [List.length_take,List.length_drop]
  omega
def rSlT (K:PySem.W.Frag):V→Option Int→Option Int→Hp→VK→Prop:=fun x lo hi H Q=>∃ a xs,x=.ref a∧SqT K H a xs ∧
  ¬ (HT.sIx xs.length 0 lo=0∧HT.sIx xs.length xs.length hi=xs.length)∧∀ p,H p=none→Q (.ref p) (upd H p (.tup (cutV xs lo hi)))
theorem sl_tup:SlR X (rSlT X.K):=by
  intro pins s σ H x v vl vu lo hi sl Q I rx hs pl pu h
  obtain ⟨a,xs,rfl,hx,hw,q⟩:=h
  cases rx
  obtain ⟨its,r,ht,hz⟩:=I.tuple hx
  have hlen:its.toArray.size=xs.length:=by rw [List.size_toArray]; exact r.length.symm
  refine ⟨"tuple",_,PyProof.Rows.slot_tuple_getitem.lookup,ht.typeIs,?_⟩
  refine HT.getItem_tuple_cut ht hs pl pu (by rw [hlen]; exact hw) ?_ (by rw [hlen]; exact hz)
  rw [hlen]
  refine ⟨.ref s.heap.objs.size,_,I.laid (t':=s.toks) (o:=.tup (cutV xs lo hi)) (fun b ob q=>Heap.get?_push_of_some _ q) (Nat.le_refl _) ?_,rfl,q _ (I.hok.fresh (Nat.le_refl _))⟩
  exact ⟨Nat.le_trans (cutV_length xs lo hi) hz,_,(r.drop (HT.sIx xs.length 0 lo)).take (HT.sIx xs.length xs.length hi - HT.sIx xs.length 0 lo),IsTup.new _ _⟩
def rCatT (K:PySem.W.Frag):R2:=fun x y H Q=>∃ a b xs ys,x=.ref a∧y=.ref b∧SqT K H a xs∧SqT K H b ys∧xs≠[]∧xs.length + ys.length≤sizeLine ∧
  (ys=[]→Q (.ref a) H)∧(ys≠[]→∀ p,H p=none→Q (.ref p) (upd H p (.tup (xs ++ ys))))
theorem Vals.nil_iff {xs:List V} {us:List Value} (r:Vals xs us):us=[]↔xs=[]:=by
  cases r with
  | nil=>simp
  | cons _ _=>simp
theorem op_catT:OpR X (binaryOp .Add) (rCatT X.K):=by
  intro pins s σ H x y v u Q I rx ry h
  obtain ⟨a,b,xs,ys,rfl,rfl,ha,hb,hx,hz,q1,q2⟩:=h
  cases rx
  cases ry
  obtain ⟨its,r1,p1,_⟩:=I.tuple ha
  obtain ⟨its2,r2,p2,_⟩:=I.tuple hb
  refine HT.cat_tup p1 p2 (fun z=>hx (r1.nil_iff.mp z)) (fun z=>⟨.ref a,H,I,rfl,q1 (r2.nil_iff.mp z)⟩) (fun z=>?_) (by rw [← r1.length,← r2.length]; exact hz)
  refine ⟨.ref s.heap.objs.size,_,I.laid (t':=s.toks) (o:=.tup (xs ++ ys)) (fun b ob q=>Heap.get?_push_of_some _ q) (Nat.le_refl _) ?_,rfl,q2 (fun w=>z (r2.nil_iff.mpr w)) _ (I.hok.fresh (Nat.le_refl _))⟩
  exact ⟨by rw [List.length_append]; exact hz,_,r1.append r2,IsTup.new _ _⟩
end
end L2
namespace L2
open PySem PySem.Spec PyProof.Rows
def ixN (n:Nat) (i:Int):Option Nat:=if 0≤i then (if i < n then some i.toNat else none) else if -(n:Int)≤i then some (i + n).toNat else none
def atI {α:Type} (xs:List α) (i:Int):Option α:=(ixN xs.length i).bind fun j=>xs[j]?
theorem ixN_seq {n:Nat} {i:Int} {j:Nat} (h:ixN n i=some j):seqIndex? i n=some j∧j < n∧-(n:Int)≤i∧i < n:=by
  unfold ixN at h
  by_cases h0:0≤i
  · rw [if_pos h0] at h
    by_cases h1:i < n
    · rw [if_pos h1] at h
      have e:i.toNat=j:=Option.some.inj h
      exact ⟨by rw [seqIndex_of h0 h1,e],by omega,by omega,h1⟩
    · rw [if_neg h1] at h; cases h
  · rw [if_neg h0] at h
    by_cases h1:-(n:Int)≤i
    · rw [if_pos h1] at h
      have e:(i + n).toNat=j:=Option.some.inj h
      exact ⟨by rw [seqIndex_neg (by omega) h1,e],by omega,h1,by omega⟩
    · rw [if_neg h1] at h; cases h
theorem atI_get {α:Type} {xs:List α} {i:Int} {v:α} (h:atI xs i=some v):∃ j,seqIndex? i xs.length=some j∧xs[j]?=some v∧j < xs.length∧-(xs.length:Int)≤i∧i < xs.length:=by
  unfold atI at h
  cases e:ixN xs.length i with
  | none=>rw [e] at h; cases h
  | some j =>
    rw [e] at h
    obtain ⟨h1,h2,h3,h4⟩:=ixN_seq e
    exact ⟨j,h1,h,h2,h3,h4⟩
theorem atI_nat {α:Type} {xs:List α} {j:Nat} {v:α} (h:xs[j]?=some v):atI xs (j:Int)=some v:=by
  have hj:j < xs.length:=(List.getElem?_eq_some_iff.mp h).1
  have e:ixN xs.length (j:Int)=some j:=by
    unfold ixN
    rw [if_pos (by omega),if_pos (by omega)]; simp
  unfold atI; rw [e]; exact h
def PlainIx (b:Expr):Prop:=∀ o i,subscripted b false o i=operate [o,i] (getItem o i)
def IxR (X:Cx) (r:R2):Prop :=
  ∀ (value slice:Expr) (pins:List (Addr×Obj)) (s:Shared) (σ:St) (H:Hp) (x y:V) (v u:Value) (Q:VK),Inv X pins σ H s→RelV x v→RelV y u→r x y H Q →
    subscripted slice false v u=operate [v,u] (getItem v u)→wpAny (model X.prog X.w) X.A (subscriptTail value slice v u) (EP X pins σ Q) X.xe s
def MtR (X:Cx) (id:String) (r:V→List V→Hp→VK→Prop):Prop :=
  ∀ (pins:List (Addr×Obj)) (s:Shared) (σ:St) (H:Hp) (x:V) (xs:List V) (v:Value) (us:List Value) (Q:VK),Inv X pins σ H s→RelV x v→Vals xs us→r x xs H Q →
    wpAny (model X.prog X.w) X.A (call (.builtin id) (v :: us)) (EP X pins σ Q) X.xe s
section
variable {X:Cx} {a b:Expr} {ta tb:TE} {pos:Pos}
theorem IxR.or {r r':R2} (h:IxR X r) (h':IxR X r'):IxR X (fun x y H Q=>r x y H Q∨r' x y H Q):=by
  intro value slice pins s σ H x y v u Q I rx ry q hs
  rcases q with q | q
  · exact h value slice pins s σ H x y v u Q I rx ry q hs
  · exact h' value slice pins s σ H x y v u Q I rx ry q hs
theorem pe_ix {r:R2} (hr:IxR X r) (ha:PE X a ta) (hb:PE X b tb) (hs:PlainIx b):PE X (.Subscript a b pos) (tOp r ta tb):=by
  intro pins s σ H Q I h
  exact Subscript_ (binT ha hb I h fun v u s2 x y H2 I2 rx ry q=>hr a b pins s2 σ H2 x y v u Q I2 rx ry q (hs _ _))
def rIxL (K:PySem.W.Frag):R2:=fun x y H Q=>∃ p xs i v,x=.ref p∧y=.int i∧SqL K H p xs∧atI xs i=some v∧Q v H
def rIxT (K:PySem.W.Frag):R2:=fun x y H Q=>∃ p xs i v,x=.ref p∧y=.int i∧SqT K H p xs∧atI xs i=some v∧Q v H
def rIxS:R2:=fun x y H Q=>∃ z i c,x=.str z∧y=.int i∧z.length≤sizeLine∧atI z.cps.toList i=some c∧Q (.str ⟨#[c]⟩) H
theorem ix_list:IxR X (rIxL X.K):=by
  intro value slice pins s σ H x y v u Q I rx ry h hs
  obtain ⟨p,xs,i,z,rfl,rfl,hq,he,q⟩:=h
  cases rx
  obtain ⟨t,rfl⟩:=ry
  obtain ⟨its,r,pl,hz⟩:=I.list hq
  obtain ⟨j,h1,h2,h3,h4,h5⟩:=atI_get he
  obtain ⟨w,ew,rw'⟩:=r.get h2
  have hl:=r.length
  have hn:=line63
  have fin:EP X pins σ Q w s:=⟨z,H,I,rw',q⟩
  by_cases h0:0≤i
  · have hj:i.toNat=j:=by
      rw [seqIndex_of h0 h5] at h1
      exact Option.some.inj h1
    exact item_listR pl.isList h0 (by omega) (by rw [hj]; simpa using ew) fin hs
  · have hj:(i + (its.toArray.size:Int)).toNat=j:=by
      rw [seqIndex_neg (by omega) h4] at h1
      rw [List.size_toArray,← hl]
      exact Option.some.inj h1
    exact subscriptTail_builtinR (x:=w) pl.isList.typeIs slot_list_getitem.lookup
      (wpAny_getItem_list_neg (Q:=fun r s'=>r=w∧EP X pins σ Q r s') pl.isList (by omega) (by rw [List.size_toArray] <;> omega) (by omega) (by rw [hj]; simpa using ew) ⟨rfl,fin⟩) hs
theorem ix_tup:IxR X (rIxT X.K):=by
  intro value slice pins s σ H x y v u Q I rx ry h hs
  obtain ⟨p,xs,i,z,rfl,rfl,hq,he,q⟩:=h
  cases rx
  obtain ⟨t,rfl⟩:=ry
  obtain ⟨its,r,pl,hz⟩:=I.tuple hq
  obtain ⟨j,h1,h2,h3,h4,h5⟩:=atI_get he
  obtain ⟨w,ew,rw'⟩:=r.get h2
  have hl:=r.length
  have hn:=line63
  have fin:EP X pins σ Q w s:=⟨z,H,I,rw',q⟩
  exact subscriptTail_builtinR (x:=w) pl.typeIs slot_tuple_getitem.lookup
    (getItem_tuple (j:=j) (Q:=fun r s'=>r=w∧EP X pins σ Q r s') pl (by omega) (by omega) (by rw [List.size_toArray,← hl]; exact h1) (by simpa using ew) ⟨rfl,fin⟩) hs
theorem ix_str:IxR X rIxS:=by
  intro value slice pins s σ H x y v u Q I rx ry h hs
  obtain ⟨z,i,c,rfl,rfl,hz,he,q⟩:=h
  obtain ⟨t,rfl⟩:=rx
  obtain ⟨t',rfl⟩:=ry
  obtain ⟨j,h1,h2,h3,h4,h5⟩:=atI_get he
  have hl:z.cps.toList.length=z.length:=by simp [Str.length]
  rw [hl] at h1 h4 h5
  have hn:=line63
  exact tail_any (typeIs_str s z t) slot_str_getitem.lookup (getItem_str (c:=c) (by
    have e1:decide (i < -(2 ^ 63:Int))=false:=decide_eq_false (by omega)
    have e2:decide (i ≥ 2 ^ 63)=false:=decide_eq_false (by omega)
    rw [e1,e2,Bool.or_false]) (by rw [h1]; simpa using h2) ⟨.str ⟨#[c]⟩,H,I.tok _,⟨_,rfl⟩,q⟩) hs
def rIx (K:PySem.W.Frag):R2:=fun x y H Q=>rIxL K x y H Q∨rIxT K x y H Q∨rIxS x y H Q
theorem ix_seq:IxR X (rIx X.K):=ix_list.or (ix_tup.or ix_str)
theorem mapSeq_set (its:List Value) (n j:Nat) (u:Value):Obj.mapSeq (·.setIfInBounds j u) { cls:=.type "list",data:=.seq its.toArray n }={ cls:=.type "list",data:=.seq (its.set j u).toArray n }:=by
  simp [Obj.mapSeq]
theorem Inv.lst {pins:List (Addr×Obj)} {σ:St} {H:Hp} {s:Shared} {p:Addr} {xs:List V} (I:Inv X pins σ H s) (h:H p=some (.lst xs)) :
    ∃ (its:List Value) (n:Nat),Vals xs its∧s.heap.get? p=some { cls:=.type "list",data:=.seq its.toArray n }∧xs.length≤sizeLine:=by
  obtain ⟨z,its,n,r,e⟩:=I.hok p _ h
  exact ⟨its,n,r,e,z⟩
theorem Inv.lstUpd {pins:List (Addr×Obj)} {σ:St} {H:Hp} {s:Shared} {p:Addr} {xs ys:List V} {its its':List Value} {n n':Nat} {f:Obj→Obj} (I:Inv X pins σ H s) (h:H p=some (.lst xs))
    (ho:s.heap.get? p=some { cls:=.type "list",data:=.seq its.toArray n }) (hf:f { cls:=.type "list",data:=.seq its.toArray n }={ cls:=.type "list",data:=.seq its'.toArray n' }) (r:Vals ys its') (hz:ys.length≤sizeLine) (t:Nat) :
    Inv X pins σ (upd H p (.lst ys)) { s with heap:=s.heap.update p f,toks:=t }:=by
  have e:(s.heap.update p f).get? p=some { cls:=.type "list",data:=.seq its'.toArray n' }:=by
    rw [Heap.get?_update_self f ho (by rw [hf] <;> rfl),hf]
  refine I.write (x:=p) (e:=p) (by rw [h]; trivial) (.inl rfl) (fun b u hb q=>(Heap.get?_update_other _ _ (Ne.symm hb)).trans q) ⟨_,e⟩ ?_
  exact ⟨hz,its',n',r,e⟩
def rSetL:V→V→V→Hp→(Hp→Prop)→Prop:=fun o i v H Q=>∃ p xs k j,o=.ref p∧i=.int k∧H p=some (.lst xs)∧ixN xs.length k=some j∧Q (upd H p (.lst (xs.set j v)))
theorem set_list:PSet X rSetL:=by
  intro pins s σ H o i v ov iv u Q I ro ri rv h
  obtain ⟨p,xs,k,j,rfl,rfl,hp,hj,q⟩:=h
  cases ro
  obtain ⟨t,rfl⟩:=ri
  obtain ⟨its,n,r,ho,hz⟩:=I.lst hp
  obtain ⟨h1,h2,h3,h4⟩:=ixN_seq hj
  have hl:=r.length
  have hn:=line63
  have I':Inv X pins σ (upd H p (.lst (xs.set j v))) { s with heap:=s.heap.update p (Obj.mapSeq (·.setIfInBounds j u)) } :=
    I.lstUpd hp ho (mapSeq_set its n j u) (r.set rv j) (by rw [List.length_set]; exact hz) s.toks
  by_cases h0:0≤k
  · have hk:k.toNat=j:=by
      rw [seqIndex_of h0 h4] at h1
      exact Option.some.inj h1
    exact PySem.W.ki_setAt ho h0 (by omega) (by rw [List.size_toArray,← hl]; exact h4) (by rw [hk]; exact ⟨_,I',q⟩)
  · have hk:(k + (its.toArray.size:Int)).toNat=j:=by
      rw [seqIndex_neg (by omega) h3] at h1
      rw [List.size_toArray,← hl]
      exact Option.some.inj h1
    exact PySem.W.ki_setBack ho (by omega) (by rw [List.size_toArray,← hl]; exact h3) (by omega) (by rw [hk]; exact ⟨_,I',q⟩)
theorem slice_bounds (lo hi:Option Int) (n:Nat):(sliceBounds lo hi none n).1=((HT.sIx n 0 lo:Nat):Int)∧(sliceBounds lo hi none n).2.1=((HT.sIx n n hi:Nat):Int)∧(sliceBounds lo hi none n).2.2=1:=by
  refine ⟨?_,?_,rfl⟩
  · cases lo with
    | none=>simp [sliceBounds,HT.sIx]
    | some i =>
      simp only [sliceBounds,HT.sIx,Option.getD_none,show (1:Int) > 0 by decide,if_true]
      by_cases h:i < 0
      · simp only [h,if_true] <;> omega
      · simp only [h,if_false] <;> omega
  · cases hi with
    | none=>simp [sliceBounds,HT.sIx]
    | some i =>
      simp only [sliceBounds,HT.sIx,Option.getD_none,show (1:Int) > 0 by decide,if_true]
      by_cases h:i < 0
      · simp only [h,if_true] <;> omega
      · simp only [h,if_false] <;> omega
theorem slicePick_cut (its:List Value) (lo hi:Option Int):slicePick its.toArray lo hi none=((its.drop (HT.sIx its.length 0 lo)).take (HT.sIx its.length its.length hi - HT.sIx its.length 0 lo)).toArray:=by
  obtain ⟨h1,h2,h3⟩:=slice_bounds lo hi its.toArray.size
  unfold slicePick
  rw [h1,h2,h3]
  simp only [sliceRange_one,pick_run,List.size_toArray] <;> rfl
def rSlL (K:PySem.W.Frag):V→Option Int→Option Int→Hp→VK→Prop:=fun x lo hi H Q=>∃ a xs,x=.ref a∧SqL K H a xs∧∀ p,H p=none→Q (.ref p) (upd H p (.lst (cutV xs lo hi)))
theorem sl_list:SlR X (rSlL X.K):=by
  intro pins s σ H x v vl vu lo hi sl Q I rx hs pl pu h
  obtain ⟨a,xs,rfl,hx,q⟩:=h
  cases rx
  obtain ⟨its,r,ht,hz⟩:=I.list hx
  have hlen:=r.length
  refine ⟨"list",_,slot_list_getitem.lookup,ht.isList.typeIs,?_⟩
  refine wpAny_getItem_list_slice ht.isList hs pl pu .none (by simp) ?_ (by rw [List.size_toArray] <;> omega)
  rw [slicePick_cut,← hlen]
  refine ⟨.ref s.heap.objs.size,_,I.laid (t':=s.toks) (o:=.lst (cutV xs lo hi)) (fun b ob q=>Heap.get?_push_of_some _ q) (Nat.le_refl _) ?_,rfl,q _ (I.hok.fresh (Nat.le_refl _))⟩
  exact ⟨Nat.le_trans (cutV_length xs lo hi) hz,_,0,(r.drop (HT.sIx xs.length 0 lo)).take (HT.sIx xs.length xs.length hi - HT.sIx xs.length 0 lo),Heap.get?_push_size _ rfl⟩
def flatV:V→Bool
  | .non=>true
  | .bl _=>true
  | .int _=>true
  | .str _=>true
  | _=>false
def eqV:V→V→Bool
  | .non,.non=>true
  | .bl a,.bl b=>a == b
  | .bl a,.int b=>(if a then 1 else 0) == b
  | .int a,.bl b=>a == (if b then 1 else 0)
  | .int a,.int b=>a == b
  | .str a,.str b=>a == b
  | _,_=>false
theorem eqAt_V {A:Around} {s:Shared} {y x:V} {u v:Value} (ry:RelV y u) (rx:RelV x v) (fy:flatV y=true) (fx:flatV x=true):SeqAt.EqAt A s u v (eqV y x):=by
  cases y with
  | non =>
    cases ry
    cases x with
    | non=>cases rx; exact SeqAt.EqAt.same _
    | bl b=>cases rx; exact SeqAt.EqAt.none_bool b
    | int b=>obtain ⟨t,rfl⟩:=rx; exact SeqAt.EqAt.none_int b t
    | str b=>obtain ⟨t,rfl⟩:=rx; exact SeqAt.EqAt.none_str b t
    | _=>exact absurd (show false=true from fx) Bool.false_ne_true
  | bl a =>
    cases ry
    cases x with
    | non=>cases rx; exact SeqAt.EqAt.bool_none a
    | bl b=>cases rx; exact SeqAt.EqAt.bool_bool a b
    | int b=>obtain ⟨t,rfl⟩:=rx; exact SeqAt.EqAt.bool_int a b t
    | str b=>obtain ⟨t,rfl⟩:=rx; exact SeqAt.EqAt.bool_str a b t
    | _=>exact absurd (show false=true from fx) Bool.false_ne_true
  | int a =>
    obtain ⟨t',rfl⟩:=ry
    cases x with
    | non=>cases rx; exact SeqAt.EqAt.int_none a t'
    | bl b=>cases rx; exact SeqAt.EqAt.int_bool a t' b
    | int b=>obtain ⟨t,rfl⟩:=rx; exact SeqAt.EqAt.int_int a t' b t
    | str b=>obtain ⟨t,rfl⟩:=rx; exact SeqAt.EqAt.int_str a t' b t
    | _=>exact absurd (show false=true from fx) Bool.false_ne_true
  | str a =>
    obtain ⟨t',rfl⟩:=ry
    cases x with
    | non=>cases rx; exact SeqAt.EqAt.str_none a t'
    | bl b=>cases rx; exact SeqAt.EqAt.str_bool a t' b
    | int b=>obtain ⟨t,rfl⟩:=rx; exact SeqAt.EqAt.str_int a t' b t
    | str b=>obtain ⟨t,rfl⟩:=rx; exact SeqAt.EqAt.str_str a t' b t
    | _=>exact absurd (show false=true from fx) Bool.false_ne_true
  | _=>exact absurd (show false=true from fy) Bool.false_ne_true
def eqU (x:V) (u:Value):Bool:=match u with
  | .none=>eqV .non x
  | .bool b=>eqV (.bl b) x
  | .int i _=>eqV (.int i) x
  | .str z _=>eqV (.str z) x
  | _=>false
theorem eqU_of {x y:V} {u:Value} (r:RelV y u) (f:flatV y=true):eqU x u=eqV y x:=by
  cases y with
  | non=>cases r; rfl
  | bl b=>cases r; rfl
  | int i=>obtain ⟨t,rfl⟩:=r; rfl
  | str z=>obtain ⟨t,rfl⟩:=r; rfl
  | _=>exact absurd (show false=true from f) Bool.false_ne_true
theorem any_eqU {x:V}:∀ {xs:List V} {us:List Value},Vals xs us→xs.all flatV=true→us.any (eqU x)=xs.any fun y=>eqV y x
  | _,_,.nil,_=>rfl
  | y :: xs,u :: us,.cons r t,f=>by
    rw [List.all_cons,Bool.and_eq_true] at f
    rw [List.any_cons,List.any_cons,eqU_of r f.1,any_eqU t f.2]
theorem mem_eqAt {A:Around} {s:Shared} {x:V} {v:Value} (rx:RelV x v) (fx:flatV x=true):∀ {xs:List V} {us:List Value},Vals xs us→xs.all flatV=true→∀ u∈us,SeqAt.EqAt A s u v (eqU x u)
  | _,_,.nil,_=>fun u hu=>by cases hu
  | y :: xs,u :: us,.cons r t,f=>fun u' hu=>by
    rw [List.all_cons,Bool.and_eq_true] at f
    rcases List.mem_cons.mp hu with rfl | hu
    · rw [eqU_of r f.1]; exact eqAt_V r rx f.1 fx
    · exact mem_eqAt rx fx t f.2 u' hu
def inV (x:V) (xs:List V):Bool:=xs.any fun y=>eqV y x
def rIn (K:PySem.W.Frag) (neg:Bool):R2:=fun x y H Q=>∃ p xs,y=.ref p∧(SqL K H p xs∨SqT K H p xs)∧flatV x=true∧xs.all flatV=true∧Q (.bl (if neg then !inV x xs else inV x xs)) H
theorem op_notIn_seq:OpR X (compareOp .NotIn) (rIn X.K true):=by
  intro pins s σ H x y v u Q I rx ry h
  obtain ⟨p,xs,rfl,hq,fx,fs,q⟩:=h
  cases ry
  rcases hq with hq | hq
  · obtain ⟨its,r,pl,hz⟩:=I.list hq
    refine SeqAt.notIn_listAt (eqU x) pl.isList (fun w hw=>mem_eqAt rx fx r fs w (by simpa using hw)) ⟨.bl _,H,I,rfl,?_⟩
    rw [show its.toArray.any (eqU x)=its.any (eqU x) by simp,any_eqU r fs]
    exact q
  · obtain ⟨its,r,pl,hz⟩:=I.tuple hq
    refine SeqAt.notIn_tupleAt (eqU x) pl (fun w hw=>mem_eqAt rx fx r fs w (by simpa using hw)) ⟨.bl _,H,I,rfl,?_⟩
    rw [show its.toArray.any (eqU x)=its.any (eqU x) by simp,any_eqU r fs]
    exact q
theorem call_list_of:CallR X (.type "list") (fun xs H Q=>∃ p ys,xs=[.ref p]∧(SqL X.K H p ys∨SqT X.K H p ys)∧∀ l,H l=none→Q (.ref l) (upd H l (.lst ys))):=by
  intro pins s σ H xs us Q I r h
  obtain ⟨p,ys,rfl,hq,q⟩:=h
  obtain ⟨u,rfl,rx⟩:=vals1 r
  cases rx
  have fin:∀ (its:List Value),Vals ys its→ys.length≤sizeLine→∀ (h':Heap) (c':Nat),(∀ b o',s.heap.get? b=some o'→h'.get? b=some o') →
      h'.get? s.heap.objs.size=some { cls:=.type "list",dict:=none,data:=.seq its.toArray c',slots:=#[] }→EP X pins σ Q (.ref s.heap.objs.size) { s with heap:=h' }:=fun its r' hz h' c' kp e =>
    ⟨.ref s.heap.objs.size,_,I.laid (t':=s.toks) kp (Nat.le_refl _) (show ObjOk X.prog X.w _ h' _ (.lst ys) from ⟨hz,its,c',r',e⟩),rfl,q _ (I.hok.fresh (Nat.le_refl _))⟩
  rcases hq with hq | hq
  · obtain ⟨its,r',pl,hz⟩:=I.list hq
    have hlen:=r'.length
    obtain ⟨o,ho,hc,n,hd⟩:=pl.isList
    exact call_list_seq p (.inl rfl) ho hc hd (fun h' c' kp e=>fin its r' hz h' c' kp e) (by simp only [List.size_toArray] <;> omega)
  · obtain ⟨its,r',pl,hz⟩:=I.tuple hq
    have hlen:=r'.length
    obtain ⟨o,ho,hc,n,hd⟩:=pl
    exact call_list_seq p (.inr rfl) ho hc hd (fun h' c' kp e=>fin its r' hz h' c' kp e) (by simp only [List.size_toArray] <;> omega)
theorem call_tuple_of:CallR X (.type "tuple") (fun xs H Q=>∃ p ys,xs=[.ref p]∧((SqL X.K H p ys∧∀ l,H l=none→Q (.ref l) (upd H l (.tup ys)))∨(SqT X.K H p ys∧Q (.ref p) H))):=by
  intro pins s σ H xs us Q I r h
  obtain ⟨p,ys,rfl,h⟩:=h
  obtain ⟨u,rfl,rx⟩:=vals1 r
  cases rx
  rcases h with ⟨hq,q⟩ | ⟨hq,q⟩
  · obtain ⟨its,r',pl,hz⟩:=I.list hq
    have hlen:=r'.length
    refine call_tuple_list pl.isList (fun h' kp=>?_) (by simp only [List.size_toArray] <;> omega)
    have I1:Inv X pins σ H { s with heap:=h' }:=I.kept (t':=s.toks) kp
    have I2:Inv X pins σ (upd H h'.objs.size (.tup ys)) { s with heap:=h'.push { cls:=.type "tuple",data:=.seq its.toArray } } :=
      I1.laid (t':=s.toks) (fun b o e=>Heap.get?_push_of_some _ e) (Nat.le_refl _) (show ObjOk X.prog X.w _ _ _ (.tup ys) from ⟨hz,its,r',IsTup.new _ _⟩)
    exact ⟨.ref h'.objs.size,_,I2,rfl,q _ (I1.hok.fresh (Nat.le_refl _))⟩
  · obtain ⟨its,r',pl,hz⟩:=I.tuple hq
    exact call_tuple_same pl ⟨.ref p,H,I,rfl,q⟩
def tyV (K:PySem.W.Frag) (T:String) (x:V) (H:Hp):Prop:=match x with
  | .str _=>T="str"
  | .int _=>T="int"
  | .ref p=>(T="list"∧∃ xs,SqL K H p xs)∨(T="tuple"∧∃ o,K.lookup p=some o∧o.cls=.type "tuple"∧o.dict=none) ∨
      (T="dict"∧((∃ kvs,H p=some (.dK kvs))∨∃ kvs,H p=some (.dT kvs)))∨(T="set"∧∃ S n,H p=some (.set S n))
  | _=>False
theorem tyV_is {pins:List (Addr×Obj)} {σ:St} {H:Hp} {s:Shared} {T:String} {x:V} {v:Value} (I:Inv X pins σ H s) (r:RelV x v) (ty:tyV X.K T x H) :
    s.TypeIs v T∧∀ a,v=.ref a→∃ ob,s.heap.get? a=some ob∧ob.dict=none:=by
  cases x with
  | str z =>
    obtain ⟨t,rfl⟩:=r
    cases (show T="str" from ty)
    exact ⟨typeIs_str s z t,fun _ e=>nomatch e⟩
  | int i =>
    obtain ⟨t,rfl⟩:=r
    cases (show T="int" from ty)
    exact ⟨typeIs_int s i t,fun _ e=>nomatch e⟩
  | ref p =>
    cases r
    rcases ty with ⟨rfl,xs,hq⟩ | ⟨rfl,o,hk,hc,hd⟩ | ⟨rfl,hk⟩ | ⟨rfl,S,n,hk⟩
    · obtain ⟨its,_,pl,_⟩:=I.list hq
      refine ⟨pl.isList.typeIs,fun a e=>?_⟩
      cases e
      obtain ⟨o,n,e,c,hd,_⟩:=pl
      exact ⟨o,e,hd⟩
    · refine ⟨⟨o,I.kIn p o hk,hc⟩,fun a e=>?_⟩
      cases e
      exact ⟨o,I.kIn _ o hk,hd⟩
    · have z:∃ o,s.heap.get? p=some o∧o.ExactDict:=by
        rcases hk with ⟨kvs,hk⟩ | ⟨kvs,hk⟩
        · obtain ⟨_,_,_,_,o,_,_,e,ex,_⟩:=I.hok p _ hk
          exact ⟨o,e,ex⟩
        · obtain ⟨_,_,_,_,o,_,_,e,ex,_⟩:=I.hok p _ hk
          exact ⟨o,e,ex⟩
      obtain ⟨o,e,ex⟩:=z
      refine ⟨⟨o,e,ex.1⟩,fun a e2=>?_⟩
      cases e2
      exact ⟨o,e,ex.2.1⟩
    · obtain ⟨o,_,_,_,e,ex,_⟩:=I.hok p _ hk
      refine ⟨⟨o,e,ex.1⟩,fun a e2=>?_⟩
      cases e2
      exact ⟨o,e,ex.2.1⟩
  | _=>exact False.elim ty
def tBM (K:PySem.W.Frag) (T:String) (r:V→List V→Hp→VK→Prop) (to:TE) (t:TA):TE:=fun σ H Q=>to σ H fun x H1=>tyV K T x H1∧t σ H1 fun xs H2=>r x xs H2 Q
variable {o e:Expr} {es:List Expr} {to:TE} {t:TA} {name:Str} {apos cpos:Pos} {T id:String} {r:V→List V→Hp→VK→Prop}
theorem pe_bm (pa:PlainAttrs T) (slot:Slot T name id) (hty:typeOf (.builtin id)=pure (.type "method_descriptor")) (hm:MtR X id r) (ho:PE X o to) (ha:PA X (e :: es) t)
    (hbase:attributeBase o name X.env (eval o X.env)=eval o X.env:=by rfl)
    (hfew:((backTo cpos (starEach (e :: es) X.env)).all (fun x=>!x.1) && (backToKw cpos (keywordEach [] X.env)).all (fun x=>x.1.isSome)
      && decide ((e :: es).length + ([]:List Keyword).length + (if ([]:List Keyword).isEmpty then 0 else 1) < 30))=true:=by rfl)
    (hline:(apos.endLine == cpos.line)=true:=by rfl) (hs:starEach (e :: es) X.env=(false,eval e X.env) :: starEach es X.env:=by rfl) (hplain:(backTo cpos (starEach es X.env)).any (·.1)=false:=by rfl) :
    PE X (.Call (.Attribute o name apos) (e :: es) [] cpos) (tBM X.K T r to t):=by
  intro pins s σ H Q I h
  refine wpAny_Call_method_late hbase hfew hline rfl (thn (ho pins s σ H _ I h) fun v s1 ⟨x,H1,I1,r1,ty,q1⟩=>?_)
  obtain ⟨h1,h2⟩:=tyV_is I1 r1 ty
  refine ⟨T,id,pa,slot,hty,h1,h2,?_⟩
  have hA:=ha cpos pins s1 σ H1 _ I1 q1
  rw [hs] at hA ⊢
  refine Calls.callWith_builtin (by show (false || (backTo cpos (starEach es X.env)).any (·.1))=false; rw [hplain] <;> rfl) (Calls.evalArgs_plain ?_)
  exact thn hA fun us s2 ⟨vs,H2,I2,r2,q2⟩=>hm pins s2 σ H2 x vs v us Q I2 r1 r2 q2
/- xs.append(e),list.index on a module's tuple .. are MtR facts of 06m -/
end
end L2
namespace L2
open PySem PySem.Spec PyProof.Rows
def MtM (X:Cx) (id:String) (r:V→List V→Hp→VK→Prop):Prop :=
  ∀ (pins:List (Addr×Obj)) (s:Shared) (σ:St) (H:Hp) (x:V) (xs:List V) (v:Value) (us:List Value) (Q:VK),Inv X pins σ H s→RelV x v→Vals xs us→r x xs H Q →
    wpAny (model X.prog X.w) X.A (call (.builtin id) (v :: us)) (EP X pins σ Q) X.xe s
theorem Vals.one:∀ {x:V} {us:List Value},Vals [x] us→∃ u,us=[u]∧RelV x u
  | _,_,.cons r .nil=>⟨_,rfl,r⟩
theorem Vals.eraseIdx:∀ {xs:List V} {us:List Value} (i:Nat),Vals xs us→Vals (xs.eraseIdx i) (us.eraseIdx i)
  | _,_,_,.nil=>.nil
  | _,_,0,.cons _ t=>t
  | _,_,i + 1,.cons r t=>.cons r (Vals.eraseIdx i t)
theorem Vals.rep {xs:List V} {us:List Value} (h:Vals xs us):∀ k:Nat,Vals (List.replicate k xs).flatten (List.replicate k us).flatten
  | 0=>.nil
  | k + 1=>by
    rw [List.replicate_succ,List.replicate_succ,List.flatten_cons,List.flatten_cons]
    exact Vals.append h (Vals.rep h k)
theorem len_erase {α:Type}:∀ (l:List α) (i:Nat),(l.eraseIdx i).length≤l.length
  | [],_=>Nat.le_refl _
  | _ :: _,0=>Nat.le_succ _
  | _ :: r,i + 1=>Nat.succ_le_succ (len_erase r i)
theorem foldl_rep (its:List Value):∀ (k:Nat) (acc:List Value),
    List.foldl (fun x1 x2=>x1 ++ x2) acc.toArray (List.replicate k its.toArray)=(acc ++ (List.replicate k its).flatten).toArray
  | 0,acc=>by simp
  | k + 1,acc=>by
    have e:acc.toArray ++ its.toArray=(acc ++ its).toArray:=by simp
    have e2:(acc ++ its) ++ (List.replicate k its).flatten=acc ++ (List.replicate (k + 1) its).flatten:=by
      rw [List.replicate_succ,List.flatten_cons,List.append_assoc]
    rw [← e2,← foldl_rep its k (acc ++ its),← e,List.replicate_succ,List.foldl_cons]
section
variable {X:Cx} {pins:List (Addr×Obj)} {σ:St} {H:Hp} {s:Shared} {l b:Addr} {xs ys zs:List V}
theorem Inv.lset {its its':List Value} {n:Nat} {f:Array Value→Array Value} {t':Nat} (I:Inv X pins σ H s) (hH:H l=some (.lst xs))
    (e:s.heap.get? l=some { cls:=.type "list",data:=.seq its.toArray n }) (hf:f its.toArray=its'.toArray) (hv:Vals ys its') (hz:ys.length≤sizeLine) :
    Inv X pins σ (upd H l (.lst ys)) { s with heap:=s.heap.update l (Obj.mapSeq f),toks:=t' }:=by
  have q:=PySem.IsL.update e f
  rw [hf] at q
  refine I.write (x:=l) (e:=l) (by rw [hH]; exact trivial) (.inl rfl) (fun b' u hb hu=>(Heap.get?_update_other s.heap (Obj.mapSeq f) (Ne.symm hb)).trans hu) ⟨_,q⟩ ?_
  exact ⟨hz,its',_,hv,q⟩
theorem Inv.lnew {its:List Value} {t':Nat} (I:Inv X pins σ H s) (hv:Vals ys its) (hz:ys.length≤sizeLine) :
    Inv X pins σ (upd H s.heap.objs.size (.lst ys)) { s with heap:=s.heap.push { cls:=.type "list",data:=.seq its.toArray },toks:=t' } :=
  I.laid (fun _ _ q=>Heap.get?_push_of_some _ q) (Nat.le_refl _) ⟨hz,its,0,hv,Heap.get?_push_size _ rfl⟩
theorem Inv.fresh (I:Inv X pins σ H s):H s.heap.objs.size=none:=I.hok.fresh (Nat.le_refl _)
theorem Inv.lstM (I:Inv X pins σ H s) (hH:H l=some (.lst xs)):xs.length≤sizeLine∧∃ (its:List Value) (n:Nat),Vals xs its∧xs.length=its.length∧s.heap.get? l=some { cls:=.type "list",data:=.seq its.toArray n }:=by
  obtain ⟨z,its,n,r,e⟩:=I.hok l _ hH
  exact ⟨z,its,n,r,r.length,e⟩
theorem notLongL {n:Nat} (h:n≤sizeLine):Builtin.List.listTooLong n=false:=by
  unfold Builtin.List.listTooLong
  exact decide_eq_false (by omega)
end
section
variable {X:Cx}
def rAppend:V→List V→Hp→VK→Prop:=fun x vs H Q=>∃ l xs y,x=.ref l∧vs=[y]∧H l=some (.lst xs)∧xs.length < sizeLine∧Q .non (upd H l (.lst (xs ++ [y])))
theorem mt_append:MtM X "list.append" rAppend:=by
  intro pins s σ H x vs v us Q I rx rv h
  obtain ⟨l,xs,y,rfl,rfl,hH,hz,q⟩:=h
  cases rx
  obtain ⟨u,rfl,ru⟩:=rv.one
  obtain ⟨z,its,n,r,hl,e⟩:=I.lstM hH
  refine call_meets F.slot_list_append ⟨_,e,rfl⟩ F.entry_list_append (F.args_list_append_2 _ _) (PySem.list_append l its.toArray n u (by rw [List.size_toArray]; omega)) ⟨e,?_⟩
  refine ⟨.non,_,I.lset (its':=its ++ [u]) hH e (by simp) (r.append (.cons ru .nil)) ?_,rfl,q⟩
  rw [List.length_append,List.length_singleton]
  omega
def rExtend:V→List V→Hp→VK→Prop:=fun x vs H Q=>∃ l b xs zs,x=.ref l∧vs=[.ref b]∧H l=some (.lst xs)∧H b=some (.lst zs)∧xs.length + zs.length≤sizeLine∧Q .non (upd H l (.lst (xs ++ zs)))
theorem mt_extend:MtM X "list.extend" rExtend:=by
  intro pins s σ H x vs v us Q I rx rv h
  obtain ⟨l,b,xs,zs,rfl,rfl,hH,hB,hz,q⟩:=h
  cases rx
  obtain ⟨u,rfl,ru⟩:=rv.one
  cases ru
  obtain ⟨z,its,n,r,hl,e⟩:=I.lstM hH
  obtain ⟨z2,its2,n2,r2,hl2,e2⟩:=I.lstM hB
  have hsz:its.toArray.size + its2.toArray.size≤sizeLine:=by rw [List.size_toArray,List.size_toArray]; omega
  have hlong:¬ (!its.toArray.isEmpty && Builtin.List.listTooLong (its.toArray.size + its2.toArray.size))=true:=by
    rw [notLongL hsz,Bool.and_false]
    exact Bool.false_ne_true
  refine call_meets F.slot_list_extend ⟨_,e,rfl⟩ F.entry_list_extend (F.args_list_extend_2 _ _)
    (AutoSeq1.list_extend_list_list_0 l its.toArray n b its2.toArray n2 hlong (by rw [List.size_toArray]; omega) (by omega)) ⟨e,e2,?_⟩
  refine ⟨.non,_,I.lset (its':=its ++ its2) hH e (by simp) (r.append r2) ?_,rfl,q⟩
  rw [List.length_append]
  omega
def rPopAt:V→List V→Hp→VK→Prop:=fun x vs H Q=>∃ l xs i k y,x=.ref l∧vs=[.int i]∧H l=some (.lst xs)∧-(2 ^ 63)≤i∧i < 2 ^ 63∧seqIndex? i xs.length=some k∧xs[k]?=some y∧Q y (upd H l (.lst (xs.eraseIdx k)))
theorem mt_popAt:MtM X "list.pop" rPopAt:=by
  intro pins s σ H x vs v us Q I rx rv h
  obtain ⟨l,xs,i,k,y,rfl,rfl,hH,h1,h2,hk,hy,q⟩:=h
  cases rx
  obtain ⟨u,rfl,ru⟩:=rv.one
  obtain ⟨t,rfl⟩:=ru
  obtain ⟨z,its,n,r,hl,e⟩:=I.lstM hH
  obtain ⟨w,hw,rw'⟩:=r.get hy
  refine call_meets F.slot_list_pop ⟨_,e,rfl⟩ F.entry_list_pop (F.args_list_pop_2 _ _)
    (MeetsSeq.list_pop_at l its.toArray n i t k w (fitsIndex_both h1 h2) (by rw [List.size_toArray,← hl]; exact hk) (by rw [← Array.getElem?_toList]; exact hw) (by rw [List.size_toArray]; omega)) ⟨e,?_⟩
  refine ⟨y,_,I.lset (its':=its.eraseIdx k) hH e ?_ (r.eraseIdx k) ?_,rw',q⟩
  · show its.toArray.eraseIdxIfInBounds k=(its.eraseIdx k).toArray
    rw [List.eraseIdxIfInBounds_toArray]
  · have:=len_erase xs k
    omega
def rCat:R2:=fun x y H Q=>∃ l b xs zs,x=.ref l∧y=.ref b∧H l=some (.lst xs)∧H b=some (.lst zs)∧xs.length + zs.length≤sizeLine∧∀ p,H p=none→Q (.ref p) (upd H p (.lst (xs ++ zs)))
theorem op_cat:OpR X (binaryOp .Add) rCat:=by
  intro pins s σ H x y v u Q I rx ry h
  obtain ⟨l,b,xs,zs,rfl,rfl,hH,hB,hz,q⟩:=h
  cases rx
  cases ry
  obtain ⟨z,its,n,r,hl,e⟩:=I.lstM hH
  obtain ⟨z2,its2,n2,r2,hl2,e2⟩:=I.lstM hB
  refine PySem.P.add_list e e2 ?_ (by rw [List.size_toArray,List.size_toArray]; omega)
  have ea:its.toArray ++ its2.toArray=(its ++ its2).toArray:=by simp
  rw [ea]
  exact ⟨.ref _,_,I.lnew (t':=s.toks) (r.append r2) (by rw [List.length_append]; omega),rfl,q _ I.fresh⟩
def rRep:R2:=fun x y H Q=>∃ l k xs,x=.ref l∧y=.int k∧H l=some (.lst xs)∧-(2 ^ 63)≤k∧k < 2 ^ 63∧xs.length * k.toNat≤sizeLine ∧
  ∀ p,H p=none→Q (.ref p) (upd H p (.lst (List.replicate k.toNat xs).flatten))
theorem len_rep {α:Type} (xs:List α) (k:Nat):(List.replicate k xs).flatten.length=k * xs.length:=by
  induction k with
  | zero=>simp
  | succ k ih=>rw [List.replicate_succ,List.flatten_cons,List.length_append,ih,Nat.succ_mul,Nat.add_comm]
theorem op_rep:OpR X (binaryOp .Mult) rRep:=by
  intro pins s σ H x y v u Q I rx ry h
  obtain ⟨l,k,xs,rfl,rfl,hH,h1,h2,hz,q⟩:=h
  cases rx
  obtain ⟨t,rfl⟩:=ry
  obtain ⟨z,its,n,r,hl,e⟩:=I.lstM hH
  have hlen:its.toArray.size * k.toNat≤sizeLine:=by rw [List.size_toArray,← hl]; exact hz
  have hcap:¬ its.toArray.size * k.toNat > (2 ^ 63 - 1) / 8:=by
    have:(sizeLine:Nat)≤(2 ^ 63 - 1) / 8:=by decide
    omega
  have hfit:¬ (!Builtin.List.listFitsIndex k)=true:=by
    rw [fitsIndex_both h1 h2]
    exact Bool.false_ne_true
  have hlong:¬ Builtin.List.listTooLong (its.toArray.size * k.toNat)=true:=by
    rw [notLongL hlen]
    exact Bool.false_ne_true
  have hnew:List.foldl (fun x1 x2=>x1 ++ x2) #[] (List.replicate (if its.toArray.isEmpty=true then 0 else k.toNat) its.toArray)=(List.replicate k.toNat its).flatten.toArray:=by
    have f0:∀ m:Nat,List.foldl (fun x1 x2=>x1 ++ x2) #[] (List.replicate m its.toArray)=(List.replicate m its).flatten.toArray:=fun m=>by
      have:=foldl_rep its m []
      rw [List.nil_append] at this
      exact this
    rw [f0]
    cases its with
    | nil=>simp
    | cons a r'=>rw [if_neg (by simp)]
  refine wpAny_binaryOp_repeat_ref (T:="list") (U:="int") (by decide) ⟨_,e,rfl⟩ (fun s'=>typeIs_int s' k t) noFill_list_mul F.fills_int_mul F.slot_int_rmul repeat_list F.slot_int_index.lookup
    (call_meets F.slot_int_rmul (typeIs_int s k t) F.entry_int_rmul (F.args_int_rmul_2 _ _) (int___rmul___int_list k t l its.toArray n)
      ⟨e,rfl,⟨_,e,rfl⟩,call_meets F.slot_list_mul ⟨_,e,rfl⟩ F.entry_list_mul (F.args_list_mul_2 _ _) (AutoListH.list___mul___list_int_3 l its.toArray n k t hfit hcap hlong) ⟨e,?_⟩⟩)
  rw [hnew]
  exact ⟨.ref _,_,I.lnew (t':=s.toks) (r.rep k.toNat) (by rw [len_rep,Nat.mul_comm]; exact hz),rfl,q _ I.fresh⟩
end
section
variable {prog:Program} {w:World} {A:Around} {E:Value→Shared→Prop} {s:Shared}
end
section
variable {X:Cx}
end
end L2
namespace Att
open PySem PySem.W PySem.Calls PyProof.Rows
theorem ints_of_wellAll {P:Params} {h:Heap}:∀ (ns:List Int) (vs:List Value),WellAll P h vs (ns.map WData.int)→IntsAre vs ns:=by
  intro ns
  induction ns with
  | nil =>
    intro vs w
    rw [List.map_nil] at w
    cases w
    exact .nil
  | cons n ns ih =>
    intro vs w
    rw [List.map_cons] at w
    cases w with
    | cons a b =>
      cases a
      exact .cons _ _ (ih _ b)
theorem script_of {l:OpenLaw} {n:Nat} (hn:l.most=some n) {P:Params} {h:Heap} {args:List WData} {vals:List Value}
    (hpre:l.row.toRowW.claim.pre args=true) (hwl:WellAll P h vals args) :
    ∃ a vs ns,vals=[Value.ref a]∧args=[WData.list (ns.map WData.int)]∧h.get? a=some { cls:=.type "list",data:=.seq vs.toArray }∧IntsAre vs ns∧ns.length≤n:=by
  have hsh:WShape.hasAll [] args [.list .int]=true:=(pre_splitW hpre).1
  have hc:l.pre.holds [] { args:=args }=true:=(pre_splitW hpre).2
  obtain ⟨d,r,rfl,h1,h2⟩:=hasAllW_cons hsh
  obtain rfl:=hasAllW_nil h2
  obtain ⟨xs,rfl,h3⟩:=hasW_list h1
  obtain ⟨ns,rfl⟩:=items_int h3
  have hlen:ns.length≤n:=by
    unfold OpenLaw.pre at hc
    have h4:(WTm.not (.lt (.lit (.int (n:Int))) (.len (.arg 0)))).holds [] { args:=[.list (ns.map .int)] }=true:=by
      have h4:=(holds_andW hc).1
      rw [hn] at h4
      exact h4
    have h5:=condW_of h4 (w_not (w_lt w_lit (w_len_list (w_arg rfl))))
    rw [List.length_map] at h5
    refine Nat.le_of_not_lt fun q=>?_
    have q':(n:Int) < ((ns.length:Nat):Int):=by omega
    first
      | (rw [decide_eq_true q'] at h5; exact absurd h5 (by decide))
      | (simp at h5; omega)
  cases hwl with
  | cons w1 w2 =>
    cases w2
    cases w1 with
    | list ho hall=>exact ⟨_,_,ns,rfl,rfl,ho,ints_of_wellAll ns _ hall,hlen⟩
theorem post_true (l:OpenLaw) (args:List WData):l.row.toRowW.claim.post args (.bool true) args=true :=
  postW_of (r:=l.row.toRowW) (X:=(true == true))
    (show WShape.has [] (.bool true) .bool=true by first | rfl | decide | simp [WShape.has,WShape.arms,WShape.armsAll])
    (show (WTm.eq .res (.lit (.bool true))).value [] { args:=args,res:=some (.bool true),after:=args }=some (.bool (true == true)) from w_eq_bool (w_res rfl) w_lit) rfl
section
variable {prog:Program} {w:World} {A:Around} {E:Value→Shared→Prop} {s:Shared} {K:Frag}
def ledger (h:Heap) (L d:Addr):List (Addr×Obj):=(List.range h.objs.size).filterMap fun a=>if a=L∨a=d then none else (h.get? a).map fun o=>(a,o)
end
end Att
namespace L2
open PySem PySem.Spec PyProof.Rows
theorem vals_ints:∀ {vs:List Value} {ns:List Int},IntsAre vs ns→Vals (ns.map V.int) vs
  | _,_,.nil=>.nil
  | _,_,.cons n t h=>.cons ⟨t,rfl⟩ (vals_ints h)
def Only (H:Hp):Prop:=∀ b,H b=none∨∃ o xs,H b=some (.frz o (.lst xs))
theorem law_call {P:Program} {w:World} {K:PySem.W.Frag} {mg mb:Str→Option Value} {CX:CXT} {k:Nat} {fa a:Addr} {fd:FuncData} {x:Str} {sp:Sp} {s₁:Shared} {vs:List Value} {ns:List Int}
    (KX:K.In s₁.heap) (hns:s₁.heap.Ns mainGlobals mg) (hb:s₁.heap.Ns builtinsNs mb) (hbb:∀ x:Str,x≠"__name__"→mb x=bootBuiltins x) (hlim:s₁.heap.NoLimit) (hg:s₁.gens=#[])
    (ha:s₁.heap.get? a=some { cls:=.type "list",data:=.seq vs.toArray }) (hi:IntsAre vs ns) (hl:ns.length≤sizeLine) (hr:Room k callerA)
    (F:∀ base:Heap,K.In base→base.Ns mainGlobals mg→FnOk P w K mg base CX k fa fd [x] sp) (hbind:∀ (s:Shared) (u:Value),BindsTo s fd ⟨[u],[]⟩ [(x,u)])
    (hsp:∀ H:Hp,Only H→SqL K H a (ns.map V.int)→sp [.ref a] H (fun v _=>v=.bl true) fun _ _ _=>False)
    (hCX:∀ H e s',CX [] H s₁ (fun _ _ _=>False) e s'→False) :
    codeAny (model P w) callerA (.call (.ref fa) ⟨[.ref a],[]⟩) (fun r s'=>r=.ok (.ret (.bool true))∧OldK s₁.heap s'.heap∧s'.os=s₁.os∧AllBare s'.gens) s₁:=by
  have rv:=vals_ints hi
  have lenV:=hi.length
  have core:∀ H:Hp,Only H→SqL K H a (ns.map V.int)→HOk P w H s₁.heap→(∀ b,H b≠none→b=a)→(H a≠none→K.lookup a=none) →
      codeAny (model P w) callerA (.call (.ref fa) ⟨[.ref a],[]⟩) (fun r s'=>r=.ok (.ret (.bool true))∧OldK s₁.heap s'.heap∧s'.os=s₁.os∧AllBare s'.gens) s₁:=by
    intro H hO hS hok hA hK
    have base_of:∀ {b:Addr} {o:Obj},s₁.heap.get? b=some o→H b=none→(hidT s₁.heap H).get? b=some o:=fun e n=>hidT_get e n
    have noA:∀ {b:Addr} {o:Obj} {es:Array DictEntry} {ep:Nat},s₁.heap.get? b=some o→o.data=.dict es ep→H b=none:=fun {b o es ep} e d=>by
      cases q:H b with
      | none=>rfl
      | some u =>
        have e':b=a:=hA b (by rw [q]; simp)
        subst e'
        rw [ha] at e; cases e
        have d':Data.seq vs.toArray _=Data.dict es ep:=d
        cases d'
    have nsK:∀ {b:Addr} {m:Str→Option Value},s₁.heap.Ns b m→(hidT s₁.heap H).Ns b m:=fun {b m} ⟨o,es,ep,e,d,r⟩=>⟨o,es,ep,base_of e (noA e d),d,r⟩
    have hKb:K.In (hidT s₁.heap H):=fun b o e=>base_of (KX b o e) (by
      cases q:H b with
      | none=>rfl
      | some u =>
        have e':b=a:=hA b (by rw [q]; simp)
        subst e'
        rw [hK (by rw [q]; simp)] at e; cases e)
    have hM:Mod K mg (hidT s₁.heap H):=⟨hKb,nsK hns,⟨mb,nsK hb,hbb⟩,let ⟨mc,h1,h2⟩:=hlim; ⟨mc,nsK h1,h2⟩⟩
    have e0:Env0 P w K mg (hidT s₁.heap H) callerA [] s₁ H:=⟨rfl,hM,fun b o e=>of_hidT e,Nat.le_of_eq (hidT_size _ _),trivial,fun b hb=>absurd (show b∈([]:List Addr) from hb) (by simp),hok,.of_eq hg⟩
    refine codeAny_mono ((F _ hKb (nsK hns)).run callerA [] s₁ H ⟨[.ref a],[]⟩ [.ref a] [.ref a] _ _ hr e0 (hbind s₁ (.ref a)) (.cons rfl .nil) (hsp H hO hS)) fun r s' h=>?_
    cases r with
    | error e=>exact (hCX H e s' h).elim
    | ok fl =>
      cases fl with
      | next=>exact False.elim h
      | brk=>exact False.elim h
      | cont=>exact False.elim h
      | ret u =>
        obtain ⟨v,H',os,bare,un,hok',r',q⟩:=h
        have q':v=.bl true:=q
        subst q'
        obtain rfl:u=Value.bool true:=r'
        refine ⟨rfl,OldK.of_keep fun b o e=>?_,os,bare⟩
        cases q:H b with
        | none=>exact un.keep b o e q (by intro z; exact absurd (show b∈([]:List Addr) from z) (by simp)) (by simp)
        | some u =>
          rcases hO b with z | ⟨ob,xs,z⟩
          · rw [q] at z; cases z
          · have z2:=un.frzs b ob _ z
            obtain ⟨e1,_⟩:=hok b _ z
            obtain ⟨e2,_⟩:=hok' b _ z2
            rw [e] at e1; cases e1
            exact e2
  cases hk:K.lookup a with
  | some o =>
    have e:=KX a o hk
    rw [ha] at e
    cases e
    refine core (fun _=>none) (fun _=>.inl rfl) (.inr ⟨_,vs.toArray,_,hk,rfl,rfl,rfl,by rw [List.size_toArray,lenV]; exact hl,by simpa using rv⟩) (fun b u z=>by have z':(none:Option HO)=some u:=z; cases z') (fun b z=>absurd rfl z) fun z=>absurd rfl z
  | none =>
    refine core (fun b=>if b=a then some (.frz { cls:=.type "list",data:=.seq vs.toArray } (.lst (ns.map V.int))) else none) (fun b=>?_) (.inl (.inr ⟨{ cls:=.type "list",data:=.seq vs.toArray },if_pos rfl⟩)) (fun b u z=>?_) (fun b z=>?_) fun _=>hk
    · by_cases hb:b=a
      · exact .inr ⟨_,_,if_pos hb⟩
      · exact .inl (if_neg hb)
    · by_cases hb:b=a
      · have z':=(if_pos hb).symm.trans z
        cases z'
        subst hb
        exact ⟨ha,by rw [List.length_map]; exact hl,vs,_,rv,ha⟩
      · have z':=(if_neg hb).symm.trans z
        cases z'
    · by_cases hb:b=a
      · exact hb
      · exact absurd (if_neg hb) z
end L2
namespace L2
open PySem PySem.Spec PyProof.Rows
abbrev KOf {K:PySem.W.Frag} {h:Heap} (_:K.In h):PySem.W.Frag:=K
end L2
namespace L2
open PySem PySem.Spec PyProof.Rows
def defArgs (s:Stmt):Arguments:=match s with
  | .FunctionDef _ a _ _ _ _ _ _ _ _=>a
  | _=>{ posonlyargs:=[],args:=[],vararg:=none,kwonlyargs:=[],kw_defaults:=[],kwarg:=none,defaults:=[] }
def defBody (s:Stmt):List Stmt:=match s with
  | .FunctionDef _ _ b _ _ _ _ _ _ _=>b
  | _=>[]
def defScope (s:Stmt):Scope:=match s with
  | .FunctionDef _ _ _ _ _ _ sc _ _ _=>sc
  | _=>{ kind:=.function,names:=[],isGenerator:=false,isCoroutine:=false }
abbrev CX0:CXT:=fun _ _ _ _ _ _=>False
abbrev E0:XK:=fun _ _ _=>False
theorem pass0 {X:Cx}:Passes CX0 X E0:=fun _ _ _ _ _ _ _ h=>h.elim
structure Fun (K:PySem.W.Frag) (x qual:Str) (st:Stmt) (f:Addr) (fd:FuncData):Prop where
  ex:∃ (oc:Value) (od:Option Addr) (kV doc pm:Value) (an:Option Addr) (cdv ct:Value) (osl:Array (Option Value)),
    fd=PySem.W.fnOf x qual (defArgs st) (defBody st) (defScope st) .none kV doc pm an cdv ct∧K.lookup f=some ⟨oc,od,.func fd,osl⟩∧PySem.W.codeIn K cdv qual=true
  kp:PySem.W.keepIn K (.ref f)=true
section
variable {P:Program} {w:World} {K:PySem.W.Frag} {mg:Str→Option Value} {base:Heap}
theorem Fun.ok {x qual:Str} {st:Stmt} {f:Addr} {fd:FuncData} {N ps:List Str} {k:Nat} {sp:Sp} (F:Fun K x qual st f fd) (S:FnScope N ps (defScope st)) (len:∀ vs H Q E,sp vs H Q E→vs.length=ps.length)
    (hbody:∀ (cdv:Value) (A:Around) (outer:List Env) (s:Shared) (H:Hp) (vs:List V) (Q:VK) (E:XK),Room k (A.deeper (envOfC qual (defScope st) s.heap.objs.size f cdv))→sp vs H Q E →
      ∃ t,PSs (cxOf CX0 P w K mg base N qual (defScope st) f cdv A outer s H E).nox (defBody st) t∧t { nx:=fun _ H'=>Q .non H',rt:=Q } (start N vs) H):FnOk P w K mg base CX0 (k + 1) f fd ps sp:=by
  obtain ⟨oc,od,kV,doc,pm,an,cdv,ct,osl,rfl,lk,hcd⟩:=F.ex
  refine fn_of lk hcd S len fun A outer s H vs Q E hr hsp=>?_
  obtain ⟨t,h,q⟩:=hbody cdv A outer s H vs Q E hr hsp
  exact ⟨t,h.nox,q⟩
theorem Fun.binds {x qual:Str} {st:Stmt} {f:Addr} {fd:FuncData} {ps:List Str} (F:Fun K x qual st f fd)
    (h:∀ (kV doc pm:Value) (an:Option Addr) (cdv ct:Value) (us:List Value),us.length=ps.length→bindArgs (PySem.W.fnOf x qual (defArgs st) (defBody st) (defScope st) .none kV doc pm an cdv ct) ⟨us,[]⟩=pure (ps.zip us)):Binds K fd ps []:=by
  obtain ⟨oc,od,kV,doc,pm,an,cdv,ct,osl,rfl,lk,hcd⟩:=F.ex
  exact .all (h kV doc pm an cdv ct)
theorem fun_mk {x qual:Str} {st:Stmt} {f:Addr} {oc:Value} {od an:Option Addr} {osl:Array (Option Value)} {kV doc pm cdv ct:Value} (l:K.lookup f=some ⟨oc,od,.func (PySem.W.fnOf x qual (defArgs st) (defBody st) (defScope st) .none kV doc pm an cdv ct),osl⟩)
    (c:PySem.W.codeIn K cdv qual=true) (k:PySem.W.keepIn K (.ref f)=true):Fun K x qual st f (PySem.W.fnOf x qual (defArgs st) (defBody st) (defScope st) .none kV doc pm an cdv ct):=⟨⟨oc,od,kV,doc,pm,an,cdv,ct,osl,rfl,l,c⟩,k⟩
end
theorem small1000 {n:Nat} (h:n≤1000):n < sizeLine:=Nat.lt_of_le_of_lt h (by decide)
section
variable {X:Cx}
theorem pv (i:Nat) {x:Str} {pos:Pos} (hN:X.N[i]?=some x:=by rfl) (hv:Vis X.env.scope x:=by first | exact Or.inl rfl | exact Or.inr (Or.inl rfl) | exact Or.inr (Or.inr rfl)) (hd:(x == ("__debug__":Str))=false:=by decide)
    (hcd:(x == ("__classdict__":Str))=false:=by decide):PE X (.Name x pos) (tVar i):=pe_var hN hv hd hcd
end
theorem iteF {A B:Prop} (h:B):if false=true then A else B:=by
  rw [if_neg Bool.false_ne_true]
  exact h
theorem iteT {A B:Prop} (h:A):if true=true then A else B:=by
  rw [if_pos rfl]
  exact h
def Same (H H':Hp):Prop:=∀ b o,H b=some o→H' b=some o
theorem Same.refl (H:Hp):Same H H:=fun _ _ h=>h
theorem Same.trans {H H1 H2:Hp} (a:Same H H1) (b:Same H1 H2):Same H H2:=fun c o h=>b c o (a c o h)
theorem Same.free {H H':Hp} (e:Same H H') {l:Addr} (h:H' l=Option.none):H l=Option.none:=by
  cases q:H l with
  | none=>rfl
  | some o =>
    rw [e l o q] at h
    cases h
theorem Same.seq {K:PySem.W.Frag} {H H':Hp} {a:Addr} {xs:List V} (e:Same H H') (h:SqL K H a xs):SqL K H' a xs:=by
  rcases h with (h | ⟨o,h⟩) | h
  · exact .inl (.inl (e _ _ h))
  · exact .inl (.inr ⟨o,e _ _ h⟩)
  · exact .inr h
end L2
set_option maxHeartbeats 4000000
namespace L2
open PySem PySem.Spec PyProof.Rows
theorem closure_go {env:Env}:∀ (ns:List (Str×NameKind)) (cs:List (Str×Addr)),(∀ y∈ns,y.2=.free→∃ c,env.cells.lookup y.1=some c)→(∀ x c,cs.lookup x=some c→env.cells.lookup x=some c) →
    ∃ cl:List (Str×Addr),(forIn ns cs fun (p:Str×NameKind) (r:List (Str×Addr))=>if (p.2 == NameKind.free)=true then (cellOf env p.1 >>= fun c=>pure (ForInStep.yield ((p.1,c) :: r))) else (pure (ForInStep.yield r):Sem (ForInStep (List (Str×Addr)))))=(pure cl:Sem (List (Str×Addr))) ∧
      (∀ x c,cl.lookup x=some c→env.cells.lookup x=some c)∧(∀ x c,cs.lookup x=some c→∃ c',cl.lookup x=some c')∧∀ y∈ns,y.2=.free→∃ c,cl.lookup y.1=some c
  | [],cs,_,hc=>⟨cs,rfl,hc,fun x c e=>⟨c,e⟩,fun y hy=>absurd hy (by simp)⟩
  | (n,k) :: r,cs,h,hc=>by
    by_cases hk:k=.free
    · subst hk
      obtain ⟨c,e⟩:=h (n,.free) (by simp) rfl
      have hc2:∀ x c',((n,c) :: cs).lookup x=some c'→env.cells.lookup x=some c':=fun x c' q=>by
        rw [List.lookup_cons] at q
        cases hx:x == n with
        | true=>rw [hx] at q; cases q; rw [eq_of_beq hx]; exact e
        | false=>rw [hx] at q; exact hc x c' q
      obtain ⟨cl,e1,e2,e3,e4⟩:=closure_go r ((n,c) :: cs) (fun y hy=>h y (List.mem_cons_of_mem _ hy)) hc2
      refine ⟨cl,?_,e2,fun x c' q=>?_,fun y hy hf=>?_⟩
      · rw [List.forIn_cons]
        show (if (NameKind.free == NameKind.free)=true then _ else _) >>= _=_
        rw [if_pos (by decide)]
        unfold cellOf
        rw [e]
        exact e1
      · by_cases hx:x=n
        · exact e3 x c (by rw [hx,List.lookup_cons]; simp)
        · exact e3 x c' (by rw [List.lookup_cons,beq_eq_false_iff_ne.mpr hx]; exact q)
      · rcases List.mem_cons.mp hy with z | z
        · rw [z]; exact e3 n c (by rw [List.lookup_cons]; simp)
        · exact e4 y z hf
    · obtain ⟨cl,e1,e2,e3,e4⟩:=closure_go r cs (fun y hy=>h y (List.mem_cons_of_mem _ hy)) hc
      refine ⟨cl,?_,e2,e3,fun y hy hf=>?_⟩
      · rw [List.forIn_cons]
        have hb:(k == NameKind.free)=false:=by simpa using hk
        show (if (k == NameKind.free)=true then _ else _) >>= _=_
        rw [hb]
        exact e1
      · rcases List.mem_cons.mp hy with z | z
        · rw [z] at hf; exact absurd hf hk
        · exact e4 y z hf
theorem closure_is {scope:Scope} {env:Env} (h:∀ y∈scope.names,y.2=.free→∃ c,env.cells.lookup y.1=some c) :
    ∃ cl,closureFor scope env=pure cl∧(∀ x c,cl.lookup x=some c→env.cells.lookup x=some c)∧∀ y∈scope.names,y.2=.free→∃ c,cl.lookup y.1=some c:=by
  obtain ⟨cl,e1,e2,_,e4⟩:=closure_go (env:=env) scope.names [] h (fun x c q=>by simp at q)
  refine ⟨cl,?_,e2,e4⟩
  show ((forIn scope.names [] fun (p:Str×NameKind) (r:List (Str×Addr))=>if (p.2 == NameKind.free)=true then (cellOf env p.1 >>= fun c=>pure (ForInStep.yield ((p.1,c) :: r))) else (pure (ForInStep.yield r):Sem (ForInStep (List (Str×Addr))))) >>= fun r=>(pure r:Sem (List (Str×Addr))))=pure cl
  rw [e1]
  rfl
def compCx (X:Cx) (N:List Str) (scope:Scope) (cl:List (Str×Addr)) (C:Addr) (s₀:Shared) (H₀:Hp) (ex:List Addr):Cx where
  prog:=X.prog
  w:=X.w
  K:=X.K
  mg:=X.mg
  base:=X.base
  A:=X.A
  N:=N
  s₀:=s₀
  H₀:=H₀
  env:=compEnvC scope cl C X.env
  outer:=X.stack
  stack:=X.stack
  ex:=ex
  fn:=fun _=>false
  calm:=X.calm
  pn:=[]
  xe:=fun _ _=>False
def iniOf (l:List (Option Nat)) (σ:St):St:=l.map fun o=>match o with | none=>none | some k=>(σ[k]?).join
def CompN (X:Cx) (scope:Scope):List Str→List (Option Nat)→Prop
  | [],[]=>True
  | _ :: N,none :: l=>CompN X scope N l
  | x :: N,some k :: l=>(X.N[k]?=some x∧(X.env.scope.names.lookup x=some .cell∨X.env.scope.names.lookup x=some .free)∧scope.names.lookup x=some .free)∧CompN X scope N l
  | _,_=>False
theorem CompN.len {X:Cx} {scope:Scope}:∀ {N:List Str} {l:List (Option Nat)},CompN X scope N l→l.length=N.length
  | [],[],_=>rfl
  | _ :: N,none :: l,h=>by simp [CompN.len (N:=N) (l:=l) h]
  | _ :: N,some _ :: l,h=>by simp [CompN.len (N:=N) (l:=l) h.2]
  | [],none :: _,h=>h.elim
  | [],some _ :: _,h=>h.elim
  | _ :: _,[],h=>h.elim
theorem CompN.get {X:Cx} {scope:Scope}:∀ {N:List Str} {l:List (Option Nat)} {i k:Nat} {x:Str},CompN X scope N l→N[i]?=some x→l[i]?=some (some k) →
    X.N[k]?=some x∧(X.env.scope.names.lookup x=some .cell∨X.env.scope.names.lookup x=some .free)∧scope.names.lookup x=some .free
  | [],[],_,_,_,_,e,_=>by simp at e
  | _ :: N,none :: l,0,_,_,_,_,e=>by simp at e
  | _ :: N,none :: l,i + 1,k,x,h,e1,e2=>CompN.get (N:=N) (l:=l) (i:=i) h (by simpa using e1) (by simpa using e2)
  | y :: N,some j :: l,0,k,x,h,e1,e2=>by
    have e1':y=x:=by simpa using e1
    have e2':j=k:=by simpa using e2
    rw [← e1',← e2']
    exact h.1
  | _ :: N,some _ :: l,i + 1,k,x,h,e1,e2=>CompN.get (N:=N) (l:=l) (i:=i) h.2 (by simpa using e1) (by simpa using e2)
  | [],none :: _,_,_,_,h,_,_=>h.elim
  | [],some _ :: _,_,_,_,h,_,_=>h.elim
  | _ :: _,[],_,_,_,h,_,_=>h.elim
theorem iniOf_len (l:List (Option Nat)) (σ:St):(iniOf l σ).length=l.length:=by unfold iniOf; rw [List.length_map]
theorem iniOf_get {l:List (Option Nat)} {σ:St} {i:Nat} {v:V} (h:(iniOf l σ)[i]?=some (some v)):∃ k,l[i]?=some (some k)∧σ[k]?=some (some v):=by
  unfold iniOf at h
  rw [List.getElem?_map] at h
  cases e:l[i]? with
  | none=>rw [e] at h; cases h
  | some o =>
    rw [e] at h
    cases o with
    | none=>simp at h
    | some k =>
      refine ⟨k,rfl,?_⟩
      have h2:(σ[k]?).join=some v:=by simpa using h
      cases q:σ[k]? with
      | none=>rw [q] at h2; cases h2
      | some z =>
        rw [q] at h2
        have h3:z=some v:=by simpa using h2
        rw [h3]
structure CompScope (X:Cx) (N:List Str) (l:List (Option Nat)) (scope:Scope):Prop where
  kind:scope.kind=.function
  loc:(scope.names.all fun y=>y.2 != .local || (scope.names.lookup y.1 == some .local))=true
  nocell:(scope.names.all fun y=>y.2 != .cell)=true
  fre:(scope.names.all fun y=>y.2 != .free || (X.env.scope.names.lookup y.1 == some .cell || X.env.scope.names.lookup y.1 == some .free))=true
  nm:CompN X scope N l
  nd:N.Nodup
theorem relabel_lookup {env:Env} {x:Str} {k:NameKind}:∀ {names:List (Str×NameKind)},(names.map fun (p:Str×NameKind)=>if (p.2 == NameKind.free && env.scope.kind == .function && env.kindOf p.1 == some .cell)=true then (p.1,NameKind.cell) else (p.1,p.2)).lookup x=some k →
    ∃ k0,names.lookup x=some k0∧(k=k0∨(k0=.free∧k=.cell))
  | [],h=>by simp at h
  | (n,k1) :: r,h=>by
    rw [List.map_cons] at h
    by_cases hc:(k1 == NameKind.free && env.scope.kind == .function && env.kindOf n == some .cell)=true
    · have hk:k1=.free:=by
        have h1:=hc
        rw [Bool.and_eq_true,Bool.and_eq_true] at h1
        simpa using h1.1.1
      rw [if_pos hc,List.lookup_cons] at h
      rw [List.lookup_cons]
      cases hx:x == n with
      | true=>rw [hx] at h; exact ⟨k1,rfl,.inr ⟨hk,by simpa using h.symm⟩⟩
      | false=>rw [hx] at h; exact relabel_lookup h
    · rw [if_neg hc,List.lookup_cons] at h
      rw [List.lookup_cons]
      cases hx:x == n with
      | true=>rw [hx] at h; exact ⟨k1,rfl,.inl (by simpa using h.symm)⟩
      | false=>rw [hx] at h; exact relabel_lookup h
theorem relabel_free {env:Env} {x:Str}:∀ {names:List (Str×NameKind)},names.lookup x=some .free →
    ∃ k,(names.map fun (p:Str×NameKind)=>if (p.2 == NameKind.free && env.scope.kind == .function && env.kindOf p.1 == some .cell)=true then (p.1,NameKind.cell) else (p.1,p.2)).lookup x=some k∧(k=.cell∨k=.free)
  | [],h=>by simp at h
  | (n,k1) :: r,h=>by
    rw [List.map_cons]
    rw [List.lookup_cons] at h
    by_cases hc:(k1 == NameKind.free && env.scope.kind == .function && env.kindOf n == some .cell)=true
    · rw [if_pos hc,List.lookup_cons]
      cases hx:x == n with
      | true=>exact ⟨_,rfl,.inl rfl⟩
      | false=>rw [hx] at h; exact relabel_free h
    · rw [if_neg hc,List.lookup_cons]
      cases hx:x == n with
      | true =>
        rw [hx] at h
        have hk:k1=.free:=by simpa using h
        exact ⟨_,rfl,.inr hk⟩
      | false=>rw [hx] at h; exact relabel_free h
section
variable {X:Cx} {pins:List (Addr×Obj)} {σ:St} {H:Hp} {s:Shared} {N:List Str} {l:List (Option Nat)} {scope:Scope} {cl:List (Str×Addr)} {fp:List Addr}
theorem inv_comp (S:CompScope X N l scope) (I:Inv X pins σ H s) (c1:∀ x c,cl.lookup x=some c→X.env.cells.lookup x=some c) (c2:∀ y∈scope.names,y.2=.free→∃ c,cl.lookup y.1=some c)
    (f:∀ b∈fp,FpOk X pins H b) (fo:∀ b∈fp,∃ o,s.heap.get? b=some o) {h':Heap} {m:Str→Option Value} (hn:h'.Ns s.heap.objs.size m) (hk:∀ b o,s.heap.get? b=some o→h'.get? b=some o) (t':Nat) :
    Inv (compCx X N scope cl s.heap.objs.size s H fp) [] (iniOf l σ) H { s with heap:=h',toks:=t' }:=by
  have cellH:∀ x c,cl.lookup x=some c→∃ v,h'.IsCell c v:=fun x c e=>by
    obtain ⟨v,o,ho,hd⟩:=I.cell x c (c1 x c e)
    exact ⟨v,o,hk c o ho,hd⟩
  have fr:∀ b∈fp,b < s.heap.objs.size:=fun b hb=>by
    obtain ⟨o,e⟩:=fo b hb
    exact Heap.lt_size e
  refine ⟨⟨I.ok.mod,S.kind,I.ok.glob,I.ok.blt,Nat.le_refl _,fun x y c h1 h2=>I.ok.inj x y c (c1 x c h1) (c1 y c h2),fun x hx=>?_,fun x c h=>(nomatch h),I.ok.hd,I.ok.frames,.inl rfl,fun b hb=>⟨Nat.ne_of_lt (fr b hb),fun x c e=>(f b hb).2.2.2.2.1 x c (c1 x c e)⟩,
      I.bs,Nat.le_trans I.ok.bsz I.sz,fun b o e hb=>?_,fun b hb hf=>?_,I.stack,I.stkFree⟩,
    rfl,I.bare,Un.kept hk,⟨m,hn,fun i x v e1 e2 e3=>?_⟩,cellH,I.hok.fresh (Nat.le_refl _),fun x c e=>I.freeC x c (c1 x c e),fun p hp=>absurd (show p∈([]:List (Addr×Obj)) from hp) (by simp),I.hok.kept hk,(iniOf_len l σ).trans S.nm.len⟩
  · have hx2:(relabel scope X.env).names.lookup x=some .cell∨(relabel scope X.env).names.lookup x=some .free:=hx
    have fin:∀ k,(relabel scope X.env).names.lookup x=some k→(k=.cell∨k=.free)→∃ c,cl.lookup x=some c:=fun k e hk=>by
      obtain ⟨k0,e0,q⟩:=relabel_lookup (names:=scope.names) (env:=X.env) (x:=x) (k:=k) e
      have hm:=PySem.mem_of_lookup e0
      have nc:=List.all_eq_true.mp S.nocell _ hm
      have hfree:k0=.free:=by
        rcases q with q | q
        · subst q
          rcases hk with z | z
          · subst z; simp at nc
          · exact z
        · exact q.1
      exact c2 _ hm hfree
    rcases hx2 with z | z
    · exact fin _ z (.inl rfl)
    · exact fin _ z (.inr rfl)
  · rcases (f b hb).2.2.2.1 with z | z
    · exact I.ok.noex b o e z
    · exact absurd (Nat.lt_of_lt_of_le (Heap.lt_size e) (Nat.le_trans I.ok.bsz z)) (Nat.lt_irrefl _)
  · rcases List.mem_cons.mp (I.stkSub b hf) with z | z
    · exact (f b hb).2.1 z
    · exact (f b hb).2.2.1 z
  · obtain ⟨k,g1,g2⟩:=iniOf_get e2
    obtain ⟨n1,n2,n3⟩:=S.nm.get e1 g1
    obtain ⟨mx,_,hl⟩:=I.loc
    have vis:Vis X.env.scope x:=.inr n2
    obtain ⟨u,r,lk⟩:=hl k x v n1 g2 vis
    refine ⟨u,r,?_⟩
    obtain ⟨kk,e4,e5⟩:=relabel_free (env:=X.env) n3
    obtain ⟨c,ec⟩:=c2 _ (PySem.mem_of_lookup n3) rfl
    have kf:(compEnvC scope cl s.heap.objs.size X.env).kindOf x=some .cell∨(compEnvC scope cl s.heap.objs.size X.env).kindOf x=some .free:=by
      rcases e5 with z | z
      · exact .inl (z ▸ e4)
      · exact .inr (z ▸ e4)
    refine .inr ⟨kf,c,ec,?_⟩
    rcases lk with ⟨k1,_⟩ | ⟨_,c',e',⟨o,ho,hd⟩⟩
    · have k1':X.env.scope.names.lookup x=some .local:=k1
      rcases n2 with z | z <;> (rw [z] at k1'; cases k1')
    · have ee:=c1 x c ec
      rw [e'] at ee
      have ee':c'=c:=Option.some.inj ee
      subst ee'
      exact ⟨o,hk _ o ho,hd⟩
theorem comp_end {C:Addr} {σ':St} {H':Hp} {s':Shared} (I:Inv X pins σ H s) (f:∀ b∈fp,FpOk X pins H b) (J:Inv (compCx X N scope cl C s H fp) [] σ' H' s'):Inv X pins σ H' s' :=
  I.call' (ch:=fp) J.os J.base J.hok J.bare fun b hb=>⟨(f b hb).2.2.2.1,(f b hb).2.1,(f b hb).2.2.2.2.1,(f b hb).2.2.2.2.2⟩
theorem comp_gone {σ2:St} {H':Hp} {s':Shared} {h'':Heap} (I:Inv X pins σ H s) (hf:H' s.heap.objs.size=none) (I':Inv X pins σ2 H' s') (sb:Heap.SameBut s.heap.objs.size s'.heap h''):Inv X pins σ2 H' { s' with heap:=h'' }:=by
  refine I'.turned (t':=s'.toks) (it:=s.heap.objs.size) (fun b o hb e=>(sb.2 b hb).trans e) hf (Nat.ne_of_gt I.lt) (.inr I.sz) (fun x c e z=>?_) fun p hp z=>?_
  · obtain ⟨v,q⟩:=I.cell x c e
    exact absurd q.lt (by rw [z]; exact Nat.lt_irrefl _)
  · exact absurd (Heap.lt_size (I.pin p hp).1) (by rw [z]; exact Nat.lt_irrefl _)
end
def testsOf (ifs:List Expr) (env:Env):Sem Bool:=forIn ifs true fun c r=>if r=true then do let ok ← isTrue c env (eval c env); pure (ForInStep.yield ok) else pure (ForInStep.yield r)
abbrev NoX:Value→Shared→Prop:=fun _ _=>False
theorem comp_loop {prog:Program} {w:World} {A:Around} {R:Result→Shared→Prop} {s:Shared} {elt target iter:Expr} {ifs:List Expr} {scope:Scope} {pos:Pos} {it acc:Value} {env:Env} (Iv:Nat→Shared→Prop)
    (turn:∀ n s,Iv n s→wpAny (model prog w) A (pyNext it) (fun r s1=>match r with
      | none=>R (.ok .next) s1
      | some v=>wpAny (model prog w) A (letOwnedTupleGo target it v) (fun _ s2=>wpAny (model prog w) A (assign target env v) (fun _ s3=>wpAny (model prog w) A (testsOf ifs env) (fun ok s4 =>
          if ok=true then wpAny (model prog w) A (eval elt env) (fun x s5=>wpAny (model prog w) A (call (.builtin "list.append") [acc,x]) (fun _ s6=>∃ m,m < n∧Iv m s6) NoX s5) NoX s4
          else ∃ m,m < n∧Iv m s4) NoX s3) NoX s2) NoX s1) NoX s)
    (n:Nat) (h:Iv n s):codeAny (model prog w) A (.compLoop (.ListComp elt [⟨target,iter,ifs,0⟩] scope pos) 0 it acc env) R s:=by
  refine codeAny_loop rfl Iv (fun n s hI=>?_) n h
  show wpAny (model prog w) A ((compTurn (.ListComp elt [⟨target,iter,ifs,0⟩] scope pos) 0 it acc env).onRaise fun x=>(noteFrame x env >>= fun _=>theTreesLotGoes x)) _ _ s
  refine wpAny_noted (wpAny_mono ?_ (fun _ _ q=>q) fun _ _ q=>False.elim q)
  rw [compTurn_list]
  refine wpAny_bind (wpAny_standAt (wpAny_bind (thn (turn n s hI) fun r s1 h1=>?_)))
  cases r with
  | none=>exact wpAny_pure h1
  | some v =>
    refine wpAny_bind (thn h1 fun _ s2 h2=>wpAny_bind (thn h2 fun _ s3 h3=>wpAny_bind (thn h3 fun ok s4 h4=>?_)))
    cases ok with
    | false=>exact wpAny_pure ⟨rfl,h4⟩
    | true=>exact wpAny_bind (wpAny_bind (thn h4 fun x s5 h5=>wpAny_bind (thn h5 fun _ s6 h6=>wpAny_pure (wpAny_pure ⟨rfl,h6⟩))))
def PIfs (X:Cx) (ifs:List Expr) (t:TT):Prop :=
  ∀ (pins:List (Addr×Obj)) (s:Shared) (σ:St) (H:Hp) (Q:Bool→Hp→Prop),Inv X pins σ H s→t σ H Q→wpAny (model X.prog X.w) X.A (testsOf ifs X.env) (TP X pins σ Q) X.xe s
def tYes:TT:=fun _ H Q=>Q true H
theorem pif_nil {X:Cx}:PIfs X [] tYes:=fun _ _ _ H _ I h=>wpAny_pure ⟨H,I,h⟩
theorem pif_one {X:Cx} {c:Expr} {t:TT} (hc:PT X c t):PIfs X [c] t:=fun pins s σ H Q I h=>wpAny_tests_one (hc pins s σ H Q I h)
abbrev CompW:=Nat→Nat→List V→St→Hp→Prop
def compStep (J:It) (g:TG) (tc:TT) (te:TE) (D:Addr) (W:CompW) (Q:Hp→Prop):Prop :=
  ∀ i m ys σ H,W i m ys σ H→H D=some (.lst ys)∧((J.stop i H∧Q H)∨(J.go i H∧∃ (A:V→St→Hp→Prop) (B:St→Hp→Prop),
    (∀ v σ2 H4,A v σ2 H4→H4 D=some (.lst ys)∧ys.length < sizeLine∧∃ m',m' < m∧W (i + 1) m' (ys ++ [v]) σ2 (upd H4 D (.lst (ys ++ [v]))))∧(∀ σ2 H3,B σ2 H3→∃ m',m' < m∧W (i + 1) m' ys σ2 H3) ∧
    ∀ x H',J.yld i H x H'→g x σ H' fun σ2 H2=>tc σ2 H2 fun b H3=>if b=true then te σ2 H3 fun v H4=>A v σ2 H4 else B σ2 H3))
def tComp (l:List (Option Nat)) (wi:TI) (g:TG) (tc:TT) (te:TE):TE:=fun σ H Q=>wi σ H fun J H1=>∀ D,H1 D=none→∃ W:CompW,(∃ m,W 0 m [] (iniOf l σ) (upd H1 D (.lst [])))∧compStep J g tc te D W fun H'=>Q (.ref D) H'
section
variable {X:Cx} {tg elt iter:Expr} {ifs:List Expr} {N:List Str} {l:List (Option Nat)} {scope:Scope} {pos:Pos} {wi:TI} {g:TG} {tc:TT} {te:TE}
theorem comp_block {cl:List (Str×Addr)} {pins:List (Addr×Obj)} {σ:St} {H:Hp} {s:Shared} {J:It} {fp:List Addr} {it:Addr} {tn:Nat→Heap→Prop} {RR:Value→Addr→Result→Shared→Prop} {Q:Addr→Hp→Prop} {E:Value→Shared→Prop}
    (hc:X.calm=true) (S:CompScope X N l scope) (c1:∀ x c,cl.lookup x=some c→X.env.cells.lookup x=some c) (c2:∀ y∈scope.names,y.2=.free→∃ c,cl.lookup y.1=some c)
    (hg:∀ C s H ex,PG (compCx X N scope cl C s H ex) tg g) (hi:∀ C s H ex,PIfs (compCx X N scope cl C s H ex) ifs tc) (he:∀ C s H ex,PE (compCx X N scope cl C s H ex) elt te)
    (I:Inv X pins σ H s) (T:Turn X.prog X.w X.K tg J fp it tn) (t0:tn 0 s.heap) (f:∀ b∈fp,FpOk X pins H b)
    (hW:∀ D,H D=none→∃ W:CompW,(∃ m,W 0 m [] (iniOf l σ) (upd H D (.lst [])))∧compStep J g tc te D W (Q D))
    (hR:∀ D s0 H' s',Inv X pins σ (upd H D (.lst [])) s0→Inv X pins σ H' s'→H' s0.heap.objs.size=none→(∃ m,s'.heap.Ns s0.heap.objs.size m)→Q D H'→RR (.ref D) s0.heap.objs.size (.ok .next) s') :
    wpAny (model X.prog X.w) X.A (newList []) (fun acc s3=>wpAny (model X.prog X.w) X.A (newFunctionEnv scope X.env.globals cl [] X.env.qual none .none (some X.env)) (fun cenv s4 =>
      codeAny (model X.prog X.w) X.A (.compStart (.ListComp elt [⟨tg,iter,ifs,0⟩] scope pos) 0 (.ref it) acc { cenv with scope:=relabel scope X.env }) (RR acc cenv.locals) s4) E s3) E s:=by
  refine wpAny_newObj_type (wpAny_newFunctionEnv (fun y hy=>by have:=List.all_eq_true.mp S.nocell y hy; simpa using this) (fun y hy=>absurd hy (by simp)) (fun h4 hn4 sb4=>?_) S.kind)
  have kept3:∀ b u,s.heap.get? b=some u→(s.heap.push { cls:=.type "list",dict:=none,data:=.seq ([]:List Value).toArray }).get? b=some u:=fun b u e=>Heap.get?_push_of_some _ e
  have hD:H s.heap.objs.size=none:=I.hok.fresh (Nat.le_refl _)
  have I3:Inv X pins σ (upd H s.heap.objs.size (.lst [])) { s with heap:=s.heap.push { cls:=.type "list",dict:=none,data:=.seq ([]:List Value).toArray } } :=
    I.laid (t':=s.toks) kept3 (Nat.le_refl _) ⟨Nat.zero_le _,[],0,.nil,Heap.get?_push_size _ rfl⟩
  generalize hh3:s.heap.push { cls:=.type "list",dict:=none,data:=.seq ([]:List Value).toArray }=h3 at kept3 I3 hn4 sb4 ⊢
  have fpIn:∀ b∈fp,∃ o,s.heap.get? b=some o:=fun b hb=>let ⟨o,e,_⟩:=T.obj _ _ t0 b hb; ⟨o,e⟩
  have f3:∀ b∈fp,FpOk X pins (upd H s.heap.objs.size (.lst [])) b:=fun b hb=>by
    obtain ⟨o,e⟩:=fpIn b hb
    exact ⟨by rw [upd_ne (Nat.ne_of_lt (Heap.lt_size e))]; exact (f b hb).1,(f b hb).2⟩
  have kept4:∀ b o,h3.get? b=some o→h4.get? b=some o:=fun b o e=>sb4.extBut b o (Nat.ne_of_lt (Heap.lt_size e)) (Heap.get?_push_of_some _ e)
  have J4:=inv_comp S I3 c1 c2 f3 (fun b hb=>let ⟨o,e⟩:=fpIn b hb; ⟨o,kept3 b o e⟩) hn4 kept4 (s.toks + ([]:List (Str×Value)).length)
  have t4:tn 0 h4:=T.keep _ _ _ t0 fun b _ o e=>kept4 b o (kept3 b o e)
  obtain ⟨W,⟨m0,w0⟩,step⟩:=hW _ hD
  have loop:∀ s4:Shared,s4={ s with heap:=h4,toks:=s.toks + ([]:List (Str×Value)).length } →
      codeAny (model X.prog X.w) X.A (.compLoop (.ListComp elt [⟨tg,iter,ifs,0⟩] scope pos) 0 (.ref it) (.ref s.heap.objs.size) (compEnvC scope cl h3.objs.size X.env)) (RR (.ref s.heap.objs.size) h3.objs.size) s4:=by
    rintro s4 rfl
    generalize hY:compCx X N scope cl h3.objs.size { s with heap:=h3 } (upd H s.heap.objs.size (.lst [])) fp=Y at J4
    have eP:Y.prog=X.prog:=by rw [← hY]; rfl
    have ew:Y.w=X.w:=by rw [← hY]; rfl
    have eK:Y.K=X.K:=by rw [← hY]; rfl
    have ec:Y.calm=true:=by rw [← hY]; exact hc
    have eA:Y.A=X.A:=by rw [← hY]; rfl
    have ee:Y.env=compEnvC scope cl h3.objs.size X.env:=by rw [← hY]; rfl
    have ex:Y.xe=NoX:=by rw [← hY]; rfl
    have stat:∀ {H':Hp},(∀ b∈fp,H' b=none)→∀ b∈fp,FpOk Y [] H' b:=fun {H'} hn b hb=>by
      rw [← hY]
      obtain ⟨o,e⟩:=fpIn b hb
      refine ⟨hn b hb,Nat.ne_of_lt (Heap.lt_size (kept3 b o e)),fun z=>?_,.inl hb,fun x c q=>(f3 b hb).2.2.2.2.1 x c (c1 x c q),fun p hp=>absurd (show p∈([]:List (Addr×Obj)) from hp) (by simp)⟩
      rcases List.mem_cons.mp (I3.stkSub b z) with q | q
      · exact (f3 b hb).2.1 q
      · exact (f3 b hb).2.2.1 q
    refine comp_loop (fun n s'=>∃ i ys σ' H',Inv Y [] σ' H' s'∧tn i s'.heap∧(∀ b∈fp,H' b=none)∧W i n ys σ' H') ?_ m0 ⟨0,[],iniOf l σ,_,J4,t4,fun b hb=>(f3 b hb).1,w0⟩
    rintro n s5 ⟨i,ys,σ5,H5,J5,t5,fr5,w5⟩
    obtain ⟨hDl,st⟩:=step i n ys σ5 H5 w5
    rw [← eP,← ew,← eA,← ee]
    rcases st with ⟨stop,q⟩ | ⟨go,NA,NB,hA,hB,nxt⟩
    · have d:=T.done Y eP ew eK ec i [] s5 σ5 H5 NoX J5 (stat fr5) t5 stop
      rw [← eP,← ew] at d
      refine thn d fun r s6 ⟨hr,J6⟩=>?_
      subst hr
      rw [← hY] at J6
      obtain ⟨m6,n6,_⟩:=J6.loc
      exact hR _ { s with heap:=h3 } H5 s6 I3 (comp_end I3 f3 J6) J6.free ⟨m6,n6⟩ q
    · have d:=T.item Y eP ew eK ec i [] s5 σ5 H5 NoX J5 (stat fr5) t5 go
      rw [← eP,← ew] at d
      refine thn d fun r s6 ⟨u,hr,h6⟩=>?_
      subst hr
      refine thn h6 fun _ s7 ⟨x,H7,J7,r7,y7,t7,fr7⟩=>?_
      have J7':=J7.pinned (stat fr7) (T.obj _ _ t7)
      have back:∀ {σ8:St} {H8:Hp} {s8:Shared},Inv Y ([] ++ pinsAt fp s7.heap) σ8 H8 s8→tn (i + 1) s8.heap∧(∀ b∈fp,H8 b=none):=fun {σ8 H8 s8} J8=>by
        refine ⟨T.keep _ _ _ t7 fun b hb o e=>(J8.pin (b,o) (List.mem_append_right _ (List.mem_append_right _ (mem_pinsAt hb e)))).1,fun b hb=>?_⟩
        obtain ⟨o,e,_⟩:=T.obj _ _ t7 b hb
        exact (J8.pin (b,o) (List.mem_append_right _ (List.mem_append_right _ (mem_pinsAt hb e)))).2.1
      have hg':PG Y tg g:=by rw [← hY]; exact hg _ _ _ _
      have hi':PIfs Y ifs tc:=by rw [← hY]; exact hi _ _ _ _
      have he':PE Y elt te:=by rw [← hY]; exact he _ _ _ _
      have a7:=hg' _ s7 σ5 H7 x u _ J7' r7 (nxt x H7 y7)
      rw [ex] at a7
      refine thn a7 fun _ s8 ⟨σ8,H8,J8,q8⟩=>?_
      have a8:=hi' _ s8 σ8 H8 _ J8 q8
      rw [ex] at a8
      refine thn a8 fun ok s9 ⟨H9,J9,q9⟩=>?_
      cases ok with
      | false =>
        have q9':NB σ8 H9:=by simpa using q9
        obtain ⟨m',hm,w9⟩:=hB _ _ q9'
        obtain ⟨t9,fr9⟩:=back J9
        show ∃ m,m < n∧_
        exact ⟨m',hm,i + 1,ys,σ8,H9,J9.unpinned,t9,fr9,w9⟩
      | true =>
        rw [if_pos rfl] at q9
        show wpAny _ _ (eval elt Y.env) _ _ s9
        have a9:=he' _ s9 σ8 H9 _ J9 q9
        rw [ex] at a9
        refine thn a9 fun xv s10 ⟨v,H10,J10,r10,q10⟩=>?_
        obtain ⟨hD10,hz,m',hm,w10⟩:=hA _ _ _ q10
        have a10:=mt_append _ s10 σ8 H10 (.ref s.heap.objs.size) [v] (.ref s.heap.objs.size) [xv] (fun _ H'=>H'=upd H10 s.heap.objs.size (.lst (ys ++ [v]))) J10 rfl (.cons r10 .nil) ⟨_,ys,v,rfl,rfl,hD10,hz,rfl⟩
        rw [ex] at a10
        refine thn a10 fun _ s11 ⟨_,H11,J11,_,e11⟩=>?_
        subst e11
        obtain ⟨t11,fr11⟩:=back J11
        exact ⟨m',hm,i + 1,ys ++ [v],σ8,_,J11.unpinned,t11,fr11,w10⟩
  exact codeAny_compStart_list (loop _ rfl) (T.self _ 0 _ _ _ t4 (loop _ rfl))
theorem comp_cells {pins:List (Addr×Obj)} {σ:St} {H:Hp} {s:Shared} (S:CompScope X N l scope) (I:Inv X pins σ H s) :
    ∃ cl,closureFor scope X.env=pure cl∧(∀ x c,cl.lookup x=some c→X.env.cells.lookup x=some c)∧∀ y∈scope.names,y.2=.free→∃ c,cl.lookup y.1=some c:=by
  refine closure_is fun y hy hf=>?_
  have q:=List.all_eq_true.mp S.fre y hy
  rw [hf] at q
  have q2:(X.env.scope.names.lookup y.1 == some .cell || X.env.scope.names.lookup y.1 == some .free)=true:=by simpa using q
  rw [Bool.or_eq_true] at q2
  rcases q2 with z | z
  · exact I.ok.has y.1 (.inl (show X.env.scope.names.lookup y.1=some .cell by simpa using z))
  · exact I.ok.has y.1 (.inr (show X.env.scope.names.lookup y.1=some .free by simpa using z))
theorem comp_locals (S:CompScope X N l scope):∀ y∈scope.names,y.2=.local→scope.names.lookup y.1=some .local:=fun y hy hl=>by
  have q:=List.all_eq_true.mp S.loc y hy
  rw [hl] at q
  simpa using q
theorem pe_comp (hc:X.calm=true) (S:CompScope X N l scope) (hw:PI X tg iter wi)
    (hg:∀ cl C s H ex,PG (compCx X N scope cl C s H ex) tg g) (hi:∀ cl C s H ex,PIfs (compCx X N scope cl C s H ex) ifs tc) (he:∀ cl C s H ex,PE (compCx X N scope cl C s H ex) elt te)
    (hs:∀ x,foldedSetIterable iter X.env x=pure x:=by intro _; rfl):PE X (.ListComp elt [⟨tg,iter,ifs,0⟩] scope pos) (tComp l wi g tc te):=by
  intro pins s σ H Q I h
  obtain ⟨cl,e1,c1,c2⟩:=comp_cells S I
  rw [eval_ListComp]
  refine wpAny_comprehension_free (use:=none) rfl hs e1 S.kind (comp_locals S) (thn (hw pins s σ H _ I h) fun v s1 h1=>thn h1 fun itv s2 h2=>?_)
  obtain ⟨it,fp,tn,J,H2,e,I2,T,st2,f2,hW⟩:=h2
  subst e
  refine comp_block hc S c1 c2 (hg cl) (hi cl) (he cl) I2 T st2 f2 hW fun D s0 H' s' I0 I' hf hns q=>?_
  obtain ⟨m,hm⟩:=hns
  exact ⟨m,hm,fun h'' sb=>⟨.ref D,H',comp_gone I0 hf I' sb,rfl,q⟩⟩
theorem ps_setComp {i:Nat} {x:Str} {pos' pos2:Pos} (hc:X.calm=true) (hN:X.N.Nodup) (hi':X.N[i]?=some x) (hx:X.env.scope.names.lookup x=some .local) (S:CompScope X N l scope) (hw:PI X tg iter wi)
    (hg:∀ cl C s H ex,PG (compCx X N scope cl C s H ex) tg g) (hi:∀ cl C s H ex,PIfs (compCx X N scope cl C s H ex) ifs tc) (he:∀ cl C s H ex,PE (compCx X N scope cl C s H ex) elt te)
    (hsw:swapsWith (.ListComp elt [⟨tg,iter,ifs,0⟩] scope pos) (some (.Name x pos')) pos2.line X.env=pure true:=by rfl)
    (hs:∀ x,foldedSetIterable iter X.env x=pure x:=by intro _; rfl):PS X (.Assign [.Name x pos'] (.ListComp elt [⟨tg,iter,ifs,0⟩] scope pos) pos2) (tAsg (tComp l wi g tc te) (gName i)):=by
  intro pins s σ H D I h
  obtain ⟨cl,e1,c1,c2⟩:=comp_cells S I
  rw [exec_Assign_Name_used _ _ _ _ hsw]
  refine wpAny_bind (wpAny_standAt (wpAny_bind ?_))
  show wpAny _ X.A (comprehension (.ListComp elt [⟨tg,iter,ifs,0⟩] scope pos) scope X.env _ (newList []) false (eval iter X.env) (some (assign (.Name x pos') X.env)) >>= fun _=>_) _ _ s
  refine wpAny_bind (thn (wpAny_comprehension_free (use:=some (assign (.Name x pos') X.env)) (Q:=fun _ s'=>SP X pins D .next s') rfl hs e1 S.kind (comp_locals S) (thn (hw pins s σ H _ I h) fun v s1 h1=>thn h1 fun itv s2 h2=>?_)) fun _ s' hq=>wpAny_pure (wpAny_pure hq))
  obtain ⟨it,fp,tn,J,H2,e,I2,T,st2,f2,hW⟩:=h2
  subst e
  refine comp_block hc S c1 c2 (hg cl) (hi cl) (he cl) I2 T st2 f2 hW fun L s0 H' s' I0 I' hf hns q=>?_
  obtain ⟨m,hm⟩:=hns
  show wpAny _ X.A (assign (.Name x pos') X.env (.ref L)) _ _ s'
  refine wpAny_assign_Name (store_ok2 I' hN hi' (.inl hx) (v:=.ref L) rfl (fun s2 I2 hsb=>?_) (.inr hx))
  obtain ⟨a,sb,ha⟩:=hsb
  have hne:s0.heap.objs.size≠a:=by
    rcases ha with z | z
    · rw [z]; exact Nat.ne_of_gt I0.lt
    · obtain ⟨v,cc⟩:=I0.cell x a z
      exact Nat.ne_of_gt cc.lt
  exact ⟨m,hm.sameBut sb hne,fun h'' sb2=>⟨_,H',comp_gone I0 hf I2 sb2,q⟩⟩
end
theorem comp_range {lo:Int} {n:Nat} {l:List (Option Nat)} {g:TG} {tc:TT} {te:TE} {σ:St} {H1:Hp} {Q:Hp→Prop} (D:Addr) (Pv:Nat→List V→St→Hp→Prop) (hn:n≤1000) (hy:∀ i ys σ H,Pv i ys σ H→ys.length≤i) (h0:Pv 0 [] (iniOf l σ) (upd H1 D (.lst [])))
    (hs:∀ i ys σ H,i < n→Pv i ys σ H→H D=some (.lst ys)→g (.int (lo + i)) σ H fun σ2 H2=>tc σ2 H2 fun b H3 =>
      if b=true then te σ2 H3 fun v H4=>H4 D=some (.lst ys)∧Pv (i + 1) (ys ++ [v]) σ2 (upd H4 D (.lst (ys ++ [v]))) else H3 D=some (.lst ys)∧Pv (i + 1) ys σ2 H3)
    (hd:∀ ys σ H,Pv n ys σ H→H D=some (.lst ys)→Q H) :
    ∃ W:CompW,(∃ m,W 0 m [] (iniOf l σ) (upd H1 D (.lst [])))∧compStep (Itr lo n) g tc te D W Q:=by
  refine ⟨fun i m ys σ H=>m=n - i∧i≤n∧H D=some (.lst ys)∧Pv i ys σ H,⟨n,by simp,Nat.zero_le _,upd_same,h0⟩,?_⟩
  rintro i m ys σ H ⟨rfl,hi,hD,p⟩
  refine ⟨hD,?_⟩
  by_cases hlt:i < n
  · refine .inr ⟨hlt,fun v σ2 H4=>H4 D=some (.lst ys)∧Pv (i + 1) (ys ++ [v]) σ2 (upd H4 D (.lst (ys ++ [v]))),fun σ2 H3=>H3 D=some (.lst ys)∧Pv (i + 1) ys σ2 H3,fun v σ2 H4 q=>?_,fun σ2 H3 q=>⟨n - (i + 1),by omega,rfl,hlt,q⟩,fun x H' y=>?_⟩
    · exact ⟨q.1,small1000 (Nat.le_trans (hy _ _ _ _ p) (by omega)),n - (i + 1),by omega,rfl,hlt,upd_same,q.2⟩
    · obtain ⟨e,y⟩:=y
      subst e y
      exact hs i ys σ _ hlt p hD
  · have e:i=n:=by omega
    subst e
    exact .inl ⟨Nat.le_refl _,hd ys σ H p hD⟩
theorem comp_seq {J:It} {l:List (Option Nat)} {g:TG} {tc:TT} {te:TE} {σ:St} {H1:Hp} {Q:Hp→Prop} (D:Addr) (xs:List V) (Pv:Nat→List V→St→Hp→Prop) (hn:xs.length≤1000) (hy:∀ i ys σ H,Pv i ys σ H→ys.length≤i)
    (hJ:∀ i ys σ H,Pv i ys σ H→H D=some (.lst ys)→(∀ x,xs[i]?=some x→J.go i H∧∀ y H',J.yld i H y H'→H'=H∧y=x)∧(xs.length≤i→J.stop i H)) (h0:Pv 0 [] (iniOf l σ) (upd H1 D (.lst [])))
    (hs:∀ i x ys σ H,xs[i]?=some x→Pv i ys σ H→H D=some (.lst ys)→g x σ H fun σ2 H2=>tc σ2 H2 fun b H3 =>
      if b=true then te σ2 H3 fun v H4=>H4 D=some (.lst ys)∧Pv (i + 1) (ys ++ [v]) σ2 (upd H4 D (.lst (ys ++ [v]))) else H3 D=some (.lst ys)∧Pv (i + 1) ys σ2 H3)
    (hd:∀ ys σ H,Pv xs.length ys σ H→H D=some (.lst ys)→Q H) :
    ∃ W:CompW,(∃ m,W 0 m [] (iniOf l σ) (upd H1 D (.lst [])))∧compStep J g tc te D W Q:=by
  refine ⟨fun i m ys σ H=>m=xs.length - i∧i≤xs.length∧H D=some (.lst ys)∧Pv i ys σ H,⟨xs.length,by simp,Nat.zero_le _,upd_same,h0⟩,?_⟩
  rintro i m ys σ H ⟨rfl,hi,hD,p⟩
  refine ⟨hD,?_⟩
  by_cases hlt:i < xs.length
  · obtain ⟨hg,hyl⟩:=(hJ i ys σ H p hD).1 xs[i] (by simp [hlt])
    refine .inr ⟨hg,fun v σ2 H4=>H4 D=some (.lst ys)∧Pv (i + 1) (ys ++ [v]) σ2 (upd H4 D (.lst (ys ++ [v]))),fun σ2 H3=>H3 D=some (.lst ys)∧Pv (i + 1) ys σ2 H3,fun v σ2 H4 q=>?_,fun σ2 H3 q=>⟨xs.length - (i + 1),by omega,rfl,hlt,q⟩,fun x H' y=>?_⟩
    · exact ⟨q.1,small1000 (Nat.le_trans (hy _ _ _ _ p) (by omega)),xs.length - (i + 1),by omega,rfl,hlt,upd_same,q.2⟩
    · obtain ⟨e,e2⟩:=hyl x H' y
      subst e e2
      exact hs i _ ys σ _ (by simp [hlt]) p hD
  · have e:i=xs.length:=by omega
    subst e
    exact .inl ⟨(hJ _ ys σ H p hD).2 (Nat.le_refl _),hd ys σ H p hD⟩
theorem itt_of {K:PySem.W.Frag} {a:Addr} {xs:List V} {H:Hp} (hq:SqT K H a xs) (i:Nat) :
    (∀ x,xs[i]?=some x→(Itt K a).go i H∧∀ y H',(Itt K a).yld i H y H'→H'=H∧y=x)∧(xs.length≤i→(Itt K a).stop i H) :=
  ⟨fun x hx=>⟨⟨xs,x,hq,hx⟩,fun y H' h=>⟨h.1,by have:=h.2 xs hq; rw [hx] at this; exact (Option.some.inj this).symm⟩⟩,fun h=>⟨xs,hq,h⟩⟩
theorem itl_of {K:PySem.W.Frag} {a:Addr} {xs:List V} {H:Hp} (hq:SqL K H a xs) (i:Nat) :
    (∀ x,xs[i]?=some x→(Itl K a).go i H∧∀ y H',(Itl K a).yld i H y H'→H'=H∧y=x)∧(xs.length≤i→(Itl K a).stop i H) :=
  ⟨fun x hx=>⟨⟨xs,x,hq,hx⟩,fun y H' h=>⟨h.1,by have:=h.2 xs hq; rw [hx] at this; exact (Option.some.inj this).symm⟩⟩,fun h=>⟨xs,hq,h⟩⟩
end L2
namespace L2
open PySem PySem.Spec PyProof.Rows
section
variable {X:Cx}
theorem op_mulB:OpR X (binaryOp .Mult) (rI IntMulOk fun i j=>.int (i * j)):=opI fun _ _ _ _ _ _ _ hc q=>mul_int q hc
def CDivB (i j:Int):Prop:=0 < j∧j.natAbs.log2 < 9000
theorem CDivB.of {i j:Int} (h0:0 < j) (h:j < 2 ^ 9000):CDivB i j:=by
  refine ⟨h0,(Nat.log2_lt (by omega)).mpr ?_⟩
  have e:((j.natAbs:Nat):Int)=j:=by omega
  have h':((j.natAbs:Nat):Int) < ((2 ^ 9000:Nat):Int):=by
    rw [e]
    rw [Int.natCast_pow]; exact h
  exact Int.ofNat_lt.mp h'
theorem op_fdivB:OpR X (binaryOp .FloorDiv) (rI CDivB fun i j=>.int (i / j)):=opI fun i j _ _ _ _ _ hc q =>
  floordiv_int (by have:=hc.1; omega) (by rw [Int.fdiv_eq_ediv_of_nonneg i (Int.le_of_lt hc.1)]; exact q) (.inl (PyProof.noPylong_of_log2 hc.2))
theorem bits_of {x:Int} {k:Nat} (h1:-(2 ^ k) < x) (h2:x < 2 ^ k):Builtin.Int.intBits x≤k:=by
  unfold Builtin.Int.intBits
  split
  · exact Nat.zero_le _
  · rename_i hx
    have h0:x.natAbs≠0:=fun z=>hx (by simp; omega)
    have e2:((2 ^ k:Nat):Int)=(2:Int) ^ k:=by rw [Int.natCast_pow]; rfl
    have hn:x.natAbs < 2 ^ k:=by
      have:((x.natAbs:Nat):Int) < ((2 ^ k:Nat):Int):=by rw [e2]; omega
      exact Int.ofNat_lt.mp this
    have:=(Nat.log2_lt h0).mpr hn
    omega
theorem op_isB:OpR X (compareOp .Is) (fun x y H Q=>∃ i j,x=.bl i∧y=.bl j∧Q (.bl (i == j)) H):=by
  intro pins s σ H x y v u Q I rx ry h
  obtain ⟨i,j,rfl,rfl,q⟩:=h
  cases rx
  cases ry
  refine wpAny_is_plain rfl ⟨.bl (i == j),H,I,?_,q⟩
  show Value.bool _=Value.bool _
  cases i <;> cases j <;> rfl
theorem op_isnotB:OpR X (compareOp .IsNot) (fun x y H Q=>∃ i j,x=.bl i∧y=.bl j∧Q (.bl (!(i == j))) H):=by
  intro pins s σ H x y v u Q I rx ry h
  obtain ⟨i,j,rfl,rfl,q⟩:=h
  cases rx
  cases ry
  refine wpAny_isNot_plain rfl ⟨.bl (!(i == j)),H,I,?_,q⟩
  show Value.bool _=Value.bool _
  cases i <;> cases j <;> rfl
theorem Inv.bigM {pins:List (Addr×Obj)} {σ:St} {H:Hp} {s:Shared} (I:Inv X pins σ H s):sysModules < s.heap.objs.size :=
  Nat.lt_trans (by decide) (I.mod.glob.keeps I.bk).lt
def tDNew:TE:=fun _ H Q=>∀ p,H p=none→Q (.ref p) (upd H p (.dK []))
theorem pe_dnew {pos:Pos}:PE X (.Dict [] [] pos) tDNew:=fun pins s σ H Q I h =>
  wpAny_Dict_empty ⟨.ref s.heap.objs.size,_,I.laid (a:=s.heap.objs.size) (o:=.dK []) (t':=s.toks) (fun _ _ q=>Heap.get?_push_of_some _ q) (Nat.le_refl _)
    ⟨Nat.zero_le _,beq_eq_false_iff_ne.mpr (Ne.symm (Nat.ne_of_lt I.bigM)),[],.nil,Heap.DictOf.new s.heap⟩,rfl,h _ (I.hok.fresh (Nat.le_refl _))⟩
def SqA (K:PySem.W.Frag) (H:Hp) (a:Addr) (xs:List V):Prop:=SqL K H a xs∨SqT K H a xs
theorem walk_seq {pins:List (Addr×Obj)} {σ:St} {H:Hp} {s:Shared} {a:Addr} {xs:List V} {A:Around} {E:Value→Shared→Prop} {Q:Value→Shared→Prop} (hA:A.handled=none) (I:Inv X pins σ H s) (h:SqA X.K H a xs)
    (hq:∀ (its:List Value) (It:Addr) (fp wr:List Addr) (St:Nat→Heap→Prop) (s2:Shared),Vals xs its→Walks X.prog X.w A It fp wr its.length (fun i v=>its.toArray[i]?=some v) St→St 0 s2.heap→(∀ b∈fp,b < s2.heap.objs.size) →
      (∀ h' tk,(∀ b o,b ∉ wr→s2.heap.get? b=some o→h'.get? b=some o)→Inv X pins σ H { s2 with heap:=h',toks:=tk })→Q (.ref It) s2) :
    wpAny (model X.prog X.w) A (pyIter (.ref a)) Q E s:=by
  rcases h with h | h
  · obtain ⟨its,rv,p,hz⟩:=I.list h
    have pl:=p.isList
    have hlt:a < s.heap.objs.size:=by obtain ⟨_,e,_⟩:=id pl; exact Heap.lt_size e
    refine wpAny_pyIter_list pl (hq its s.heap.objs.size _ _ _ { s with heap:=s.heap.push _ } rv (show Walks X.prog X.w A s.heap.objs.size _ _ its.toArray.size _ _ from Walks.list hA s.heap.objs.size a (Nat.ne_of_lt hlt) its.toArray) ⟨⟨_,Heap.get?_push_size _ rfl,rfl,rfl⟩,pl.push _⟩ (fun b hb=>?_) fun h' tk k=>?_)
    · show b < (s.heap.push _).objs.size
      rw [Heap.size_push]
      rcases List.mem_cons.mp hb with e | hb
      · rw [e]; exact Nat.lt_succ_self _
      · rw [List.mem_singleton.mp hb]; exact Nat.lt_succ_of_lt hlt
    · refine I.kept fun b o e=>k b o (fun z=>?_) (Heap.get?_push_of_some _ e)
      rw [List.mem_singleton.mp z] at e
      exact absurd (Heap.lt_size e) (Nat.lt_irrefl _)
  · obtain ⟨its,rv,p,hz⟩:=I.tuple h
    have pl:s.heap.IsTuple a its.toArray:=p
    have hlt:a < s.heap.objs.size:=by obtain ⟨_,e,_⟩:=id pl; exact Heap.lt_size e
    refine wpAny_pyIter_tuple pl (hq its s.heap.objs.size _ _ _ { s with heap:=s.heap.push _ } rv (show Walks X.prog X.w A s.heap.objs.size _ _ its.toArray.size _ _ from Walks.tuple hA s.heap.objs.size a (Nat.ne_of_lt hlt) its.toArray) ⟨⟨_,Heap.get?_push_size _ rfl,rfl,rfl⟩,?_⟩ (fun b hb=>?_) fun h' tk k=>?_)
    · obtain ⟨o,e,r⟩:=id pl
      exact ⟨o,Heap.get?_push_of_some _ e,r⟩
    · show b < (s.heap.push _).objs.size
      rw [Heap.size_push]
      rcases List.mem_cons.mp hb with e | hb
      · rw [e]; exact Nat.lt_succ_self _
      · rw [List.mem_singleton.mp hb]; exact Nat.lt_succ_of_lt hlt
    · refine I.kept fun b o e=>k b o (fun z=>?_) (Heap.get?_push_of_some _ e)
      rw [List.mem_singleton.mp z] at e
      exact absurd (Heap.lt_size e) (Nat.lt_irrefl _)
theorem preSum_eq (ns:List Int):∀ k,k≤ns.length→preSum (fun i=>ns.getD i 0) k=(ns.take k).sum
  | 0,_=>by simp [preSum]
  | k + 1,h=>by
    have e:=preSum_eq ns k (by omega)
    show preSum _ k + ns.getD k 0=_
    rw [e,List.take_succ_eq_append_getElem (by omega:k < ns.length),List.sum_append]
    simp [List.getD,(by omega:k < ns.length)]
theorem ints_at {ns:List Int} {its:List Value} (rv:Vals (ns.map V.int) its) {i:Nat} {v:Value} (h:its[i]?=some v):∃ t,v=.int (ns.getD i 0) t:=by
  have hl:=rv.length
  rw [List.length_map] at hl
  have hi:i < its.length:=(List.getElem?_eq_some_iff.mp h).1
  have hx:(ns.map V.int)[i]?=some (V.int (ns.getD i 0)):=by
    rw [List.getElem?_map,List.getD,List.getElem?_eq_getElem (by omega)]
    rfl
  obtain ⟨u,e1,t,e2⟩:=rv.get hx
  rw [h] at e1
  cases e1
  exact ⟨t,e2⟩
theorem call_sumL (hc:X.calm=true):CallR X (.builtin "sum") (fun xs H Q=>∃ (p:Addr) (ns:List Int),xs=[.ref p]∧SqA X.K H p (ns.map V.int)∧Q (.int ns.sum) H):=by
  intro pins s σ H xs us Q I r h
  obtain ⟨p,ns,rfl,hs,q⟩:=h
  obtain ⟨u,rfl,ru⟩:=vals1 r
  cases ru
  refine call_sum_walkG (walk_seq (I.ok.hd hc) I hs fun its It fp wr St s2 rv W st hfp fin=>?_)
  refine ⟨It,fp,wr,its.length,_,St,fun i=>ns.getD i 0,rfl,W,st,hfp,fun i v hv=>ints_at rv (by simpa using hv),fun h' tk t' k=>⟨.int ns.sum,H,fin h' tk k,⟨t',?_⟩,q⟩⟩
  have hl:=rv.length
  rw [List.length_map] at hl
  rw [preSum_eq ns its.length (by omega),← hl,List.take_length]
theorem getD_mem {ns:List Int} {i:Nat} (h:i < ns.length):ns.getD i 0∈ns:=by
  rw [List.getD,List.getElem?_eq_getElem h]
  exact List.getElem_mem _
theorem argBest_lt (ns:List Int):∀ k,argBest (fun i j=>decide (ns.getD i 0 < ns.getD j 0)) k≤k∧∀ j,j≤k→ns.getD (argBest (fun i j=>decide (ns.getD i 0 < ns.getD j 0)) k) 0≤ns.getD j 0
  | 0=>⟨Nat.le_refl _,fun j hj=>by have e:j=0:=by omega
                                   rw [e]; exact Int.le_refl _⟩
  | k + 1=>by
    obtain ⟨h1,h2⟩:=argBest_lt ns k
    show (if (decide _)=true then k + 1 else _)≤k + 1∧∀ j,j≤k + 1→ns.getD (if (decide _)=true then k + 1 else _) 0≤_
    split
    · rename_i c
      have c':=of_decide_eq_true c
      refine ⟨Nat.le_refl _,fun j hj=>?_⟩
      by_cases e:j=k + 1
      · rw [e]; exact Int.le_refl _
      · exact Int.le_trans (Int.le_of_lt c') (h2 j (by omega))
    · rename_i c
      have c':¬ ns.getD (k + 1) 0 < _:=fun z=>c (decide_eq_true z)
      refine ⟨Nat.le_succ_of_le h1,fun j hj=>?_⟩
      by_cases e:j=k + 1
      · rw [e]; exact Int.not_lt.mp c'
      · exact h2 j (by omega)
theorem call_minL (hc:X.calm=true):CallR X (.builtin "min") (fun xs H Q=>∃ (p:Addr) (ns:List Int),xs=[.ref p]∧SqA X.K H p (ns.map V.int)∧ns≠[]∧∀ m,m∈ns→(∀ y∈ns,m≤y)→Q (.int m) H):=by
  intro pins s σ H xs us Q I r h
  obtain ⟨p,ns,rfl,hs,ne,q⟩:=h
  obtain ⟨u,rfl,ru⟩:=vals1 r
  cases ru
  have hpos:0 < ns.length:=List.length_pos_iff.mpr ne
  refine call_min_walk (walk_seq (I.ok.hd hc) I hs fun its It fp wr St s2 rv W st hfp fin=>?_)
  have hl:=rv.length
  rw [List.length_map] at hl
  refine ⟨It,fp,wr,its.length,_,St,fun i j=>decide (ns.getD i 0 < ns.getD j 0),rfl,W,st,hfp,by omega,CmpOf.ints_lt (fun i=>ns.getD i 0) (fun i v hv=>ints_at rv (by simpa using hv)),fun v h' tk hv k=>?_⟩
  obtain ⟨t,e⟩:=ints_at rv (by rw [← List.getElem?_toArray]; exact hv)
  obtain ⟨b1,b2⟩:=argBest_lt ns (its.length - 1)
  refine ⟨.int _,H,fin h' tk k,⟨t,e⟩,q _ ?_ fun y hy=>?_⟩
  · exact getD_mem (by omega)
  · obtain ⟨j,hj,ej⟩:=List.mem_iff_getElem.mp hy
    have:=b2 j (by omega)
    rw [show ns.getD j 0=y by rw [List.getD,List.getElem?_eq_getElem hj]; exact ej] at this
    exact this
end
end L2
namespace L2
open PySem PySem.Spec PyProof.Rows
def Fn (P:Program) (w:World) (K:PySem.W.Frag) (mg:Str→Option Value) (base:Heap) (CX:CXT) (x:Str) (k:Nat) (ps:List Str) (sp:Sp):Prop :=
  ∃ f fd,FnOk P w K mg base CX k f fd ps sp∧mg x=some (.ref f)∧PySem.W.keepIn K (.ref f)=true∧Binds K fd ps []
def Df (K:PySem.W.Frag) (mg:Str→Option Value) (x:Str) (st:Stmt):Prop:=∃ f fd,Fun K x x st f fd∧mg x=some (.ref f)
theorem df_mk {K:PySem.W.Frag} {mg:Str→Option Value} {h:Heap} {x:Str} {st:Stmt} {f:Addr} {oc:Value} {od an:Option Addr} {osl:Array (Option Value)} {kV doc pm cdv ct:Value} (X:K.In h) (G:h.Ns mainGlobals mg)
    (a:PySem.W.nsIn K mainGlobals x=some (some (.ref f))) (l:K.lookup f=some ⟨oc,od,.func (PySem.W.fnOf x x (defArgs st) (defBody st) (defScope st) .none kV doc pm an cdv ct),osl⟩)
    (c:PySem.W.codeIn K cdv x=true) (k:PySem.W.keepIn K (.ref f)=true):Df K mg x st:=⟨f,_,fun_mk l c k,PySem.W.mg_of X G a⟩
section
variable {P:Program} {w:World} {K:PySem.W.Frag} {mg:Str→Option Value} {base:Heap}
theorem Df.to {CX:CXT} {x:Str} {st:Stmt} {ps:List Str} {k:Nat} {sp:Sp} (D:Df K mg x st) (h:∀ {f:Addr} {fd:FuncData},Fun K x x st f fd→FnOk P w K mg base CX k f fd ps sp)
    (hb:∀ (kV doc pm:Value) (an:Option Addr) (cdv ct:Value) (us:List Value),us.length=ps.length→bindArgs (PySem.W.fnOf x x (defArgs st) (defBody st) (defScope st) .none kV doc pm an cdv ct) ⟨us,[]⟩=pure (ps.zip us)):Fn P w K mg base CX x k ps sp:=by
  obtain ⟨f,fd,F,hm⟩:=D
  exact ⟨f,fd,h F,hm,F.kp,F.binds hb⟩
theorem Fun.bind1 {x p:Str} {st:Stmt} {f:Addr} {fd:FuncData} (F:Fun K x x st f fd)
    (hb:∀ (kV doc pm:Value) (an:Option Addr) (cdv ct:Value) (us:List Value),us.length=[p].length→bindArgs (PySem.W.fnOf x x (defArgs st) (defBody st) (defScope st) .none kV doc pm an cdv ct) ⟨us,[]⟩=pure ([p].zip us))
    (s:Shared) (u:Value):BindsTo s fd ⟨[u],[]⟩ [(p,u)]:=by
  obtain ⟨oc,od,kV,doc,pm,an,cdv,ct,osl,rfl,lk,hcd⟩:=F.ex
  exact .of_eq (hb kV doc pm an cdv ct [u] rfl)
end
def sp1 (f:V→Hp→VK→XK→Prop):Sp:=fun vs H Q E=>∃ a,vs=[a]∧f a H Q E
def sp2 (f:V→V→Hp→VK→XK→Prop):Sp:=fun vs H Q E=>∃ a b,vs=[a,b]∧f a b H Q E
def sp3 (f:V→V→V→Hp→VK→XK→Prop):Sp:=fun vs H Q E=>∃ a b c,vs=[a,b,c]∧f a b c H Q E
def sp4 (f:V→V→V→V→Hp→VK→XK→Prop):Sp:=fun vs H Q E=>∃ a b c d,vs=[a,b,c,d]∧f a b c d H Q E
def sp5 (f:V→V→V→V→V→Hp→VK→XK→Prop):Sp:=fun vs H Q E=>∃ a b c d e,vs=[a,b,c,d,e]∧f a b c d e H Q E
theorem sp1_len {f} {vs:List V} {H Q E} (h:sp1 f vs H Q E):vs.length=1:=by obtain ⟨_,rfl,_⟩:=h; rfl
theorem sp2_len {f} {vs:List V} {H Q E} (h:sp2 f vs H Q E):vs.length=2:=by obtain ⟨_,_,rfl,_⟩:=h; rfl
theorem sp3_len {f} {vs:List V} {H Q E} (h:sp3 f vs H Q E):vs.length=3:=by obtain ⟨_,_,_,rfl,_⟩:=h; rfl
theorem sp4_len {f} {vs:List V} {H Q E} (h:sp4 f vs H Q E):vs.length=4:=by obtain ⟨_,_,_,_,rfl,_⟩:=h; rfl
theorem sp5_len {f} {vs:List V} {H Q E} (h:sp5 f vs H Q E):vs.length=5:=by obtain ⟨_,_,_,_,_,rfl,_⟩:=h; rfl
def isStar:Expr→Bool
  | .Starred _ _=>true
  | _=>false
theorem star_cons {e:Expr} {es:List Expr} {env:Env} (h:isStar e=false):starEach (e :: es) env=(false,eval e env) :: starEach es env:=by
  cases e <;> first | rfl | (cases h)
theorem star_any {pos:Pos} {env:Env}:∀ {es:List Expr},es.all (fun e=>!isStar e)=true→(backTo pos (starEach es env)).any (·.1)=false
  | [],_=>rfl
  | e :: es,h=>by
    rw [List.all_cons,Bool.and_eq_true] at h
    rw [star_cons (by simpa using h.1)]
    show (false || (backTo pos (starEach es env)).any (·.1))=false
    rw [star_any h.2]; rfl
theorem star_few {pos:Pos} {env:Env} {e:Expr} (h:isStar e=false):((backTo pos (starEach [e] env)).all (fun x=>!x.1) && (backToKw pos (keywordEach [] env)).all (fun x=>x.1.isSome)
      && decide ([e].length + ([]:List Keyword).length + (if ([]:List Keyword).isEmpty then 0 else 1) < 30))=true:=by
  rw [star_cons h]
  rfl
section
variable {X:Cx} {CX:CXT} {k:Nat} {x:Str} {ps:List Str} {sp:Sp} {E:XK} {p pos:Pos} {e:Expr} {es:List Expr} {te:TE} {t:TA}
theorem pa_c (ha:PE X e te) (hr:PA X es t) (h:isStar e=false:=by rfl):PA X (e :: es) (tCons te t):=pa_cons ha hr (star_cons h)
theorem pe_fn (G:Fn X.prog X.w X.K X.mg X.base CX x k ps sp) (hr:Room k X.A) (hg:Gl X x) (hx:Passes CX X E) (ha:PA X (e :: es) t)
    (hdb:(x == ("__debug__":Str))=false:=by decide) (he:isStar e=false:=by rfl) (hpl:es.all (fun e=>!isStar e)=true:=by rfl) :
    PE X (.Call (.Name x p) (e :: es) [] pos) (tCall sp [] E t):=by
  obtain ⟨f,fd,F,hm,hk,hb⟩:=G
  exact pe_call F hr hg hm hk hb .nil hx ha hdb (star_cons he) (star_any hpl)
theorem pe_cB {id:String} {r:List V→Hp→VK→Prop} (hc:CallR X (.builtin id) r) (hg:Gl X x) (hm:X.mg x=none) (hv:bootBuiltins x=some (.builtin id)) (ha:PA X (e :: es) t) (hn:x≠"__name__":=by decide) (hdb:(x == ("__debug__":Str))=false:=by decide)
    (he:isStar e=false:=by rfl) (hpl:es.all (fun e=>!isStar e)=true:=by rfl):PE X (.Call (.Name x p) (e :: es) [] pos) (tCB r t):=pe_callB hc hg hm hv ha hn hdb (star_cons he) (star_any hpl)
theorem pe_cTy {T:String} {r:List V→Hp→VK→Prop} (hc:CallR X (.type T) r) (hg:Gl X x) (hm:X.mg x=none) (hv:bootBuiltins x=some (.type T)) (ha:PA X (e :: es) t) (hn:x≠"__name__":=by decide) (hdb:(x == ("__debug__":Str))=false:=by decide)
    (he:isStar e=false:=by rfl) (hpl:es.all (fun e=>!isStar e)=true:=by rfl):PE X (.Call (.Name x p) (e :: es) [] pos) (tCB r t):=pe_callTy hc hg hm hv ha hn hdb (star_cons he) (star_any hpl)
theorem pe_bm1 {o:Expr} {to:TE} {name:Str} {apos cpos:Pos} {T id:String} {r:V→List V→Hp→VK→Prop} (pa:PlainAttrs T) (slot:Slot T name id) (hty:typeOf (.builtin id)=pure (.type "method_descriptor")) (hm:MtR X id r) (ho:PE X o to) (ha:PA X [e] t)
    (he:isStar e=false:=by rfl) (hbase:attributeBase o name X.env (eval o X.env)=eval o X.env:=by rfl) (hline:(apos.endLine == cpos.line)=true:=by rfl):PE X (.Call (.Attribute o name apos) [e] [] cpos) (tBM X.K T r to t) :=
  pe_bm pa slot hty hm ho ha hbase (star_few he) hline (star_cons he) rfl
end
theorem bt_len:bootBuiltins "len"=some (.builtin "len"):=by decide +kernel
theorem bt_sum:bootBuiltins "sum"=some (.builtin "sum"):=by decide +kernel
theorem bt_min:bootBuiltins "min"=some (.builtin "min"):=by decide +kernel
theorem bt_max:bootBuiltins "max"=some (.builtin "max"):=by decide +kernel
theorem bt_sorted:bootBuiltins "sorted"=some (.builtin "sorted"):=by decide +kernel
theorem bt_isinstance:bootBuiltins "isinstance"=some (.builtin "isinstance"):=by decide +kernel
theorem bt_tuple:bootBuiltins "tuple"=some (.type "tuple"):=by decide +kernel
theorem bt_list:bootBuiltins "list"=some (.type "list"):=by decide +kernel
theorem bt_int:bootBuiltins "int"=some (.type "int"):=by decide +kernel
theorem bt_bool:bootBuiltins "bool"=some (.type "bool"):=by decide +kernel
section
variable {X:Cx} {pos:Pos}
theorem pe_gint {x:Str} {i:Int} (h:∃ t,X.mg x=some (.int i t)) (hg:Gl X x:=by rfl) (hd:(x == ("__debug__":Str))=false:=by decide):PE X (.Name x pos) (tC (.int i)):=by
  obtain ⟨t,h⟩:=h
  exact pe_glob hg h ⟨t,rfl⟩ hd
theorem pe_gty {x:Str} {T:String} (hm:X.mg x=none) (hv:bootBuiltins x=some (.type T)) (hg:Gl X x:=by rfl) (hn:x≠"__name__":=by decide) (hd:(x == ("__debug__":Str))=false:=by decide):PE X (.Name x pos) (tC (.ty T)) :=
  pe_bltn hg hm hv rfl hn hd
theorem pe_powC {a b r:Int} {i j:Nat} {p q:Pos} (e:a ^ b.toNat=r) (h0:0≤b) (h1:b≤1000000) (h2:a.natAbs < 2 ^ 64):PE X (.BinOp (.Constant (.int a) i p) .Pow (.Constant (.int b) j q) pos) (tC (.int r)):=by
  intro pins s σ H Q I h
  exact pe_op op_pow pe_int pe_int pins s σ H Q I ⟨a,b,rfl,rfl,⟨h0,h1,h2⟩,by show Q (.int (a ^ b.toNat)) H; rw [e]; exact h⟩
def tTru (K:PySem.W.Frag) (t:TE):TT:=fun σ H Q=>t σ H fun x H'=>∃ k,TruV K x H' k∧Q k H'
theorem pt_tru {a:Expr} {ta:TE} (ha:PE X a ta) (he:∀ whole,isTrue a X.env whole=(do let v ← whole; standAt a.pos; holding [v] (truthy v))):PT X a (tTru X.K ta):=pt_truth ha he
end
mutual
def Rep (H:Hp):V→PyData→Prop
  | v,.none=>v=.non
  | v,.bool b=>v=.bl b
  | v,.int i=>v=.int i
  | v,.str x=>v=.str x
  | v,.list ds=>∃ a xs,v=.ref a∧H a=some (.lst xs)∧Reps H xs ds
  | v,.tuple ds=>∃ a xs,v=.ref a∧H a=some (.tup xs)∧Reps H xs ds
  | v,.dict kvs=>kvs=[]∧∃ a,v=.ref a∧H a=some (.dK [])
def Reps (H:Hp):List V→List PyData→Prop
  | xs,[]=>xs=[]
  | xs,d :: ds=>∃ x r,xs=x :: r∧Rep H x d∧Reps H r ds
end
def Tu (H H':Hp):Prop:=∀ b xs,H b=some (.tup xs)→H' b=some (.tup xs)
theorem Same.tu {H H':Hp} (e:Same H H'):Tu H H':=fun b xs h=>e b _ h
theorem Tu.trans {H H1 H2:Hp} (a:Tu H H1) (b:Tu H1 H2):Tu H H2:=fun c o h=>b c o (a c o h)
theorem Tu.put {H:Hp} {p:Addr} {xs ys:List V} (h:H p=some (.lst xs)):Tu H (upd H p (.lst ys)):=fun b zs e=>by
  rw [upd_ne (fun z=>by subst z; rw [h] at e; cases e)]; exact e
mutual
def noL:PyData→Bool
  | .none | .bool _ | .int _ | .str _=>true
  | .tuple ds=>noLs ds
  | .list _ | .dict _=>false
def noLs:List PyData→Bool
  | []=>true
  | d :: ds=>noL d && noLs ds
end
mutual
theorem Rep.mono {H H':Hp} (e:Same H H'):∀ (d:PyData) (v:V),Rep H v d→Rep H' v d
  | .none,v,h=>by unfold Rep at h ⊢; exact h
  | .bool b,v,h=>by unfold Rep at h ⊢; exact h
  | .int i,v,h=>by unfold Rep at h ⊢; exact h
  | .str x,v,h=>by unfold Rep at h ⊢; exact h
  | .list ds,v,h=>by
    unfold Rep at h ⊢
    obtain ⟨a,xs,r,q,z⟩:=h
    exact ⟨a,xs,r,e _ _ q,Reps.mono e ds xs z⟩
  | .tuple ds,v,h=>by
    unfold Rep at h ⊢
    obtain ⟨a,xs,r,q,z⟩:=h
    exact ⟨a,xs,r,e _ _ q,Reps.mono e ds xs z⟩
  | .dict _,v,h=>by
    unfold Rep at h ⊢
    obtain ⟨z,a,r,q⟩:=h
    exact ⟨z,a,r,e _ _ q⟩
theorem Reps.mono {H H':Hp} (e:Same H H'):∀ (ds:List PyData) (xs:List V),Reps H xs ds→Reps H' xs ds
  | [],xs,h=>by unfold Reps at h ⊢; exact h
  | d :: ds,xs,h=>by
    unfold Reps at h ⊢
    obtain ⟨x,r,q,z,y⟩:=h
    exact ⟨x,r,q,Rep.mono e d x z,Reps.mono e ds r y⟩
end
mutual
theorem Rep.tu {H H':Hp} (e:Tu H H'):∀ (d:PyData) (v:V),noL d=true→Rep H v d→Rep H' v d
  | .none,v,_,h=>by unfold Rep at h ⊢; exact h
  | .bool b,v,_,h=>by unfold Rep at h ⊢; exact h
  | .int i,v,_,h=>by unfold Rep at h ⊢; exact h
  | .str x,v,_,h=>by unfold Rep at h ⊢; exact h
  | .list ds,v,n,h=>by unfold noL at n; cases n
  | .tuple ds,v,n,h=>by
    unfold Rep at h ⊢
    unfold noL at n
    obtain ⟨a,xs,r,q,z⟩:=h
    exact ⟨a,xs,r,e _ _ q,Reps.tu e ds xs n z⟩
  | .dict _,v,n,h=>by unfold noL at n; cases n
theorem Reps.tu {H H':Hp} (e:Tu H H'):∀ (ds:List PyData) (xs:List V),noLs ds=true→Reps H xs ds→Reps H' xs ds
  | [],xs,_,h=>by unfold Reps at h ⊢; exact h
  | d :: ds,xs,n,h=>by
    unfold Reps at h ⊢
    unfold noLs at n
    rw [Bool.and_eq_true] at n
    obtain ⟨x,r,q,z,y⟩:=h
    exact ⟨x,r,q,Rep.tu e d x n.1 z,Reps.tu e ds r n.2 y⟩
end
mutual
theorem Rep.reads {X:Cx} {pins:List (Addr×Obj)} {σ:St} {H:Hp} {s:Shared} (I:Inv X pins σ H s):∀ (d:PyData) (v:V) (u:Value),d.canLay0=true→Rep H v d→RelV v u→∃ as,Reads s.heap u d as
  | .none,v,u,_,h,r=>by unfold Rep at h; subst h; cases r; exact ⟨_,.none⟩
  | .bool b,v,u,_,h,r=>by unfold Rep at h; subst h; cases r; exact ⟨_,.bool b⟩
  | .int i,v,u,_,h,r=>by unfold Rep at h; subst h; obtain ⟨t,r⟩:=r; subst r; exact ⟨_,.int i t⟩
  | .str x,v,u,_,h,r=>by unfold Rep at h; subst h; obtain ⟨t,r⟩:=r; subst r; exact ⟨_,.str x t⟩
  | .list ds,v,u,c,h,r=>by
    unfold Rep at h
    obtain ⟨a,xs,e,q,z⟩:=h
    subst e
    cases r
    obtain ⟨its,rv,p,hz⟩:=I.list (SqL.of q)
    obtain ⟨as,ra⟩:=Reps.reads I ds xs its (by simpa only [PyData.canLay0] using c) z rv
    obtain ⟨o,e1,e2,n,e3⟩:=p.isList
    exact ⟨_,.list e1 e2 e3 ra⟩
  | .tuple ds,v,u,c,h,r=>by
    unfold Rep at h
    obtain ⟨a,xs,e,q,z⟩:=h
    subst e
    cases r
    obtain ⟨its,rv,p,hz⟩:=I.tuple (SqT.of q)
    obtain ⟨as,ra⟩:=Reps.reads I ds xs its (by simpa only [PyData.canLay0] using c) z rv
    obtain ⟨o,e1,e2,n,e3⟩:=p
    exact ⟨_,.tuple e1 e2 e3 ra⟩
  | .dict _,v,u,c,h,r=>by simp [PyData.canLay0] at c
theorem Reps.reads {X:Cx} {pins:List (Addr×Obj)} {σ:St} {H:Hp} {s:Shared} (I:Inv X pins σ H s):∀ (ds:List PyData) (xs:List V) (us:List Value),PyData.canLayAll0 ds=true→Reps H xs ds→Vals xs us→∃ as,ReadsAll s.heap us ds as
  | [],xs,us,_,h,r=>by unfold Reps at h; subst h; cases r; exact ⟨_,.nil⟩
  | d :: ds,xs,us,c,h,r=>by
    unfold Reps at h
    obtain ⟨x,t,e,z,y⟩:=h
    subst e
    have c':d.canLay0=true∧PyData.canLayAll0 ds=true:=by simpa [PyData.canLayAll0] using c
    cases r with
    | cons r1 r2 =>
      obtain ⟨as,ra⟩:=Rep.reads I d x _ c'.1 z r1
      obtain ⟨bs,rb⟩:=Reps.reads I ds t _ c'.2 y r2
      exact ⟨_,.cons ra rb⟩
end
theorem Reps.length {H:Hp}:∀ {ds:List PyData} {xs:List V},Reps H xs ds→xs.length=ds.length
  | [],_,h=>by unfold Reps at h; rw [h]; rfl
  | _ :: _,_,h=>by
    unfold Reps at h
    obtain ⟨x,r,rfl,_,y⟩:=h
    simp [Reps.length y]
theorem Reps.get {H:Hp}:∀ {ds:List PyData} {xs:List V} {i:Nat} {x:V},Reps H xs ds→xs[i]?=some x→∃ d,ds[i]?=some d∧Rep H x d
  | [],_,_,_,h,e=>by unfold Reps at h; subst h; simp at e
  | d :: ds,_,0,x,h,e=>by
    unfold Reps at h
    obtain ⟨y,r,rfl,q,_⟩:=h
    have:y=x:=by simpa using e
    subst this
    exact ⟨d,rfl,q⟩
  | d :: ds,_,i + 1,x,h,e=>by
    unfold Reps at h
    obtain ⟨y,r,rfl,_,q⟩:=h
    exact Reps.get (i:=i) q (by simpa using e)
theorem Reps.of {H:Hp}:∀ {ds:List PyData} {xs:List V},xs.length=ds.length→(∀ (i:Nat) x d,xs[i]?=some x→ds[i]?=some d→Rep H x d)→Reps H xs ds
  | [],xs,hl,_=>by unfold Reps; exact List.eq_nil_of_length_eq_zero hl
  | d :: ds,[],hl,_=>by simp at hl
  | d :: ds,x :: xs,hl,h=>by
    unfold Reps
    exact ⟨x,xs,rfl,h 0 x d rfl rfl,Reps.of (by simpa using hl) fun i y e h1 h2=>h (i + 1) y e (by simpa using h1) (by simpa using h2)⟩
theorem Reps.ints {H:Hp}:∀ (ns:List Int),Reps H (ns.map V.int) (ns.map PyData.int)
  | []=>by unfold Reps; rfl
  | n :: ns=>by
    show Reps H (V.int n :: ns.map V.int) (PyData.int n :: ns.map PyData.int)
    unfold Reps
    exact ⟨_,_,rfl,by unfold Rep; rfl,Reps.ints ns⟩
abbrev rSubU:R2:=rI0 fun i j=>.int (i - j)
abbrev rDivU:R2:=rI CDivB fun i j=>.int (i / j)
abbrev rModU:R2:=rI (fun _ j=>0 < j) fun i j=>.int (i % j)
abbrev rLtU:R2:=rI0 fun i j=>.bl (decide (i < j))
abbrev rLeU:R2:=rI0 fun i j=>.bl (decide (i≤j))
abbrev rGtU:R2:=rI0 fun i j=>.bl (decide (j < i))
abbrev rGeU:R2:=rI0 fun i j=>.bl (decide (j≤i))
abbrev rNegU:V→Hp→VK→Prop:=rU fun i=>.int (-i)
def rCatN (K:PySem.W.Frag):R2:=fun x y H Q=>∃ a b ys,x=.ref a∧y=.ref b∧SqT K H a []∧SqT K H b ys∧Q (.ref b) H
abbrev rAddU (K:PySem.W.Frag):R2:=fun x y H Q=>rI0 (fun i j=>.int (i + j)) x y H Q∨(fun x y H Q=>rCatT K x y H Q∨(fun x y H Q=>rCatN K x y H Q∨rCat x y H Q) x y H Q) x y H Q
abbrev rMulU (K:PySem.W.Frag):R2:=fun x y H Q=>rI IntMulOk (fun i j=>.int (i * j)) x y H Q∨rRep x y H Q
def rEqD (K:PySem.W.Frag):R2:=fun x y H Q=>∃ d e,Rep H x d∧Rep H y e∧d.canLay0=true∧e.canLay0=true∧min d.depth e.depth≤64∧Q (.bl (PyData.eqv d e)) H
def rNeD (K:PySem.W.Frag):R2:=fun x y H Q=>∃ d e,Rep H x d∧Rep H y e∧d.canLay0=true∧e.canLay0=true∧min d.depth e.depth≤64∧Q (.bl (!PyData.eqv d e)) H
abbrev rEqU (K:PySem.W.Frag):R2:=fun x y H Q=>rEq x y H Q∨rEqD K x y H Q
abbrev rNeU (K:PySem.W.Frag):R2:=fun x y H Q=>rNe x y H Q∨rNeD K x y H Q
def rIsN:R2:=fun x y H Q=>y=.non∧Q (.bl (decide (x=.non))) H
def rIsnN:R2:=fun x y H Q=>y=.non∧Q (.bl (!decide (x=.non))) H
def rIsB:R2:=fun x y H Q=>∃ i j,x=.bl i∧y=.bl j∧Q (.bl (i == j)) H
def rIsnB:R2:=fun x y H Q=>∃ i j,x=.bl i∧y=.bl j∧Q (.bl (!(i == j))) H
abbrev rIsU:R2:=fun x y H Q=>rIsN x y H Q∨rIsB x y H Q
abbrev rIsNotU:R2:=fun x y H Q=>rIsnN x y H Q∨rIsnB x y H Q
section
variable {X:Cx}
theorem op_subU:OpR X (binaryOp .Sub) rSubU:=op_sub
theorem op_divU:OpR X (binaryOp .FloorDiv) rDivU:=op_fdivB
theorem op_modU:OpR X (binaryOp .Mod) rModU:=op_mod
theorem op_catN:OpR X (binaryOp .Add) (rCatN X.K):=by
  intro pins s σ H x y v u Q I rx ry h
  obtain ⟨a,b,ys,rfl,rfl,ha,hb,q⟩:=h
  cases rx
  cases ry
  obtain ⟨its,r1,p1,_⟩:=I.tuple ha
  obtain ⟨its2,r2,p2,_⟩:=I.tuple hb
  cases r1
  obtain ⟨⟨cls,dd,data,sl⟩,ho,hc,n,hd⟩:=id p1
  obtain ⟨⟨cls2,dd2,data2,sl2⟩,ho2,hc2,n2,hd2⟩:=id p2
  simp only at hc hd hc2 hd2
  subst hc hd hc2 hd2
  exact concat_meets ⟨_,ho,rfl⟩ ⟨_,ho2,rfl⟩ noFill_tuple_add seq_tuple_add PySem.F.slot_tuple_add PySem.F.entry_tuple_add (PySem.F.args_tuple_add_2 _ _)
      (tuple_addW0 a b ([]:List Value).toArray its2.toArray n n2 dd dd2 sl sl2 (by simp)) ⟨ho,ho2,⟨.ref b,H,I,rfl,q⟩⟩
theorem op_addU:OpR X (binaryOp .Add) (rAddU X.K):=op_add.or (op_catT.or (op_catN.or op_cat))
theorem op_mulU:OpR X (binaryOp .Mult) (rMulU X.K):=op_mulB.or op_rep
theorem op_eqD (hu:X.A.units + 64 < cLine):OpR X (compareOp .Eq) (rEqD X.K):=by
  intro pins s σ H x y v u Q I rx ry h
  obtain ⟨d,e,h1,h2,c1,c2,hm,q⟩:=h
  obtain ⟨as,ra⟩:=Rep.reads I d x v c1 h1 rx
  obtain ⟨bs,rb⟩:=Rep.reads I e y u c2 h2 ry
  exact SeqAt.compareEq_reads ra rb c1 c2 (by omega) ⟨.bl _,H,I,rfl,q⟩
theorem op_neD (hu:X.A.units + 64 < cLine):OpR X (compareOp .NotEq) (rNeD X.K):=by
  intro pins s σ H x y v u Q I rx ry h
  obtain ⟨d,e,h1,h2,c1,c2,hm,q⟩:=h
  obtain ⟨as,ra⟩:=Rep.reads I d x v c1 h1 rx
  obtain ⟨bs,rb⟩:=Rep.reads I e y u c2 h2 ry
  exact SeqAt.compareNe_reads ra rb c1 c2 (by omega) ⟨.bl _,H,I,rfl,q⟩
theorem op_eqU (hu:X.A.units + 64 < cLine):OpR X (compareOp .Eq) (rEqU X.K):=op_eq.or (op_eqD hu)
theorem op_neU (hu:X.A.units + 64 < cLine):OpR X (compareOp .NotEq) (rNeU X.K):=op_ne.or (op_neD hu)
theorem op_isU:OpR X (compareOp .Is) rIsU:=op_isN.or op_isB
theorem op_isnotU:OpR X (compareOp .IsNot) rIsNotU:=op_notN.or op_isnotB
abbrev rNotInU (K:PySem.W.Frag):R2:=rIn K true
theorem op_notInU:OpR X (compareOp .NotIn) (rNotInU X.K):=op_notIn_seq
abbrev rSlU (K:PySem.W.Frag):V→Option Int→Option Int→Hp→VK→Prop:=fun x lo hi H Q=>rSlT K x lo hi H Q∨rSlL K x lo hi H Q
theorem sl_U:SlR X (rSlU X.K):=sl_tup.or sl_list
def rIsinst (K:PySem.W.Frag):List V→Hp→VK→Prop:=fun xs H Q=>∃ x T t b,xs=[x,.ty T]∧TyOf K H x t∧PySem.W.kitOne K t (.type T)=some b∧Q (.bl b) H
theorem call_isinst:CallR X (.builtin "isinstance") (rIsinst X.K):=by
  intro pins s σ H xs us Q I r h
  obtain ⟨x,T,t,b,rfl,ty,e,q⟩:=h
  obtain ⟨u,w',rfl,rx,ry⟩:=vals2 r
  cases ry
  exact isinst_ok I rx ty e fun tk=>⟨.bl b,H,I.tok tk,rfl,q⟩
def rLenU (K:PySem.W.Frag):List V→Hp→VK→Prop:=fun xs H Q=>∃ x n,xs=[x]∧LenV K x H n∧Q (.int (n:Nat)) H
theorem call_lenU:CallR X (.builtin "len") (rLenU X.K):=call_len
def rSumU (K:PySem.W.Frag):List V→Hp→VK→Prop:=fun xs H Q=>∃ (p:Addr) (ns:List Int),xs=[.ref p]∧SqA K H p (ns.map V.int)∧Q (.int ns.sum) H
theorem call_sumU (hc:X.calm=true):CallR X (.builtin "sum") (rSumU X.K):=call_sumL hc
def rMinU (K:PySem.W.Frag):List V→Hp→VK→Prop:=fun xs H Q=>∃ (p:Addr) (ns:List Int),xs=[.ref p]∧SqA K H p (ns.map V.int)∧ns≠[]∧∀ m,m∈ns→(∀ y∈ns,m≤y)→Q (.int m) H
theorem call_minU (hc:X.calm=true):CallR X (.builtin "min") (rMinU X.K):=call_minL hc
def rTy_int (K:PySem.W.Frag):List V→Hp→VK→Prop:=fun xs H Q=>(∃ i,xs=[.int i]∧Q (.int i) H)∨∃ k,xs=[.bl k]∧Q (.int (if k then 1 else 0)) H
theorem call_ty_int:CallR X (.type "int") (rTy_int X.K):=call_int1
def rTy_tuple (K:PySem.W.Frag):List V→Hp→VK→Prop:=fun xs H Q=>∃ p ys,xs=[.ref p]∧((SqL K H p ys∧∀ l,H l=none→Q (.ref l) (upd H l (.tup ys)))∨(SqT K H p ys∧Q (.ref p) H))
theorem call_ty_tuple:CallR X (.type "tuple") (rTy_tuple X.K):=call_tuple_of
def rTy_list (K:PySem.W.Frag):List V→Hp→VK→Prop:=fun xs H Q=>∃ p ys,xs=[.ref p]∧(SqL K H p ys∨SqT K H p ys)∧∀ l,H l=none→Q (.ref l) (upd H l (.lst ys))
theorem call_ty_list:CallR X (.type "list") (rTy_list X.K):=call_list_of
def iSeq (K:PySem.W.Frag) (tl:TE):TI:=fun σ H R=>tl σ H fun x H1=>∃ a,x=.ref a∧(((∃ xs,SqL K H1 a xs)∧R (Itl K a) H1)∨((∃ xs,SqT K H1 a xs)∧R (Itt K a) H1))
theorem pi_seq {tg l:Expr} {tl:TE} (hl:PE X l tl):PI X tg l (iSeq X.K tl):=by
  intro pins s σ H R I h
  refine thn (hl pins s σ H _ I h) fun v s1 ⟨x,H1,I1,r1,q1⟩=>?_
  obtain ⟨a,e,q⟩:=q1
  subst e
  cases r1
  rcases q with ⟨⟨xs,hq⟩,q⟩ | ⟨⟨xs,hq⟩,q⟩
  · obtain ⟨its,rv,p,hz⟩:=I1.list hq
    refine wpAny_pyIter_list p.isList ?_
    refine ⟨s1.heap.objs.size,[s1.heap.objs.size],_,_,H1,rfl,I1.kept (t':=s1.toks) fun b o e=>Heap.get?_push_of_some _ e,turn_list a _,⟨_,Heap.get?_push_size _ rfl,rfl,rfl⟩,fun b hb=>?_,q⟩
    have e:b=s1.heap.objs.size:=by simpa using hb
    subst e
    exact I1.fpOk (Nat.le_refl _) (I1.hok.fresh (Nat.le_refl _))
  · obtain ⟨its,rv,p,hz⟩:=I1.tuple hq
    refine wpAny_pyIter_tuple (show s1.heap.IsTuple a its.toArray from p) ?_
    refine ⟨s1.heap.objs.size,[s1.heap.objs.size],_,_,H1,rfl,I1.kept (t':=s1.toks) fun b o e=>Heap.get?_push_of_some _ e,turn_tuple a _,⟨_,Heap.get?_push_size _ rfl,rfl,rfl⟩,fun b hb=>?_,q⟩
    have e:b=s1.heap.objs.size:=by simpa using hb
    subst e
    exact I1.fpOk (Nat.le_refl _) (I1.hok.fresh (Nat.le_refl _))
end
theorem weight_mem:∀ {xs:List PySem.W.WData} {x:PySem.W.WData},x∈xs→x.weight≤PySem.W.WData.weightAll xs
  | [],_,h=>by simp at h
  | y :: r,x,h=>by
    unfold PySem.W.WData.weightAll
    rcases List.mem_cons.mp h with e | e
    · subst e; omega
    · have:=weight_mem e
      omega
theorem bits_script {ns:List Int} (h:PySem.W.WData.layableAll [.list (ns.map .int)]=true):∀ n∈ns,Builtin.Int.intBits n≤1048576:=by
  intro n hn
  have h1:PySem.W.WData.layable (.list (ns.map .int))=true:=(PySem.W.layW_cons h).1
  unfold PySem.W.WData.layable at h1
  rw [Bool.and_eq_true,Bool.and_eq_true] at h1
  have h2:PySem.W.WData.weight (.list (ns.map .int))≤2 ^ 20:=of_decide_eq_true h1.2
  have h3:PySem.W.WData.weight (.list (ns.map .int))=PySem.W.WData.weightAll (ns.map .int):=by simp only [PySem.W.WData.weight]
  have h4:=weight_mem (x:=.int n) (List.mem_map.mpr ⟨n,hn,rfl⟩:PySem.W.WData.int n∈ns.map .int)
  have h5:PySem.W.WData.weight (.int n)=Builtin.Int.intBits n:=by simp only [PySem.W.WData.weight,Builtin.Int.intBits]
  have e:(2:Nat) ^ 20=1048576:=by decide
  omega
end L2
namespace L2
open PySem PySem.Spec PyProof.Rows
section
variable {K:PySem.W.Frag} {σ:St} {H:Hp} {Q:VK} {D:Ends} {t u:TS} {te ta tb tc:TE} {g:TG} {R:Bool→Hp→Prop} {c d:TT} {v x y:V} {i j:Int} {p:Addr} {xs:List V} {ns:List Int}
theorem w_seq (h:t { D with nx:=u D } σ H):tSeq t u D σ H:=h
theorem w_asg (h:te σ H fun x H1=>g x σ H1 D.nx):tAsg te g D σ H:=h
theorem w_name {n:Nat} {R:St→Hp→Prop} (h:R (σ.set n (some v)) H):gName n v σ H R:=h
theorem w_ret (h:te σ H D.rt):tRet te D σ H:=h
theorem w_drop (h:te σ H fun _ H1=>D.nx σ H1):tDrop te D σ H:=h
theorem w_ifS (h:c σ H fun b H1=>if b=true then t D σ H1 else u D σ H1):tIfS c t u D σ H:=h
theorem w_next (h:D.nx σ H):tNext D σ H:=h
theorem w_var {n:Nat} (e:σ[n]?=some (some v)) (h:Q v H):tVar n σ H Q:=⟨v,e,h⟩
theorem w_c (h:Q v H):tC v σ H Q:=h
theorem w_op {r:R2} (h:ta σ H fun x H1=>tb σ H1 fun y H2=>r x y H2 Q):tOp r ta tb σ H Q:=h
theorem w_un {r:V→Hp→VK→Prop} (h:ta σ H fun x H1=>r x H1 Q):tUn r ta σ H Q:=h
theorem w_test (h:te σ H fun x H'=>∃ k,x=.bl k∧R k H'):tTest te σ H R:=h
theorem w_bl {k:Bool} {R:Bool→Prop} (h:R k):∃ k',V.bl k=.bl k'∧R k':=⟨k,rfl,h⟩
theorem w_tru (h:te σ H fun x H'=>∃ k,TruV K x H' k∧R k H'):tTru K te σ H R:=h
theorem w_trub {b:Bool} {R:Bool→Prop} (h:R b):∃ k,TruV K (.bl b) H k∧R k:=⟨b,rfl,h⟩
theorem w_and (h:c σ H fun b H1=>if b=true then d σ H1 R else R false H1):tAnd c d σ H R:=h
theorem w_or (h:c σ H fun b H1=>if b=true then R true H1 else d σ H1 R):tOr c d σ H R:=h
theorem w_not (h:c σ H fun b H1=>R (!b) H1):tNot c σ H R:=h
theorem w_andV (h:ta σ H fun x H1=>∃ c,x=.bl c∧if c=true then tb σ H1 Q else Q (.bl false) H1):tAndV ta tb σ H Q:=h
theorem w_orV (h:ta σ H fun x H1=>∃ c,x=.bl c∧if c=true then Q (.bl true) H1 else tb σ H1 Q):tOrV ta tb σ H Q:=h
theorem w_notV (h:ta σ H fun x H1=>∃ c,x=.bl c∧Q (.bl (!c)) H1):tNotV ta σ H Q:=h
theorem w_ifE (h:c σ H fun b H1=>if b=true then ta σ H1 Q else tb σ H1 Q):tIf c ta tb σ H Q:=h
theorem w_chain {r r':R2} (h:ta σ H fun x H1=>tb σ H1 fun y H2=>r x y H2 fun z H3=>∃ k,z=.bl k∧if k=true then tc σ H3 fun w H4=>r' y w H4 Q else Q (.bl false) H3):tChain r r' ta tb tc σ H Q:=h
theorem w_cb {r:List V→Hp→VK→Prop} {t:TA} (h:t σ H fun vs H1=>r vs H1 Q):tCB r t σ H Q:=h
theorem w_yes (h:R true H):tYes σ H R:=h
theorem w_nil {R:List V→Hp→Prop} (h:R [] H):tNil σ H R:=h
theorem w_cons {t:TA} {R:List V→Hp→Prop} (h:ta σ H fun x H1=>t σ H1 fun xs H2=>R (x :: xs) H2):tCons ta t σ H R:=h
theorem w_call {sp:Sp} {E:XK} {t:TA} (h:t σ H fun vs H1=>sp vs H1 Q E):tCall sp [] E t σ H Q:=by
  show t σ H fun vs H1=>sp (vs ++ []) H1 Q E
  simpa only [List.append_nil] using h
theorem w_tup {t:TA} (h:t σ H fun xs H1=>xs.length≤sizeLine∧∀ p,H1 p=none→Q (.ref p) (upd H1 p (.tup xs))):tTup t σ H Q:=h
theorem w_lst {t:TA} (h:t σ H fun xs H1=>xs.length≤sizeLine∧∀ p,H1 p=none→Q (.ref p) (upd H1 p (.lst xs))):tLst t σ H Q:=h
theorem w_dnew (h:∀ p,H p=none→Q (.ref p) (upd H p (.dK []))):tDNew σ H Q:=h
theorem w_part {R:Option Int→Hp→Prop} (h:te σ H fun x H1=>∃ i,x=.int i∧R (some i) H1):tPart te σ H R:=h
theorem w_nopart {R:Option Int→Hp→Prop} (h:R none H):tNoPart σ H R:=h
theorem w_int {R:Int→Prop} (h:R i):∃ i',V.int i=.int i'∧R i':=⟨i,rfl,h⟩
theorem w_sl {r:V→Option Int→Option Int→Hp→VK→Prop} {tl th:TO} (h:te σ H fun x H1=>tl σ H1 fun l H2=>th σ H2 fun u H3=>r x l u H3 Q):tSl r te tl th σ H Q:=h
theorem w_sub {to ti:TE} {t:TSet} {R:St→Hp→Prop} (h:to σ H fun o H1=>ti σ H1 fun i H2=>t o i v H2 fun H3=>R σ H3):gSub to ti t v σ H R:=h
theorem w_gnil {R:St→Hp→Prop} (h:R σ H):gNil [] σ H R:=⟨rfl,h⟩
theorem w_gcons {t:TG} {u:TGs} {R:St→Hp→Prop} (h:t v σ H fun σ' H'=>u xs σ' H' R):gCons t u (v :: xs) σ H R:=⟨v,xs,rfl,h⟩
theorem w_gtup {n:Nat} {t:TGs} {R:St→Hp→Prop} (e:SqT K H p xs) (hn:xs.length=n) (h:t xs σ H R):gTup K n t (.ref p) σ H R:=⟨p,xs,rfl,e,hn,h⟩
theorem w_bm {T:String} {r:V→List V→Hp→VK→Prop} {to:TE} {t:TA} (h:to σ H fun x H1=>tyV K T x H1∧t σ H1 fun xs H2=>r x xs H2 Q):tBM K T r to t σ H Q:=h
theorem w_addI (h:Q (.int (i + j)) H):rAddU K (.int i) (.int j) H Q:=.inl ⟨i,j,rfl,rfl,h⟩
theorem w_subI (h:Q (.int (i - j)) H):rSubU (.int i) (.int j) H Q:=⟨i,j,rfl,rfl,h⟩
theorem w_mulI (hc:IntMulOk i j) (h:Q (.int (i * j)) H):rMulU K (.int i) (.int j) H Q:=.inl ⟨i,j,rfl,rfl,hc,h⟩
theorem w_divI (h0:0 < j) (h1:j≤100000000000000000000000000000000000000000000000000000000000000000000000000000000000000000000000000000000000000) (h:Q (.int (i / j)) H):rDivU (.int i) (.int j) H Q :=
  ⟨i,j,rfl,rfl,CDivB.of h0 (Int.lt_of_le_of_lt h1 (by decide +kernel)),h⟩
theorem w_modI (h0:0 < j) (h:Q (.int (i % j)) H):rModU (.int i) (.int j) H Q:=⟨i,j,rfl,rfl,h0,h⟩
theorem w_negI (h:Q (.int (-i)) H):rNegU (.int i) H Q:=⟨i,rfl,h⟩
theorem w_ltI (h:Q (.bl (decide (i < j))) H):rLtU (.int i) (.int j) H Q:=⟨i,j,rfl,rfl,h⟩
theorem w_leI (h:Q (.bl (decide (i≤j))) H):rLeU (.int i) (.int j) H Q:=⟨i,j,rfl,rfl,h⟩
theorem w_gtI (h:Q (.bl (decide (j < i))) H):rGtU (.int i) (.int j) H Q:=⟨i,j,rfl,rfl,h⟩
theorem w_geI (h:Q (.bl (decide (j≤i))) H):rGeU (.int i) (.int j) H Q:=⟨i,j,rfl,rfl,h⟩
theorem decV_int:decide (V.int i=V.int j)=decide (i=j):=by
  by_cases e:i=j
  · subst e; simp
  · rw [decide_eq_false e,decide_eq_false (fun q=>e (V.int.inj q))]
theorem w_eqI (h:Q (.bl (decide (i=j))) H):rEqU K (.int i) (.int j) H Q:=.inl ⟨rfl,by rw [decV_int]; exact h⟩
theorem w_neI (h:Q (.bl (!decide (i=j))) H):rNeU K (.int i) (.int j) H Q:=.inl ⟨rfl,by rw [decV_int]; exact h⟩
theorem w_isN (h:Q (.bl (decide (x=.non))) H):rIsU x .non H Q:=.inl ⟨rfl,h⟩
theorem w_isnN (h:Q (.bl (!decide (x=.non))) H):rIsNotU x .non H Q:=.inl ⟨rfl,h⟩
theorem w_ixL (h:SqL K H p xs) (e:atI xs i=some v) (q:Q v H):rIx K (.ref p) (.int i) H Q:=.inl ⟨p,xs,i,v,rfl,rfl,h,e,q⟩
theorem w_ixT (h:SqT K H p xs) (e:atI xs i=some v) (q:Q v H):rIx K (.ref p) (.int i) H Q:=.inr (.inl ⟨p,xs,i,v,rfl,rfl,h,e,q⟩)
theorem w_lenL (h:SqL K H p xs) (q:Q (.int xs.length) H):rLenU K [.ref p] H Q:=⟨.ref p,xs.length,rfl,.inl ⟨xs,h,rfl⟩,q⟩
theorem w_lenT (h:SqT K H p xs) (q:Q (.int xs.length) H):rLenU K [.ref p] H Q:=⟨.ref p,xs.length,rfl,.inr ⟨xs,h,rfl⟩,q⟩
theorem w_intB {b:Bool} (h:Q (.int (if b then 1 else 0)) H):rTy_int K [.bl b] H Q:=.inr ⟨b,rfl,h⟩
theorem w_tupL (h:SqL K H p xs) (q:∀ l,H l=none→Q (.ref l) (upd H l (.tup xs))):rTy_tuple K [.ref p] H Q:=⟨p,xs,rfl,.inl ⟨h,q⟩⟩
theorem w_sumA (h:SqA K H p (ns.map V.int)) (q:Q (.int ns.sum) H):rSumU K [.ref p] H Q:=⟨p,ns,rfl,h,q⟩
theorem w_append {R:VK} (h:H p=some (.lst xs)) (hz:xs.length < sizeLine) (q:R .non (upd H p (.lst (xs ++ [v])))):rAppend (.ref p) [v] H R:=⟨p,xs,v,rfl,rfl,h,hz,q⟩
theorem w_setL {k:Nat} {R:Hp→Prop} (h:H p=some (.lst xs)) (e:ixN xs.length i=some k) (q:R (upd H p (.lst (xs.set k v)))):rSetL (.ref p) (.int i) v H R:=⟨p,xs,i,k,rfl,rfl,h,e,q⟩
theorem tyV_lst (h:H p=some (.lst xs)):tyV K "list" (.ref p) H:=.inl ⟨rfl,_,SqL.of h⟩
theorem iteD {c A B:Prop} [Decidable c] (h1:c→A) (h2:¬ c→B):if decide c=true then A else B:=by
  by_cases h:c
  · rw [if_pos (decide_eq_true h)]; exact h1 h
  · rw [if_neg (by rw [decide_eq_false h]; decide)]; exact h2 h
theorem iteN {c A B:Prop} [Decidable c] (h1:¬ c→A) (h2:c→B):if (!decide c)=true then A else B:=by
  by_cases h:c
  · rw [if_neg (by rw [decide_eq_true h]; decide)]; exact h2 h
  · rw [if_pos (by rw [decide_eq_false h]; rfl)]; exact h1 h
theorem iteB {b:Bool} {A B:Prop} (h1:b=true→A) (h2:b=false→B):if b=true then A else B:=by
  cases b
  · exact iteF (h2 rfl)
  · exact iteT (h1 rfl)
theorem iteDT {c A B:Prop} [Decidable c] (h:c) (h1:A):if decide c=true then A else B:=iteD (fun _=>h1) fun z=>absurd h z
theorem iteDF {c A B:Prop} [Decidable c] (h:¬ c) (h1:B):if decide c=true then A else B:=iteD (fun z=>absurd z h) fun _=>h1
theorem iteNT {c A B:Prop} [Decidable c] (h:¬ c) (h1:A):if (!decide c)=true then A else B:=iteN (fun _=>h1) fun z=>absurd z h
theorem iteNF {c A B:Prop} [Decidable c] (h:c) (h1:B):if (!decide c)=true then A else B:=iteN (fun z=>absurd h z) fun _=>h1
theorem atI_at {α:Type} {xs:List α} {i:Int} {v:α} (h0:0≤i) (h:xs[i.toNat]?=some v):atI xs i=some v:=by
  have e:((i.toNat:Nat):Int)=i:=Int.toNat_of_nonneg h0
  rw [← e]; exact atI_nat h
theorem get_ints {ns:List Int} {k:Nat} (h:k < ns.length):(ns.map V.int)[k]?=some (.int (ns.getD k 0)):=by
  rw [List.getElem?_map,List.getD,List.getElem?_eq_getElem h]; rfl
theorem atI_ints {ns:List Int} (h0:0≤i) (h1:i < ns.length):atI (ns.map V.int) i=some (.int (ns.getD i.toNat 0)):=atI_at h0 (get_ints (by omega))
theorem ixN_at {n:Nat} (h0:0≤i) (h1:i < n):ixN n i=some i.toNat:=by unfold ixN; rw [if_pos h0,if_pos h1]
theorem small9 {n:Nat} (h:n≤1000):n≤sizeLine:=Nat.le_of_lt (small1000 h)
theorem mulok_l (h1:-18446744073709551616 < i) (h2:i < 18446744073709551616):IntMulOk i j:=IntMulOk.of_left (intBits_le_64 h1 h2)
theorem mulok_r (h1:-18446744073709551616 < j) (h2:j < 18446744073709551616):IntMulOk i j:=IntMulOk.of_right (intBits_le_64 h1 h2)
theorem bits_1000 (h1:-1000000000000000000000000000000000000000000000000000000000000000000000000000000000000000000000000000000000000000000000000000000000000000000000000000000000000000000000000000000000000 < i)
    (h2:i < 1000000000000000000000000000000000000000000000000000000000000000000000000000000000000000000000000000000000000000000000000000000000000000000000000000000000000000000000000000000000000):Builtin.Int.intBits i≤1000:=by
  have e:(1000000000000000000000000000000000000000000000000000000000000000000000000000000000000000000000000000000000000000000000000000000000000000000000000000000000000000000000000000000000000:Int)≤2 ^ 1000:=by decide +kernel
  exact bits_of (by omega) (by omega)
theorem mulok_big (h1:-1000000000000000000000000000000000000000000000000000000000000000000000000000000000000000000000000000000000000000000000000000000000000000000000000000000000000000000000000000000000000 < i)
    (h2:i < 1000000000000000000000000000000000000000000000000000000000000000000000000000000000000000000000000000000000000000000000000000000000000000000000000000000000000000000000000000000000000)
    (h3:-1000000000000000000000000000000000000000000000000000000000000000000000000000000000000000000000000000000000000000000000000000000000000000000000000000000000000000000000000000000000000 < j)
    (h4:j < 1000000000000000000000000000000000000000000000000000000000000000000000000000000000000000000000000000000000000000000000000000000000000000000000000000000000000000000000000000000000000):IntMulOk i j :=
  IntMulOk.of_le (bits_1000 h1 h2) (bits_1000 h3 h4) (by decide)
theorem Same.laid {o:HO} (h:H p=none):Same H (upd H p o):=fun b u e=>by
  rw [upd_ne (ne_of_none e h)]; exact e
theorem Same.laidT {H0:Hp} {o:HO} (s:Same H0 H) (h:H p=none):Same H0 (upd H p o):=s.trans (Same.laid h)
theorem Same.put {H0:Hp} {o:HO} (s:Same H0 H) (h:H0 p=none):Same H0 (upd H p o):=fun b u e=>by
  rw [upd_ne (ne_of_none e h)]; exact s b u e
theorem w_for {wi:TI} {tb:TS} (h:wi σ H fun J H1=>∃ W:Nat→Nat→St→Hp→Prop,(∃ m,W 0 m σ H1)∧∀ i m σ H,W i m σ H →
    (J.stop i H∧D.nx σ H)∨(J.go i H∧∃ N:St→Hp→Prop,(∀ σ' H',N σ' H'→∃ m',m' < m∧W (i + 1) m' σ' H')∧∀ x H',J.yld i H x H'→g x σ H' fun σ2 H2=>tb { D with nx:=N,ct:=N,bk:=D.nx } σ2 H2)):tFor wi g tb D σ H:=h
theorem w_rng1 {ta:TA} {R:It→Hp→Prop} (h:ta σ H fun vs H1=>∃ j:Int,vs=[.int j]∧-(2 ^ 62)≤j∧j < 2 ^ 62∧R (Itr 0 j.toNat) H1):iRng1 ta σ H R:=h
theorem rng_ok {n:Nat} (h:n≤1000):-(2 ^ 62)≤(n:Int)∧(n:Int) < 2 ^ 62:=by omega
theorem w_seq0 {tl:TE} {R:It→Hp→Prop} (h:tl σ H fun x H1=>∃ a,x=.ref a∧(((∃ xs,SqL K H1 a xs)∧R (Itl K a) H1)∨((∃ xs,SqT K H1 a xs)∧R (Itt K a) H1))):iSeq K tl σ H R:=h
theorem w_comp {l:List (Option Nat)} {wi:TI} (h:wi σ H fun J H1=>∀ D,H1 D=none→∃ W:CompW,(∃ m,W 0 m [] (iniOf l σ) (upd H1 D (.lst [])))∧compStep J g c te D W fun H'=>Q (.ref D) H'):tComp l wi g c te σ H Q:=h
end
theorem for_range0 {n:Nat} {g:TG} {tb:TS} {D:Ends} {σ:St} {H:Hp} (Pv:Nat→St→Hp→Prop) (h0:Pv 0 σ H)
    (hs:∀ i σ H,i < n→Pv i σ H→g (.int (i:Nat)) σ H fun σ2 H2=>tb { D with nx:=Pv (i + 1),ct:=Pv (i + 1),bk:=D.nx } σ2 H2) (hd:∀ σ H,Pv n σ H→D.nx σ H) :
    ∃ W:Nat→Nat→St→Hp→Prop,(∃ m,W 0 m σ H)∧∀ i m σ H,W i m σ H →
      ((Itr 0 n).stop i H∧D.nx σ H)∨((Itr 0 n).go i H∧∃ N:St→Hp→Prop,(∀ σ' H',N σ' H'→∃ m',m' < m∧W (i + 1) m' σ' H')∧∀ x H',(Itr 0 n).yld i H x H'→g x σ H' fun σ2 H2=>tb { D with nx:=N,ct:=N,bk:=D.nx } σ2 H2) :=
  for_range Pv h0 (fun i σ H hi p=>by rw [Int.zero_add]; exact hs i σ H hi p) hd
theorem ixi {ns:List Int} {i:Nat} (h:i < ns.length):atI (ns.map V.int) ((i:Nat):Int)=some (.int (ns.getD i 0)):=atI_nat (get_ints h)
theorem getD_in {ns:List Int} {i:Nat} (h:i < ns.length):ns.getD i 0∈ns:=getD_mem h
theorem sum_nn:∀ {ns:List Int},(∀ x∈ns,0≤x)→0≤ns.sum
  | [],_=>by simp
  | n :: ns,h=>by
    have h1:=h n (by simp)
    have h2:=sum_nn (ns:=ns) fun x hx=>h x (by simp [hx])
    rw [List.sum_cons]; omega
theorem sum_pos_of:∀ {ns:List Int} {x:Int},(∀ y∈ns,0≤y)→x∈ns→0 < x→0 < ns.sum
  | [],_,_,hx,_=>by simp at hx
  | n :: ns,x,h,hx,h0=>by
    rw [List.sum_cons]
    have h1:=h n (by simp)
    have h2:=sum_nn (ns:=ns) fun x hx=>h x (by simp [hx])
    rcases List.mem_cons.mp hx with e | e
    · subst e; omega
    · have:=sum_pos_of (ns:=ns) (fun x hx=>h x (by simp [hx])) e h0
      omega
theorem pos_of_sum:∀ {ns:List Int},(∀ y∈ns,0≤y)→ns.sum≠0→∃ x∈ns,0 < x
  | [],_,h=>by simp at h
  | n :: ns,h,hs=>by
    by_cases hn:0 < n
    · exact ⟨n,by simp,hn⟩
    · have h1:=h n (by simp)
      have e:n=0:=by omega
      subst e
      rw [List.sum_cons,Int.zero_add] at hs
      obtain ⟨x,hx,p⟩:=pos_of_sum (ns:=ns) (fun y hy=>h y (by simp [hy])) hs
      exact ⟨x,by simp [hx],p⟩
theorem map_set_int {ns:List Int} {k:Nat} {x:Int}:(ns.map V.int).set k (.int x)=(ns.set k x).map V.int:=by rw [List.map_set]
section
variable {l:List (Option Nat)} {te:TE} {σ σr:St} {H1:Hp} {Q:Hp→Prop}
theorem comp_rangeP {n:Nat} (D:Addr) (P:Nat→V→Hp→Prop) (hP:∀ i v H H',Tu H H'→P i v H→P i v H') (hn:n≤1000) (hD:H1 D=none) (hini:∃ r0,iniOf l σ=r0 :: σr)
    (hs:∀ i H (R:VK),i < n→Same H1 H→(∀ v H4,Same H H4→P i v H4→R v H4)→te (some (.int (i:Nat)) :: σr) H R)
    (hd:∀ ys H,ys.length=n→(∀ i v,ys[i]?=some v→P i v H)→Same H1 H→H D=some (.lst ys)→Q H) :
    ∃ W:CompW,(∃ m,W 0 m [] (iniOf l σ) (upd H1 D (.lst [])))∧compStep (Itr 0 n) (gName 0) tYes te D W Q:=by
  obtain ⟨r0,hini⟩:=hini
  refine comp_range D (fun i ys σ2 H=>ys.length=i∧(∀ j v,ys[j]?=some v→P j v H)∧Same H1 H∧∃ r0,σ2=r0 :: σr) hn (fun i ys σ H h=>Nat.le_of_eq h.1) ⟨rfl,fun j v e=>by simp at e,Same.laid hD,r0,hini⟩ ?_ ?_
  · rintro i ys σ2 H hi ⟨hl,hp,hs1,r1,rfl⟩ hH
    refine w_name (w_yes (iteT ?_))
    show te (some (.int (0 + (i:Nat))) :: σr) H _
    rw [Int.zero_add]
    refine hs i H _ hi hs1 fun v H4 h4 hv=>?_
    have hD4:H4 D=some (.lst ys):=h4 _ _ hH
    refine ⟨hD4,by simp [hl],fun j u e=>?_,(hs1.trans h4).put hD,some (.int (i:Nat)),by simp⟩
    by_cases hj:j < ys.length
    · rw [List.getElem?_append_left hj] at e
      exact hP _ _ _ _ (Tu.put hD4) (hP _ _ _ _ h4.tu (hp j u e))
    · rw [List.getElem?_append_right (by omega)] at e
      have hj2:j - ys.length=0:=by
        by_cases z:j - ys.length=0
        · exact z
        · rw [List.getElem?_eq_none (by simp; omega)] at e; cases e
      rw [hj2] at e
      have e':v=u:=by simpa using e
      have ej:j=i:=by omega
      rw [← e',ej]
      exact hP _ _ _ _ (Tu.put hD4) hv
  · rintro ys σ2 H ⟨hl,hp,hs1,_⟩ hH
    exact hd ys H hl hp hs1 hH
theorem comp_seqP {K:PySem.W.Frag} {J:It} {a:Addr} {xs:List V} (hJ:(J=Itt K a∧H1 a=some (.tup xs))∨(J=Itl K a∧H1 a=some (.lst xs))) (D:Addr) (P:Nat→V→Hp→Prop) (hP:∀ i v H H',Tu H H'→P i v H→P i v H') (hn:xs.length≤1000) (hD:H1 D=none) (hini:∃ r0,iniOf l σ=r0 :: σr)
    (hs:∀ i x H (R:VK),xs[i]?=some x→Same H1 H→(∀ v H4,Same H H4→P i v H4→R v H4)→te (some x :: σr) H R)
    (hd:∀ ys H,ys.length=xs.length→(∀ i v,ys[i]?=some v→P i v H)→Same H1 H→H D=some (.lst ys)→Q H) :
    ∃ W:CompW,(∃ m,W 0 m [] (iniOf l σ) (upd H1 D (.lst [])))∧compStep J (gName 0) tYes te D W Q:=by
  obtain ⟨r0,hini⟩:=hini
  refine comp_seq D xs (fun i ys σ2 H=>ys.length=i∧(∀ j v,ys[j]?=some v→P j v H)∧Same H1 H∧∃ r0,σ2=r0 :: σr) hn (fun i ys σ H h=>Nat.le_of_eq h.1) ?_ ⟨rfl,fun j v e=>by simp at e,Same.laid hD,r0,hini⟩ ?_ ?_
  · rintro i ys σ2 H ⟨_,_,hs1,_⟩ _
    rcases hJ with ⟨rfl,e⟩ | ⟨rfl,e⟩
    · exact itt_of (SqT.of (hs1 _ _ e)) i
    · exact itl_of (SqL.of (hs1 _ _ e)) i
  · rintro i x ys σ2 H hi ⟨hl,hp,hs1,r1,rfl⟩ hH
    refine w_name (w_yes (iteT ?_))
    refine hs i x H _ hi hs1 fun v H4 h4 hv=>?_
    have hD4:H4 D=some (.lst ys):=h4 _ _ hH
    refine ⟨hD4,by simp [hl],fun j u e=>?_,(hs1.trans h4).put hD,some x,rfl⟩
    by_cases hj:j < ys.length
    · rw [List.getElem?_append_left hj] at e
      exact hP _ _ _ _ (Tu.put hD4) (hP _ _ _ _ h4.tu (hp j u e))
    · rw [List.getElem?_append_right (by omega)] at e
      have hj2:j - ys.length=0:=by
        by_cases z:j - ys.length=0
        · exact z
        · rw [List.getElem?_eq_none (by simp; omega)] at e; cases e
      rw [hj2] at e
      have e':v=u:=by simpa using e
      have ej:j=i:=by omega
      rw [← e',ej]
      exact hP _ _ _ _ (Tu.put hD4) hv
  · rintro ys σ2 H ⟨hl,hp,hs1,_⟩ hH
    exact hd ys H hl hp hs1 hH
theorem all_map {α:Type} {f:α→V}:∀ {ys:List V} {P:Nat→α→Prop},(∀ (i:Nat) v,ys[i]?=some v→∃ x,v=f x∧P i x)→∃ rs:List α,ys=rs.map f∧∀ (i:Nat) x,rs[i]?=some x→∃ y,f y=f x∧P i y
  | [],P,_=>⟨[],rfl,fun i x e=>by simp at e⟩
  | y :: ys,P,h=>by
    obtain ⟨x,hx,px⟩:=h 0 y rfl
    obtain ⟨rs,e,hr⟩:=all_map (ys:=ys) (P:=fun i=>P (i + 1)) (fun i v hv=>h (i + 1) v (by simpa using hv))
    refine ⟨x :: rs,by rw [e,hx]; rfl,fun i z hz=>?_⟩
    cases i with
    | zero =>
      have:x=z:=by simpa using hz
      subst this
      exact ⟨x,rfl,px⟩
    | succ i=>exact hr i z (by simpa using hz)
theorem all_ints {ys:List V} {P:Nat→Int→Prop} (h:∀ (i:Nat) v,ys[i]?=some v→∃ x,v=.int x∧P i x):∃ rs:List Int,ys=rs.map V.int∧∀ (i:Nat) x,rs[i]?=some x→P i x:=by
  obtain ⟨rs,e,hr⟩:=all_map h
  exact ⟨rs,e,fun i x hx=>by obtain ⟨y,ey,p⟩:=hr i x hx; cases ey; exact p⟩
end
end L2
namespace L2
open PySem PySem.W PySem.Calls PyProof.Rows
theorem attach_bits {l:OpenLaw} {n:Nat} {q:Program} {loose:List Str} {XP:(Str→Option Value)→Heap→Prop} {YP:World→Heap→Prop} {d:DefRec}
    (hn:l.most=some n) (hdf:d.params.defaults=[])
    (call:∀ (w:World) (s₀ s₁:Shared) (mg mb:Str→Option Value) (fa:Addr) (a:Addr) (vs:List Value) (ns:List Int),
      Ground q loose [] XP w s₀ mg mb s₁.heap→YP w s₁.heap→mg d.name=some (.ref fa) →
      s₁.heap.get? a=some { cls:=.type "list",data:=.seq vs.toArray }→IntsAre vs ns→ns.length≤n→(∀ i∈ns,Builtin.Int.intBits i≤1048576)→s₁.gens=#[] →
      codeAny (model l.prog w) callerA (.call (.ref fa) ⟨[.ref a],[]⟩) (fun r s'=>r=.ok (.ret (.bool true))∧OldK s₁.heap s'.heap∧s'.os=s₁.os∧AllBare s'.gens) s₁) :
    WalkO q loose XP YP l.row.toRowW d [] (fun f vs=>PySem.call f vs):=by
  intro w s₀ s₁ mg mb G Y fa o pm cd doc dV kV ho hd hcd hD hmg hg args vals as hpre hlay hrd hwl hlo
  obtain ⟨a,vs,ns,rfl,rfl,hobj,hints,hlen⟩:=Att.script_of hn hpre hwl
  refine enter_call (codeAny_mono (call w s₀ s₁ mg mb fa a vs ns G Y hmg hobj hints hlen (bits_script hlay) hg) fun r s' hq=>?_)
  obtain ⟨rfl,h2,h3,h4⟩:=hq
  exact ⟨.inl ⟨.bool true,.bool true,[],rfl,fun _=>rfl,.bool true,Att.post_true l _,fun _=>⟨List.Pairwise.nil,fun _ hm=>(nomatch hm)⟩⟩,h2,h3,h4⟩
def sb_top (K:PySem.W.Frag) (a:V) (H:Hp) (Q:VK) (E:XK):Prop:=∃ (l:Addr) (ns:List Int),a=.ref l∧SqL K H l (ns.map V.int)∧(∀ n∈ns,Builtin.Int.intBits n≤1048576)∧ns.length≤63∧∀ H',Q (.bl true) H'
theorem walk_fn {l:OpenLaw} {q:Program} {loose:List Str} {XP:(Str→Option Value)→Heap→Prop} {YP:World→Heap→Prop} {d:DefRec} {K:Params→Frag} {x:Str} (k:Nat)
    (hn:l.most=some 63) (hdf:d.params.defaults=[]) (hk:k≤40)
    (hY:∀ (w:World) (h:Heap),YP w h→(K w.params).In h)
    (F:∀ (w:World) (mg:Str→Option Value) (h:Heap),(K w.params).In h→h.Ns mainGlobals mg→∃ f fd,mg d.name=some (.ref f)∧(∀ (s:Shared) (u:Value),BindsTo s fd ⟨[u],[]⟩ [(x,u)]) ∧
      ∀ base:Heap,(K w.params).In base→base.Ns mainGlobals mg→FnOk l.prog w (K w.params) mg base CX0 k f fd [x] (sp1 (sb_top (K w.params)))) :
    WalkO q loose XP YP l.row.toRowW d [] (fun f vs=>PySem.call f vs):=by
  refine attach_bits hn hdf fun w s₀ s₁ mg mb fa a vs ns G Y hmg hobj hints hlen hbits hg=>?_
  have KX:=hY w _ Y
  obtain ⟨f,fd,hf,hb,hF⟩:=F w mg _ KX G.T.g
  rw [hmg] at hf
  cases hf
  have hr:Room 40 callerA:=⟨rfl,by decide,by decide⟩
  exact law_call KX G.T.g G.T.b G.T.builtins G.T.nolimit hg hobj hints (Nat.le_trans hlen (by decide)) (hr.mono hk) hF hb
    (fun H hO hS=>⟨_,rfl,a,ns,rfl,hS,hbits,hlen,fun _=>rfl⟩) fun H e s' h=>h
end L2
namespace L2
open PySem PySem.Spec PyProof.Rows
theorem ObjOk.ob {P:Program} {w:World} {H:Hp} {h:Heap} {a:Addr} {o:HO} (x:ObjOk P w H h a o):∃ ob,h.get? a=some ob:=by
  cases o with
  | lst xs=>obtain ⟨_,_,_,_,e⟩:=x; exact ⟨_,e⟩
  | tup xs=>obtain ⟨_,_,_,ob,e,_⟩:=x; exact ⟨ob,e⟩
  | dK kvs=>obtain ⟨_,_,_,_,o,_,_,e,_⟩:=x; exact ⟨o,e⟩
  | dT kvs=>obtain ⟨_,_,_,_,o,_,_,e,_⟩:=x; exact ⟨o,e⟩
  | set S n=>obtain ⟨o,_,_,_,e,_⟩:=x; exact ⟨o,e⟩
  | ins C dx fs=>obtain ⟨_,_,_,e,_⟩:=x; exact ⟨_,e⟩
  | own y=>exact x
  | xd fs=>obtain ⟨_,⟨_,_,_,e,_⟩,_⟩:=x; exact ⟨_,e⟩
  | rng lo hi=>obtain ⟨_,_,_,e⟩:=x; exact ⟨_,e⟩
  | frz ob u=>exact ⟨_,x.1⟩
  | tbl ps=>exact ⟨_,x⟩
  | met f y=>exact ⟨_,x⟩
  | ext φ=>exact x.2.1
structure Flown (P:Program) (w:World) (base:Heap) (outer:List Env) (H:Hp) (s s':Shared) (e:Addr) (cls:Value) (H':Hp) (B:Heap) (a0:Value):Prop where
  os:s'.os=s.os
  bare:AllBare s'.gens
  fly:Heap.FlyingW B outer e cls a0 s'.heap
  hok:HOk P w H' B
  bst:base.StaysIn B
  noe:H' e=none
  keep:∀ b o,s.heap.get? b=some o→H b=none→b ∉ frs outer→B.get? b=some o
  slot:∀ b o,s.heap.get? b=some o→H b=none→b∈frs outer→∃ sl,s'.heap.get? b=some { o with slots:=sl }
  free:∀ b o,s.heap.get? b=some o→H b=none→H' b=none
  there:∀ b o,s.heap.get? b=some o→b ∉ frs outer→∃ o',B.get? b=some o'
  tups:∀ b xs,H b=some (.tup xs)→H' b=some (.tup xs)
  frzs:∀ b o u,H b=some (.frz o u)→H' b=some (.frz o u)
  tbls:∀ b ps,H b=some (.tbl ps)→∃ more,H' b=some (.tbl (ps ++ more))
def CXr (P:Program) (w:World) (base:Heap):CXT:=fun outer H s E x s'=>∃ e cls H' B a0,x=.ref e∧Flown P w base outer H s s' e cls H' B a0∧E cls none H'
section
variable {P:Program} {w:World} {base:Heap} {outer:List Env} {H H':Hp} {s s':Shared} {e:Addr} {cls:Value} {B:Heap} {a0:Value}
end
section
variable {X:Cx} {pins:List (Addr×Obj)} {σ:St} {H:Hp} {s:Shared}
theorem Inv.hide (I:Inv X pins σ H s):HOk X.prog X.w H (PySem.W.hideAll s.heap (frs X.stack)):=fun a o q =>
  (I.hok a o q).stay (fun b u hb r=>PySem.W.hideAll_get _ r fun hm=>by
    have n:=I.stkFree b hm
    rcases hb with z | z
    · rw [z,q] at n; cases n
    · rw [z] at n; cases n) (fun _ z=>z) fun _ _ z=>z
end
section
variable {P:Program} {w:World} {K:PySem.W.Frag} {mg:Str→Option Value} {base:Heap} {N:List Str} {qual:Str} {scope:Scope} {f:Addr} {cd:Value} {A:Around} {outer:List Env} {s:Shared} {H:Hp} {E:XK}
abbrev cxR (P:Program) (w:World) (K:PySem.W.Frag) (mg:Str→Option Value) (base:Heap) (N:List Str) (qual:Str) (scope:Scope) (f:Addr) (cd:Value) (A:Around) (outer:List Env) (s:Shared) (H:Hp) (E:XK):Cx :=
  cxOf (CXr P w base) P w K mg base N qual scope f cd A outer s H E
theorem frs_in {pins:List (Addr×Obj)} {σ:St} {H1:Hp} {s1:Shared} (I:Inv (cxR P w K mg base N qual scope f cd A outer s H E) pins σ H1 s1) {b:Addr} (hb:b < s.heap.objs.size) (n:b ∉ frs outer) :
    b ∉ frs (cxR P w K mg base N qual scope f cd A outer s H E).stack:=fun z=>by
  rcases List.mem_cons.mp (I.stkSub b z) with q | q
  · have q':b=s.heap.objs.size:=q
    exact absurd hb (by rw [q']; exact Nat.lt_irrefl _)
  · exact n q
theorem xe_made {pins:List (Addr×Obj)} {σ:St} {H1:Hp} {s1:Shared} {e:Addr} {cls:Value} {args:List Value} {h':Heap} (I:Inv (cxR P w K mg base N qual scope f cd A outer s H E) pins σ H1 s1)
    (hx:Heap.MadeExcOf s1.heap h' e cls args) (hE:E cls none H1):(cxR P w K mg base N qual scope f cd A outer s H E).xe (.ref e) { s1 with heap:=h' }:=by
  show wpAny (model P w) (A.deeper (envOfC qual scope s.heap.objs.size f cd)) (leaving (envOfC qual scope s.heap.objs.size f cd) (.ref e)) _ _ _
  have fun1:=I.stack
  refine wpAny_leaves_madeW (base:=PySem.W.hideAll s1.heap (frs (cxR P w K mg base N qual scope f cd A outer s H E).stack)) (h:=s1.heap) I.ok.frames rfl (fun b o q=>PySem.W.of_hideAll _ q)
    (PySem.W.funFrames_hide fun1 fun env he b hb=>List.mem_filterMap.mpr ⟨env,he,hb⟩) hx fun h2 t fl _ _ up=>?_
  have inB:∀ b o,s1.heap.get? b=some o→b ∉ frs (cxR P w K mg base N qual scope f cd A outer s H E).stack→(PySem.W.hideAll s1.heap (frs (cxR P w K mg base N qual scope f cd A outer s H E).stack)).get? b=some o:=fun b o q n=>PySem.W.hideAll_get _ q n
  refine ⟨e,cls,H1,_,_,rfl,⟨I.os,I.bare,fl,I.hide,fun b o q=>inB b o (I.bk b o q) fun hm=>?_,?_,fun b o q n hb=>?_,fun b o q n hb=>?_,fun b o q n=>I.base.free b o q n (by intro z; cases z),fun b o q hb=>?_,I.base.tups,I.base.frzs,I.base.tbls⟩,hE⟩
  · have z:base.get? b=none:=(fun1.mem hm).1
    rw [q] at z; cases z
  · cases q:H1 e with
    | none=>rfl
    | some u =>
      obtain ⟨ob,z⟩:=(I.hok e u q).ob
      rw [hx.new] at z; cases z
  · exact inB b o (I.base.keep b o q n hb (by intro z; cases z)) (frs_in I (Heap.lt_size q) hb)
  · obtain ⟨sl,r⟩:=I.base.slot b o q n hb (by intro z; cases z)
    obtain ⟨_,o2,q2,nf⟩:=I.ok.funs.mem hb
    have q3:s.heap.get? b=some o2:=q2
    rw [q] at q3
    cases q3
    obtain ⟨sl2,r2⟩:=up b _ (hx.keeps _ _ r) fun vs=>nf vs
    exact ⟨sl2,r2⟩
  · obtain ⟨o',r⟩:=I.base.there b o q (by intro z; cases z)
    exact ⟨o',inB b o' r (frs_in I (Heap.lt_size q) hb)⟩
theorem passR:Passes (CXr P w base) (cxR P w K mg base N qual scope f cd A outer s H E) E:=by
  intro pins σ H1 s1 x s' I h
  obtain ⟨e,cls,H2,B,a0,rfl,F,hE⟩:=h
  show wpAny (model P w) (A.deeper (envOfC qual scope s.heap.objs.size f cd)) (leaving (envOfC qual scope s.heap.objs.size f cd) (.ref e)) _ _ _
  refine wpAny_leaves_onW I.ok.frames rfl F.fly fun h2 fl up=>⟨e,cls,H2,B,a0,rfl,⟨F.os.trans I.os,F.bare,fl,F.hok,F.bst,F.noe,fun b o q n hb=>?_,fun b o q n hb=>?_,fun b o q n=>?_,fun b o q hb=>?_,fun b xs q=>F.tups b xs (I.base.tups b xs q),fun b o u q=>F.frzs b o u (I.base.frzs b o u q),fun b ps q=>?_⟩,hE⟩
  · exact F.keep b o (I.base.keep b o q n hb (by intro z; cases z)) (I.base.free b o q n (by intro z; cases z)) (frs_in I (Heap.lt_size q) hb)
  · obtain ⟨sl,r⟩:=I.base.slot b o q n hb (by intro z; cases z)
    have hb2:b∈frs (cxR P w K mg base N qual scope f cd A outer s H E).stack:=by
      show b∈(envOfC qual scope s.heap.objs.size f cd :: outer).filterMap (·.frame)
      rw [List.filterMap_cons]
      exact List.mem_cons_of_mem _ hb
    obtain ⟨sl2,r2⟩:=F.slot b _ r (I.base.free b o q n (by intro z; cases z)) hb2
    obtain ⟨_,o2,q2,nf⟩:=I.ok.funs.mem hb
    have q3:s.heap.get? b=some o2:=q2
    rw [q] at q3
    cases q3
    obtain ⟨sl3,r3⟩:=up b _ r2 fun vs=>nf vs
    exact ⟨sl3,r3⟩
  · obtain ⟨o1,r⟩:=I.base.there b o q (by intro z; cases z)
    exact F.free b o1 r (I.base.free b o q n (by intro z; cases z))
  · obtain ⟨o1,r⟩:=I.base.there b o q (by intro z; cases z)
    exact F.there b o1 r (frs_in I (Heap.lt_size q) hb)
  · obtain ⟨m1,e1⟩:=I.base.tbls b ps q
    obtain ⟨m2,e2⟩:=F.tbls b _ e1
    exact ⟨m1 ++ m2,by rw [e2,Array.append_assoc]⟩
theorem Fun.okR {x:Str} {st:Stmt} {fd:FuncData} {ps:List Str} {k:Nat} {sp:Sp} {f:Addr} (F:Fun K x qual st f fd) (S:FnScope N ps (defScope st)) (len:∀ vs H Q E,sp vs H Q E→vs.length=ps.length)
    (hbody:∀ (cdv:Value) (A:Around) (outer:List Env) (s:Shared) (H:Hp) (vs:List V) (Q:VK) (E:XK),Room k (A.deeper (envOfC qual (defScope st) s.heap.objs.size f cdv))→sp vs H Q E →
      ∃ t,PSs (cxR P w K mg base N qual (defScope st) f cdv A outer s H E) (defBody st) t∧t { nx:=fun _ H'=>Q .non H',rt:=Q } (start N vs) H):FnOk P w K mg base (CXr P w base) (k + 1) f fd ps sp:=by
  obtain ⟨oc,od,kV,doc,pm,an,cdv,ct,osl,rfl,lk,hcd⟩:=F.ex
  exact fn_of lk hcd S len fun A outer s H vs Q E hr hsp=>hbody cdv A outer s H vs Q E hr hsp
end
def bmV:List Value:=[.type "ValueError",.type "Exception",.type "BaseException",.type "object"]
structure ExC (K:PySem.W.Frag) (mg:Str→Option Value) (x:Str) (C:Addr):Prop where
  bound:mg x=some (.ref C)
  q:PySem.W.excIn K C bmV "ValueError.__new__"=true
theorem exc_obj {K:PySem.W.Frag} {h:Heap} {C:Addr} {bmB:List Value} {newId:String} (X:K.In h) (q:PySem.W.excIn K C bmB newId=true) :
    ∃ bm N nm q bs hdct sn sub ab col dd k0 k1 k2 k3 k5 mN,h.get? C=some (excClassObj nm q C N bs bm hdct sn sub ab col dd k0 k1 k2 k3 k5 newId)∧h.Ns N mN∧mN "__init__"=none∧OwnTail h bmB bm ∧
      ∃ cd:ClassData,PySem.W.clsIn K C=some cd∧cd.mro=.ref C :: bm:=by
  unfold PySem.W.excIn at q
  split at q
  · rename_i dd cd sl ho
    split at q
    · rename_i C' bm k0 k1 k2 k3 n k5 hm hs
      simp only [Bool.and_eq_true,beq_iff_eq,Bool.not_eq_true'] at q
      obtain ⟨⟨⟨⟨⟨rfl,rfl⟩,hdel⟩,ht⟩,hok⟩,hni⟩:=q
      have hcl:PySem.W.clsIn K C'=some cd:=by unfold PySem.W.clsIn; rw [ho]
      have hm0:=hm
      obtain ⟨nm,bs,mro,ns,qn,hd,sn,sub,ab,col,del⟩:=cd
      dsimp only at hm hdel hok hni
      subst hm hdel
      have hsl:sl=#[k0,k1,k2,k3,some (.builtin n),k5]:=by
        obtain ⟨l⟩:=sl
        simp only at hs
        rw [hs]
      subst hsl
      exact ⟨bm,ns,nm,qn,bs,hd,sn,sub,ab,col,dd,k0,k1,k2,k3,k5,_,X _ _ ho,.of_isNs (PySem.W.isNs_of_in X hok),PySem.W.nsMap_none_of_in X hok hni,PySem.W.tail_of_in X ht,_,hcl,hm0⟩
    · cases q
  · cases q
end L2
namespace L2
open PySem PySem.Spec PyProof.Rows
def tRaise (E:XK) (C:Value) (t:TA):TS:=fun _ σ H=>t σ H fun vs H1=>vs.length≤sizeLine∧E C none H1
def Made (X:Cx) (E:XK) (C:Value):Prop:=∀ (pins:List (Addr×Obj)) (σ:St) (H1:Hp) (s1:Shared) (e:Addr) (args:List Value) (h':Heap),Inv X pins σ H1 s1→Heap.MadeExcOf s1.heap h' e C args→E C none H1→X.xe (.ref e) { s1 with heap:=h' }
theorem madeR {P:Program} {w:World} {K:PySem.W.Frag} {mg:Str→Option Value} {base:Heap} {N:List Str} {qual:Str} {scope:Scope} {f:Addr} {cd:Value} {A:Around} {outer:List Env} {s:Shared} {H:Hp} {E:XK} {C:Value} :
    Made (cxR P w K mg base N qual scope f cd A outer s H E) E C:=fun _ _ _ _ _ _ _ I hx hE=>xe_made I hx hE
section
variable {X:Cx} {x:Str} {C:Addr} {E:XK} {e:Expr} {es:List Expr} {t:TA} {np cpos pos:Pos}
theorem ps_raise (hX:Made X E (.ref C)) (hc:X.calm=true) (T:ExC X.K X.mg x C) (hg:Gl X x) (ha:PA X (e :: es) t) (hd:(x == ("__debug__":Str))=false:=by decide)
    (he:starEach (e :: es) X.env=(false,eval e X.env) :: starEach es X.env:=by rfl) (hpl:(backTo cpos (starEach es X.env)).any (·.1)=false:=by rfl) :
    PS X (.Raise (some (.Call (.Name x np) (e :: es) [] cpos)) none pos) (tRaise E (.ref C) t):=by
  intro pins s σ H D I h
  obtain ⟨tl,N,nm,q,bs,hdct,sn,sub,ab,col,dd,k0,k1,k2,k3,k5,mN,hC,hN,hni,TL,_⟩:=exc_obj I.mod.kin T.q
  refine wpAny_Raise_call_subT (C:=C) (nm:=nm) (q:=q) (N:=N) (bs:=bs) (bm:=tl) (hdct:=hdct) (sn:=sn) (sub:=sub) (ab:=ab) (col:=col) (dd:=dd) (k0:=k0) (k1:=k1) (k2:=k2) (k3:=k3) (k5:=k5)
    PySem.F.excBase_ValueError (mN:=mN) (TL.hasType PySem.F.excBase_ValueError.hasBase) (I.ok.hd hc) ?_ hni (ld_glob I hg T.bound ⟨rfl,?_⟩ hd)
  · rw [he]
    show (false || (backTo cpos (starEach es X.env)).any (·.1))=false
    rw [hpl]; rfl
  · have a:=ha cpos pins s σ H _ I h
    rw [he] at a ⊢
    refine Calls.evalArgs_plain (thn a fun us s2 ⟨vs,H2,I2,r,hz,hE⟩=>⟨rfl,by rw [← r.length]; exact hz,I2.bk _ _ hC,hN.keeps I2.bk,TL.keeps I2.bk,fun h' e' hm=>hX pins σ H2 s2 e' us h' I2 hm hE⟩)
end
abbrev Cx.suite (X:Cx) (e:Addr):Cx:={ X with A:=X.A.mark (some (.ref e)),calm:=false,xe:=fun _ _=>False }
theorem Inv.track {X:Cx} {pins:List (Addr×Obj)} {σ:St} {H:Hp} {s:Shared} {e:Addr} {u:HO} (I:Inv X pins σ H s) (hn:H e=none) (hnew:∀ b o,X.s₀.heap.get? b=some o→X.H₀ b=none→b ∉ X.ex→b≠e) (hL:X.env.locals≠e)
    (hc:∀ x c,X.env.cells.lookup x=some c→c≠e) (hp:∀ p∈X.pn ++ pins,p.1≠e) (new:ObjOk X.prog X.w (upd H e u) s.heap e u):Inv X pins σ (upd H e u) s:=by
  have ne:∀ {b:Addr} {o:HO},H b=some o→b≠e:=fun q=>ne_of_none q hn
  refine ⟨I.ok,I.os,I.bare,⟨I.base.keep,I.base.slot,fun b o q n hx=>?_,I.base.there,fun b xs q=>?_,fun b o v q=>?_,fun b ps q=>?_⟩,I.loc,I.cell,?_,fun x c q=>?_,fun p q=>?_,fun b v q=>?_,I.len⟩
  · rw [upd_ne (hnew b o q n hx)]; exact I.base.free b o q n hx
  · have z:=I.base.tups b xs q
    rw [upd_ne (ne z)]; exact z
  · have z:=I.base.frzs b o v q
    rw [upd_ne (ne z)]; exact z
  · obtain ⟨m,z⟩:=I.base.tbls b ps q
    exact ⟨m,by rw [upd_ne (ne z)]; exact z⟩
  · rw [upd_ne hL]; exact I.free
  · rw [upd_ne (hc x c q)]; exact I.freeC x c q
  · obtain ⟨a,b,c⟩:=I.pin p q
    exact ⟨a,by rw [upd_ne (hp p q)]; exact b,c⟩
  · by_cases hb:b=e
    · subst hb
      rw [upd_same] at q
      cases q
      exact new
    · rw [upd_ne hb] at q
      exact (I.hok b v q).stay (fun _ _ _ r=>r) (fun c z=>by rw [upd_ne (ne z)]; exact z) fun c xs z=>by rw [upd_ne (ne z)]; exact z
section
variable {X:Cx} {pins:List (Addr×Obj)} {σ:St} {H1 H2:Hp} {s1 s':Shared} {e C:Addr} {B:Heap} {a0:Value}
end
section
variable {X:Cx} {k:Nat} {g x n:Str} {ps:List Str} {sp:Sp} {p np cpos epos hpos pos:Pos} {e:Expr} {es:List Expr} {t:TA} {ts:TS} {D:Addr} {b₀:Stmt} {suite:List Stmt} {i:Nat}
end
end L2
namespace L2
open PySem PySem.Spec PyProof.Rows
section
variable {prog:Program} {w:World} {A:Around} {E:Value→Shared→Prop} {s:Shared}
theorem nextT_item {it t:Addr} {i:Nat} {items:Array Value} {x:Value} {Q:Value→Shared→Prop} (hit:s.heap.IsTupleIter it t i) (ht:s.heap.IsTuple t items) (hx:items[i]?=some x)
    (hQ:∀ h',h'.IsTupleIter it t (i + 1)→Heap.SameBut it s.heap h'→Q x { s with heap:=h' }):wpAny (model prog w) A (Builtin.SmallTypes.nextOf (.ref it)) Q E s:=by
  obtain ⟨o,p1,p2,p3⟩:=id hit
  obtain ⟨u,r1,r2,r3,r4⟩:=ht
  unfold Builtin.SmallTypes.nextOf
  refine wpAny_bind (wpAny_callSpecial?_slot (name:=Str.ofString "__next__") hit.typeIs F.slot_tuple_iterator_next (wpAny_call_entry F.slot_tuple_iterator_next hit.typeIs F.entry_tuple_iterator_next ?_ (F.args_tuple_iterator_next_1 _)))
  show wpAny _ _ (field (.ref it) 0 >>= _) _ _ s
  refine wpAny_bind (wpAny_field p1 p3 (x:=.ref t) rfl ?_)
  show wpAny _ _ (if (Value.ref t == Value.none)=true then _ else _) _ _ s
  rw [if_neg (fun z=>by cases z)]
  show wpAny _ _ (field (.ref it) 1 >>= _) _ _ s
  refine wpAny_bind (wpAny_field p1 p3 (x:=.int i 0) rfl ?_)
  show wpAny _ _ (seqItems? (.ref t) >>= _) _ _ s
  refine wpAny_bind (wpAny_seqItems r1 r4 ?_)
  simp only [Int.toNat_natCast,hx]
  refine wpAny_bind (wpAny_setField p1 p3 (by simp) (wpAny_pure ⟨x,rfl,wpAny_pure (hQ _ ⟨_,Heap.get?_update_self _ p1 (Obj.isFreed_of_fields (Obj.data_mapFields p3 _)),(Obj.cls_mapFields ..).trans p2,?_⟩ (Heap.SameBut.update ..))⟩))
  rw [Obj.data_mapFields p3]
  simp [rawInt]
theorem nextT_end {it t:Addr} {i:Nat} {items:Array Value} {Q:Value→Shared→Prop} (hh:A.handled=none) (hit:s.heap.IsTupleIter it t i) (ht:s.heap.IsTuple t items) (hx:items[i]?=none)
    (hE:∀ h' e,Heap.ExtBut it s.heap h'→(∃ o,h'.get? e=some o∧o.cls=.type "StopIteration")→E (.ref e) { s with heap:=h' }):wpAny (model prog w) A (Builtin.SmallTypes.nextOf (.ref it)) Q E s:=by
  obtain ⟨o,p1,p2,p3⟩:=id hit
  obtain ⟨u,r1,r2,r3,r4⟩:=ht
  unfold Builtin.SmallTypes.nextOf
  refine wpAny_bind (wpAny_callSpecial?_slot (name:=Str.ofString "__next__") hit.typeIs F.slot_tuple_iterator_next (wpAny_call_entry F.slot_tuple_iterator_next hit.typeIs F.entry_tuple_iterator_next ?_ (F.args_tuple_iterator_next_1 _)))
  show wpAny _ _ (field (.ref it) 0 >>= _) _ _ s
  refine wpAny_bind (wpAny_field p1 p3 (x:=.ref t) rfl ?_)
  show wpAny _ _ (if (Value.ref t == Value.none)=true then _ else _) _ _ s
  rw [if_neg (fun z=>by cases z)]
  show wpAny _ _ (field (.ref it) 1 >>= _) _ _ s
  refine wpAny_bind (wpAny_field p1 p3 (x:=.int i 0) rfl ?_)
  show wpAny _ _ (seqItems? (.ref t) >>= _) _ _ s
  refine wpAny_bind (wpAny_seqItems r1 r4 ?_)
  simp only [Int.toNat_natCast,hx]
  refine wpAny_bind (wpAny_rule (wpAny_bind (wpAny_setField p1 p3 (by simp) ?_)))
  show wpAny _ _ (newExc (.type "StopIteration") [] >>= _) _ _ _
  refine wpAny_bind ?_
  simp only [newExc,newTuple]
  refine wpAny_bind (wpAny_newObj_type ?_ (by size_fits))
  refine wpAny_bind (m:=firstArgMember _ _) (wpAny_of_eq (a:=Value.none) (by first | rfl | (simp only [firstArgMember]; rfl)) ?_)
  refine wpAny_newObj_type ?_ (by size_fits)
  simp only [raiseNew]
  refine wpAny_bind (wpAny_handled ?_)
  first | rw [show A.in1.handled=none from hh] | rw [hh]
  exact wpAny_bind (wpAny_pure (wpAny_throw (hE _ _ (((Heap.SameBut.update ..).extBut.push _).push _) ⟨_,Heap.get?_push_size _ rfl,rfl⟩)))
end
def SqB (b:Bool) (h:Heap) (a:Addr) (xs:Array Value):Prop:=if b=true then h.IsTuple a xs else h.IsList a xs
def ItB (b:Bool) (h:Heap) (it a:Addr) (k:Nat):Prop:=if b=true then h.IsTupleIter it a k else h.IsListIter it a k
def itObj (b:Bool) (a:Addr):Obj:=if b=true then { cls:=.type "tuple_iterator",data:=.fields #[.ref a,.int 0 0] } else { cls:=.type "list_iterator",data:=.fields #[.ref a,.int 0 0] }
theorem ItB.at {b:Bool} {h h':Heap} {it a:Addr} {k:Nat} (x:ItB b h it a k) (f:∀ o,h.get? it=some o→h'.get? it=some o):ItB b h' it a k:=by
  cases b with
  | true=>exact Heap.IsTupleIter.at (show h.IsTupleIter it a k from x) f
  | false=>exact Heap.IsListIter.at (show h.IsListIter it a k from x) f
theorem ItB.ob {b:Bool} {h:Heap} {it a:Addr} {k:Nat} (x:ItB b h it a k):∃ o,h.get? it=some o∧∀ v,o.data≠.cell v:=by
  cases b with
  | true=>obtain ⟨o,e,c,d⟩:=(show h.IsTupleIter it a k from x); exact ⟨o,e,fun v z=>by rw [d] at z; cases z⟩
  | false=>obtain ⟨o,e,c,d⟩:=(show h.IsListIter it a k from x); exact ⟨o,e,fun v z=>by rw [d] at z; cases z⟩
theorem ItB.new {b:Bool} {h:Heap} {it a:Addr} (e:h.get? it=some (itObj b a)):ItB b h it a 0:=by
  cases b with
  | true=>exact ⟨_,e,rfl,rfl⟩
  | false=>exact ⟨_,e,rfl,rfl⟩
theorem SqB.at {b:Bool} {h h':Heap} {a:Addr} {xs:Array Value} (x:SqB b h a xs) (f:∀ o,h.get? a=some o→h'.get? a=some o):SqB b h' a xs:=by
  cases b with
  | true=>obtain ⟨o,e,r⟩:=(show h.IsTuple a xs from x); exact ⟨o,f o e,r⟩
  | false=>obtain ⟨o,e,r⟩:=(show h.IsList a xs from x); exact ⟨o,f o e,r⟩
section
variable {prog:Program} {w:World} {A:Around} {E:Value→Shared→Prop} {s:Shared}
theorem nextB_item {b:Bool} {it a:Addr} {k:Nat} {xs:Array Value} {x:Value} {Q:Value→Shared→Prop} (hi:ItB b s.heap it a k) (hs:SqB b s.heap a xs) (hx:xs[k]?=some x)
    (hQ:∀ h',ItB b h' it a (k + 1)→Heap.SameBut it s.heap h'→Q x { s with heap:=h' }):wpAny (model prog w) A (Builtin.SmallTypes.nextOf (.ref it)) Q E s:=by
  cases b with
  | true=>exact nextT_item hi hs hx fun h' i' sb=>hQ h' i' sb
  | false=>exact wpAny_nextOf_list_item hi hs hx fun h' i' sb=>hQ h' i' sb
theorem nextB_end {b:Bool} {it a:Addr} {k:Nat} {xs:Array Value} {Q:Value→Shared→Prop} (hh:A.handled=none) (hi:ItB b s.heap it a k) (hs:SqB b s.heap a xs) (hx:xs[k]?=none)
    (hE:∀ h' e,Heap.ExtBut it s.heap h'→(∃ o,h'.get? e=some o∧o.cls=.type "StopIteration")→E (.ref e) { s with heap:=h' }):wpAny (model prog w) A (Builtin.SmallTypes.nextOf (.ref it)) Q E s:=by
  cases b with
  | true=>exact nextT_end hh hi hs hx hE
  | false=>exact wpAny_nextOf_list_end hh hi hs hx hE
theorem iterB {b:Bool} {a:Addr} {xs:Array Value} {Q:Value→Shared→Prop} (hs:SqB b s.heap a xs) (hQ:Q (.ref s.heap.objs.size) { s with heap:=s.heap.push (itObj b a) }):wpAny (model prog w) A (pyIter (.ref a)) Q E s:=by
  cases b with
  | true=>exact wpAny_pyIter_tuple hs hQ
  | false=>exact wpAny_pyIter_list hs hQ
structure Apz (z TI TO i1 i2:Addr):Prop where
  a1:TI≠z
  a2:TO≠z
  a3:i1≠z
  a4:i2≠z
  a5:TI≠TO
  a6:TI≠i1
  a7:TI≠i2
  a8:TO≠i1
  a9:TO≠i2
  b1:i1≠i2
theorem zip_item {b1 b2:Bool} {z TI TO i1 i2 l1 l2:Addr} {k:Nat} {xs ys:Array Value} {x y a b:Value} {Q:Option Value→Shared→Prop} (D:Apz z TI TO i1 i2)
    (hz:IsZip s.heap z TI TO .none) (hTI:IsPair s.heap TI (.ref i1) (.ref i2)) (hTO:IsPair s.heap TO a b) (h1:ItB b1 s.heap i1 l1 k) (h2:ItB b2 s.heap i2 l2 k) (hl1:SqB b1 s.heap l1 xs) (hl2:SqB b2 s.heap l2 ys)
    (n1:∀ c∈[z,TO,i1,i2],l1≠c∧l2≠c) (hx:xs[k]?=some x) (hy:ys[k]?=some y)
    (hQ:∀ h',IsZip h' z TI TO (rawInt s.heap.objs.size)→IsPair h' TO x y→ItB b1 h' i1 l1 (k + 1)→ItB b2 h' i2 l2 (k + 1)→IsPair h' s.heap.objs.size x y→h'.objs.size=s.heap.objs.size + 1 →
      (∀ c o,c≠z→c≠TO→c≠i1→c≠i2→s.heap.get? c=some o→h'.get? c=some o)→Q (some (.ref s.heap.objs.size)) { s with heap:=h' }) :
    wpAny (model prog w) A (pyNext (.ref z)) Q E s:=by
  have hT:s.TypeIs (.ref z) "zip":=⟨_,hz,rfl⟩
  have m1:=n1 z (by simp)
  have m2:=n1 TO (by simp)
  have m3:=n1 i1 (by simp)
  have m4:=n1 i2 (by simp)
  unfold pyNext
  refine wpAny_bind (wpAny_attempt (wpAny_callSpecial?_slot (name:=Str.ofString "__next__") hT F.slot_zip_next (wpAny_call_entry F.slot_zip_next hT F.entry_zip_next (?_:wpAny _ _ (Builtin.«zip.__next__» ⟨[.ref z],[]⟩) _ _ s) (F.args_zip_next_1 _))))
  show wpAny _ _ (field (.ref z) 2 >>= _) _ _ _
  refine wpAny_bind (wpAny_field hz rfl (x:=.bool false) rfl ?_)
  show wpAny _ _ (field (.ref z) 3 >>= _) _ _ _
  refine wpAny_bind (wpAny_field hz rfl (x:=.ref TI) rfl (wpAny_bind (wpAny_seqItems hTI rfl ?_)))
  show wpAny _ _ (Builtin.SmallTypes.ownedTupleIsFree (.ref z) >>= _) _ _ _
  refine wpAny_bind ?_
  unfold Builtin.SmallTypes.ownedTupleIsFree
  refine wpAny_bind (wpAny_field hz rfl (x:=.none) rfl (wpAny_pure ?_))
  simp only [if_true]
  refine wpAny_bind (wpAny_rule (wpAny_bind (wpAny_field hz rfl (x:=.ref TO) rfl (wpAny_bind (wpAny_setField_rec hz (by simp) fun g1 z1 s1=>?_)))))
  replace z1:IsZip g1 z TI TO .ellipsis:=z1
  refine wpAny_bind ?_
  simp only [List.zipIdx_cons,List.zipIdx_nil,List.forIn_cons,List.forIn_nil]
  refine wpAny_bind (wpAny_bind (wpAny_onRaise ?_))
  show wpAny _ _ (Builtin.SmallTypes.nextOf (.ref i1) >>= _) _ _ _
  refine wpAny_bind (nextB_item (h1.at fun o q=>s1.extBut _ _ D.a3 q) (hl1.at fun o q=>s1.extBut _ _ m1.1 q) hx fun g2 j1 s2=>wpAny_pure ?_)
  have t2:IsPair g2 TO a b:=s2.extBut _ _ D.a8 (s1.extBut _ _ D.a2 hTO)
  refine wpAny_bind (wpAny_seqItems t2 rfl (wpAny_bind (wpAny_updateSeq_pair t2 fun g3 t3 s3=>wpAny_bind (wpAny_letGo (wpAny_pure ?_)))))
  replace t3:IsPair g3 TO x b:=t3
  refine wpAny_bind (wpAny_bind (wpAny_onRaise ?_))
  show wpAny _ _ (Builtin.SmallTypes.nextOf (.ref i2) >>= _) _ _ _
  refine wpAny_bind (nextB_item (h2.at fun o q=>s3.extBut _ _ D.a9.symm (s2.extBut _ _ D.b1.symm (s1.extBut _ _ D.a4 q))) (hl2.at fun o q=>s3.extBut _ _ m2.2 (s2.extBut _ _ m3.2 (s1.extBut _ _ m1.2 q))) hy fun g4 j2 s4=>wpAny_pure ?_)
  have t4:IsPair g4 TO x b:=s4.extBut _ _ D.a9 t3
  refine wpAny_bind (wpAny_seqItems t4 rfl (wpAny_bind (wpAny_updateSeq_pair t4 fun g5 t5 s5=>wpAny_bind (wpAny_letGo (wpAny_pure (wpAny_pure ?_))))))
  replace t5:IsPair g5 TO x y:=t5
  refine wpAny_bind (wpAny_seqItems t5 rfl (wpAny_bind (wpAny_newTuple ?_)))
  have hsz:g5.objs.size=s.heap.objs.size:=by rw [s5.1,s4.1,s3.1,s2.1,s1.1]
  have z5:IsZip g5 z TI TO .ellipsis:=s5.extBut _ _ D.a2.symm (s4.extBut _ _ D.a4.symm (s3.extBut _ _ D.a2.symm (s2.extBut _ _ D.a3.symm z1)))
  have k5:∀ c o,c≠z→c≠TO→c≠i1→c≠i2→s.heap.get? c=some o→g5.get? c=some o:=fun c o c1 c2 c3 c4 q=>s5.extBut _ _ c2 (s4.extBut _ _ c4 (s3.extBut _ _ c2 (s2.extBut _ _ c3 (s1.extBut _ _ c1 q))))
  have j15:ItB b1 g5 i1 l1 (k + 1):=j1.at fun o q=>s5.extBut _ _ D.a8.symm (s4.extBut _ _ D.b1 (s3.extBut _ _ D.a8.symm q))
  have j25:ItB b2 g5 i2 l2 (k + 1):=j2.at fun o q=>s5.extBut _ _ D.a9.symm q
  have zlt:z < g5.objs.size:=Heap.lt_size z5
  show wpAny _ _ (Builtin.SmallTypes.ownedTupleHandOut (.ref z) (.ref g5.objs.size) >>= _) _ _ _
  refine wpAny_bind ?_
  unfold Builtin.SmallTypes.ownedTupleHandOut
  have z6:IsZip (g5.push { cls:=.type "tuple",data:=.seq #[x,y] }) z TI TO .ellipsis:=Heap.get?_push_of_some _ z5
  refine wpAny_bind (wpAny_setField_rec z6 (by simp) fun g7 z7 s7=>?_)
  replace z7:IsZip g7 z TI TO (rawInt g5.objs.size):=z7
  refine wpAny_setField_rec z7 (by simp) fun g8 z8 s8=>?_
  replace z8:IsZip g8 z TI TO (rawInt g5.objs.size):=z8
  have up:∀ c o,c≠z→g5.get? c=some o→g8.get? c=some o:=fun c o c1 q=>s8.extBut _ _ c1 (s7.extBut _ _ c1 (Heap.get?_push_of_some _ q))
  have T8:IsPair g8 g5.objs.size x y:=s8.extBut _ _ (Nat.ne_of_gt zlt) (s7.extBut _ _ (Nat.ne_of_gt zlt) (Heap.get?_push_size _ rfl))
  have sz8:g8.objs.size=g5.objs.size + 1:=by rw [s8.1,s7.1,Heap.size_push]
  rw [hsz] at z8 T8 sz8
  refine wpAny_pure ⟨_,rfl,wpAny_pure ?_⟩
  show Q (some (.ref g5.objs.size)) _
  rw [hsz]
  exact hQ g8 z8 (up _ _ D.a2 t5) (j15.at fun o q=>up _ o D.a3 q) (j25.at fun o q=>up _ o D.a4 q) T8 sz8 fun c o c1 c2 c3 c4 q=>up c o c1 (k5 c o c1 c2 c3 c4 q)
theorem zip_stop {b1 b2:Bool} {z TI TO i1 i2 l1 l2:Addr} {k:Nat} {xs ys:Array Value} {a b:Value} {Q:Option Value→Shared→Prop} (hh:A.handled=none) (D:Apz z TI TO i1 i2)
    (hz:IsZip s.heap z TI TO .none) (hTI:IsPair s.heap TI (.ref i1) (.ref i2)) (hTO:IsPair s.heap TO a b) (h1:ItB b1 s.heap i1 l1 k) (h2:ItB b2 s.heap i2 l2 k) (hl1:SqB b1 s.heap l1 xs) (hl2:SqB b2 s.heap l2 ys)
    (n1:∀ c∈[z,TO,i1,i2],l1≠c∧l2≠c) (hend:xs[k]?=none∨ys[k]?=none)
    (hQ:∀ h',(∀ c o,c≠z→c≠TO→c≠i1→c≠i2→s.heap.get? c=some o→h'.get? c=some o)→Q none { s with heap:=h' }):wpAny (model prog w) A (pyNext (.ref z)) Q E s:=by
  have hT:s.TypeIs (.ref z) "zip":=⟨_,hz,rfl⟩
  have m1:=n1 z (by simp)
  have m2:=n1 TO (by simp)
  have m3:=n1 i1 (by simp)
  have m4:=n1 i2 (by simp)
  unfold pyNext
  have fin:∀ (e:Addr) (h':Heap),(∀ c o,c≠z→c≠TO→c≠i1→c≠i2→s.heap.get? c=some o→h'.get? c=some o)→(∃ o,h'.get? e=some o∧o.cls=.type "StopIteration") →
      wpAny (model prog w) A (do if ← isInstance (.ref e) (.type "StopIteration") then pure none else throw (Value.ref e):Sem (Option Value)) Q E { s with heap:=h' }:=by
    rintro e h' kk ⟨o,q1,q2⟩
    exact wpAny_bind (wpAny_isInstance (T:="StopIteration") (b:=true) ⟨o,q1,q2⟩ isSubtype_stop (wpAny_pure (hQ _ kk)))
  refine wpAny_bind (wpAny_attempt (wpAny_callSpecial?_slot (name:=Str.ofString "__next__") hT F.slot_zip_next (wpAny_call_entry F.slot_zip_next hT F.entry_zip_next (?_:wpAny _ _ (Builtin.«zip.__next__» ⟨[.ref z],[]⟩) _ _ s) (F.args_zip_next_1 _))))
  show wpAny _ _ (field (.ref z) 2 >>= _) _ _ _
  refine wpAny_bind (wpAny_field hz rfl (x:=.bool false) rfl ?_)
  show wpAny _ _ (field (.ref z) 3 >>= _) _ _ _
  refine wpAny_bind (wpAny_field hz rfl (x:=.ref TI) rfl (wpAny_bind (wpAny_seqItems hTI rfl ?_)))
  show wpAny _ _ (Builtin.SmallTypes.ownedTupleIsFree (.ref z) >>= _) _ _ _
  refine wpAny_bind ?_
  unfold Builtin.SmallTypes.ownedTupleIsFree
  refine wpAny_bind (wpAny_field hz rfl (x:=.none) rfl (wpAny_pure ?_))
  simp only [if_true]
  refine wpAny_bind (wpAny_rule (wpAny_bind (wpAny_field hz rfl (x:=.ref TO) rfl (wpAny_bind (wpAny_setField_rec hz (by simp) fun g1 z1 s1=>?_)))))
  replace z1:IsZip g1 z TI TO .ellipsis:=z1
  refine wpAny_bind ?_
  simp only [List.zipIdx_cons,List.zipIdx_nil,List.forIn_cons,List.forIn_nil]
  refine wpAny_bind (wpAny_bind (wpAny_onRaise ?_))
  show wpAny _ _ (Builtin.SmallTypes.nextOf (.ref i1) >>= _) _ _ _
  cases hx:xs[k]? with
  | none =>
    refine wpAny_bind (nextB_end hh (h1.at fun o q=>s1.extBut _ _ D.a3 q) (hl1.at fun o q=>s1.extBut _ _ m1.1 q) hx fun g2 e s2 he=>?_)
    obtain ⟨oe,p1,p2⟩:=he
    have z2:IsZip g2 z TI TO .ellipsis:=s2 _ _ D.a3.symm z1
    have nez:e≠z:=fun q=>by subst q; rw [z2] at p1; cases p1; simp at p2
    exact wpAny_setField_rec z2 (by simp) fun g3 _ s3=>fin e g3 (fun c o c1 _ c3 _ q=>s3.extBut _ _ c1 (s2 _ _ c3 (s1.extBut _ _ c1 q))) ⟨oe,s3.extBut _ _ nez p1,p2⟩
  | some x =>
    have hy:ys[k]?=none:=by
      rcases hend with q | q
      · rw [hx] at q; cases q
      · exact q
    refine wpAny_bind (nextB_item (h1.at fun o q=>s1.extBut _ _ D.a3 q) (hl1.at fun o q=>s1.extBut _ _ m1.1 q) hx fun g2 j1 s2=>wpAny_pure ?_)
    have t2:IsPair g2 TO a b:=s2.extBut _ _ D.a8 (s1.extBut _ _ D.a2 hTO)
    refine wpAny_bind (wpAny_seqItems t2 rfl (wpAny_bind (wpAny_updateSeq_pair t2 fun g3 t3 s3=>wpAny_bind (wpAny_letGo (wpAny_pure ?_)))))
    refine wpAny_bind (wpAny_bind (wpAny_onRaise ?_))
    show wpAny _ _ (Builtin.SmallTypes.nextOf (.ref i2) >>= _) _ _ _
    refine wpAny_bind (nextB_end hh (h2.at fun o q=>s3.extBut _ _ D.a9.symm (s2.extBut _ _ D.b1.symm (s1.extBut _ _ D.a4 q))) (hl2.at fun o q=>s3.extBut _ _ m2.2 (s2.extBut _ _ m3.2 (s1.extBut _ _ m1.2 q))) hy fun g4 e s4 he=>?_)
    obtain ⟨oe,p1,p2⟩:=he
    have z4:IsZip g4 z TI TO .ellipsis:=s4 _ _ D.a4.symm (s3.extBut _ _ D.a2.symm (s2.extBut _ _ D.a3.symm z1))
    have nez:e≠z:=fun q=>by subst q; rw [z4] at p1; cases p1; simp at p2
    exact wpAny_setField_rec z4 (by simp) fun g5 _ s5=>fin e g5 (fun c o c1 c2 c3 c4 q=>s5.extBut _ _ c1 (s4 _ _ c4 (s3.extBut _ _ c2 (s2.extBut _ _ c3 (s1.extBut _ _ c1 q))))) ⟨oe,s5.extBut _ _ nez p1,p2⟩
abbrev zp1 (b1:Bool) (h:Heap) (l1:Addr):Heap:=h.push (itObj b1 l1)
abbrev zp2 (b1 b2:Bool) (h:Heap) (l1 l2:Addr):Heap:=(zp1 b1 h l1).push (itObj b2 l2)
abbrev zp3 (b1 b2:Bool) (h:Heap) (l1 l2:Addr):Heap:=(zp2 b1 b2 h l1 l2).push { cls:=.type "tuple",data:=.seq #[.ref h.objs.size,.ref (zp1 b1 h l1).objs.size] }
abbrev zp4 (b1 b2:Bool) (h:Heap) (l1 l2:Addr):Heap:=(zp3 b1 b2 h l1 l2).push { cls:=.type "tuple",data:=.seq #[.none,.none] }
abbrev zp5 (b1 b2:Bool) (h:Heap) (l1 l2:Addr):Heap:=(zp4 b1 b2 h l1 l2).push { cls:=.type "zip",data:=.fields #[.none,.bool false,.bool false,.ref (zp2 b1 b2 h l1 l2).objs.size,.ref (zp3 b1 b2 h l1 l2).objs.size] }
theorem zip_meets {b1 b2:Bool} (l1 l2:Addr) (xs ys:Array Value) :
    Meets (Builtin.«zip.__new__» ⟨[.type "zip",.ref l1,.ref l2],[]⟩) (fun _ R s=>SqB b1 s.heap l1 xs∧SqB b2 s.heap l2 ys∧R (.ok (.ret (.ref (zp4 b1 b2 s.heap l1 l2).objs.size))) { s with heap:=zp5 b1 b2 s.heap l1 l2 }) :=
  .of_wp fun prog w A R s h=>by
    obtain ⟨hp,g,d,tk,os⟩:=s
    obtain ⟨q1,q2,h⟩:=h
    have hsub:=sub_zip
    have L1:SqB b1 (Shared.heap ⟨hp,g,d,tk,os⟩) l1 xs:=q1
    have L2:SqB b2 (Shared.heap ⟨hp.push (itObj b1 l1),g,d,tk,os⟩) l2 ys:=q2.at fun o e=>Heap.get?_push_of_some _ e
    wp_walk using iterB L1,iterB L2
    exact ⟨_,rfl,h⟩
theorem zip_call {b1 b2:Bool} {l1 l2:Addr} {xs ys:Array Value} {Q:Value→Shared→Prop} (q1:SqB b1 s.heap l1 xs) (q2:SqB b2 s.heap l2 ys)
    (h:∀ h',IsZip h' (s.heap.objs.size + 4) (s.heap.objs.size + 2) (s.heap.objs.size + 3) .none→IsPair h' (s.heap.objs.size + 2) (.ref s.heap.objs.size) (.ref (s.heap.objs.size + 1)) →
      IsPair h' (s.heap.objs.size + 3) .none .none→ItB b1 h' s.heap.objs.size l1 0→ItB b2 h' (s.heap.objs.size + 1) l2 0→(∀ c o,s.heap.get? c=some o→h'.get? c=some o)→Q (.ref (s.heap.objs.size + 4)) { s with heap:=h' }) :
    wpAny (model prog w) A (call (.type "zip") [.ref l1,.ref l2]) Q E s:=by
  refine callType_new F.called_zip (by decide) (F.typeCall_zip_2 _ _) (F.newCall_zip_2 _ _) (fun obj=>F.args_object_init_3 obj _ _) F.entry_zip_new (zip_meets l1 l2 xs ys) ⟨q1,q2,?_⟩
  have y1:(zp1 b1 s.heap l1).objs.size=s.heap.objs.size + 1:=Heap.size_push ..
  have y2:(zp2 b1 b2 s.heap l1 l2).objs.size=s.heap.objs.size + 2:=by rw [Heap.size_push,y1]
  have y3:(zp3 b1 b2 s.heap l1 l2).objs.size=s.heap.objs.size + 3:=by rw [Heap.size_push,y2]
  have y4:(zp4 b1 b2 s.heap l1 l2).objs.size=s.heap.objs.size + 4:=by rw [Heap.size_push,y3]
  have u5:(zp5 b1 b2 s.heap l1 l2).get? (zp4 b1 b2 s.heap l1 l2).objs.size=some _:=Heap.get?_push_size _ rfl
  have u4:(zp5 b1 b2 s.heap l1 l2).get? (zp3 b1 b2 s.heap l1 l2).objs.size=some _:=Heap.get?_push_of_some _ (Heap.get?_push_size _ rfl)
  have u3:(zp5 b1 b2 s.heap l1 l2).get? (zp2 b1 b2 s.heap l1 l2).objs.size=some _:=Heap.get?_push_of_some _ (Heap.get?_push_of_some _ (Heap.get?_push_size _ rfl))
  have u2:(zp5 b1 b2 s.heap l1 l2).get? (zp1 b1 s.heap l1).objs.size=some (itObj b2 l2):=Heap.get?_push_of_some _ (Heap.get?_push_of_some _ (Heap.get?_push_of_some _ (Heap.get?_push_size _ (by cases b2 <;> rfl))))
  have u1:(zp5 b1 b2 s.heap l1 l2).get? s.heap.objs.size=some (itObj b1 l1):=Heap.get?_push_of_some _ (Heap.get?_push_of_some _ (Heap.get?_push_of_some _ (Heap.get?_push_of_some _ (Heap.get?_push_size _ (by cases b1 <;> rfl)))))
  show _∧_
  rw [y2,y3,y4] at u5
  rw [y1,y2] at u3
  rw [y3] at u4
  rw [y1] at u2
  rw [y4]
  exact ⟨⟨_,u5,rfl⟩,h _ u5 u3 u4 (ItB.new u1) (ItB.new u2) fun c o x=>Heap.get?_push_of_some _ (Heap.get?_push_of_some _ (Heap.get?_push_of_some _ (Heap.get?_push_of_some _ (Heap.get?_push_of_some _ x))))⟩
end
theorem Inv.turnedN {X:Cx} {pins:List (Addr×Obj)} {σ:St} {H:Hp} {s:Shared} {h':Heap} {t':Nat} {fp:List Addr} (I:Inv X pins σ H s) (k:∀ b o,b ∉ fp→s.heap.get? b=some o→h'.get? b=some o) (hf:∀ b∈fp,FpOk X pins H b) :
    Inv X pins σ H { s with heap:=h',toks:=t' }:=by
  have nit:∀ b u,H b=some u→b ∉ fp:=fun b u e z=>by rw [(hf b z).1] at e; cases e
  refine I.step (g':=s.gens) (d':=s.drawn) (ch:=fp) (fun b hb=>?_) (fun b o _ _ hc e _=>k b o hc e) (fun b o _ _ hc e _=>⟨o.slots,k b o hc e⟩) (fun _ _ _ _ n=>n)
    (fun b o hc e=>⟨o,k b o hc e⟩) (fun _ _ e=>e) (fun _ _ _ e=>e) (fun b ps e=>⟨#[],by rw [e]; simp⟩) (fun m hm=>?_) (fun b u e=>?_) I.bare
  · obtain ⟨f0,f1,f2,f3,f4,f5⟩:=hf b hb
    exact ⟨f3,f1,f4,f5⟩
  · obtain ⟨o,es,ep,ho,r⟩:=hm
    exact ⟨o,es,ep,k _ o (fun z=>(hf _ z).2.1 rfl) ho,r⟩
  · refine (I.hok b u e).stay (fun c v hc q=>k c v ?_ q) (fun _ q=>q) fun _ _ q=>q
    rcases hc with z | z
    · rw [z]; exact nit b u e
    · exact nit c _ z
def Itz (K:PySem.W.Frag) (a1 a2:Addr):It :=
  ⟨fun i H=>∃ xs ys x y,SqT K H a1 xs∧SqT K H a2 ys∧xs[i]?=some x∧ys[i]?=some y,
   fun i H v H'=>∃ p x y,H p=none∧v=.ref p∧(∀ xs,SqT K H a1 xs→xs[i]?=some x)∧(∀ ys,SqT K H a2 ys→ys[i]?=some y)∧H'=upd H p (.tup [x,y]),
   fun i H=>∃ xs ys,SqT K H a1 xs∧SqT K H a2 ys∧(xs.length≤i∨ys.length≤i)⟩
def Tnz (z TI TO i1 i2 l1 l2:Addr) (i:Nat) (h:Heap):Prop:=IsZip h z TI TO .none∧IsPair h TI (.ref i1) (.ref i2)∧(∃ a b,IsPair h TO a b)∧ItB true h i1 l1 i∧ItB true h i2 l2 i
theorem turn_zip {P:Program} {w:World} {K:PySem.W.Frag} {elts:List Expr} {x1} {pos:Pos} {z TI TO i1 i2 l1 l2:Addr} (D:Apz z TI TO i1 i2) (n1:∀ c∈[z,TO,i1,i2],l1≠c∧l2≠c) :
    Turn P w K (.Tuple elts x1 pos) (Itz K l1 l2) [z,TI,TO,i1,i2] z (Tnz z TI TO i1 i2 l1 l2) where
  mem:=by simp
  obj:=fun i h st b hb=>by
    obtain ⟨q1,q2,⟨a,b',q3⟩,q4,q5⟩:=st
    have hb':b=z∨b=TI∨b=TO∨b=i1∨b=i2:=by simpa using hb
    rcases hb' with e | e | e | e | e <;> subst e
    · exact ⟨_,q1,fun v z=>by cases z⟩
    · exact ⟨_,q2,fun v z=>by cases z⟩
    · exact ⟨_,q3,fun v z=>by cases z⟩
    · exact q4.ob
    · exact q5.ob
  keep:=fun i h h' st k=>by
    obtain ⟨q1,q2,⟨a,b',q3⟩,q4,q5⟩:=st
    exact ⟨k z (by simp) _ q1,k TI (by simp) _ q2,⟨a,b',k TO (by simp) _ q3⟩,q4.at fun o e=>k i1 (by simp) o e,q5.at fun o e=>k i2 (by simp) o e⟩
  item:=by
    intro X hP hw hK hc i pins s σ H E I hf st hg
    subst hP hw hK
    obtain ⟨xs,ys,x,y,h1,h2,hx,hy⟩:=hg
    obtain ⟨its,rv,p,hz⟩:=I.tuple h1
    obtain ⟨jts,rv',p',hz'⟩:=I.tuple h2
    obtain ⟨u,hu,ru⟩:=rv.get hx
    obtain ⟨u',hu',ru'⟩:=rv'.get hy
    obtain ⟨q1,q2,⟨a,b,q3⟩,q4,q5⟩:=st
    refine zip_item D q1 q2 q3 q4 q5 (show s.heap.IsTuple l1 its.toArray from p) (show s.heap.IsTuple l2 jts.toArray from p') n1 (x:=u) (y:=u') (by simpa using hu) (by simpa using hu') fun h' a1 a2 a3 a4 a5 a6 kk=>?_
    have lt:∀ {c o},s.heap.get? c=some o→s.heap.objs.size≠c:=fun e=>Nat.ne_of_gt (Heap.lt_size e)
    refine ⟨_,rfl,wpAny_letOwnedTupleGo_zip a1 fun hh2 z2 s2=>?_⟩
    have kk2:∀ c o,c ∉ [z,TI,TO,i1,i2]→s.heap.get? c=some o→hh2.get? c=some o:=fun c o hc e =>
      s2.extBut _ _ (fun x=>hc (by simp [x])) (kk c o (fun x=>hc (by simp [x])) (fun x=>hc (by simp [x])) (fun x=>hc (by simp [x])) (fun x=>hc (by simp [x])) e)
    have I1:Inv X pins σ H { s with heap:=hh2 }:=I.turnedN (t':=s.toks) kk2 hf
    have T2:IsPair hh2 s.heap.objs.size u u':=s2.extBut _ _ (lt q1) a5
    have hn:H s.heap.objs.size=none:=I.hok.fresh (Nat.le_refl _)
    have fr:=I.fpOk (H':=H) (Nat.le_refl _) hn
    have I2:Inv X pins σ (upd H s.heap.objs.size (.tup [x,y])) { s with heap:=hh2 }:=by
      refine I1.track hn (fun b o q _ _=>?_) fr.2.1.symm fr.2.2.2.2.1 fr.2.2.2.2.2 ?_
      · exact Nat.ne_of_lt (Nat.lt_of_lt_of_le (Heap.lt_size q) I.sz)
      · exact ⟨by simp [sizeLine],[u,u'],.cons ru (.cons ru' .nil),⟨_,T2,rfl,_,rfl⟩⟩
    refine ⟨.ref s.heap.objs.size,_,I2,rfl,⟨_,x,y,hn,rfl,fun zs hzs=>?_,fun zs hzs=>?_,rfl⟩,?_,fun b hb=>?_⟩
    · rw [I.tuple_inj hzs h1]; exact hx
    · rw [I.tuple_inj hzs h2]; exact hy
    · exact ⟨z2,s2.extBut _ _ D.a1 (kk _ _ D.a1 D.a5 D.a6 D.a7 q2),⟨_,_,s2.extBut _ _ D.a2 a2⟩,a3.at fun o e=>s2.extBut _ _ D.a3 e,a4.at fun o e=>s2.extBut _ _ D.a4 e⟩
    · have e:b≠s.heap.objs.size:=by
        have hb':b=z∨b=TI∨b=TO∨b=i1∨b=i2:=by simpa using hb
        rcases hb' with e | e | e | e | e <;> subst e
        · exact (lt q1).symm
        · exact (lt q2).symm
        · exact (lt q3).symm
        · obtain ⟨o,e,_⟩:=q4.ob; exact (lt e).symm
        · obtain ⟨o,e,_⟩:=q5.ob; exact (lt e).symm
      rw [upd_ne e]
      exact (hf b hb).1
  done:=by
    intro X hP hw hK hc i pins s σ H E I hf st hg
    subst hP hw hK
    obtain ⟨xs,ys,h1,h2,hx⟩:=hg
    obtain ⟨its,rv,p,hz⟩:=I.tuple h1
    obtain ⟨jts,rv',p',hz'⟩:=I.tuple h2
    have e1:=rv.length
    have e2:=rv'.length
    obtain ⟨q1,q2,⟨a,b,q3⟩,q4,q5⟩:=st
    refine zip_stop (I.ok.hd hc) D q1 q2 q3 q4 q5 (show s.heap.IsTuple l1 its.toArray from p) (show s.heap.IsTuple l2 jts.toArray from p') n1 (by rcases hx with q | q; (· left; simp; omega); (· right; simp; omega)) fun h' kk=>⟨rfl,?_⟩
    exact I.turnedN (t':=s.toks) (fun c o hc e=>kk c o (fun x=>hc (by simp [x])) (fun x=>hc (by simp [x])) (fun x=>hc (by simp [x])) (fun x=>hc (by simp [x])) e) hf
  self:=fun _ _ _ _ _ st h=>wpAny_pyIter_zip st.1 h
theorem apz_new (n:Nat):Apz (n + 4:Nat) (n + 2:Nat) (n + 3:Nat) n (n + 1:Nat):=by
  constructor <;> (intro h; have h':(_:Nat)=_:=h; omega)
section
variable {X:Cx}
def iZip2 (K:PySem.W.Frag) (ta:TA):TI:=fun σ H R=>ta σ H fun vs H1=>∃ a b,vs=[.ref a,.ref b]∧(∃ xs,SqT K H1 a xs)∧(∃ ys,SqT K H1 b ys)∧R (Itz K a b) H1
theorem boot_zip:bootBuiltins "zip"=some (.type "zip"):=by decide +kernel
theorem pi_zip2 {a b:Expr} {ta:TA} {p pos tpos:Pos} {elts:List Expr} {x1} (hg:Gl X "zip") (hm:X.mg "zip"=none) (ha:PA X [a,b] ta) (hs:starEach [a,b] X.env=[(false,eval a X.env),(false,eval b X.env)]:=by rfl) (hs2:starEach [b] X.env=[(false,eval b X.env)]:=by rfl) :
    PI X (.Tuple elts x1 tpos) (.Call (.Name "zip" p) [a,b] [] pos) (iZip2 X.K ta):=by
  intro pins s σ H R I h
  refine Call_ (ld_blt I hg hm boot_zip (PyProof.Rows.callWith_type1 (thn (ha pos pins s σ H _ I h) fun us s1 ⟨vs,H1,I1,r1,q1⟩=>?_) (by rw [hs,hs2]) (by rw [hs2]; rfl)))
  obtain ⟨l1,l2,e,⟨xs,h1⟩,⟨ys,h2⟩,q⟩:=q1
  subst e
  cases r1 with
  | cons r rr =>
    cases rr with
    | cons r' rr =>
      cases rr
      cases r
      cases r'
      obtain ⟨its,rv,p,hz⟩:=I1.tuple h1
      obtain ⟨jts,rv',p',hz'⟩:=I1.tuple h2
      have hl1:l1 < s1.heap.objs.size:=by obtain ⟨o,e,_⟩:=(show s1.heap.IsTuple l1 its.toArray from p); exact Heap.lt_size e
      have hl2:l2 < s1.heap.objs.size:=by obtain ⟨o,e,_⟩:=(show s1.heap.IsTuple l2 jts.toArray from p'); exact Heap.lt_size e
      refine zip_call (b1:=true) (b2:=true) (show s1.heap.IsTuple l1 its.toArray from p) (show s1.heap.IsTuple l2 jts.toArray from p') fun h' a1 a2 a3 a4 a5 kk=>wpAny_pyIter_zip a1 ?_
      refine ⟨s1.heap.objs.size + 4,_,_,_,H1,rfl,I1.kept (t':=s1.toks) kk,turn_zip (apz_new s1.heap.objs.size) (l1:=l1) (l2:=l2) fun c hc=>?_,⟨a1,a2,⟨_,_,a3⟩,a4,a5⟩,fun b hb=>?_,q⟩
      · have hc':c=s1.heap.objs.size + 4∨c=s1.heap.objs.size + 3∨c=s1.heap.objs.size∨c=s1.heap.objs.size + 1:=by simpa using hc
        have hle:s1.heap.objs.size≤c:=by rcases hc' with e | e | e | e <;> rw [e] <;> first | exact Nat.le_refl _ | exact Nat.le_add_right _ _
        exact ⟨Nat.ne_of_lt (Nat.lt_of_lt_of_le hl1 hle),Nat.ne_of_lt (Nat.lt_of_lt_of_le hl2 hle)⟩
      · have hb':b=s1.heap.objs.size + 4∨b=s1.heap.objs.size + 2∨b=s1.heap.objs.size + 3∨b=s1.heap.objs.size∨b=s1.heap.objs.size + 1:=by simpa using hb
        have hle:s1.heap.objs.size≤b:=by rcases hb' with e | e | e | e | e <;> rw [e] <;> first | exact Nat.le_refl _ | exact Nat.le_add_right _ _
        exact I1.fpOk hle (I1.hok.fresh hle)
end
end L2
namespace L2
open PySem PySem.Spec PyProof.Rows
def clsA (mg:Str→Option Value) (x:Str):Addr:=match mg x with | some (.ref a)=>a | _=>0
theorem passR0 {X:Cx} {P:Program} {w:World} {base:Heap}:Passes (CXr P w base) X E0:=fun _ _ _ _ _ _ _ h=>by
  obtain ⟨_,_,_,_,_,_,_,z⟩:=h
  exact z.elim
section
variable {X:Cx} {pins:List (Addr×Obj)} {σ:St} {H:Hp} {s:Shared}
end
section
variable {X:Cx} {k:Nat} {g x n:Str} {ps:List Str} {sp:Sp} {p np cpos epos hpos pos:Pos} {e:Expr} {es:List Expr} {t:TA} {ts:TS} {D:Addr} {b₀:Stmt} {suite:List Stmt} {i:Nat}
end
section
open PySem.W PySem.Calls
end
end L2
namespace L2
open PySem PySem.Spec PyProof.Rows PySem.W PySem.Calls PySem.Builtin PySem.Builtin.ObjectAttr PySem.Builtin.Getset_descriptor
section
variable {prog:Program} {w:World} {A:Around} {E:Value→Shared→Prop} {s:Shared} {K:Frag} {x C:Addr} {ox:Obj}
end
end L2
namespace L2
open PySem PySem.Spec PyProof.Rows
section
variable {P:Program} {w:World} {K:PySem.W.Frag} {mg:Str→Option Value} {base:Heap} {N ps:List Str} {qual:Str} {f:Addr}
end
end L2
namespace L2
open PySem PySem.Spec PyProof.Rows
end L2
namespace L2
open PySem PySem.Spec PyProof.Rows
structure PB (X:Cx) (es:List Expr) (t:TA):Prop where
  ok:PA X es t
section
variable {X:Cx} {e a b:Expr} {es:List Expr} {te:TE} {t ta:TA} {p pos np cpos epos hpos tpos:Pos} {x n g:Str} {k i:Nat} {ps:List Str} {sp:Sp} {CX:CXT} {E:XK}
theorem pb_nil:PB X [] tNil:=⟨pa_nil⟩
theorem pb_c (ha:PE X e te) (hr:PB X es t) (h:isStar e=false:=by rfl):PB X (e :: es) (tCons te t):=⟨pa_c ha hr.ok h⟩
theorem fb_lst (h:PB X es t):PE X (.List es pos) (tLst t):=pe_lst h.ok
theorem fb_tup {x1} (h:PB X es t):PE X (.Tuple es x1 pos) (tTup t):=pe_tup h.ok
theorem fb_fn (G:Fn X.prog X.w X.K X.mg X.base CX x k ps sp) (hr:Room k X.A) (hg:Gl X x) (hx:Passes CX X E) (ha:PB X (e :: es) t)
    (hdb:(x == ("__debug__":Str))=false:=by decide) (he:isStar e=false:=by rfl) (hpl:es.all (fun e=>!isStar e)=true:=by rfl):PE X (.Call (.Name x p) (e :: es) [] pos) (tCall sp [] E t):=pe_fn G hr hg hx ha.ok hdb he hpl
theorem fb_cB {id:String} {r:List V→Hp→VK→Prop} (hc:CallR X (.builtin id) r) (hg:Gl X x) (hm:X.mg x=none) (hv:bootBuiltins x=some (.builtin id)) (ha:PB X (e :: es) t) (hn:x≠"__name__":=by decide) (hdb:(x == ("__debug__":Str))=false:=by decide)
    (he:isStar e=false:=by rfl) (hpl:es.all (fun e=>!isStar e)=true:=by rfl):PE X (.Call (.Name x p) (e :: es) [] pos) (tCB r t):=pe_cB hc hg hm hv ha.ok hn hdb he hpl
theorem fb_cTy {T:String} {r:List V→Hp→VK→Prop} (hc:CallR X (.type T) r) (hg:Gl X x) (hm:X.mg x=none) (hv:bootBuiltins x=some (.type T)) (ha:PB X (e :: es) t) (hn:x≠"__name__":=by decide) (hdb:(x == ("__debug__":Str))=false:=by decide)
    (he:isStar e=false:=by rfl) (hpl:es.all (fun e=>!isStar e)=true:=by rfl):PE X (.Call (.Name x p) (e :: es) [] pos) (tCB r t):=pe_cTy hc hg hm hv ha.ok hn hdb he hpl
theorem fb_bm1 {o:Expr} {to:TE} {name:Str} {apos:Pos} {T id:String} {r:V→List V→Hp→VK→Prop} (pa:PlainAttrs T) (slot:Slot T name id) (hty:typeOf (.builtin id)=pure (.type "method_descriptor")) (hm:MtR X id r) (ho:PE X o to) (ha:PB X [e] t)
    (he:isStar e=false:=by rfl) (hbase:attributeBase o name X.env (eval o X.env)=eval o X.env:=by rfl) (hline:(apos.endLine == cpos.line)=true:=by rfl):PE X (.Call (.Attribute o name apos) [e] [] cpos) (tBM X.K T r to t) :=
  pe_bm1 pa slot hty hm ho ha.ok he hbase hline
theorem fb_range1 {tg:Expr} (hg:Gl X "range") (hm:X.mg "range"=none) (ha:PB X [a] ta) (he:isStar a=false:=by rfl):PI X tg (.Call (.Name "range" p) [a] [] pos) (iRng1 ta):=pi_range1 hg hm ha.ok (star_cons he)
theorem fb_range2 {tg:Expr} (hg:Gl X "range") (hm:X.mg "range"=none) (ha:PB X [a,b] ta) (he:isStar a=false:=by rfl) (hf:isStar b=false:=by rfl):PI X tg (.Call (.Name "range" p) [a,b] [] pos) (iRng2 ta) :=
  pi_range2 hg hm ha.ok (by rw [star_cons he,star_cons hf]; rfl) (by rw [star_cons hf]; rfl)
theorem fb_zip2 {elts:List Expr} {x1} (hg:Gl X "zip") (hm:X.mg "zip"=none) (ha:PB X [a,b] ta) (he:isStar a=false:=by rfl) (hf:isStar b=false:=by rfl):PI X (.Tuple elts x1 tpos) (.Call (.Name "zip" p) [a,b] [] pos) (iZip2 X.K ta) :=
  pi_zip2 hg hm ha.ok (by rw [star_cons he,star_cons hf]; rfl) (by rw [star_cons hf]; rfl)
theorem fb_raise {C:Addr} (hX:Made X E (.ref C)) (hc:X.calm=true) (T:ExC X.K X.mg x C) (hg:Gl X x) (ha:PB X (e :: es) t) (hd:(x == ("__debug__":Str))=false:=by decide)
    (he:isStar e=false:=by rfl) (hpl:es.all (fun e=>!isStar e)=true:=by rfl):PS X (.Raise (some (.Call (.Name x np) (e :: es) [] cpos)) none pos) (tRaise E (.ref C) t):=ps_raise hX hc T hg ha.ok hd (star_cons he) (star_any hpl)
end
end L2
namespace L2
open PySem PySem.Spec PyProof.Rows
def Itv (K:PySem.W.Frag) (a:Addr) (n:Nat):It :=
  ⟨fun i H=>i < n∧∃ xs,SqL K H a xs∧xs.length=n,fun i H x H'=>H'=H∧∀ xs,SqL K H a xs→xs[n - 1 - i]?=some x,fun i _=>i=n⟩
theorem turn_rev {P:Program} {w:World} {K:PySem.W.Frag} {tg:Expr} (a it:Addr) (n:Nat):Turn P w K tg (Itv K a n) [it] it (fun i h=>h.IsRevIter it a ((n:Int) - 1 - (i:Int))) where
  mem:=by simp
  obj:=fun i h st b hb=>by
    have e:b=it:=by simpa using hb
    subst e
    obtain ⟨o,e,c,d⟩:=st
    exact ⟨o,e,fun v z=>by rw [d] at z; cases z⟩
  keep:=fun i h h' st k=>st.at fun o e=>k it (by simp) o e
  item:=by
    intro X hP hw hK hc i pins s σ H E I hf st hg
    subst hP hw hK
    obtain ⟨hi,xs,hq,hn⟩:=hg
    have hx:xs[n - 1 - i]?=some (xs[n - 1 - i]'(by omega)):=by simp
    obtain ⟨its,rv,p,hz⟩:=I.list hq
    obtain ⟨u,hu,ru⟩:=rv.get hx
    obtain ⟨f0,f1,f2,f3,f4,f5⟩:=hf it (by simp)
    have e:(n:Int) - 1 - (i:Int)=((n - 1 - i:Nat):Int):=by omega
    have e2:((n - 1 - i:Nat):Int) - 1=(n:Int) - 1 - ((i + 1:Nat):Int):=by omega
    replace st:s.heap.IsRevIter it a ((n:Int) - 1 - (i:Int)):=st
    rw [e] at st
    refine wpAny_pyNext_rev_item st p.isList (x:=u) (by simpa using hu) fun h' st' sb=>?_
    rw [e2] at st'
    have I1:Inv X pins σ H { s with heap:=h' }:=I.turned (t':=s.toks) (fun b o hb e=>(sb.2 b hb).trans e) f0 f1 f3 f4 f5
    obtain ⟨o,e,c,d⟩:=id st'
    exact ⟨u,rfl,go_of (s:={ s with heap:=h' }) e c d (by decide) ⟨_,H,I1,ru,⟨rfl,fun ys hy=>by rw [I.list_inj hy hq]; exact hx⟩,st',fun b hb=>(hf b hb).1⟩⟩
  done:=by
    intro X hP hw hK hc i pins s σ H E I hf st hg
    subst hP hw hK
    obtain ⟨f0,f1,f2,f3,f4,f5⟩:=hf it (by simp)
    have hg':i=n:=hg
    subst hg'
    replace st:s.heap.IsRevIter it a ((i:Int) - 1 - (i:Int)):=st
    rw [show (i:Int) - 1 - (i:Int)=-1 by omega] at st
    exact wpAny_pyNext_rev_end (I.ok.hd hc) st fun h' eb=>⟨rfl,I.turned (t':=s.toks) (fun b o hb e=>eb b o hb e) f0 f1 f3 f4 f5⟩
  self:=fun _ _ _ _ _ st h=>wpAny_pyIter_revIter st h
section
variable {X:Cx} {tg:Expr}
def iRev (K:PySem.W.Frag) (ta:TA):TI:=fun σ H R=>ta σ H fun vs H1=>∃ a xs,vs=[.ref a]∧SqL K H1 a xs∧R (Itv K a xs.length) H1
theorem boot_reversed:bootBuiltins "reversed"=some (.type "reversed"):=by decide +kernel
theorem pi_rev {a:Expr} {ta:TA} {p pos:Pos} (hg:Gl X "reversed") (hm:X.mg "reversed"=none) (ha:PA X [a] ta) (hs:starEach [a] X.env=[(false,eval a X.env)]:=by rfl) :
    PI X tg (.Call (.Name "reversed" p) [a] [] pos) (iRev X.K ta):=by
  intro pins s σ H R I h
  refine Call_ (ld_blt I hg hm boot_reversed (PyProof.Rows.callWith_type1 (thn (ha pos pins s σ H _ I h) fun us s1 ⟨vs,H1,I1,r1,q1⟩=>?_) hs rfl))
  obtain ⟨l,xs,e,hq,q⟩:=q1
  subst e
  cases r1 with
  | cons r rr =>
    cases rr
    cases r
    obtain ⟨its,rv,p,hz⟩:=I1.list hq
    have hl:=rv.length
    refine call_reversed_list p.isList (wpAny_pyIter_revIter (l:=l) (i:=((its.toArray.size:Int) - 1)) ⟨_,Heap.get?_push_size _ rfl,rfl,rfl⟩ ?_)
    refine ⟨s1.heap.objs.size,[s1.heap.objs.size],_,_,H1,rfl,I1.kept (t':=s1.toks) fun b o e=>Heap.get?_push_of_some _ e,turn_rev l _ xs.length,?_,fun b hb=>?_,q⟩
    · refine ⟨_,Heap.get?_push_size _ rfl,rfl,?_⟩
      show Data.fields #[.ref l,rawInt ((its.toArray.size:Int) - 1)]=Data.fields #[.ref l,rawInt ((xs.length:Int) - 1 - ((0:Nat):Int))]
      rw [show ((its.toArray.size:Nat):Int) - 1=(xs.length:Int) - 1 - ((0:Nat):Int) by simp; omega]
    · have e:b=s1.heap.objs.size:=by simpa using hb
      subst e
      exact I1.fpOk (Nat.le_refl _) (I1.hok.fresh (Nat.le_refl _))
theorem fb_rev {a:Expr} {ta:TA} {p pos:Pos} (hg:Gl X "reversed") (hm:X.mg "reversed"=none) (ha:PB X [a] ta) (he:isStar a=false:=by rfl) :
    PI X tg (.Call (.Name "reversed" p) [a] [] pos) (iRev X.K ta):=pi_rev hg hm ha.ok (star_cons he)
end
theorem for_rev {K:PySem.W.Frag} {a:Addr} {xs:List V} {g:TG} {tb:TS} {D:Ends} {σ:St} {H:Hp} (Pv:Nat→St→Hp→Prop) (h0:Pv 0 σ H) (hl:∀ i σ H,i≤xs.length→Pv i σ H→SqL K H a xs)
    (hs:∀ i x σ H,i < xs.length→xs[xs.length - 1 - i]?=some x→Pv i σ H→g x σ H fun σ2 H2=>tb { D with nx:=Pv (i + 1),ct:=Pv (i + 1),bk:=D.nx } σ2 H2) (hd:∀ σ H,Pv xs.length σ H→D.nx σ H) :
    ∃ W:Nat→Nat→St→Hp→Prop,(∃ m,W 0 m σ H)∧∀ i m σ H,W i m σ H →
      ((Itv K a xs.length).stop i H∧D.nx σ H)∨((Itv K a xs.length).go i H∧∃ N:St→Hp→Prop,(∀ σ' H',N σ' H'→∃ m',m' < m∧W (i + 1) m' σ' H')∧∀ x H',(Itv K a xs.length).yld i H x H'→g x σ H' fun σ2 H2=>tb { D with nx:=N,ct:=N,bk:=D.nx } σ2 H2):=by
  refine ⟨fun i m σ H=>m=xs.length - i∧i≤xs.length∧Pv i σ H,⟨xs.length,by simp,Nat.zero_le _,h0⟩,?_⟩
  rintro i m σ H ⟨rfl,hi,p⟩
  have q:=hl i σ H hi p
  by_cases hlt:i < xs.length
  · refine .inr ⟨⟨hlt,xs,q,rfl⟩,Pv (i + 1),fun σ' H' p'=>⟨xs.length - (i + 1),by omega,rfl,hlt,p'⟩,fun x H' y=>?_⟩
    obtain ⟨e,y⟩:=y
    subst e
    exact hs i x σ _ hlt (y xs q) p
  · have e:i=xs.length:=by omega
    subst e
    exact .inl ⟨rfl,hd σ H p⟩
theorem w_rev {K:PySem.W.Frag} {ta:TA} {σ:St} {H:Hp} {R:It→Hp→Prop} (h:ta σ H fun vs H1=>∃ a xs,vs=[.ref a]∧SqL K H1 a xs∧R (Itv K a xs.length) H1):iRev K ta σ H R:=h
end L2
namespace LB
open PySem L2
inductive IsI:Value→Bool→Prop
  | non:IsI (.type "NoneType") false
  | bl:IsI (.type "bool") false
  | int:IsI (.type "int") true
  | str:IsI (.type "str") false
  | lst:IsI (.type "list") false
  | tup:IsI (.type "tuple") false
  | dct:IsI (.type "dict") false
theorem kit_int {K:PySem.W.Frag} {t:Value} {b:Bool} (h:IsI t b):∃ c,PySem.W.kitOne K t (.type "int")=some c∧(c=false→b=false)∧(c=true→∃ d,PySem.W.kitOne K t (.type "bool")=some d∧b=!d):=by
  cases h
  · exact ⟨false,by kernel_rfl,fun _=>rfl,fun z=>by cases z⟩
  · exact ⟨true,by kernel_rfl,fun z=>(by cases z),fun _=>⟨true,by kernel_rfl,rfl⟩⟩
  · exact ⟨true,by kernel_rfl,fun z=>(by cases z),fun _=>⟨false,by kernel_rfl,rfl⟩⟩
  · exact ⟨false,by kernel_rfl,fun _=>rfl,fun z=>by cases z⟩
  · exact ⟨false,by kernel_rfl,fun _=>rfl,fun z=>by cases z⟩
  · exact ⟨false,by kernel_rfl,fun _=>rfl,fun z=>by cases z⟩
  · exact ⟨false,by kernel_rfl,fun _=>rfl,fun z=>by cases z⟩
def sb_is_int (K:PySem.W.Frag) (a:V) (H:Hp) (Q:VK) (E:XK):Prop:=∃ t b,TyOf K H a t∧IsI t b∧Q (.bl b) H
def sp__law_int (K:PySem.W.Frag):Sp:=sp1 (sb_is_int K)
def cellF (ns:List Int) (k:Nat):Int :=
  if k < ns.length then (ns.getD k 0 + 104729) * 2718281828459045235360287471352662497757 % 10000000000000000000000000000000000000000
  else
    let n:Int:=(k:Int) * k * 7919 + 5 + (if 0 < ns.length then ns.getD (k * 7 % ns.length) 0 % 10000000000000000000000000000000000000000 * 48271 else 0)
    n * n % 2147483629 * 2718281828459045235360287471352662497757 % 10000000000000000000000000000000000000000
def sb__law_cell (K:PySem.W.Frag) (a b:V) (H:Hp) (Q:VK) (E:XK):Prop:=∃ (l:Addr) (ns:List Int) (k:Nat),a=.ref l∧b=.int k∧SqL K H l (ns.map V.int)∧(∀ n∈ns,Builtin.Int.intBits n≤1048576)∧k≤1000∧Q (.int (cellF ns k)) H
def sp__law_cell (K:PySem.W.Frag):Sp:=sp2 (sb__law_cell K)
def tb_is_int (K:PySem.W.Frag):TS :=
  (tRet (tAndV (tCB (rIsinst K) (tCons (tVar 0) (tCons (tC (.ty "int")) tNil))) (tNotV (tCB (rIsinst K) (tCons (tVar 0) (tCons (tC (.ty "bool")) tNil))))))
def tb__law_int (K:PySem.W.Frag):TS :=
  (tRet (tAndV (tCB (rIsinst K) (tCons (tVar 0) (tCons (tC (.ty "int")) tNil))) (tNotV (tCB (rIsinst K) (tCons (tVar 0) (tCons (tC (.ty "bool")) tNil))))))
abbrev Rt (Q:VK):Ends:={ nx:=fun _ H'=>Q .non H',rt:=Q }
theorem rd_is_int {K:PySem.W.Frag} {a:V} {H:Hp} {Q:VK} {E:XK} (h:sb_is_int K a H Q E):tb_is_int K (Rt Q) [some a] H:=by
  obtain ⟨t,b,ty,hi,q⟩:=h
  obtain ⟨c,e,h1,h2⟩:=kit_int (K:=K) hi
  unfold tb_is_int
  refine w_ret (w_andV (w_cb (w_cons (w_var rfl (w_cons (w_c (w_nil ?_)))))))
  refine ⟨a,"int",t,c,rfl,ty,e,w_bl ?_⟩
  refine iteB (fun z=>?_) (fun z=>?_)
  · obtain ⟨d,e2,hb⟩:=h2 z
    refine w_notV (w_cb (w_cons (w_var rfl (w_cons (w_c (w_nil ?_))))))
    refine ⟨a,"bool",t,d,rfl,ty,e2,w_bl ?_⟩
    rw [← hb]; exact q
  · rw [← h1 z]; exact q
theorem rd__law_int {K:PySem.W.Frag} {a:V} {H:Hp} {Q:VK} {E:XK} (h:sb_is_int K a H Q E):tb__law_int K (Rt Q) [some a] H:=rd_is_int h
theorem kit_tup {K:PySem.W.Frag}:PySem.W.kitOne K (.type "tuple") (.type "tuple")=some true:=by kernel_rfl
theorem at2 {a b:V} {i:Int} (h0:0≤i) (h1:i < 2):∃ v,atI [a,b] i=some v∧(v=a∨v=b):=by
  rcases (by omega:i=0∨i=1) with rfl | rfl
  · exact ⟨a,rfl,.inl rfl⟩
  · exact ⟨b,rfl,.inr rfl⟩
end LB
namespace LB
open PySem L2
end LB
namespace LB
open PySem L2
def sb__law_next (K:PySem.W.Frag) (a:V) (H:Hp) (Q:VK) (E:XK):Prop:=∃ c:Int,a=.int c∧∀ c',0≤c'→c' < 10000000000000000000000000000000000000000→Q (.int c') H
def sp__law_next (K:PySem.W.Frag):Sp:=sp1 (sb__law_next K)
def sb__law_shape (K:PySem.W.Frag) (a b:V) (H:Hp) (Q:VK) (E:XK):Prop:=∃ (c:Int) (n:Nat),a=.int c∧b=.int n∧1≤n∧n≤8 ∧
  ∀ p (ns:List Int) H',H p=none→Same H H'→H' p=some (.lst (ns.map V.int))→ns.length=n→(∀ x∈ns,0≤x∧x < 4)→0 < ns.sum→Q (.ref p) H'
def sp__law_shape (K:PySem.W.Frag):Sp:=sp2 (sb__law_shape K)
def sb__law_best (K:PySem.W.Frag) (a b c:V) (H:Hp) (Q:VK) (E:XK):Prop:=∃ (p1 p2:Addr) (ps ss:List Int) (j:Nat),a=.ref p1∧b=.ref p2∧c=.int j∧H p1=some (.lst (ps.map V.int))∧H p2=some (.lst (ss.map V.int))∧ss.length=ps.length∧ps.length≤8∧j < ps.length ∧
  (∀ x∈ps,0≤x∧x≤1000000000)∧(∀ x∈ss,0≤x∧x < 4)∧∀ r:Int,(r=0∨r=1)→Q (.int r) H
def sp__law_best (K:PySem.W.Frag):Sp:=sp3 (sb__law_best K)
def sb__law_bought (K:PySem.W.Frag) (a b c d e:V) (H:Hp) (Q:VK) (E:XK):Prop:=∃ (w t:Int) (p1 p2 p3:Addr) (ps as ss:List Int),a=.int w∧b=.ref p1∧c=.ref p2∧d=.ref p3∧e=.int t ∧
  H p1=some (.lst (ps.map V.int))∧H p2=some (.lst (as.map V.int))∧H p3=some (.lst (ss.map V.int))∧as.length=ps.length∧ss.length=ps.length∧ps.length≤8∧1≤ps.length ∧
  (∀ x∈ps,1≤x∧x≤1000000000)∧(∀ x∈as,0≤x∧x≤1000000000)∧(∀ x∈ss,0≤x∧x < 4)∧1≤t∧t≤5∧(w=7→∀ x∈ps,x≤8) ∧
  ∀ p (rs:List Int) H',(p=p2∨H p=none)→Same H H'→H' p=some (.lst (rs.map V.int))→rs.length=ps.length→(∀ x∈rs,0≤x∧x≤1000000001)→Q (.ref p) H'
def sp__law_bought (K:PySem.W.Frag):Sp:=sp5 (sb__law_bought K)
def sb__law_price (K:PySem.W.Frag) (a b:V) (H:Hp) (Q:VK) (E:XK):Prop:=∃ (w h:Int),a=.int w∧b=.int h∧∀ (r:Int) H',Same H H'→1≤r→r≤1000000000→(w=7→r≤8)→Q (.int r) H'
def sp__law_price (K:PySem.W.Frag):Sp:=sp2 (sb__law_price K)
def dayD (d:List Int×List Int):PyData:=.tuple [.tuple (d.1.map .int),.tuple (d.2.map .int)]
def bookD (B:List (List Int×List Int)):PyData:=.tuple (B.map dayD)
structure GoodDay (n:Nat) (d:List Int×List Int):Prop where
  l1:d.1.length=n
  l2:d.2.length=n
  pr:∀ x∈d.1,1≤x∧x≤1000000000
  am:∀ x∈d.2,0≤x∧x≤1000000000000000000
  ps:∃ x∈d.2,0 < x
structure GoodBook (m n:Nat) (B:List (List Int×List Int)):Prop where
  n1:1≤n
  n6:n≤6
  m1:1≤B.length
  m8:B.length≤m
  dy:∀ d∈B,GoodDay n d
def sb__law_day (K:PySem.W.Frag) (a b c:V) (H:Hp) (Q:VK) (E:XK):Prop:=∃ (cc w:Int) (p:Addr) (ss:List Int),a=.int cc∧b=.int w∧c=.ref p∧0≤cc∧cc < 10000000000000000000000000000000000000000∧H p=some (.lst (ss.map V.int))∧1≤ss.length∧ss.length≤8∧(∀ x∈ss,0≤x∧x < 4) ∧
  ∀ v d H',Same H H'→Rep H' v (dayD d)→GoodDay ss.length d→(∀ x∈d.2,x≤1000000001)→Q v H'
def sp__law_day (K:PySem.W.Frag):Sp:=sp3 (sb__law_day K)
def sb__law_book (K:PySem.W.Frag) (a b c d:V) (H:Hp) (Q:VK) (E:XK):Prop:=∃ (l:Addr) (ns:List Int) (s m n:Nat),a=.ref l∧b=.int s∧c=.int m∧d=.int n∧SqL K H l (ns.map V.int)∧(∀ n∈ns,Builtin.Int.intBits n≤1048576)∧s≤900∧1≤m∧m≤8∧1≤n∧n≤6 ∧
  ∀ v B k H',Same H H'→Rep H' v (bookD B)→GoodBook m k B→k≤n→(∀ d∈B,∀ x∈d.2,x≤1000000002)→Q v H'
def sp__law_book (K:PySem.W.Frag):Sp:=sp4 (sb__law_book K)
def tb__law_next (K:PySem.W.Frag):TS :=
  (tRet (tOp rModU (tOp (rAddU K) (tOp (rMulU K) (tVar 0) (tC (.int 6364136223846793007))) (tC (.int 1442695040888963407))) (tC (.int 10000000000000000000000000000000000000000))))
def tb__law_shape (K:PySem.W.Frag):TS :=
  (tSeq (tAsg (tLst tNil) (gName 2))
    (tSeq (tFor (iRng1 (tCons (tVar 1) tNil)) (gName 3) (tSeq (tAsg (tCall (sp__law_next K) [] E0 (tCons (tVar 0) tNil)) (gName 0))
    (tDrop (tBM K "list" rAppend (tVar 2) (tCons (tOp rModU (tOp rDivU (tVar 0) (tC (.int 1000000000000000))) (tC (.int 4))) tNil)))))
    (tSeq (tIfS (tTest (tOp (rEqU K) (tCB (rSumU K) (tCons (tVar 2) tNil)) (tC (.int 0)))) (tAsg (tC (.int 1)) (gSub (tVar 2) (tC (.int 0)) rSetL)) tNext)
    (tRet (tVar 2)))))
def tb__law_best (K:PySem.W.Frag):TS :=
  (tSeq (tFor (iRng1 (tCons (tCB (rLenU K) (tCons (tVar 0) tNil)) tNil)) (gName 3) (tIfS (tTest (tOp rGtU (tOp (rMulU K) (tOp (rAddU K) (tC (.int 1)) (tOp (rIx K) (tVar 1) (tVar 3))) (tOp (rIx K) (tVar 0) (tVar 2))) (tOp (rMulU K) (tOp (rAddU K) (tC (.int 1)) (tOp (rIx K) (tVar 1) (tVar 2))) (tOp (rIx K) (tVar 0) (tVar 3))))) (tRet (tC (.int 0))) tNext))
    (tRet (tC (.int 1))))
def tb__law_bought (K:PySem.W.Frag):TS :=
  (tSeq (tIfS (tTest (tOp (rEqU K) (tVar 0) (tC (.int 3)))) (tRet (tComp [none,some 4,some 3] (iRng1 (tCons (tCB (rLenU K) (tCons (tVar 1) tNil)) tNil)) (gName 0) tYes (tOp (rMulU K) (tVar 1) (tOp (rIx K) (tVar 2) (tVar 0))))) tNext)
    (tSeq (tIfS (tTest (tOp (rEqU K) (tVar 0) (tC (.int 4)))) (tRet (tComp [none,some 4,some 3,some 1] (iRng1 (tCons (tCB (rLenU K) (tCons (tVar 1) tNil)) tNil)) (gName 0) tYes (tOp rDivU (tOp (rMulU K) (tOp (rMulU K) (tVar 1) (tOp (rIx K) (tVar 2) (tVar 0))) (tC (.int 12))) (tOp (rIx K) (tVar 3) (tVar 0))))) tNext)
    (tSeq (tIfS (tTest (tOp (rEqU K) (tVar 0) (tC (.int 5)))) (tRet (tComp [none,some 2,some 1,some 3] (iRng1 (tCons (tCB (rLenU K) (tCons (tVar 1) tNil)) tNil)) (gName 0) tYes (tOp (rMulU K) (tOp (rAddU K) (tC (.int 1)) (tOp (rIx K) (tVar 1) (tVar 0))) (tCall (sp__law_best K) [] E0 (tCons (tVar 2) (tCons (tVar 3) (tCons (tVar 0) tNil))))))) tNext)
    (tSeq (tIfS (tTest (tOp (rEqU K) (tVar 0) (tC (.int 6)))) (tRet (tComp [none,some 2,some 1] (iRng1 (tCons (tCB (rLenU K) (tCons (tVar 1) tNil)) tNil)) (gName 0) tYes (tOp (rMulU K) (tOp (rAddU K) (tC (.int 1)) (tOp (rIx K) (tVar 1) (tVar 0))) (tCB (rTy_int K) (tCons (tOp (rEqU K) (tOp (rIx K) (tVar 2) (tVar 0)) (tCB (rMinU K) (tCons (tVar 2) tNil))) tNil))))) tNext)
    (tSeq (tIfS (tTest (tOp (rEqU K) (tVar 0) (tC (.int 7)))) (tRet (tComp [none] (iSeq K (tVar 1)) (gName 0) tYes (tOp rSubU (tC (.int 9)) (tVar 0)))) tNext)
    (tRet (tVar 2)))))))
def tb__law_price (K:PySem.W.Frag):TS :=
  (tSeq (tIfS (tTest (tOp (rEqU K) (tVar 0) (tC (.int 0)))) (tRet (tOp (rAddU K) (tC (.int 1)) (tOp rModU (tVar 1) (tC (.int 3))))) tNext)
    (tSeq (tIfS (tTest (tOp (rEqU K) (tVar 0) (tC (.int 1)))) (tRet (tOp (rAddU K) (tC (.int 1)) (tOp rModU (tVar 1) (tC (.int 5))))) tNext)
    (tSeq (tIfS (tTest (tOp (rEqU K) (tVar 0) (tC (.int 2)))) (tRet (tOp (rAddU K) (tC (.int 1)) (tOp rModU (tVar 1) (tC (.int 1000000000))))) tNext)
    (tSeq (tIfS (tTest (tOp (rEqU K) (tVar 0) (tC (.int 4)))) (tRet (tOp (rIx K) (tLst (tCons (tC (.int 1)) (tCons (tC (.int 2)) (tCons (tC (.int 3)) (tCons (tC (.int 4)) (tCons (tC (.int 6)) (tCons (tC (.int 12)) tNil))))))) (tOp rModU (tVar 1) (tC (.int 6))))) tNext)
    (tRet (tOp (rAddU K) (tC (.int 1)) (tOp rModU (tVar 1) (tC (.int 8)))))))))
def tb__law_day (K:PySem.W.Frag):TS :=
  (tSeq (tAsg (tLst tNil) (gName 3))
    (tSeq (tAsg (tLst tNil) (gName 4))
    (tSeq (tFor (iRng1 (tCons (tCB (rLenU K) (tCons (tVar 2) tNil)) tNil)) (gName 5) (tSeq (tAsg (tCall (sp__law_next K) [] E0 (tCons (tVar 0) tNil)) (gName 0))
    (tSeq (tAsg (tOp rDivU (tVar 0) (tC (.int 1000000000000000))) (gName 6))
    (tSeq (tDrop (tBM K "list" rAppend (tVar 3) (tCons (tCall (sp__law_price K) [] E0 (tCons (tVar 1) (tCons (tVar 6) tNil))) tNil)))
    (tDrop (tBM K "list" rAppend (tVar 4) (tCons (tOp (rIx K) (tLst (tCons (tOp rModU (tOp rDivU (tVar 6) (tC (.int 420))) (tC (.int 4))) (tCons (tOp rModU (tOp rDivU (tVar 6) (tC (.int 1000000000))) (tC (.int 1000000000))) tNil))) (tCB (rTy_int K) (tCons (tOp (rEqU K) (tVar 1) (tC (.int 2))) tNil))) tNil)))))))
    (tSeq (tIfS (tTest (tOp (rEqU K) (tVar 1) (tC (.int 8)))) (tSeq (tAsg (tOp rModU (tOp rDivU (tVar 0) (tC (.int 10000000000000000000000000))) (tCB (rLenU K) (tCons (tVar 3) tNil))) (gName 7))
    (tSeq (tAsg (tComp [none,some 0,some 7,some 2] (iRng1 (tCons (tCB (rLenU K) (tCons (tVar 2) tNil)) tNil)) (gName 0) tYes (tOp (rIx K) (tLst (tCons (tC (.int 9)) (tCons (tOp (rAddU K) (tC (.int 2)) (tOp rModU (tVar 1) (tC (.int 2)))) tNil))) (tCB (rTy_int K) (tCons (tOp (rEqU K) (tVar 0) (tOp rModU (tOp (rAddU K) (tVar 2) (tC (.int 1))) (tCB (rLenU K) (tCons (tVar 3) tNil)))) tNil)))) (gName 3))
    (tSeq (tAsg (tC (.int 3)) (gSub (tVar 3) (tVar 7) rSetL))
    (tAsg (tComp [none,some 7] (iRng1 (tCons (tCB (rLenU K) (tCons (tVar 2) tNil)) tNil)) (gName 0) tYes (tCB (rTy_int K) (tCons (tOp (rEqU K) (tVar 0) (tVar 1)) tNil))) (gName 4))))) tNext)
    (tSeq (tAsg (tCall (sp__law_bought K) [] E0 (tCons (tVar 1) (tCons (tVar 3) (tCons (tVar 4) (tCons (tVar 2) (tCons (tOp (rAddU K) (tC (.int 1)) (tOp rModU (tOp rDivU (tVar 0) (tC (.int 1000000000000000000000000000000))) (tC (.int 5)))) tNil)))))) (gName 4))
    (tSeq (tIfS (tTest (tOp (rEqU K) (tCB (rSumU K) (tCons (tVar 4) tNil)) (tC (.int 0)))) (tAsg (tC (.int 1)) (gSub (tVar 4) (tC (.int 0)) rSetL)) tNext)
    (tRet (tTup (tCons (tCB (rTy_tuple K) (tCons (tVar 3) tNil)) (tCons (tCB (rTy_tuple K) (tCons (tVar 4) tNil)) tNil))))))))))
def tb__law_book (K:PySem.W.Frag):TS :=
  (tSeq (tAsg (tCall (sp__law_cell K) [] E0 (tCons (tVar 0) (tCons (tVar 1) tNil))) (gName 4))
    (tSeq (tAsg (tOp (rIx K) (tLst (tCons (tC (.int 0)) (tCons (tC (.int 1)) (tCons (tC (.int 0)) (tCons (tC (.int 2)) (tCons (tC (.int 8)) (tCons (tC (.int 3)) (tCons (tC (.int 4)) (tCons (tC (.int 5)) (tCons (tC (.int 6)) (tCons (tC (.int 7)) tNil))))))))))) (tOp rModU (tOp rDivU (tVar 4) (tC (.int 8))) (tC (.int 10)))) (gName 5))
    (tSeq (tAsg (tCall (sp__law_shape K) [] E0 (tCons (tVar 4) (tCons (tOp (rAddU K) (tC (.int 1)) (tOp rModU (tVar 4) (tVar 3))) tNil))) (gName 6))
    (tSeq (tAsg (tComp [none,some 0,some 1,some 5,some 6] (iRng1 (tCons (tOp (rAddU K) (tC (.int 1)) (tOp rModU (tOp rDivU (tVar 4) (tC (.int 80))) (tVar 2))) tNil)) (gName 0) tYes (tCall (sp__law_day K) [] E0 (tCons (tCall (sp__law_cell K) [] E0 (tCons (tVar 1) (tCons (tOp (rAddU K) (tOp (rAddU K) (tVar 2) (tC (.int 1))) (tVar 0)) tNil))) (tCons (tVar 3) (tCons (tVar 4) tNil))))) (gName 7))
    (tSeq (tIfS (tTest (tOp (rEqU K) (tOp rModU (tOp rDivU (tVar 4) (tC (.int 1000))) (tC (.int 4))) (tC (.int 0)))) (tSeq (tAsg (tOp rModU (tOp rDivU (tVar 4) (tC (.int 4000))) (tCB (rLenU K) (tCons (tVar 7) tNil))) (gName 8))
    (tSeq (tAsg (tOp rModU (tOp rDivU (tVar 4) (tC (.int 40000))) (tCB (rLenU K) (tCons (tVar 6) tNil))) (gName 9))
    (tSeq (tAsg (tOp (rAddU K) (tOp (rAddU K) (tSl (rSlU K) (tOp (rIx K) (tOp (rIx K) (tVar 7) (tVar 8)) (tC (.int 1))) tNoPart (tPart (tVar 9))) (tTup (tCons (tOp (rAddU K) (tOp (rIx K) (tOp (rIx K) (tOp (rIx K) (tVar 7) (tVar 8)) (tC (.int 1))) (tVar 9)) (tC (.int 1))) tNil))) (tSl (rSlU K) (tOp (rIx K) (tOp (rIx K) (tVar 7) (tVar 8)) (tC (.int 1))) (tPart (tOp (rAddU K) (tVar 9) (tC (.int 1)))) tNoPart)) (gName 10))
    (tAsg (tTup (tCons (tOp (rIx K) (tOp (rIx K) (tVar 7) (tVar 8)) (tC (.int 0))) (tCons (tVar 10) tNil))) (gSub (tVar 7) (tVar 8) rSetL))))) tNext)
    (tRet (tCB (rTy_tuple K) (tCons (tVar 7) tNil))))))))
theorem rd__law_next {K:PySem.W.Frag} {a:V} {H:Hp} {Q:VK} {E:XK} (h:sb__law_next K a H Q E):tb__law_next K (Rt Q) [some a] H:=by
  obtain ⟨c,rfl,q⟩:=h
  unfold tb__law_next
  exact w_ret (w_op (w_op (w_op (w_var rfl (w_c (w_mulI (mulok_r (by decide) (by decide)) (w_c (w_addI (w_c (w_modI (by decide) (q _ (Int.emod_nonneg _ (by decide)) (Int.emod_lt_of_pos _ (by decide)))))))))))))
theorem rd__law_shape {K:PySem.W.Frag} {a b:V} {H:Hp} {Q:VK} {E:XK} (h:sb__law_shape K a b H Q E):tb__law_shape K (Rt Q) [some a,some b,none,none] H:=by
  obtain ⟨c,n,rfl,rfl,n1,n8,q⟩:=h
  unfold tb__law_shape
  refine w_seq (w_asg (w_lst (w_nil ⟨Nat.zero_le _,fun p hp=>w_name ?_⟩)))
  refine w_seq (w_for (w_rng1 (w_cons (w_var rfl (w_nil (⟨_,rfl,(rng_ok (by omega)).1,(rng_ok (by omega)).2,(for_range0 (fun i σ H2=>∃ (c:Int) (ns:List Int) (r:Option V),σ=[some (.int c),some (.int n),some (.ref p),r]∧Same H H2∧H2 p=some (.lst (ns.map V.int))∧ns.length=i∧∀ x∈ns,0≤x∧x < 4)
    ⟨c,[],none,rfl,Same.laid hp,upd_same,rfl,fun x hx=>by simp at hx⟩ ?_ ?_)⟩))))))
  · rintro i σ H2 hi ⟨c,ns,r,rfl,s,hp2,hl,hx⟩
    refine w_name (w_seq (w_asg (w_call (w_cons (w_var rfl (w_nil ⟨_,rfl,c,rfl,fun c' d0 d1=>w_name ?_⟩))))))
    refine w_drop (w_bm (w_var rfl ⟨tyV_lst hp2,w_cons (w_op (w_op (w_var rfl (w_c (w_divI (by decide) (by decide) (w_c (w_modI (by decide) (w_nil (w_append hp2 (small1000 (by rw [List.length_map]; omega)) ?_)))))))))⟩))
    refine ⟨c',ns ++ [c' / 1000000000000000 % 4],_,rfl,s.put hp,by rw [upd_same,List.map_append]; rfl,by simp [hl],fun x hx'=>?_⟩
    rcases List.mem_append.mp hx' with e | e
    · exact hx x e
    · rw [List.mem_singleton.mp e]
      exact ⟨Int.emod_nonneg _ (by decide),Int.emod_lt_of_pos _ (by decide)⟩
  · rintro σ H2 ⟨c,ns,r,rfl,s,hp2,hl,hx⟩
    refine w_seq (w_ifS (w_test (w_op (w_cb (w_cons (w_var rfl (w_nil (w_sumA (.inl (SqL.of hp2)) (w_c (w_eqI (w_bl (iteD (fun hz=>?_) fun hz=>?_))))))))))))
    · refine w_asg (w_c (w_sub (w_var rfl (w_c (w_setL hp2 (ixN_at (by decide) (by rw [List.length_map]; omega)) ?_)))))
      refine w_ret (w_var rfl (q p (ns.set 0 1) _ hp (s.put hp) (by rw [upd_same,map_set_int]; rfl) (by rw [List.length_set]; exact hl) (fun x hx'=>?_) ?_))
      · rcases List.mem_or_eq_of_mem_set hx' with e | e
        · exact hx x e
        · subst e; decide
      · refine sum_pos_of (x:=1) (fun y hy=>?_) ?_ (by decide)
        · rcases List.mem_or_eq_of_mem_set hy with e | e
          · exact (hx y e).1
          · subst e; decide
        · exact List.mem_set (by omega) 1
    · refine w_next (w_ret (w_var rfl (q p ns H2 hp s hp2 hl hx ?_)))
      have:=sum_nn (ns:=ns) fun x h=>(hx x h).1
      omega
theorem rd__law_best {K:PySem.W.Frag} {a b c:V} {H:Hp} {Q:VK} {E:XK} (h:sb__law_best K a b c H Q E):tb__law_best K (Rt Q) [some a,some b,some c,none] H:=by
  obtain ⟨p1,p2,ps,ss,j,rfl,rfl,rfl,h1,h2,hl,hn,hj,hps,hss,q⟩:=h
  unfold tb__law_best
  refine w_seq (w_for (w_rng1 (w_cons (w_cb (w_cons (w_var rfl (w_nil (w_lenL (SqL.of h1) (w_nil (⟨_,rfl,(rng_ok (by rw [List.length_map]; omega)).1,(rng_ok (by rw [List.length_map]; omega)).2,(for_range0 (fun i σ H2=>H2=H∧∃ r,σ=[some (.ref p1),some (.ref p2),some (.int j),r]) ⟨rfl,none,rfl⟩ ?_ ?_)⟩))))))))))
  · rintro i σ H2 hi ⟨rfl,r,rfl⟩
    rw [List.length_map] at hi
    have b1:=hps _ (getD_in hj)
    have b2:=hps _ (getD_in hi)
    have c1:=hss _ (getD_in (show j < ss.length by omega))
    have c2:=hss _ (getD_in (show i < ss.length by omega))
    refine w_name (w_ifS (w_test (w_op (w_op (w_op (w_c (w_op (w_var rfl (w_var rfl (w_ixL (SqL.of h2) (ixi (by omega)) (w_addI (w_op (w_var rfl (w_var rfl (w_ixL (SqL.of h1) (ixi hj) (w_mulI (mulok_l (by omega) (by omega)) ?_))))))))))))))))
    refine w_op (w_op (w_c (w_op (w_var rfl (w_var rfl (w_ixL (SqL.of h2) (ixi (by omega)) (w_addI (w_op (w_var rfl (w_var rfl (w_ixL (SqL.of h1) (ixi hi) (w_mulI (mulok_l (by omega) (by omega)) (w_gtI (w_bl (iteB (fun _=>w_ret (w_c (q 0 (.inl rfl)))) fun _=>w_next ⟨rfl,_,rfl⟩)))))))))))))))
  · rintro σ H2 ⟨rfl,r,rfl⟩
    exact q 1 (.inr rfl)
theorem rd_wares {K:PySem.W.Frag} {H:Hp} {σ σr:St} {l:List (Option Nat)} {te:TE} {p1:Addr} {ps:List Int} {m:Nat} {Q:VK} (hσ:σ[m]?=some (some (.ref p1))) (h1:H p1=some (.lst (ps.map V.int))) (hn:ps.length≤8) (hini:∃ r0,iniOf l σ=r0 :: σr) (Good:Nat→Int→Prop)
    (hs:∀ i H1 (R:VK),i < ps.length→Same H H1→(∀ x H2,Same H1 H2→Good i x→R (.int x) H2)→te (some (.int (i:Nat)) :: σr) H1 R)
    (q:∀ p (rs:List Int) H',H p=none→Same H H'→H' p=some (.lst (rs.map V.int))→rs.length=ps.length→(∀ (i:Nat) x,rs[i]?=some x→Good i x)→Q (.ref p) H') :
    tComp l (iRng1 (tCons (tCB (rLenU K) (tCons (tVar m) tNil)) tNil)) (gName 0) tYes te σ H Q:=by
  refine w_comp (w_rng1 (w_cons (w_cb (w_cons (w_var hσ (w_nil (w_lenL (SqL.of h1) (w_nil (⟨_,rfl,(rng_ok (by rw [List.length_map]; omega)).1,(rng_ok (by rw [List.length_map]; omega)).2,fun D hD=>?_⟩)))))))))
  rw [List.length_map]
  refine comp_rangeP D (fun i v _=>∃ x,v=.int x∧Good i x) (fun _ _ _ _ _ z=>z) (by omega) hD hini (fun i H1 R hi s1 k=>hs i H1 R hi s1 fun x H2 s2 g=>k _ H2 s2 ⟨x,rfl,g⟩) (fun ys H1 hy hall s1 hD1=>?_)
  obtain ⟨rs,rfl,hr⟩:=all_ints hall
  exact q D rs H1 hD s1 hD1 (by simpa using hy) hr
theorem all_of_get {rs:List Int} {P:Int→Prop} (h:∀ (i:Nat) x,rs[i]?=some x→P x):∀ x∈rs,P x:=fun x hx=>by
  obtain ⟨i,hi,e⟩:=List.mem_iff_getElem.mp hx
  exact h i x (by rw [List.getElem?_eq_getElem hi,e])
theorem rd__law_bought {K:PySem.W.Frag} {a b c d e:V} {H:Hp} {Q:VK} {E:XK} (h:sb__law_bought K a b c d e H Q E):tb__law_bought K (Rt Q) [some a,some b,some c,some d,some e] H:=by
  obtain ⟨w,t,p1,p2,p3,ps,as,ss,rfl,rfl,rfl,rfl,rfl,h1,h2,h3,l2,l3,n8,n1,hps,has,hss,t1,t5,h7,q⟩:=h
  unfold tb__law_bought
  have fin:∀ p (rs:List Int) H',H p=none→Same H H'→H' p=some (.lst (rs.map V.int))→rs.length=ps.length→(∀ (i:Nat) x,rs[i]?=some x→0≤x∧x≤1000000001)→Q (.ref p) H':=fun p rs H' hp s hp' hl hr=>q p rs H' (.inr hp) s hp' hl (all_of_get hr)
  refine w_seq (w_ifS (w_test (w_op (w_var rfl (w_c (w_eqI (w_bl (iteD (fun _=>?_) fun _=>w_next ?_))))))))
  · refine w_ret (rd_wares rfl h1 n8 ⟨_,rfl⟩ (fun _ x=>0≤x∧x≤1000000001) (fun i H1 R hi s1 k=>?_) fin)
    have b:=hss _ (getD_in (show i < ss.length by omega))
    refine w_op (w_var rfl (w_op (w_var rfl (w_var rfl (w_ixL (SqL.of (s1 _ _ h3)) (ixi (by omega)) (w_mulI (mulok_l (by omega) (by omega)) (k _ _ (Same.refl _) ?_)))))))
    have e1:t * ss.getD i 0≤5 * 3:=Int.mul_le_mul t5 (by omega) b.1 (by decide)
    exact ⟨Int.mul_nonneg (by omega) b.1,by omega⟩
  refine w_seq (w_ifS (w_test (w_op (w_var rfl (w_c (w_eqI (w_bl (iteD (fun _=>?_) fun _=>w_next ?_))))))))
  · refine w_ret (rd_wares rfl h1 n8 ⟨_,rfl⟩ (fun _ x=>0≤x∧x≤1000000001) (fun i H1 R hi s1 k=>?_) fin)
    have b:=hss _ (getD_in (show i < ss.length by omega))
    have c:=hps _ (getD_in hi)
    have e1:t * ss.getD i 0≤5 * 3:=Int.mul_le_mul t5 (by omega) b.1 (by decide)
    have e0:0≤t * ss.getD i 0:=Int.mul_nonneg (by omega) b.1
    refine w_op (w_op (w_op (w_var rfl (w_op (w_var rfl (w_var rfl (w_ixL (SqL.of (s1 _ _ h3)) (ixi (by omega)) (w_mulI (mulok_l (by omega) (by omega)) (w_c (w_mulI (mulok_l (by omega) (by omega)) ?_))))))))))
    refine w_op (w_var rfl (w_var rfl (w_ixL (SqL.of (s1 _ _ h1)) (ixi hi) (w_divI (by omega) (by omega) (k _ _ (Same.refl _) ?_)))))
    refine ⟨Int.ediv_nonneg (by omega) (by omega),Int.le_trans (Int.ediv_le_self _ (by omega)) (by omega)⟩
  refine w_seq (w_ifS (w_test (w_op (w_var rfl (w_c (w_eqI (w_bl (iteD (fun _=>?_) fun _=>w_next ?_))))))))
  · refine w_ret (rd_wares rfl h1 n8 ⟨_,rfl⟩ (fun _ x=>0≤x∧x≤1000000001) (fun i H1 R hi s1 k=>?_) fin)
    have b:=has _ (getD_in (show i < as.length by omega))
    refine w_op (w_op (w_c (w_op (w_var rfl (w_var rfl (w_ixL (SqL.of (s1 _ _ h2)) (ixi (by omega)) (w_addI ?_)))))))
    refine w_call (w_cons (w_var rfl (w_cons (w_var rfl (w_cons (w_var rfl (w_nil ?_)))))))
    refine ⟨_,_,_,rfl,p1,p3,ps,ss,i,rfl,rfl,rfl,s1 _ _ h1,s1 _ _ h3,l3,n8,hi,fun x hx=>⟨by have:=(hps x hx).1; omega,(hps x hx).2⟩,hss,fun r hr=>w_mulI (mulok_l (by omega) (by omega)) (k _ _ (Same.refl _) ?_)⟩
    rcases hr with rfl | rfl <;> omega
  refine w_seq (w_ifS (w_test (w_op (w_var rfl (w_c (w_eqI (w_bl (iteD (fun _=>?_) fun _=>w_next ?_))))))))
  · refine w_ret (rd_wares rfl h1 n8 ⟨_,rfl⟩ (fun _ x=>0≤x∧x≤1000000001) (fun i H1 R hi s1 k=>?_) fin)
    have b:=has _ (getD_in (show i < as.length by omega))
    refine w_op (w_op (w_c (w_op (w_var rfl (w_var rfl (w_ixL (SqL.of (s1 _ _ h2)) (ixi (by omega)) (w_addI ?_)))))))
    refine w_cb (w_cons (w_op (w_op (w_var rfl (w_var rfl (w_ixL (SqL.of (s1 _ _ h1)) (ixi hi) (w_cb (w_cons (w_var rfl (w_nil ?_))))))))))
    refine ⟨p1,ps,rfl,.inl (SqL.of (s1 _ _ h1)),fun z=>by subst z; simp at n1,fun mm _ _=>w_eqI (w_nil (w_intB (w_mulI (mulok_l (by omega) (by omega)) (k _ _ (Same.refl _) ?_))))⟩
    split <;> omega
  refine w_seq (w_ifS (w_test (w_op (w_var rfl (w_c (w_eqI (w_bl (iteD (fun hw=>?_) fun _=>w_next ?_))))))))
  · refine w_ret (w_comp (w_seq0 (w_var rfl (⟨_,rfl,.inl ⟨⟨_,SqL.of h1⟩,fun D hD=>?_⟩⟩))))
    refine comp_seqP (K:=K) (a:=p1) (.inr ⟨rfl,h1⟩) D (fun i v _=>∃ x,v=.int x∧0≤x∧x≤1000000001) (fun _ _ _ _ _ z=>z) (by rw [List.length_map]; omega) hD ⟨_,rfl⟩ (fun i x H1 R hi s1 k=>?_) (fun ys H1 hy hall s1 hD1=>?_)
    · have hi':i < ps.length:=by have:=(List.getElem?_eq_some_iff.mp hi).1; simpa using this
      rw [get_ints hi'] at hi
      cases hi
      have b:=hps _ (getD_in hi')
      have b8:=h7 hw _ (getD_in hi')
      exact w_op (w_c (w_var rfl (w_subI (k _ _ (Same.refl _) ⟨_,rfl,by omega,by omega⟩))))
    · obtain ⟨rs,rfl,hr⟩:=all_ints hall
      exact fin D rs H1 hD s1 hD1 (by simpa using hy) hr
  exact w_ret (w_var rfl (q p2 as H (.inl rfl) (Same.refl _) h2 l2 fun x hx=>⟨(has x hx).1,by have:=(has x hx).2; omega⟩))
theorem rd__law_price {K:PySem.W.Frag} {a b:V} {H:Hp} {Q:VK} {E:XK} (h:sb__law_price K a b H Q E):tb__law_price K (Rt Q) [some a,some b] H:=by
  obtain ⟨w,h,rfl,rfl,q⟩:=h
  unfold tb__law_price
  refine w_seq (w_ifS (w_test (w_op (w_var rfl (w_c (w_eqI (w_bl (iteD (fun hw=>?_) fun _=>w_next ?_))))))))
  · refine w_ret (w_op (w_c (w_op (w_var rfl (w_c (w_modI (by decide) (w_addI (q _ _ (Same.refl _) (by omega) (by omega) (by omega)))))))))
  refine w_seq (w_ifS (w_test (w_op (w_var rfl (w_c (w_eqI (w_bl (iteD (fun hw=>?_) fun _=>w_next ?_))))))))
  · refine w_ret (w_op (w_c (w_op (w_var rfl (w_c (w_modI (by decide) (w_addI (q _ _ (Same.refl _) (by omega) (by omega) (by omega)))))))))
  refine w_seq (w_ifS (w_test (w_op (w_var rfl (w_c (w_eqI (w_bl (iteD (fun hw=>?_) fun _=>w_next ?_))))))))
  · refine w_ret (w_op (w_c (w_op (w_var rfl (w_c (w_modI (by decide) (w_addI (q _ _ (Same.refl _) (by omega) (by omega) (by omega)))))))))
  refine w_seq (w_ifS (w_test (w_op (w_var rfl (w_c (w_eqI (w_bl (iteD (fun hw=>?_) fun _=>w_next ?_))))))))
  · refine w_ret (w_op (w_lst (w_cons (w_c (w_cons (w_c (w_cons (w_c (w_cons (w_c (w_cons (w_c (w_cons (w_c (w_nil ⟨by show 6≤sizeLine; decide,fun p hp=>?_⟩)))))))))))))))
    refine w_op (w_var rfl (w_c (w_modI (by decide) ?_)))
    have r0:=Int.emod_nonneg h (show (6:Int)≠0 by decide)
    have r1:=Int.emod_lt_of_pos h (show (0:Int) < 6 by decide)
    generalize h % 6=m at r0 r1 ⊢
    have:∃ r:Int,atI [V.int 1,.int 2,.int 3,.int 4,.int 6,.int 12] m=some (.int r)∧1≤r∧r≤12:=by
      rcases (by omega:m=0∨m=1∨m=2∨m=3∨m=4∨m=5) with rfl | rfl | rfl | rfl | rfl | rfl
      · exact ⟨1,rfl,by decide,by decide⟩
      · exact ⟨2,rfl,by decide,by decide⟩
      · exact ⟨3,rfl,by decide,by decide⟩
      · exact ⟨4,rfl,by decide,by decide⟩
      · exact ⟨6,rfl,by decide,by decide⟩
      · exact ⟨12,rfl,by decide,by decide⟩
    obtain ⟨r,e,r1,r2⟩:=this
    exact w_ixL (SqL.of upd_same) e (q r _ (Same.laid hp) r1 (by omega) (by omega))
  refine w_ret (w_op (w_c (w_op (w_var rfl (w_c (w_modI (by decide) (w_addI (q _ _ (Same.refl _) (by omega) (by omega) (by omega)))))))))
end LB
namespace LB
open PySem L2
theorem w_cat {K:PySem.W.Frag} {H:Hp} {Q:VK} {a b:Addr} {xs ys:List V} (h1:H a=some (.tup xs)) (h2:H b=some (.tup ys)) (hz:xs.length + ys.length≤1000) (k:∀ p H',Same H H'→H' p=some (.tup (xs ++ ys))→Q (.ref p) H'):rAddU K (.ref a) (.ref b) H Q:=by
  by_cases hx:xs=[]
  · subst hx
    exact .inr (.inr (.inl ⟨a,b,ys,rfl,rfl,SqT.of h1,SqT.of h2,k b H (Same.refl _) (by simpa using h2)⟩))
  · exact .inr (.inl ⟨a,b,xs,ys,rfl,rfl,SqT.of h1,SqT.of h2,hx,small9 hz,fun z=>k a H (Same.refl _) (by subst z; simpa using h1),fun _ p hp=>k p _ (Same.laid hp) upd_same⟩)
theorem w_cutTo {K:PySem.W.Frag} {H:Hp} {Q:VK} {a:Addr} {xs:List V} {j:Nat} (h:H a=some (.tup xs)) (hj:j < xs.length) (k:∀ p H',Same H H'→H' p=some (.tup (xs.take j))→Q (.ref p) H'):rSlU K (.ref a) none (some (j:Int)) H Q:=by
  have e1:HT.sIx xs.length xs.length (some (j:Int))=j:=by rw [HT.sIx_nat]; omega
  have e0:HT.sIx xs.length 0 none=0:=rfl
  refine .inl ⟨a,xs,rfl,SqT.of h,fun z=>by rw [e1] at z; omega,fun p hp=>k p _ (Same.laid hp) ?_⟩
  rw [upd_same]
  unfold cutV
  rw [e1,e0]; simp
theorem w_cutFrom {K:PySem.W.Frag} {H:Hp} {Q:VK} {a:Addr} {xs:List V} {j:Nat} {i:Int} (h:H a=some (.tup xs)) (hi:i=(j:Int)) (h0:0 < j) (hj:j≤xs.length) (k:∀ p H',Same H H'→H' p=some (.tup (xs.drop j))→Q (.ref p) H'):rSlU K (.ref a) (some i) none H Q:=by
  subst hi
  have e1:HT.sIx xs.length 0 (some (j:Int))=j:=by rw [HT.sIx_nat]; omega
  have e0:HT.sIx xs.length xs.length none=xs.length:=rfl
  refine .inl ⟨a,xs,rfl,SqT.of h,fun z=>by rw [e1] at z; omega,fun p hp=>k p _ (Same.laid hp) ?_⟩
  rw [upd_same]
  unfold cutV
  rw [e1,e0,List.take_of_length_le (by rw [List.length_drop]; omega)]
theorem rep_day {H:Hp} {p p1 p2:Addr} {d:List Int×List Int} (h:H p=some (.tup [.ref p1,.ref p2])) (h1:H p1=some (.tup (d.1.map V.int))) (h2:H p2=some (.tup (d.2.map V.int))):Rep H (.ref p) (dayD d):=by
  unfold dayD Rep
  refine ⟨p,_,rfl,h,?_⟩
  unfold Reps
  refine ⟨_,_,rfl,by unfold Rep; exact ⟨p1,_,rfl,h1,Reps.ints _⟩,?_⟩
  unfold Reps
  refine ⟨_,_,rfl,by unfold Rep; exact ⟨p2,_,rfl,h2,Reps.ints _⟩,?_⟩
  unfold Reps
  rfl
theorem reps_ints {H:Hp}:∀ {ns:List Int} {xs:List V},Reps H xs (ns.map PyData.int)→xs=ns.map V.int
  | [],xs,h=>by unfold List.map Reps at h; exact h
  | n :: ns,xs,h=>by
    rw [List.map_cons] at h
    unfold Reps at h
    obtain ⟨x,r,rfl,h1,h2⟩:=h
    unfold Rep at h1
    rw [h1,reps_ints h2]; rfl
theorem day_rep {H:Hp} {v:V} {d:List Int×List Int} (h:Rep H v (dayD d)):∃ p p1 p2,v=.ref p∧H p=some (.tup [.ref p1,.ref p2])∧H p1=some (.tup (d.1.map V.int))∧H p2=some (.tup (d.2.map V.int)):=by
  unfold dayD Rep at h
  obtain ⟨p,xs,rfl,hp,rs⟩:=h
  unfold Reps at rs
  obtain ⟨x0,r1,rfl,rd0,rs⟩:=rs
  unfold Reps at rs
  obtain ⟨x1,r2,rfl,rd1,rs⟩:=rs
  unfold Reps at rs
  subst rs
  unfold Rep at rd0 rd1
  obtain ⟨p1,ys1,rfl,h1,q1⟩:=rd0
  obtain ⟨p2,ys2,rfl,h2,q2⟩:=rd1
  rw [reps_ints q1] at h1
  rw [reps_ints q2] at h2
  exact ⟨p,p1,p2,rfl,hp,h1,h2⟩
theorem noL_ints:∀ (ns:List Int),noLs (ns.map PyData.int)=true
  | []=>rfl
  | n :: ns=>by
    show (noL (.int n) && noLs (ns.map PyData.int))=true
    rw [noL_ints ns]; rfl
theorem noL_day (d:List Int×List Int):noL (dayD d)=true:=by
  unfold dayD
  simp only [noL,noLs,noL_ints,Bool.and_self]
theorem rd__law_day {K:PySem.W.Frag} {a b c:V} {H:Hp} {Q:VK} {E:XK} (h:sb__law_day K a b c H Q E):tb__law_day K (Rt Q) [some a,some b,some c,none,none,none,none,none] H:=by
  obtain ⟨cc,w,p,ss,rfl,rfl,rfl,c0,c1,hp,n1,n8,hss,q⟩:=h
  unfold tb__law_day
  refine w_seq (w_asg (w_lst (w_nil ⟨Nat.zero_le _,fun a1 ha1=>w_name ?_⟩)))
  refine w_seq (w_asg (w_lst (w_nil ⟨Nat.zero_le _,fun a2 ha2=>w_name ?_⟩)))
  have n12:a1≠a2:=ne_of_none upd_same ha2
  have ha2':H a2=none:=(Same.laid ha1).free ha2
  have tail:∀ (c:Int) (b1 b2:Addr) (ps as:List Int) (r5 r6 r7:Option V) (H2:Hp),Same H H2→H b1=none→H b2=none→b1≠b2→H2 b1=some (.lst (ps.map V.int))→H2 b2=some (.lst (as.map V.int))→ps.length=ss.length→as.length=ss.length →
      (∀ x∈ps,1≤x∧x≤1000000000)→(w=7→∀ x∈ps,x≤8)→(∀ x∈as,0≤x∧x≤1000000000) →
      (tSeq (tAsg (tCall (sp__law_bought K) [] E0 (tCons (tVar 1) (tCons (tVar 3) (tCons (tVar 4) (tCons (tVar 2) (tCons (tOp (rAddU K) (tC (.int 1)) (tOp rModU (tOp rDivU (tVar 0) (tC (.int 1000000000000000000000000000000))) (tC (.int 5)))) tNil)))))) (gName 4))
        (tSeq (tIfS (tTest (tOp (rEqU K) (tCB (rSumU K) (tCons (tVar 4) tNil)) (tC (.int 0)))) (tAsg (tC (.int 1)) (gSub (tVar 4) (tC (.int 0)) rSetL)) tNext)
        (tRet (tTup (tCons (tCB (rTy_tuple K) (tCons (tVar 3) tNil)) (tCons (tCB (rTy_tuple K) (tCons (tVar 4) tNil)) tNil)))))) (Rt Q) [some (.int c),some (.int w),some (.ref p),some (.ref b1),some (.ref b2),r5,r6,r7] H2:=by
    intro c b1 b2 ps as r5 r6 r7 H2 s2 f1 f2 nb h1 h2 l1 l2 hps h7 has
    have t0:=Int.emod_nonneg (c / 1000000000000000000000000000000) (show (5:Int)≠0 by decide)
    have t1:=Int.emod_lt_of_pos (c / 1000000000000000000000000000000) (show (0:Int) < 5 by decide)
    refine w_seq (w_asg (w_call (w_cons (w_var rfl (w_cons (w_var rfl (w_cons (w_var rfl (w_cons (w_var rfl (w_cons (w_op (w_c (w_op (w_op (w_var rfl (w_c (w_divI (by decide) (by decide) (w_c (w_modI (by decide) (w_addI (w_nil ?_))))))))))))))))))))))
    refine ⟨_,_,_,_,_,rfl,w,_,b1,b2,p,ps,as,ss,rfl,rfl,rfl,rfl,rfl,h1,h2,s2 _ _ hp,by omega,by omega,by omega,by omega,hps,has,hss,by omega,by omega,h7,fun p4 rs H3 hp4 s3 h4 hl hr=>w_name ?_⟩
    have f4:H p4=none:=by
      rcases hp4 with e | e
      · rw [e]; exact f2
      · exact s2.free e
    have n4:b1≠p4:=by
      rcases hp4 with e | e
      · rw [e]; exact nb
      · exact ne_of_none h1 e
    have fin:∀ (rs:List Int) (H4:Hp),Same H H4→H4 b1=some (.lst (ps.map V.int))→H4 p4=some (.lst (rs.map V.int))→rs.length=ss.length→(∀ x∈rs,0≤x∧x≤1000000001)→(∃ x∈rs,0 < x) →
        (tRet (tTup (tCons (tCB (rTy_tuple K) (tCons (tVar 3) tNil)) (tCons (tCB (rTy_tuple K) (tCons (tVar 4) tNil)) tNil)))) (Rt Q) [some (.int c),some (.int w),some (.ref p),some (.ref b1),some (.ref p4),r5,r6,r7] H4:=by
      intro rs H4 s4 g1 g4 hl hr hpos
      refine w_ret (w_tup (w_cons (w_cb (w_cons (w_var rfl (w_nil (w_tupL (SqL.of g1) fun u1 hu1=>?_)))))))
      have e4:upd H4 u1 (.tup (ps.map V.int)) p4=some (.lst (rs.map V.int)):=Same.laid hu1 _ _ g4
      refine w_cons (w_cb (w_cons (w_var rfl (w_nil (w_tupL (SqL.of e4) fun u2 hu2=>w_nil ⟨by show 2≤sizeLine; decide,fun u3 hu3=>?_⟩)))))
      refine q _ (ps,rs) _ ((s4.laidT hu1).laidT hu2 |>.laidT hu3) (rep_day upd_same ?_ ?_) ⟨l1,hl,hps,fun x hx=>⟨(hr x hx).1,by have:=(hr x hx).2; omega⟩,hpos⟩ fun x hx=>(hr x hx).2
      · exact Same.laid hu3 _ _ (Same.laid hu2 _ _ upd_same)
      · exact Same.laid hu3 _ _ upd_same
    refine w_seq (w_ifS (w_test (w_op (w_cb (w_cons (w_var rfl (w_nil (w_sumA (.inl (SqL.of h4)) (w_c (w_eqI (w_bl (iteD (fun hz=>?_) fun hz=>?_))))))))))))
    · refine w_asg (w_c (w_sub (w_var rfl (w_c (w_setL h4 (ixN_at (by decide) (by rw [List.length_map]; omega)) ?_)))))
      refine fin (rs.set 0 1) _ ((s2.trans s3).put f4) (by rw [upd_ne n4]; exact s3 _ _ h1) (by rw [upd_same,map_set_int]; rfl) (by rw [List.length_set]; omega) (fun x hx=>?_) ⟨1,List.mem_set (by omega) 1,by decide⟩
      rcases List.mem_or_eq_of_mem_set hx with e | e
      · exact hr x e
      · subst e; decide
    · exact w_next (fin rs H3 (s2.trans s3) (s3 _ _ h1) h4 (by omega) hr (pos_of_sum (fun y hy=>(hr y hy).1) hz))
  refine w_seq (w_for (w_rng1 (w_cons (w_cb (w_cons (w_var rfl (w_nil (w_lenL (xs:=ss.map V.int) (SqL.of ?hp1) (w_nil (⟨_,rfl,(rng_ok (by rw [List.length_map]; omega)).1,(rng_ok (by rw [List.length_map]; omega)).2,(for_range0 (fun i σ H2=>∃ (c:Int) (ps as:List Int) (r5 r6:Option V),σ=[some (.int c),some (.int w),some (.ref p),some (.ref a1),some (.ref a2),r5,r6,none]∧0≤c∧Same H H2 ∧
      H2 a1=some (.lst (ps.map V.int))∧H2 a2=some (.lst (as.map V.int))∧ps.length=i∧as.length=i∧(∀ x∈ps,1≤x∧x≤1000000000)∧(w=7→∀ x∈ps,x≤8)∧∀ x∈as,0≤x∧x≤1000000000) ⟨cc,[],[],none,none,rfl,c0,(Same.laid ha1).laidT ha2,by rw [upd_ne n12]; exact upd_same,upd_same,rfl,rfl,fun x hx=>by simp at hx,fun _ x hx=>by simp at hx,fun x hx=>by simp at hx⟩ ?step ?done)⟩))))))))))
  case hp1=>exact Same.laid ha2 _ _ (Same.laid ha1 _ _ hp)
  case step =>
    rintro i σ H2 hi ⟨c,ps,as,r5,r6,rfl,d0,s,h1,h2,l1,l2,hps,h7,has⟩
    rw [List.length_map] at hi
    refine w_name (w_seq (w_asg (w_call (w_cons (w_var rfl (w_nil ⟨_,rfl,c,rfl,fun c' e0 e1=>w_name ?_⟩))))))
    refine w_seq (w_asg (w_op (w_var rfl (w_c (w_divI (by decide) (by decide) (w_name ?_))))))
    have g0:0≤c' / 1000000000000000:=Int.ediv_nonneg e0 (by decide)
    generalize c' / 1000000000000000=hh at g0 ⊢
    refine w_seq (w_drop (w_bm (w_var rfl ⟨tyV_lst h1,w_cons (w_call (w_cons (w_var rfl (w_cons (w_var rfl (w_nil ⟨_,_,rfl,w,hh,rfl,rfl,fun r H3 s3 r1 r2 r7=>w_nil (w_append (s3 _ _ h1) (small1000 (by rw [List.length_map]; omega)) ?_)⟩))))))⟩)))
    have h2':upd H3 a1 (.lst (ps.map V.int ++ [.int r])) a2=some (.lst (as.map V.int)):=by rw [upd_ne n12.symm]; exact s3 _ _ h2
    have sB:Same H (upd H3 a1 (.lst (ps.map V.int ++ [.int r]))):=(s.trans s3).put ha1
    refine w_drop (w_bm (w_var rfl ⟨tyV_lst h2',w_cons (w_op (w_lst (w_cons (w_op (w_op (w_var rfl (w_c (w_divI (by decide) (by decide) (w_c (w_modI (by decide) ?_))))))))))⟩))
    refine w_cons (w_op (w_op (w_var rfl (w_c (w_divI (by decide) (by decide) (w_c (w_modI (by decide) (w_nil ⟨by show 2≤sizeLine; decide,fun a3 ha3=>?_⟩))))))))
    refine w_cb (w_cons (w_op (w_var rfl (w_c (w_eqI (w_nil (w_intB ?_)))))))
    have x0:=Int.emod_nonneg (hh / 420) (show (4:Int)≠0 by decide)
    have x1:=Int.emod_lt_of_pos (hh / 420) (show (0:Int) < 4 by decide)
    have y0:=Int.emod_nonneg (hh / 1000000000) (show (1000000000:Int)≠0 by decide)
    have y1:=Int.emod_lt_of_pos (hh / 1000000000) (show (0:Int) < 1000000000 by decide)
    have i0:0≤(if decide (w=2)=true then (1:Int) else 0):=by split <;> decide
    have i1:(if decide (w=2)=true then (1:Int) else 0) < 2:=by split <;> decide
    obtain ⟨v,ev,hv⟩:=at2 (a:=.int (hh / 420 % 4)) (b:=.int (hh / 1000000000 % 1000000000)) i0 i1
    obtain ⟨x,rfl,hx0,hx1⟩:∃ x:Int,v=.int x∧0≤x∧x≤1000000000:=by
      rcases hv with rfl | rfl
      · exact ⟨_,rfl,by omega,by omega⟩
      · exact ⟨_,rfl,by omega,by omega⟩
    refine w_ixL (SqL.of upd_same) ev (w_nil (w_append (Same.laid ha3 _ _ h2') (small1000 (by rw [List.length_map]; omega)) ?_))
    refine ⟨c',ps ++ [r],as ++ [x],_,_,rfl,e0,(sB.laidT ha3).put ha2',?_,by rw [upd_same,List.map_append]; rfl,by simp [l1],by simp [l2],fun z hz=>?_,fun w7 z hz=>?_,fun z hz=>?_⟩
    · rw [upd_ne n12]
      have:=Same.laid (o:=.lst [.int (hh / 420 % 4),.int (hh / 1000000000 % 1000000000)]) ha3 _ _ (upd_same (H:=H3) (a:=a1) (o:=.lst (ps.map V.int ++ [.int r])))
      rw [this,List.map_append]; rfl
    · rcases List.mem_append.mp hz with e | e
      · exact hps z e
      · rw [List.mem_singleton.mp e]; exact ⟨r1,r2⟩
    · rcases List.mem_append.mp hz with e | e
      · exact h7 w7 z e
      · rw [List.mem_singleton.mp e]; exact r7 w7
    · rcases List.mem_append.mp hz with e | e
      · exact has z e
      · rw [List.mem_singleton.mp e]; exact ⟨hx0,hx1⟩
  case done =>
    rintro σ H2 ⟨c,ps,as,r5,r6,rfl,d0,s,h1,h2,l1,l2,hps,h7,has⟩
    rw [List.length_map] at l1 l2
    refine w_seq (w_ifS (w_test (w_op (w_var rfl (w_c (w_eqI (w_bl (iteD (fun hw=>?_) fun _=>w_next (tail c a1 a2 ps as r5 r6 none H2 s ha1 ha2' n12 h1 h2 l1 l2 hps h7 has)))))))))
    refine w_seq (w_asg (w_op (w_op (w_var rfl (w_c (w_divI (by decide) (by decide) (w_cb (w_cons (w_var rfl (w_nil (w_lenL (SqL.of h1) (w_modI (by rw [List.length_map]; omega) (w_name ?_)))))))))))))
    rw [List.length_map]
    obtain ⟨at',eat,hat⟩:∃ k:Nat,c / 10000000000000000000000000 % (ps.length:Int)=(k:Int)∧k < ss.length:=by
      have r0:=Int.emod_nonneg (c / 10000000000000000000000000) (show (ps.length:Int)≠0 by omega)
      have r1:=Int.emod_lt_of_pos (c / 10000000000000000000000000) (show (0:Int) < ps.length by omega)
      exact ⟨(c / 10000000000000000000000000 % (ps.length:Int)).toNat,by omega,by omega⟩
    rw [eat]
    refine w_seq (w_asg (rd_wares (p1:=p) (ps:=ss) rfl (s _ _ hp) n8 ⟨_,rfl⟩ (fun _ x=>1≤x∧x≤9) (fun i H3 R hi s3 k=>?_) fun b1 qs H3 hb1 s3 g1 gl gq=>w_name ?_))
    · refine w_op (w_lst (w_cons (w_c (w_cons (w_op (w_c (w_op (w_var rfl (w_c (w_modI (by decide) (w_addI (w_nil ⟨by show 2≤sizeLine; decide,fun a3 ha3=>?_⟩))))))))))))
      have hp3:upd H3 a3 (.lst [.int 9,.int (2 + c % 2)]) p=some (.lst (ss.map V.int)):=Same.laid ha3 _ _ (s3 _ _ (s _ _ hp))
      refine w_cb (w_cons (w_op (w_var rfl (w_op (w_op (w_var rfl (w_c (w_addI (w_cb (w_cons (w_var rfl (w_nil (w_lenL (SqL.of hp3) (w_modI (by rw [List.length_map]; omega) (w_eqI (w_nil (w_intB ?_)))))))))))))))))
      generalize (decide ((i:Int)=((at':Int) + 1) % ((ss.map V.int).length:Int)))=bb
      have i0:0≤(if bb=true then (1:Int) else 0):=by split <;> decide
      have i1:(if bb=true then (1:Int) else 0) < 2:=by split <;> decide
      obtain ⟨v,ev,hv⟩:=at2 (a:=.int 9) (b:=.int (2 + c % 2)) i0 i1
      refine w_ixL (SqL.of upd_same) ev ?_
      rcases hv with rfl | rfl
      · exact k _ _ (Same.laid ha3) (by decide)
      · exact k _ _ (Same.laid ha3) (by omega)
    have sb:Same H H3:=s.trans s3
    refine w_seq (w_asg (w_c (w_sub (w_var rfl (w_var rfl (w_setL g1 (ixN_at (by omega) (by rw [List.length_map]; omega)) ?_))))))
    have fb1:H b1=none:=s.free hb1
    have sb2:Same H (upd H3 b1 (.lst ((qs.map V.int).set (at':Int).toNat (.int 3)))):=sb.put fb1
    have gb:upd H3 b1 (.lst ((qs.map V.int).set (at':Int).toNat (.int 3))) b1=some (.lst ((qs.set at' 3).map V.int)):=by rw [upd_same,Int.toNat_natCast,map_set_int]
    refine w_asg (rd_wares (p1:=p) (ps:=ss) rfl (sb2 _ _ hp) n8 ⟨_,rfl⟩ (fun _ x=>0≤x∧x≤1) (fun i H4 R hi s4 k=>?_) fun b2 zs H4 hb2 s4 g2 gl2 gz=>w_name ?_)
    · refine w_cb (w_cons (w_op (w_var rfl (w_var rfl (w_eqI (w_nil (w_intB (k _ _ (Same.refl _) ?_))))))))
      split <;> decide
    have nb12:b1≠b2:=ne_of_none gb hb2
    refine tail c b1 b2 (qs.set at' 3) zs _ _ _ H4 (sb2.trans s4) fb1 (sb2.free hb2) nb12 (s4 _ _ gb) g2 (by rw [List.length_set]; exact gl) gl2 (fun x hx=>?_) (fun w7=>by omega) (fun x hx=>?_)
    · rcases List.mem_or_eq_of_mem_set hx with e | e
      · have:=all_of_get gq x e
        omega
      · subst e; decide
    · have:=all_of_get gz x hx
      omega
theorem days_of {H:Hp} {G:List Int×List Int→Prop}:∀ {ys:List V},(∀ (i:Nat) v,ys[i]?=some v→∃ d,Rep H v (dayD d)∧G d)→∃ B:List (List Int×List Int),Reps H ys (B.map dayD)∧∀ d∈B,G d
  | [],_=>⟨[],by unfold List.map Reps; rfl,fun d hd=>by simp at hd⟩
  | y :: ys,h=>by
    obtain ⟨d,h1,h2⟩:=h 0 y rfl
    obtain ⟨B,h3,h4⟩:=days_of (ys:=ys) fun i v e=>h (i + 1) v (by simpa using e)
    refine ⟨d :: B,?_,fun e he=>?_⟩
    · rw [List.map_cons]
      unfold Reps
      exact ⟨y,ys,rfl,h1,h3⟩
    · rcases List.mem_cons.mp he with z | z
      · rw [z]; exact h2
      · exact h4 e z
theorem Reps.set {H:Hp}:∀ {ds:List PyData} {xs:List V} (k:Nat) {x:V} {d:PyData},Reps H xs ds→Rep H x d→Reps H (xs.set k x) (ds.set k d)
  | [],_,k,_,_,h,_=>by unfold Reps at h; subst h; unfold List.set Reps; rfl
  | e :: ds,_,0,x,d,h,r=>by
    unfold Reps at h
    obtain ⟨y,t,rfl,h1,h2⟩:=h
    show Reps H (x :: t) (d :: ds)
    unfold Reps
    exact ⟨x,t,rfl,r,h2⟩
  | e :: ds,_,k + 1,x,d,h,r=>by
    unfold Reps at h
    obtain ⟨y,t,rfl,h1,h2⟩:=h
    show Reps H (y :: t.set k x) (e :: ds.set k d)
    unfold Reps
    exact ⟨y,_,rfl,h1,Reps.set k h2 r⟩
theorem noL_days:∀ (B:List (List Int×List Int)),noLs (B.map dayD)=true
  | []=>rfl
  | d :: B=>by
    show (noL (dayD d) && noLs (B.map dayD))=true
    rw [noL_day,noL_days B]; rfl
end LB
namespace LB
open PySem L2
def dotF (ps as:List Int):Int:=(List.zipWith (· * ·) ps as).sum
def costF (B:List (List Int×List Int)) (i j:Nat):Int:=dotF (B.getD i ([],[])).1 (B.getD j ([],[])).2
def InB (B:List (List Int×List Int)) (x:Int):Prop:=0≤x∧x < (B.length:Int)
abbrev NoD (mg:Str→Option Value):Value:=.ref (clsA mg "NoDay")
def sb_check_day (K:PySem.W.Frag) (mg:Str→Option Value) (a b:V) (H:Hp) (Q:VK) (E:XK):Prop:=∃ (B:List (List Int×List Int)) (x:Int),Rep H a (bookD B)∧b=.int x∧(InB B x→Q .non H)∧(¬ InB B x→E (NoD mg) none H)
def sp_check_day (K:PySem.W.Frag) (mg:Str→Option Value):Sp:=sp2 (sb_check_day K mg)
def sb_cost_at (K:PySem.W.Frag) (a b:V) (H:Hp) (Q:VK) (E:XK):Prop:=∃ (p q:Addr) (ps as:List Int),a=.ref p∧b=.ref q∧H p=some (.tup (ps.map V.int))∧H q=some (.tup (as.map V.int))∧as.length=ps.length∧ps.length≤8∧(∀ x∈ps,1≤x∧x≤1000000000)∧∀ H',Same H H'→Q (.int (dotF ps as)) H'
def sp_cost_at (K:PySem.W.Frag):Sp:=sp2 (sb_cost_at K)
def sb_cost (K:PySem.W.Frag) (mg:Str→Option Value) (a b c:V) (H:Hp) (Q:VK) (E:XK):Prop:=∃ (B:List (List Int×List Int)) (m n:Nat) (x y:Int),Rep H a (bookD B)∧GoodBook m n B∧b=.int x∧c=.int y ∧
  (InB B x→InB B y→∀ H',Same H H'→Q (.int (costF B x.toNat y.toNat)) H')∧(¬ (InB B x∧InB B y)→E (NoD mg) none H)
def sp_cost (K:PySem.W.Frag) (mg:Str→Option Value):Sp:=sp3 (sb_cost K mg)
def sb_purse (K:PySem.W.Frag) (mg:Str→Option Value) (a b:V) (H:Hp) (Q:VK) (E:XK):Prop:=∃ (B:List (List Int×List Int)) (m n:Nat) (x:Int),Rep H a (bookD B)∧GoodBook m n B∧b=.int x ∧
  (InB B x→∀ H',Same H H'→Q (.int (costF B x.toNat x.toNat)) H')∧(¬ InB B x→E (NoD mg) none H)
def sp_purse (K:PySem.W.Frag) (mg:Str→Option Value):Sp:=sp2 (sb_purse K mg)
def sb__law_cost (K:PySem.W.Frag) (a b c:V) (H:Hp) (Q:VK) (E:XK):Prop:=∃ (B:List (List Int×List Int)) (m n:Nat) (x y:Int),Rep H a (bookD B)∧GoodBook m n B∧b=.int x∧c=.int y∧InB B x∧InB B y∧∀ H',Same H H'→Q (.int (costF B x.toNat y.toNat)) H'
def sp__law_cost (K:PySem.W.Frag):Sp:=sp3 (sb__law_cost K)
def markF (g:Int):Int:=if g < 0 then 2 else if g=0 then 1 else 0
def onceF (B:List (List Int×List Int)) (i j:Nat):Int:=markF (costF B i j - costF B i i)
def sb_mark_of (K:PySem.W.Frag) (a:V) (H:Hp) (Q:VK) (E:XK):Prop:=∃ g:Int,a=.int g∧Q (.int (markF g)) H
def sp_mark_of (K:PySem.W.Frag):Sp:=sp1 (sb_mark_of K)
def sb_at_once (K:PySem.W.Frag) (mg:Str→Option Value) (a b c:V) (H:Hp) (Q:VK) (E:XK):Prop:=∃ (B:List (List Int×List Int)) (m n:Nat) (x y:Int),Rep H a (bookD B)∧GoodBook m n B∧b=.int x∧c=.int y ∧
  (InB B x→InB B y→∀ H',Same H H'→Q (.int (onceF B x.toNat y.toNat)) H')∧(¬ (InB B x∧InB B y)→E (NoD mg) none H)
def sp_at_once (K:PySem.W.Frag) (mg:Str→Option Value):Sp:=sp3 (sb_at_once K mg)
def tb_check_day (K:PySem.W.Frag) (mg:Str→Option Value) (E:XK):TS :=
  (tIfS (tNot (tTest (tChain rLeU rLtU (tC (.int 0)) (tVar 1) (tCB (rLenU K) (tCons (tVar 0) tNil))))) (tRaise E (.ref (clsA mg "NoDay")) (tCons (tC (.str "the book has no day of this number")) tNil)) tNext)
def tb_cost_at (K:PySem.W.Frag):TS :=
  (tRet (tCB (rSumU K) (tCons (tComp [none,none] (iZip2 K (tCons (tVar 0) (tCons (tVar 1) tNil))) (gTup K 2 (gCons (gName 0) (gCons (gName 1) gNil))) tYes (tOp (rMulU K) (tVar 0) (tVar 1))) tNil)))
def tb_cost (K:PySem.W.Frag) (mg:Str→Option Value) (E:XK):TS :=
  (tSeq (tDrop (tCall (sp_check_day K mg) [] E (tCons (tVar 0) (tCons (tVar 1) tNil))))
    (tSeq (tDrop (tCall (sp_check_day K mg) [] E (tCons (tVar 0) (tCons (tVar 2) tNil))))
    (tRet (tCall (sp_cost_at K) [] E0 (tCons (tOp (rIx K) (tOp (rIx K) (tVar 0) (tVar 1)) (tC (.int 0))) (tCons (tOp (rIx K) (tOp (rIx K) (tVar 0) (tVar 2)) (tC (.int 1))) tNil))))))
def tb_purse (K:PySem.W.Frag) (mg:Str→Option Value) (E:XK):TS :=
  (tRet (tCall (sp_cost K mg) [] E (tCons (tVar 0) (tCons (tVar 1) (tCons (tVar 1) tNil)))))
def tb__law_cost (K:PySem.W.Frag):TS :=
  (tRet (tCB (rSumU K) (tCons (tComp [none,none] (iZip2 K (tCons (tOp (rIx K) (tOp (rIx K) (tVar 0) (tVar 1)) (tC (.int 0))) (tCons (tOp (rIx K) (tOp (rIx K) (tVar 0) (tVar 2)) (tC (.int 1))) tNil))) (gTup K 2 (gCons (gName 0) (gCons (gName 1) gNil))) tYes (tOp (rMulU K) (tVar 0) (tVar 1))) tNil)))
def tb_mark_of (K:PySem.W.Frag):TS :=
  (tSeq (tIfS (tTest (tOp rLtU (tVar 0) (tC (.int 0)))) (tRet (tC (.int 2))) tNext)
    (tSeq (tIfS (tTest (tOp (rEqU K) (tVar 0) (tC (.int 0)))) (tRet (tC (.int 1))) tNext)
    (tRet (tC (.int 0)))))
def tb_at_once (K:PySem.W.Frag) (mg:Str→Option Value) (E:XK):TS :=
  (tSeq (tDrop (tCall (sp_check_day K mg) [] E (tCons (tVar 0) (tCons (tVar 1) tNil))))
    (tSeq (tDrop (tCall (sp_check_day K mg) [] E (tCons (tVar 0) (tCons (tVar 2) tNil))))
    (tRet (tCall (sp_mark_of K) [] E0 (tCons (tOp rSubU (tCall (sp_cost K mg) [] E (tCons (tVar 0) (tCons (tVar 1) (tCons (tVar 2) tNil)))) (tCall (sp_purse K mg) [] E (tCons (tVar 0) (tCons (tVar 1) tNil)))) tNil)))))
theorem w_nret {te:TE} {D:Ends} {r:VK} {b c:St→Hp→Prop} {σ:St} {H:Hp} (h:te σ H D.rt):tNext { nx:=tRet te D,rt:=r,bk:=b,ct:=c } σ H:=h
theorem w_zip2 {K:PySem.W.Frag} {ta:TA} {σ:St} {H:Hp} {R:It→Hp→Prop} (h:ta σ H fun vs H1=>∃ a b,vs=[.ref a,.ref b]∧(∃ xs,SqT K H1 a xs)∧(∃ ys,SqT K H1 b ys)∧R (Itz K a b) H1):iZip2 K ta σ H R:=h
theorem w_raise {E:XK} {C:Value} {t:TA} {D:Ends} {σ:St} {H:Hp} (h:t σ H fun vs H1=>vs.length≤sizeLine∧E C none H1):tRaise E C t D σ H:=h
theorem comp_zip {K:PySem.W.Frag} {a b:Addr} {ps as:List Int} {H1:Hp} {σ:St} {l:List (Option Nat)} {Q:Hp→Prop} (D:Addr) (ha:H1 a=some (.tup (ps.map V.int))) (hb:H1 b=some (.tup (as.map V.int))) (hl:as.length=ps.length) (hn:ps.length≤8)
    (hp:∀ x∈ps,1≤x∧x≤1000000000) (hD:H1 D=none) (hini:∃ r0 r1,iniOf l σ=[r0,r1]) (hd:∀ H,Same H1 H→H D=some (.lst ((List.zipWith (· * ·) ps as).map V.int))→Q H) :
    ∃ W:CompW,(∃ m,W 0 m [] (iniOf l σ) (upd H1 D (.lst [])))∧compStep (Itz K a b) (gTup K 2 (gCons (gName 0) (gCons (gName 1) gNil))) tYes (tOp (rMulU K) (tVar 0) (tVar 1)) D W Q:=by
  obtain ⟨r0,r1,hini⟩:=hini
  refine ⟨fun i m ys σ H=>m=ps.length - i∧i≤ps.length∧H D=some (.lst ys)∧Same H1 H∧ys=((List.zipWith (· * ·) ps as).take i).map V.int∧∃ r0 r1,σ=[r0,r1],⟨_,rfl,Nat.zero_le _,upd_same,Same.laid hD,by simp,r0,r1,hini⟩,?_⟩
  rintro i m ys σ H ⟨rfl,hi,hH,s1,rfl,q0,q1,rfl⟩
  refine ⟨hH,?_⟩
  have ea:=SqT.of (K:=K) (s1 _ _ ha)
  have eb:=SqT.of (K:=K) (s1 _ _ hb)
  by_cases hlt:i < ps.length
  · have hx:(ps.map V.int)[i]?=some (.int (ps.getD i 0)):=get_ints hlt
    have hy:(as.map V.int)[i]?=some (.int (as.getD i 0)):=get_ints (by omega)
    have hz:(List.zipWith (· * ·) ps as)[i]?=some (ps.getD i 0 * as.getD i 0):=by
      rw [List.getElem?_map] at hx hy
      have hx':ps[i]?=some (ps.getD i 0):=by cases e:ps[i]? with
        | none=>rw [e] at hx; cases hx
        | some z=>rw [e] at hx; simpa using hx
      have hy':as[i]?=some (as.getD i 0):=by cases e:as[i]? with
        | none=>rw [e] at hy; cases hy
        | some z=>rw [e] at hy; simpa using hy
      rw [List.getElem?_zipWith,hx',hy']
    refine .inr ⟨⟨_,_,_,_,ea,eb,hx,hy⟩,fun v σ2 H4=>v=.int (ps.getD i 0 * as.getD i 0)∧Same H1 H4∧H4 D=some (.lst (((List.zipWith (· * ·) ps as).take i).map V.int))∧∃ r0 r1,σ2=[r0,r1],fun _ _=>False,?_,fun _ _ z=>z.elim,?_⟩
    · rintro v σ2 H4 ⟨rfl,s4,h4,z⟩
      refine ⟨h4,small1000 (by simp; omega),ps.length - (i + 1),by omega,rfl,hlt,upd_same,s4.put hD,?_,z⟩
      rw [List.take_succ,hz,List.map_append]; rfl
    · rintro v H' ⟨p,x,y,hp0,rfl,gx,gy,rfl⟩
      have e1:x=.int (ps.getD i 0):=by have:=gx _ ea; rw [hx] at this; cases this; rfl
      have e2:y=.int (as.getD i 0):=by have:=gy _ eb; rw [hy] at this; cases this; rfl
      subst e1 e2
      have hb:=hp _ (getD_in hlt)
      refine w_gtup (SqT.of upd_same) rfl (w_gcons (w_name (w_gcons (w_name (w_gnil (w_yes (iteT ?_)))))))
      exact w_op (w_var rfl (w_var rfl (w_mulI (mulok_l (by omega) (by omega)) ⟨rfl,s1.laidT hp0,Same.laid hp0 _ _ hH,_,_,rfl⟩)))
  · have e:i=ps.length:=by omega
    subst e
    refine .inl ⟨⟨_,_,ea,eb,.inl (by simp)⟩,hd H s1 ?_⟩
    rw [hH,List.take_of_length_le (by simp; omega)]
theorem book_day {H:Hp} {v:V} {B:List (List Int×List Int)} (h:Rep H v (bookD B)):∃ p xs,v=.ref p∧H p=some (.tup xs)∧xs.length=B.length ∧
    ∀ i,i < B.length→∃ q p1 p2,xs[i]?=some (.ref q)∧H q=some (.tup [.ref p1,.ref p2])∧H p1=some (.tup ((B.getD i ([],[])).1.map V.int))∧H p2=some (.tup ((B.getD i ([],[])).2.map V.int)):=by
  unfold bookD Rep at h
  obtain ⟨p,xs,rfl,hp,rs⟩:=h
  have hl:xs.length=B.length:=by have:=rs.length; rwa [List.length_map] at this
  refine ⟨p,xs,rfl,hp,hl,fun i hi=>?_⟩
  obtain ⟨d,hd,rd⟩:=rs.get (i:=i) (x:=xs[i]'(by omega)) (by simp)
  rw [List.getElem?_map] at hd
  have e:B[i]?=some (B.getD i ([],[])):=by simp [hi]
  rw [e] at hd
  have e2:dayD (B.getD i ([],[]))=d:=by simpa using hd
  rw [← e2] at rd
  obtain ⟨q,p1,p2,e3,h1,h2,h3⟩:=day_rep rd
  exact ⟨q,p1,p2,by rw [← e3]; simp,h1,h2,h3⟩
theorem getD_day {n:Nat} {B:List (List Int×List Int)} {i:Nat} (h:∀ d∈B,GoodDay n d) (hi:i < B.length):GoodDay n (B.getD i ([],[])):=by
  have e:B.getD i ([],[])=B[i]:=by simp [hi]
  rw [e]; exact h _ (List.getElem_mem hi)
theorem rd_check_day {K:PySem.W.Frag} {mg:Str→Option Value} {a b:V} {H:Hp} {Q:VK} {E:XK} (h:sb_check_day K mg a b H Q E):tb_check_day K mg E (Rt Q) [some a,some b] H:=by
  obtain ⟨B,x,r,rfl,q1,q2⟩:=h
  obtain ⟨p,xs,rfl,hp,hl,_⟩:=book_day r
  unfold tb_check_day
  refine w_ifS (w_not (w_test (w_chain (w_c (w_var rfl (w_leI ⟨_,rfl,iteD (fun h0=>?_) fun h0=>?_⟩))))))
  · refine w_cb (w_cons (w_var rfl (w_nil (w_lenT (SqT.of hp) (w_ltI (w_bl (iteN (fun h1=>?_) fun h1=>?_)))))))
    · exact w_raise (w_cons (w_c (w_nil ⟨by show 1≤sizeLine; decide,q2 fun z=>h1 (by rw [hl]; exact z.2)⟩)))
    · exact w_next (q1 ⟨h0,by rw [hl] at h1; exact h1⟩)
  · refine w_bl (iteT ?_)
    exact w_raise (w_cons (w_c (w_nil ⟨by show 1≤sizeLine; decide,q2 fun z=>h0 z.1⟩)))
theorem rd_cost_at {K:PySem.W.Frag} {a b:V} {H:Hp} {Q:VK} {E:XK} (h:sb_cost_at K a b H Q E):tb_cost_at K (Rt Q) [some a,some b] H:=by
  obtain ⟨u1,v2,ps,as,rfl,rfl,e3,f4,hl,hn,hp,q⟩:=h
  unfold tb_cost_at
  refine w_ret (w_cb (w_cons (w_comp (w_zip2 (w_cons (w_var rfl (w_cons (w_var rfl (w_nil ⟨u1,v2,rfl,⟨_,SqT.of e3⟩,⟨_,SqT.of f4⟩,fun D hD=>?_⟩)))))))))
  refine comp_zip D e3 f4 hl hn hp hD ⟨_,_,rfl⟩ fun H' s' hD'=>?_
  exact w_nil (w_sumA (.inl (SqL.of hD')) (q H' s'))
theorem rd_cost {K:PySem.W.Frag} {mg:Str→Option Value} {a b c:V} {H:Hp} {Q:VK} {E:XK} (h:sb_cost K mg a b c H Q E):tb_cost K mg E (Rt Q) [some a,some b,some c] H:=by
  obtain ⟨B,m,n,x,y,r,gB,rfl,rfl,q1,q2⟩:=h
  unfold tb_cost
  refine w_seq (w_drop (w_call (w_cons (w_var rfl (w_cons (w_var rfl (w_nil ⟨_,_,rfl,B,x,r,rfl,fun okx=>?_,fun bad=>q2 fun z=>bad z.1⟩)))))))
  refine w_seq (w_drop (w_call (w_cons (w_var rfl (w_cons (w_var rfl (w_nil ⟨_,_,rfl,B,y,r,rfl,fun oky=>?_,fun bad=>q2 fun z=>bad z.2⟩)))))))
  obtain ⟨p,xs,rfl,hp,hl,dd⟩:=book_day r
  have lx:x.toNat < B.length:=by have:=okx.1; have:=okx.2; omega
  have ly:y.toNat < B.length:=by have:=oky.1; have:=oky.2; omega
  obtain ⟨u,u1,u2,e1,e2,e3,e4⟩:=dd _ lx
  obtain ⟨v,v1,v2,f1,f2,f3,f4⟩:=dd _ ly
  have gx:=getD_day gB.dy lx
  have gy:=getD_day gB.dy ly
  refine w_ret (w_call (w_cons (w_op (w_op (w_var rfl (w_var rfl (w_ixT (SqT.of hp) (atI_at okx.1 e1) (w_c (w_ixT (v:=.ref u1) (SqT.of e2) rfl ?_)))))))))
  refine w_cons (w_op (w_op (w_var rfl (w_var rfl (w_ixT (SqT.of hp) (atI_at oky.1 f1) (w_c (w_ixT (v:=.ref v2) (SqT.of f2) rfl ?_)))))))
  exact w_nil ⟨_,_,rfl,u1,v2,_,_,rfl,rfl,e3,f4,by rw [gx.l1,gy.l2],by rw [gx.l1]; have:=gB.n6; omega,gx.pr,fun H' s'=>q1 okx oky H' s'⟩
theorem rd_purse {K:PySem.W.Frag} {mg:Str→Option Value} {a b:V} {H:Hp} {Q:VK} {E:XK} (h:sb_purse K mg a b H Q E):tb_purse K mg E (Rt Q) [some a,some b] H:=by
  obtain ⟨B,m,n,x,r,gB,rfl,q1,q2⟩:=h
  unfold tb_purse
  exact w_ret (w_call (w_cons (w_var rfl (w_cons (w_var rfl (w_cons (w_var rfl (w_nil ⟨_,_,_,rfl,B,m,n,x,x,r,gB,rfl,rfl,fun o _=>q1 o,fun bad=>q2 fun z=>bad ⟨z,z⟩⟩))))))))
theorem rd__law_cost {K:PySem.W.Frag} {a b c:V} {H:Hp} {Q:VK} {E:XK} (h:sb__law_cost K a b c H Q E):tb__law_cost K (Rt Q) [some a,some b,some c] H:=by
  obtain ⟨B,m,n,x,y,r,gB,rfl,rfl,okx,oky,q⟩:=h
  unfold tb__law_cost
  obtain ⟨p,xs,rfl,hp,hl,dd⟩:=book_day r
  have lx:x.toNat < B.length:=by have:=okx.1; have:=okx.2; omega
  have ly:y.toNat < B.length:=by have:=oky.1; have:=oky.2; omega
  obtain ⟨u,u1,u2,e1,e2,e3,e4⟩:=dd _ lx
  obtain ⟨v,v1,v2,f1,f2,f3,f4⟩:=dd _ ly
  have gx:=getD_day gB.dy lx
  have gy:=getD_day gB.dy ly
  refine w_ret (w_cb (w_cons (w_comp (w_zip2 ?_))))
  refine w_cons (w_op (w_op (w_var rfl (w_var rfl (w_ixT (SqT.of hp) (atI_at okx.1 e1) (w_c (w_ixT (v:=.ref u1) (SqT.of e2) rfl ?_)))))))
  refine w_cons (w_op (w_op (w_var rfl (w_var rfl (w_ixT (SqT.of hp) (atI_at oky.1 f1) (w_c (w_ixT (v:=.ref v2) (SqT.of f2) rfl ?_)))))))
  refine w_nil ⟨u1,v2,rfl,⟨_,SqT.of e3⟩,⟨_,SqT.of f4⟩,fun D hD=>?_⟩
  refine comp_zip D e3 f4 (by rw [gx.l1,gy.l2]) (by rw [gx.l1]; have:=gB.n6; omega) gx.pr hD ⟨_,_,rfl⟩ fun H' s' hD'=>?_
  exact w_nil (w_sumA (.inl (SqL.of hD')) (q H' s'))
theorem rd_mark_of {K:PySem.W.Frag} {a:V} {H:Hp} {Q:VK} {E:XK} (h:sb_mark_of K a H Q E):tb_mark_of K (Rt Q) [some a] H:=by
  obtain ⟨g,rfl,q⟩:=h
  unfold tb_mark_of
  refine w_seq (w_ifS (w_test (w_op (w_var rfl (w_c (w_ltI (w_bl (iteD (fun h0=>?_) fun h0=>?_))))))))
  · refine w_ret (w_c ?_)
    have e:markF g=2:=by unfold markF; rw [if_pos h0]
    rw [← e]; exact q
  refine w_next (w_seq (w_ifS (w_test (w_op (w_var rfl (w_c (w_eqI (w_bl (iteD (fun h1=>?_) fun h1=>?_)))))))))
  · refine w_ret (w_c ?_)
    have e:markF g=1:=by unfold markF; rw [if_neg h0,if_pos h1]
    rw [← e]; exact q
  refine w_nret ((w_c ?_))
  have e:markF g=0:=by unfold markF; rw [if_neg h0,if_neg h1]
  rw [← e]; exact q
theorem rd_at_once {K:PySem.W.Frag} {mg:Str→Option Value} {a b c:V} {H:Hp} {Q:VK} {E:XK} (h:sb_at_once K mg a b c H Q E):tb_at_once K mg E (Rt Q) [some a,some b,some c] H:=by
  obtain ⟨B,m,n,x,y,r,gB,rfl,rfl,q1,q2⟩:=h
  unfold tb_at_once
  refine w_seq (w_drop (w_call (w_cons (w_var rfl (w_cons (w_var rfl (w_nil ⟨_,_,rfl,B,x,r,rfl,fun okx=>?_,fun bad=>q2 fun z=>bad z.1⟩)))))))
  refine w_seq (w_drop (w_call (w_cons (w_var rfl (w_cons (w_var rfl (w_nil ⟨_,_,rfl,B,y,r,rfl,fun oky=>?_,fun bad=>q2 fun z=>bad z.2⟩)))))))
  refine w_ret (w_call (w_cons (w_op (w_call (w_cons (w_var rfl (w_cons (w_var rfl (w_cons (w_var rfl (w_nil ⟨_,_,_,rfl,B,m,n,x,y,r,gB,rfl,rfl,fun _ _ H1 s1=>?_,fun bad=>absurd ⟨okx,oky⟩ bad⟩)))))))))))
  refine w_call (w_cons (w_var rfl (w_cons (w_var rfl (w_nil ⟨_,_,rfl,B,m,n,x,Rep.mono s1 _ _ r,gB,rfl,fun _ H2 s2=>?_,fun bad=>absurd okx bad⟩)))))
  exact w_subI (w_nil ⟨_,rfl,_,rfl,q1 okx oky H2 (s1.trans s2)⟩)
theorem rep_tup {H:Hp} {p:Addr} {xs:List V} {ds:List PyData} (h:H p=some (.tup xs)) (r:Reps H xs ds):Rep H (.ref p) (.tuple ds):=by
  unfold Rep; exact ⟨p,xs,rfl,h,r⟩
theorem rep_lst {H:Hp} {p:Addr} {xs:List V} {ds:List PyData} (h:H p=some (.lst xs)) (r:Reps H xs ds):Rep H (.ref p) (.list ds):=by
  unfold Rep; exact ⟨p,xs,rfl,h,r⟩
theorem reps_nil {H:Hp}:Reps H [] []:=by unfold Reps; rfl
theorem reps_cons {H:Hp} {x:V} {xs:List V} {d:PyData} {ds:List PyData} (h:Rep H x d) (r:Reps H xs ds):Reps H (x :: xs) (d :: ds):=by
  unfold Reps; exact ⟨x,xs,rfl,h,r⟩
theorem reps_app {H:Hp}:∀ {xs ys:List V} {ds es:List PyData},Reps H xs ds→Reps H ys es→Reps H (xs ++ ys) (ds ++ es)
  | xs,ys,[],es,h,g=>by unfold Reps at h; subst h; exact g
  | xs,ys,d :: ds,es,h,g=>by
    unfold Reps at h
    obtain ⟨x,r,rfl,h1,h2⟩:=h
    exact reps_cons h1 (reps_app h2 g)
end LB
namespace L2
open PySem PySem.Spec PyProof.Rows
section
variable {κ:Type} [DecidableEq κ]
def valV (kvs:List (κ×V)) (k:κ):Option V:=(kvs.find? fun kv=>decide (kv.1=k)).map (·.2)
def putK (kvs:List (κ×V)) (k:κ) (v:V):List (κ×V) :=
  if (kvs.any fun kv=>decide (kv.1=k))=true then kvs.map (fun kv=>if kv.1=k then (kv.1,v) else kv) else kvs ++ [(k,v)]
theorem valV_pos {p:κ×V} {r:List (κ×V)} {k:κ} (e:p.1=k):valV (p :: r) k=some p.2:=by simp [valV,List.find?_cons,e]
theorem valV_neg {p:κ×V} {r:List (κ×V)} {k:κ} (e:¬ p.1=k):valV (p :: r) k=valV r k:=by simp [valV,List.find?_cons,e]
theorem valV_any (k:κ):∀ kvs:List (κ×V),(kvs.any fun kv=>decide (kv.1=k))=(valV kvs k).isSome
  | []=>rfl
  | p :: r=>by
    rw [List.any_cons]
    by_cases e:p.1=k
    · simp only [valV_pos e,decide_eq_true e,Bool.true_or,Option.isSome_some]
    · rw [valV_neg e,decide_eq_false e,Bool.false_or]; exact valV_any k r
theorem length_putK (kvs:List (κ×V)) (k:κ) (v:V):(putK kvs k v).length≤kvs.length + 1:=by
  unfold putK
  split
  · rw [List.length_map]; omega
  · rw [List.length_append,List.length_cons,List.length_nil]; omega
theorem putK_new {kvs:List (κ×V)} {k:κ} (v:V) (h:valV kvs k=none):putK kvs k v=kvs ++ [(k,v)]:=by
  unfold putK
  rw [valV_any,h]
  exact if_neg (by decide)
theorem RelO.isSome_eq {o:Option V} {u:Option Value} (r:RelO o u):o.isSome=u.isSome:=by
  cases o with
  | none=>cases u with
    | none=>rfl
    | some _=>exact (show False from r).elim
  | some _=>cases u with
    | none=>exact (show False from r).elim
    | some _=>rfl
theorem KV.val {kvs:List (κ×V)} {vs:List (κ×Value)} (r:KV kvs vs) (k:κ):RelO (valV kvs k) (valueAt vs k):=by
  unfold KV at r
  induction r with
  | nil=>exact True.intro
  | @cons p q ps qs h t ih =>
    obtain ⟨h1,h2⟩:=h
    by_cases e:p.1=k
    · have e':q.1=k:=h1.symm.trans e
      have b:valueAt (q :: qs) k=some q.2:=by simp [valueAt,List.find?_cons,e']
      rw [valV_pos e,b]; exact h2
    · have e':¬ q.1=k:=fun z=>e (h1.trans z)
      have b:valueAt (q :: qs) k=valueAt qs k:=by simp [valueAt,List.find?_cons,e']
      rw [valV_neg e,b]; exact ih
theorem KV.any {kvs:List (κ×V)} {vs:List (κ×Value)} (r:KV kvs vs) (k:κ):(kvs.any fun kv=>decide (kv.1=k))=vs.any fun kv=>decide (kv.1=k):=by
  unfold KV at r
  induction r with
  | nil=>rfl
  | cons h t ih=>rw [List.any_cons,List.any_cons,ih,h.1]
theorem KV.repl {kvs:List (κ×V)} {vs:List (κ×Value)} (r:KV kvs vs) (k:κ) {y:V} {u:Value} (ry:RelV y u) :
    KV (kvs.map fun kv=>if kv.1=k then (kv.1,y) else kv) (vs.map fun kv=>if kv.1=k then (kv.1,u) else kv):=by
  unfold KV at r ⊢
  induction r with
  | nil=>exact .nil
  | @cons p q ps qs h t ih =>
    rw [List.map_cons,List.map_cons]
    refine .cons ?_ ih
    obtain ⟨h1,h2⟩:=h
    by_cases e:p.1=k
    · rw [if_pos e,if_pos (h1.symm.trans e)]; exact ⟨h1,ry⟩
    · rw [if_neg e,if_neg (fun z=>e (h1.trans z))]; exact ⟨h1,h2⟩
theorem KV.put {kvs:List (κ×V)} {vs:List (κ×Value)} (r:KV kvs vs) (k:κ) {y:V} {u:Value} (ry:RelV y u):KV (putK kvs k y) (stored vs k u):=by
  unfold putK stored
  rw [r.any k]
  by_cases e:(vs.any fun kv=>decide (kv.1=k))=true
  · rw [if_pos e,if_pos e]; exact r.repl k ry
  · rw [if_neg e,if_neg e]; exact Paired.snoc r ⟨rfl,ry⟩
theorem KV.keys {kvs:List (κ×V)} {vs:List (κ×Value)} (r:KV kvs vs):kvs.map (·.1)=vs.map (·.1):=by
  unfold KV at r
  induction r with
  | nil=>rfl
  | cons h t ih=>rw [List.map_cons,List.map_cons,ih,h.1]
theorem KV.length {kvs:List (κ×V)} {vs:List (κ×Value)} (r:KV kvs vs):kvs.length=vs.length:=Paired.length r
end
theorem kV_is {P:Program} {w:World} {k:Key} {u:Value} (r:RelV (kV k) u):(mixKind P w).is k u=true:=by
  cases k with
  | inl i=>obtain ⟨t,e⟩:=(show ∃ t,u=Value.int i t from r); subst e; exact mixKind_int P w i t
  | inr x=>obtain ⟨t,e⟩:=(show ∃ t,u=Value.str x t from r); subst e; exact mixKind_str P w x t
theorem items_are {P:Program} {w:World}:∀ {ks:List Key} {us:List Value},Vals (ks.map kV) us→ItemsAre (mixKind P w) ks us
  | [],_,r=>by rw [List.map_nil] at r; cases r; exact .nil
  | k :: ks,_,r=>by
    rw [List.map_cons] at r
    cases r with
    | cons h t=>exact .cons (kV_is h) (items_are t)
abbrev KT (H:Hp):List (List Key×V)→List (List Key×Addr×Value)→Prop:=Paired fun p q=>p.1=q.1∧H q.2.1=some (.tup (p.1.map kV))∧RelV p.2 q.2.2
theorem KT.val {H:Hp} {kvs:List (List Key×V)} {xs:List (List Key×Addr×Value)} (r:KT H kvs xs) (k:List Key):RelO (valV kvs k) ((atKey xs k).map (·.2)):=by
  induction r with
  | nil=>exact True.intro
  | @cons p q ps qs h t ih =>
    obtain ⟨h1,_,h2⟩:=h
    by_cases e:p.1=k
    · have e':q.1=k:=h1.symm.trans e
      have b:atKey (q :: qs) k=some q.2:=by simp [atKey,List.find?_cons,e']
      rw [valV_pos e,b]; exact h2
    · have e':¬ q.1=k:=fun z=>e (h1.trans z)
      have b:atKey (q :: qs) k=atKey qs k:=by simp [atKey,List.find?_cons,e']
      rw [valV_neg e,b]; exact ih
theorem KT.repl {H:Hp} {kvs:List (List Key×V)} {xs:List (List Key×Addr×Value)} (r:KT H kvs xs) (k:List Key) {y:V} {u:Value} (ry:RelV y u) :
    KT H (kvs.map fun kv=>if kv.1=k then (kv.1,y) else kv) (xs.map (putAt k u)):=by
  induction r with
  | nil=>exact .nil
  | @cons p q ps qs h t ih =>
    rw [List.map_cons,List.map_cons]
    refine .cons ?_ ih
    obtain ⟨h1,h2,h3⟩:=h
    unfold putAt
    by_cases e:p.1=k
    · rw [if_pos e,if_pos (h1.symm.trans e)]; exact ⟨h1,h2,ry⟩
    · rw [if_neg e,if_neg (fun z=>e (h1.trans z))]; exact ⟨h1,h2,h3⟩
theorem KT.put {H:Hp} {kvs:List (List Key×V)} {xs:List (List Key×Addr×Value)} (r:KT H kvs xs) (k:List Key) {b:Addr} {y:V} {u:Value} (hb:H b=some (.tup (k.map kV))) (ry:RelV y u) :
    KT H (putK kvs k y) (storedH xs k b u):=by
  have e:(kvs.any fun kv=>decide (kv.1=k))=(atKey xs k).isSome:=by
    rw [valV_any,(r.val k).isSome_eq,Option.isSome_map]
  unfold putK storedH
  rw [e]
  by_cases q:(atKey xs k).isSome=true
  · rw [if_pos q,if_pos q]; exact r.repl k ry
  · rw [if_neg q,if_neg q]; exact Paired.snoc r ⟨rfl,hb,ry⟩
theorem KT.keeps {H H':Hp} {kvs:List (List Key×V)} {xs:List (List Key×Addr×Value)} (r:KT H kvs xs) (ht:∀ b ys,H b=some (.tup ys)→H' b=some (.tup ys)):KT H' kvs xs :=
  Paired.mapP r fun _ _ z=>⟨z.1,ht _ _ z.2.1,z.2.2⟩
section
variable {P:Program} {w:World} {H:Hp} {h:Heap} {a:Addr}
theorem rd_of {u:HO} (ok:HOk P w H h) (e:Rd H a u):ObjOk P w H h a u:=e.ok ok
theorem dk_rd {kvs:List (Key×V)} (ok:HOk P w H h) (e:Rd H a (.dK kvs)):kvs.length≤sizeLine∧(a == sysModules)=false∧∃ vs,KV kvs vs∧h.DictOf (mixKind P w) a vs :=
  show ObjOk P w H h a (.dK kvs) from rd_of ok e
theorem dk_of {kvs:List (Key×V)} (ok:HOk P w H h) (e:H a=some (.dK kvs)):kvs.length≤sizeLine∧(a == sysModules)=false∧∃ vs,KV kvs vs∧h.DictOf (mixKind P w) a vs:=dk_rd ok (.inl e)
theorem key_of {ks:List Key} (ok:HOk P w H h) (e:H a=some (.tup (ks.map kV))):(tupleKind (mixKind P w)).is h ks a:=by
  obtain ⟨_,its,r,o,h1,h2,n,h3⟩:=(show ObjOk P w H h a (.tup (ks.map kV)) from ok a _ e)
  exact ⟨o,its.toArray,n,h1,h2,h3,by simpa using items_are r⟩
theorem dt_rd {kvs:List (List Key×V)} (ok:HOk P w H h) (e:Rd H a (.dT kvs)):kvs.length≤sizeLine∧(a == sysModules)=false ∧
    ∃ xs,KT H kvs xs∧h.DictOfH (tupleKind (mixKind P w)) a xs:=by
  obtain ⟨z,y,xs,r,o,es,ep,h1,h2,h3,h4,h5⟩:=(show ObjOk P w H h a (.dT kvs) from rd_of ok e)
  refine ⟨z,y,xs,r,o,es,ep,h1,h2,h3,h4,fun x hx=>?_,h5⟩
  have all:∀ {l:List (List Key×V)} {m:List (List Key×Addr×Value)},KT H l m→∀ x∈m,(tupleKind (mixKind P w)).is h x.1 x.2.1:=by
    intro l m q
    induction q with
    | nil=>intro x hx; exact nomatch hx
    | @cons p q ps qs hq t ih =>
      intro x hx
      rcases List.mem_cons.mp hx with e | hx
      · subst e
        exact key_of ok (by rw [← hq.1]; exact hq.2.1)
      · exact ih x hx
  exact all r x hx
theorem dt_of {kvs:List (List Key×V)} (ok:HOk P w H h) (e:H a=some (.dT kvs)):kvs.length≤sizeLine∧(a == sysModules)=false ∧
    ∃ xs,KT H kvs xs∧h.DictOfH (tupleKind (mixKind P w)) a xs:=dt_rd ok (.inl e)
end
def DGet (H:Hp) (a:Addr) (y:V) (r:Option V):Prop :=
  (∃ kvs k,Rd H a (.dK kvs)∧y=kV k∧r=valV kvs k)∨∃ kvs k b,Rd H a (.dT kvs)∧y=.ref b∧H b=some (.tup (k.map kV))∧r=valV kvs k
def DPut (H:Hp) (a:Addr) (y v:V) (H':Hp):Prop :=
  (∃ kvs k,H a=some (.dK kvs)∧y=kV k∧kvs.length < sizeLine∧H'=upd H a (.dK (putK kvs k v))) ∨
  ∃ kvs k b,H a=some (.dT kvs)∧y=.ref b∧H b=some (.tup (k.map kV))∧kvs.length < sizeLine∧H'=upd H a (.dT (putK kvs k v))
theorem DGet.k {H:Hp} {a:Addr} {kvs:List (Key×V)} {k:Key} (e:H a=some (.dK kvs)):DGet H a (kV k) (valV kvs k):=.inl ⟨kvs,k,.inl e,rfl,rfl⟩
theorem DPut.k {H:Hp} {a:Addr} {kvs:List (Key×V)} {k:Key} {v:V} (e:H a=some (.dK kvs)) (hl:kvs.length < sizeLine):DPut H a (kV k) v (upd H a (.dK (putK kvs k v))):=.inl ⟨kvs,k,e,rfl,hl,rfl⟩
section
variable {X:Cx} {pins:List (Addr×Obj)} {σ:St} {H:Hp} {s:Shared} {a:Addr} {y v:V} {u r:Value} {o:Option V} {A:Around} {E:Value→Shared→Prop}
theorem Inv.big (I:Inv X pins σ H s):sysModules < s.heap.objs.size:=by
  have h:mainGlobals < s.heap.objs.size:=(I.mod.glob.keeps I.bk).lt
  exact Nat.lt_trans (by decide) h
theorem d_getItem {Q:Value→Shared→Prop} (hu:A.units + 1 < cLine) (I:Inv X pins σ H s) (g:DGet H a y (some v)) (ry:RelV y u) (h:∀ w' s',Inv X pins σ H s'→RelV v w'→Q w' s') :
    wpAny (model X.prog X.w) A (getItem (.ref a) u) Q E s:=by
  rcases g with ⟨kvs,k,e,ey,l⟩ | ⟨kvs,k,b,e,ey,eb,l⟩
  · subst ey
    obtain ⟨z,hd,vs,rel,dd⟩:=dk_rd I.hok e
    obtain ⟨w',hw,rw'⟩:=RelO.some_of (v:=v) (o:=valueAt vs k) (by rw [l]; exact rel.val k)
    exact wpAny_getItem_of (kV_is ry) dd.mapOf hw (h w' _ (I.tok _) rw')
  · subst ey
    cases (show u=Value.ref b from ry)
    obtain ⟨z,hd,xs,rel,dd⟩:=dt_rd I.hok e
    obtain ⟨w',hw,rw'⟩:=RelO.some_of (v:=v) (o:=(atKey xs k).map (·.2)) (by rw [l]; exact rel.val k)
    obtain ⟨p,hp,hp2⟩:=Option.map_eq_some_iff.mp hw
    refine wpAny_getItem_heap (tupleKind_room_in1 hu) (key_of I.hok eb) dd hp ?_
    rw [hp2]
    exact h w' _ (I.tok _) rw'
theorem d_in {Q:Value→Shared→Prop} (hu:A.units + 1 < cLine) (I:Inv X pins σ H s) (g:DGet H a y o) (ry:RelV y u) (h:∀ s',Inv X pins σ H s'→Q (.bool o.isSome) s') :
    wpAny (model X.prog X.w) A (compareOp .In u (.ref a)) Q E s:=by
  rcases g with ⟨kvs,k,e,ey,l⟩ | ⟨kvs,k,b,e,ey,eb,l⟩
  · subst ey
    obtain ⟨z,hd,vs,rel,dd⟩:=dk_rd I.hok e
    refine wpAny_in_of (kV_is ry) hd dd.mapOf ?_
    rw [← (rel.val k).isSome_eq,← l]
    exact h _ (I.tok _)
  · subst ey
    cases (show u=Value.ref b from ry)
    obtain ⟨z,hd,xs,rel,dd⟩:=dt_rd I.hok e
    refine wpAny_in_heap (tupleKind_room_in1 hu) (key_of I.hok eb) hd dd ?_
    have q:=(rel.val k).isSome_eq
    rw [Option.isSome_map] at q
    rw [← q,← l]
    exact h _ (I.tok _)
theorem d_notIn {Q:Value→Shared→Prop} (hu:A.units + 1 < cLine) (I:Inv X pins σ H s) (g:DGet H a y o) (ry:RelV y u) (h:∀ s',Inv X pins σ H s'→Q (.bool (!o.isSome)) s') :
    wpAny (model X.prog X.w) A (compareOp .NotIn u (.ref a)) Q E s:=by
  rcases g with ⟨kvs,k,e,ey,l⟩ | ⟨kvs,k,b,e,ey,eb,l⟩
  · subst ey
    obtain ⟨z,hd,vs,rel,dd⟩:=dk_rd I.hok e
    refine wpAny_notIn_of (kV_is ry) hd dd.mapOf ?_
    rw [← (rel.val k).isSome_eq,← l]
    exact h _ (I.tok _)
  · subst ey
    cases (show u=Value.ref b from ry)
    obtain ⟨z,hd,xs,rel,dd⟩:=dt_rd I.hok e
    refine wpAny_notIn_heap (tupleKind_room_in1 hu) (key_of I.hok eb) hd dd ?_
    have q:=(rel.val k).isSome_eq
    rw [Option.isSome_map] at q
    rw [← q,← l]
    exact h _ (I.tok _)
theorem d_write {h':Heap} {t':Nat} {ob:HO} (I:Inv X pins σ H s) (mu:Mut (H a)) (hs:Heap.SameBut a s.heap h') (he:∃ q,h'.get? a=some q) (new:ObjOk X.prog X.w (upd H a ob) h' a ob) :
    Inv X pins σ (upd H a ob) { s with heap:=h',toks:=t' } :=
  I.write (x:=a) (e:=a) mu (.inl rfl) (fun b q hb z=>(hs.2 b hb).trans z) he new
theorem dk_new {P:Program} {w:World} {H':Hp} {h':Heap} {kvs:List (Key×V)} {vs:List (Key×Value)} (z:kvs.length≤sizeLine) (hd:(a == sysModules)=false) (rel:KV kvs vs) (dd:h'.DictOf (mixKind P w) a vs) :
    ObjOk P w H' h' a (.dK kvs):=⟨z,hd,vs,rel,dd⟩
theorem d_setItem {H':Hp} {Q:Unit→Shared→Prop} (hu:A.units + 1 < cLine) (I:Inv X pins σ H s) (g:DPut H a y v H') (ry:RelV y u) (rv:RelV v r) (h:∀ s',Inv X pins σ H' s'→Q () s') :
    wpAny (model X.prog X.w) A (setItem (.ref a) u r) Q E s:=by
  rcases g with ⟨kvs,k,e,ey,l,eH⟩ | ⟨kvs,k,b,e,ey,eb,l,eH⟩
  · subst ey eH
    obtain ⟨z,hd,vs,rel,dd⟩:=dk_of I.hok e
    have hz:vs.length≤sizeLine:=by rw [← rel.length]; exact z
    have hl:(putK kvs k v).length≤sizeLine:=by have:=length_putK kvs k v; omega
    refine wpAny_setItem_pairs (hsz:=hz) (kV_is ry) dd fun h' dd' hs=>h _ ?_
    have he:∃ q,h'.get? a=some q:=let ⟨q,_,_,hq,_⟩:=dd'; ⟨q,hq⟩
    exact d_write I (by rw [e]; exact True.intro) hs he (dk_new hl hd (rel.put k rv) dd')
  · subst ey eH
    cases (show u=Value.ref b from ry)
    obtain ⟨z,hd,xs,rel,dd⟩:=dt_of I.hok e
    have hz:xs.length≤sizeLine:=by rw [← Paired.length rel]; exact z
    have hl:(putK kvs k v).length≤sizeLine:=by have:=length_putK kvs k v; omega
    refine wpAny_setItem_heap (hsz:=hz) (tupleKind_room_in1 hu) (key_of I.hok eb) dd fun h' dd' hs=>h _ ?_
    obtain ⟨q,es,ep,hq,h2,h3,h4,_,h5⟩:=dd'
    refine d_write I (by rw [e]; exact True.intro) hs ⟨q,hq⟩ ⟨hl,hd,_,(rel.put k eb rv).keeps fun c ys ec=>?_,q,es,ep,hq,h2,h3,h4,h5⟩
    rw [upd_ne (ne_of ec e (fun z=>nomatch z))]
    exact ec
end
section
variable {X:Cx} {pins:List (Addr×Obj)} {σ:St} {H:Hp} {s:Shared} {a:Addr} {kvs:List (Key×V)} {k:Key} {u:Value} {A:Around} {E:Value→Shared→Prop}
theorem d_len {Q:Value→Shared→Prop} (I:Inv X pins σ H s) (e:Rd H a (.dK kvs)) (h:∀ t s',Inv X pins σ H s'→Q (.int kvs.length t) s'):wpAny (model X.prog X.w) A (call (.builtin "len") [.ref a]) Q E s:=by
  obtain ⟨z,hd,vs,rel,dd⟩:=dk_rd I.hok e
  refine call_len_dict hd dd (by rw [← rel.length]; rw [sizeLine_eq] at z; omega) ?_
  rw [← rel.length]
  exact h _ _ (I.tok _)
end
def NoSl (i:Expr):Prop:=∀ ov iv,subscripted i false ov iv=operate [ov,iv] (getItem ov iv)
theorem subD_of {prog:Program} {w:World} {A:Around} {E:Value→Shared→Prop} {s:Shared} {env:Env} {value slice:Expr} {pos:Pos} {T id:String} {Q:Value→Shared→Prop}
    (hl:typeLookup (.type T) "__getitem__"=pure (some (.builtin id))) (hs:NoSl slice)
    (h:wpAny (model prog w) A (eval value env) (fun o s₁=>wpAny (model prog w) A (eval slice env) (fun i s₂=>s₂.TypeIs o T∧wpAny (model prog w) A (getItem o i) Q E s₂) E s₁) E s) :
    wpAny (model prog w) A (eval (.Subscript value slice pos) env) Q E s:=by
  refine Subscript_ (wpAny_mono h (fun o s₁ h₁=>wpAny_mono h₁ (fun i s₂ h₂=>?_) fun _ _ x=>x) fun _ _ x=>x)
  obtain ⟨hT,h₂⟩:=h₂
  unfold subscriptTail
  refine wpAny_bind ?_
  rw [getitemInPython_of_ne hT.not_modules]
  refine wpAny_bind (wpAny_specialOf hT hl ?_)
  have fin:wpAny (model prog w) A (subscripted slice false o i) (fun r s₃=>wpAny (model prog w) A (letTemporaryGo value o r >>= fun _=>pure r) Q E s₃) E s₂:=by
    rw [hs o i]
    exact wpAny_operating (wpAny_mono h₂ (fun r s₃ h₃=>wpAny_bind (wpAny_letTemporaryGo (wpAny_pure h₃))) fun _ _ x=>x)
  first
    | exact wpAny_pure (wpAny_bind fin)
    | exact wpAny_bind (wpAny_pure (wpAny_bind fin))
    | exact wpAny_bind fin
theorem dict_typeIs {X:Cx} {pins:List (Addr×Obj)} {σ:St} {H:Hp} {s:Shared} {a:Addr} {y:V} {o:Option V} (I:Inv X pins σ H s) (g:DGet H a y o):s.TypeIs (.ref a) "dict":=by
  rcases g with ⟨kvs,k,e,_,_⟩ | ⟨kvs,k,b,e,_,_,_⟩
  · obtain ⟨_,_,vs,_,dd⟩:=dk_rd I.hok e
    exact dd.typeIs
  · obtain ⟨_,_,xs,_,dd⟩:=dt_rd I.hok e
    exact dd.typeIs
def tDGet (td ty:TE):TE:=fun σ H Q=>td σ H fun x H1=>ty σ H1 fun y H2=>∃ a v,x=.ref a∧DGet H2 a y (some v)∧Q v H2
def tDIn (ty td:TE):TE:=fun σ H Q=>ty σ H fun y H1=>td σ H1 fun x H2=>∃ a o,x=.ref a∧DGet H2 a y o∧Q (.bl o.isSome) H2
def tDNotIn (ty td:TE):TE:=fun σ H Q=>ty σ H fun y H1=>td σ H1 fun x H2=>∃ a o,x=.ref a∧DGet H2 a y o∧Q (.bl (!o.isSome)) H2
def sDPut (td ty tv:TE):TS:=fun D σ H=>tv σ H fun v H1=>td σ H1 fun x H2=>ty σ H2 fun y H3=>∃ a H4,x=.ref a∧DPut H3 a y v H4∧D.nx σ H4
section
variable {X:Cx} {o i e value:Expr} {pos pos' tpos:Pos} {td ty tv:TE}
theorem pe_dget (hu:X.A.units + 1 < cLine) (ho:PE X o td) (hi:PE X i ty) (hs:NoSl i):PE X (.Subscript o i pos) (tDGet td ty):=by
  intro pins s σ H Q I h
  refine subD_of PySem.F.slot_dict_getitem.lookup hs (thn (ho pins s σ H _ I h) fun u s1 ⟨x,H1,I1,rx,q1⟩=>thn (hi pins s1 σ H1 _ I1 q1) fun iv s2 ⟨y,H2,I2,ry,a,v,ex,g,q2⟩=>?_)
  subst ex
  obtain rfl:u=Value.ref a:=rx
  exact ⟨dict_typeIs I2 g,d_getItem hu I2 g ry fun w' s3 I3 rw'=>⟨v,H2,I3,rw',q2⟩⟩
theorem pc_din (hu:X.A.units + 1 < cLine) (hi:PE X i ty) (ho:PE X o td):PC X .In i o (tDIn ty td):=by
  intro pins s σ H Q I h
  refine thn (hi pins s σ H _ I h) fun iv s1 ⟨y,H1,I1,ry,q1⟩=>thn (ho pins s1 σ H1 _ I1 q1) fun u s2 ⟨x,H2,I2,rx,a,ov,ex,g,q2⟩=>?_
  subst ex
  obtain rfl:u=Value.ref a:=rx
  exact d_in hu I2 g ry fun s3 I3=>⟨.bl ov.isSome,H2,I3,rfl,q2⟩
theorem pc_dnotin (hu:X.A.units + 1 < cLine) (hi:PE X i ty) (ho:PE X o td):PC X .NotIn i o (tDNotIn ty td):=by
  intro pins s σ H Q I h
  refine thn (hi pins s σ H _ I h) fun iv s1 ⟨y,H1,I1,ry,q1⟩=>thn (ho pins s1 σ H1 _ I1 q1) fun u s2 ⟨x,H2,I2,rx,a,ov,ex,g,q2⟩=>?_
  subst ex
  obtain rfl:u=Value.ref a:=rx
  exact d_notIn hu I2 g ry fun s3 I3=>⟨.bl (!ov.isSome),H2,I3,rfl,q2⟩
theorem ps_dput (hu:X.A.units + 1 < cLine) (ho:PE X o td) (hi:PE X i ty) (hv:PE X value tv) (hs:swapsWith value (some (.Subscript o i pos')) pos.line X.env=pure false) :
    PS X (.Assign [.Subscript o i pos'] value pos) (sDPut td ty tv):=by
  intro pins s σ H D I h
  refine wpAny_Assign_Subscript (thn (hv pins s σ H _ I h) fun r s1 ⟨v,H1,I1,rv,q1⟩=>thn (ho pins s1 σ H1 _ I1 q1) fun u s2 ⟨x,H2,I2,rx,q2⟩=>thn (hi pins s2 σ H2 _ I2 q2) fun iv s3 ⟨y,H3,I3,ry,a,H4,ex,g,q3⟩=>?_) hs
  subst ex
  obtain rfl:u=Value.ref a:=rx
  exact d_setItem hu I3 g ry rv fun s4 I4=>⟨σ,H4,I4,q3⟩
end
theorem dk_empty {P:Program} {w:World} {H:Hp} (h:Heap) (hb:sysModules < h.objs.size):ObjOk P w H (h.push { cls:=.type "dict",data:=.dict #[] }) h.objs.size (.dK []) :=
  ⟨Nat.zero_le _,beq_eq_false_iff_ne.mpr (Ne.symm (Nat.ne_of_lt hb)),[],.nil,Heap.DictOf.new h⟩
section
variable {X:Cx} {pos:Pos}
end
def tPairs:List (TE×TE)→St→Hp→(List (V×V)→Hp→Prop)→Prop
  | [],_,H,Q=>Q [] H
  | (tk,tv) :: r,σ,H,Q=>tk σ H fun x H1=>tv σ H1 fun y H2=>tPairs r σ H2 fun ps H3=>Q ((x,y) :: ps) H3
abbrev VV:List (V×V)→List (Value×Value)→Prop:=Paired fun p q=>RelV p.1 q.1∧RelV p.2 q.2
def PPs (X:Cx) (pos:Pos) (keys:List (Option Expr)) (values:List Expr) (trs:List (TE×TE)):Prop :=
  ∀ (pins:List (Addr×Obj)) (s:Shared) (σ:St) (H:Hp) (Q:List (V×V)→Hp→Prop),Inv X pins σ H s→tPairs trs σ H Q →
    wpAny (model X.prog X.w) X.A (evalPairs (pairTrees keys values X.env pos)) (fun vs s'=>∃ ps H',Inv X pins σ H' s'∧VV ps vs∧Q ps H') X.xe s
theorem pps_nil {X:Cx} {pos:Pos}:PPs X pos [] [] []:=fun pins s σ H Q I h=>pairTrees_nil_walk ⟨[],H,I,.nil,h⟩
theorem pps_cons {X:Cx} {pos:Pos} {k v:Expr} {ks:List (Option Expr)} {vs:List Expr} {tk tv:TE} {trs:List (TE×TE)} (hk:PE X k tk) (hv:PE X v tv) (hr:PPs X pos ks vs trs) :
    PPs X pos (some k :: ks) (v :: vs) ((tk,tv) :: trs):=fun pins s σ H Q I h =>
  pairTrees_cons_walk (thn (hk pins s σ H _ I h) fun u s1 ⟨x,H1,I1,rx,q1⟩=>thn (hv pins s1 σ H1 _ I1 q1) fun w2 s2 ⟨y,H2,I2,ry,q2⟩ =>
    thn (hr pins s2 σ H2 _ I2 q2) fun ws s3 ⟨ps,H3,I3,rel,q3⟩=>⟨(x,y) :: ps,H3,I3,.cons ⟨rx,ry⟩ rel,q3⟩)
def mergeK (kvs more:List (Key×V)):List (Key×V):=more.foldl (fun acc kv=>putK acc kv.1 kv.2) kvs
theorem KV.merge:∀ {more:List (Key×V)} {rs:List (Key×Value)} {kvs:List (Key×V)} {vs:List (Key×Value)},KV more rs→KV kvs vs→KV (mergeK kvs more) (merged vs rs):=by
  intro more rs kvs vs r
  unfold KV at r
  induction r generalizing kvs vs with
  | nil=>intro q; exact q
  | @cons p q ps qs h t ih =>
    intro r0
    have e:KV (putK kvs p.1 p.2) (stored vs q.1 q.2):=by
      have:=r0.put p.1 h.2
      rw [← h.1]; exact this
    exact ih e
theorem length_mergeK:∀ (more kvs:List (Key×V)),(mergeK kvs more).length≤kvs.length + more.length
  | [],kvs=>by show kvs.length≤kvs.length + 0; omega
  | p :: r,kvs=>by
    have h1:=length_mergeK r (putK kvs p.1 p.2)
    have h2:=length_putK kvs p.1 p.2
    show (mergeK (putK kvs p.1 p.2) r).length≤_
    rw [List.length_cons]; omega
theorem carries_of {P:Program} {w:World}:∀ {kvs:List (Key×V)} {ws:List (Value×Value)},VV (kvs.map fun kv=>(kV kv.1,kv.2)) ws→∃ rs,Carries (mixKind P w) ws rs∧KV kvs rs
  | [],_,r=>by rw [List.map_nil] at r; cases r; exact ⟨[],True.intro,.nil⟩
  | p :: kvs,_,r=>by
    rw [List.map_cons] at r
    cases r with
    | @cons a b as bs h t =>
      obtain ⟨rs,c,q⟩:=carries_of (P:=P) (w:=w) t
      obtain ⟨b1,b2⟩:=b
      exact ⟨(p.1,b2) :: rs,⟨kV_is h.1,rfl,c⟩,.cons ⟨rfl,h.2⟩ q⟩
def tDisp (trs:List (TE×TE)):TE:=fun σ H Q=>∀ p,H p=none→tPairs trs σ (upd H p (.dK [])) fun ps H2=>H2 p=some (.dK [])∧∃ kvs:List (Key×V),ps=kvs.map (fun kv=>(kV kv.1,kv.2))∧kvs.length≤15∧Q (.ref p) (upd H2 p (.dK (mergeK [] kvs)))
theorem pe_disp {X:Cx} {pos:Pos} {keys:List (Option Expr)} {values:List Expr} {trs:List (TE×TE)} (h:PPs X pos keys values trs) (hall:keys.all (·.isSome)=true) (hl:keys.length=values.length) (h0:keys≠[])
    (h15:keys.length≤15):PE X (.Dict keys values pos) (tDisp trs):=by
  intro pins s σ H Q I q
  have hn:=I.hok.fresh (Nat.le_refl s.heap.objs.size)
  have I1:=I.laid (a:=s.heap.objs.size) (o:=.dK []) (h':=s.heap.push { cls:=.type "dict",data:=.dict #[] }) (t':=s.toks) (fun _ _ q=>Heap.get?_push_of_some _ q) (Nat.le_refl _) (dk_empty s.heap I.big)
  refine wpAny_Dict_walk (knd:=mixKind X.prog X.w) hall hl h0 h15 (thn (h pins _ σ _ _ I1 (q _ hn)) fun ws s2 ⟨ps,H2,I2,rel,e,kvs,ep,lk,q2⟩=>?_)
  subst ep
  obtain ⟨rs,c,rk⟩:=carries_of (P:=X.prog) (w:=X.w) rel
  obtain ⟨z,hd,vs0,r0,dd⟩:=dk_of I2.hok e
  cases r0
  refine ⟨rs,c,dd,fun h' dd' hs=>⟨.ref s.heap.objs.size,_,?_,rfl,q2⟩⟩
  have hz:(mergeK [] kvs).length≤sizeLine:=by
    have h1:=length_mergeK kvs []
    rw [List.length_nil] at h1
    rw [sizeLine_eq]; omega
  have he:∃ q,h'.get? s.heap.objs.size=some q:=let ⟨q,_,_,hq,_⟩:=dd'; ⟨q,hq⟩
  exact d_write I2 (by rw [e]; exact True.intro) hs he (dk_new hz hd (rk.merge .nil) dd')
section
variable {X:Cx} {pins:List (Addr×Obj)} {σ:St} {H:Hp} {s:Shared} {a:Addr} {y d:V} {u r:Value} {o:Option V} {A:Around} {E:Value→Shared→Prop}
end
section
variable {X:Cx} {o e f:Expr} {apos cpos:Pos} {td ty tx:TE}
end
section
variable {X:Cx} {pins:List (Addr×Obj)} {σ:St} {H:Hp} {s:Shared} {a:Addr} {kvs:List (Key×V)} {A:Around} {E:Value→Shared→Prop}
end
section
variable {X:Cx} {pins:List (Addr×Obj)} {σ:St} {H:Hp} {s:Shared} {a:Addr} {y:V} {u:Value} {A:Around} {E:Value→Shared→Prop}
end
end L2
namespace L2
open PySem PySem.Spec PyProof.Rows
def Ite (K:PySem.W.Frag) (a:Addr):It :=
  ⟨fun i H=>∃ xs x,SqL K H a xs∧xs[i]?=some x,
   fun i H v H'=>∃ p x,H p=none∧v=.ref p∧(∀ xs,SqL K H a xs→xs[i]?=some x)∧H'=upd H p (.tup [.int (i:Nat),x]),
   fun i H=>∃ xs,SqL K H a xs∧xs.length≤i⟩
def Tne (e it l:Addr) (i:Nat) (h:Heap):Prop:=(∃ old,IsEnum h e it (i:Nat) old)∧h.IsListIter it l i
theorem turn_enum {P:Program} {w:World} {K:PySem.W.Frag} {elts:List Expr} {x1} {pos:Pos} {e it l:Addr} (hne:e≠it):Turn P w K (.Tuple elts x1 pos) (Ite K l) [e,it] e (Tne e it l) where
  mem:=by simp
  obj:=fun i h st b hb=>by
    obtain ⟨⟨old,q1⟩,q2⟩:=st
    have hb':b=e∨b=it:=by simpa using hb
    rcases hb' with z | z <;> subst z
    · exact ⟨_,q1,fun v z=>by cases z⟩
    · obtain ⟨o,e1,c,d⟩:=q2
      exact ⟨o,e1,fun v z=>by rw [d] at z; cases z⟩
  keep:=fun i h h' st k=>by
    obtain ⟨⟨old,q1⟩,q2⟩:=st
    exact ⟨⟨old,k e (by simp) _ q1⟩,q2.at fun o z=>k it (by simp) o z⟩
  item:=by
    intro X hP hw hK hc i pins s σ H E I hf st hg
    subst hP hw hK
    obtain ⟨xs,x,h1,hx⟩:=hg
    obtain ⟨its,rv,p,hz⟩:=I.list h1
    obtain ⟨u,hu,ru⟩:=rv.get hx
    obtain ⟨⟨old,q1⟩,q2⟩:=st
    refine wpAny_pyNext_enum_item q1 q2 p.isList (x:=u) (by simpa using hu) hne fun h' a1 a2 a3 a4 kk=>?_
    have lt:∀ {c o},s.heap.get? c=some o→s.heap.objs.size≠c:=fun z=>Nat.ne_of_gt (Heap.lt_size z)
    refine ⟨_,rfl,wpAny_letOwnedTupleGo_enum a1 fun hh2 z2 s2=>?_⟩
    have kk2:∀ c o,c ∉ [e,it]→s.heap.get? c=some o→hh2.get? c=some o:=fun c o hc z=>s2.extBut _ _ (fun w=>hc (by simp [w])) (kk c o (fun w=>hc (by simp [w])) (fun w=>hc (by simp [w])) z)
    have I1:Inv X pins σ H { s with heap:=hh2,toks:=s.toks + 1 }:=I.turnedN (t':=s.toks + 1) kk2 hf
    have T2:hh2.get? s.heap.objs.size=some { cls:=.type "tuple",data:=.seq #[.int i s.toks,u] }:=s2.extBut _ _ (lt q1) a3
    have hn:H s.heap.objs.size=none:=I.hok.fresh (Nat.le_refl _)
    have fr:=I.fpOk (H':=H) (Nat.le_refl _) hn
    have I2:Inv X pins σ (upd H s.heap.objs.size (.tup [.int (i:Nat),x])) { s with heap:=hh2,toks:=s.toks + 1 }:=by
      refine I1.track hn (fun b o q _ _=>?_) fr.2.1.symm fr.2.2.2.2.1 fr.2.2.2.2.2 ?_
      · exact Nat.ne_of_lt (Nat.lt_of_lt_of_le (Heap.lt_size q) I.sz)
      · exact ⟨by simp [sizeLine],[.int i s.toks,u],.cons ⟨_,rfl⟩ (.cons ru .nil),⟨_,T2,rfl,_,rfl⟩⟩
    refine ⟨.ref s.heap.objs.size,_,I2,rfl,⟨_,x,hn,rfl,fun zs hzs=>?_,rfl⟩,?_,fun b hb=>?_⟩
    · rw [I.list_inj hzs h1]; exact hx
    · have e1:(i:Int) + 1=((i + 1:Nat):Int):=by omega
      rw [e1] at z2
      exact ⟨⟨_,z2⟩,a2.at fun o z=>s2.extBut _ _ (Ne.symm hne) z⟩
    · have z:b≠s.heap.objs.size:=by
        have hb':b=e∨b=it:=by simpa using hb
        rcases hb' with z | z <;> subst z
        · exact (lt q1).symm
        · obtain ⟨o,e1,_⟩:=q2; exact (lt e1).symm
      rw [upd_ne z]
      exact (hf b hb).1
  done:=by
    intro X hP hw hK hc i pins s σ H E I hf st hg
    subst hP hw hK
    obtain ⟨xs,h1,hx⟩:=hg
    obtain ⟨its,rv,p,hz⟩:=I.list h1
    have e1:=rv.length
    obtain ⟨⟨old,q1⟩,q2⟩:=st
    refine wpAny_pyNext_enum_end (I.ok.hd hc) q1 q2 p.isList (by simp; omega) fun h' kk=>⟨rfl,?_⟩
    exact I.turnedN (t':=s.toks) (fun c o hc z=>kk c o (fun w=>hc (by simp [w])) z) hf
  self:=fun _ _ _ _ _ st h=>by
    obtain ⟨⟨old,q1⟩,q2⟩:=st
    exact wpAny_pyIter_enum q1 h
section
variable {X:Cx}
def iEnum1 (K:PySem.W.Frag) (ta:TA):TI:=fun σ H R=>ta σ H fun vs H1=>∃ a,vs=[.ref a]∧(∃ xs,SqL K H1 a xs)∧R (Ite K a) H1
theorem boot_enumerate:bootBuiltins "enumerate"=some (.type "enumerate"):=by decide +kernel
theorem pi_enum1 {a:Expr} {ta:TA} {p pos tpos:Pos} {elts:List Expr} {x1} (hg:Gl X "enumerate") (hm:X.mg "enumerate"=none) (ha:PA X [a] ta) (hs:starEach [a] X.env=[(false,eval a X.env)]:=by rfl) :
    PI X (.Tuple elts x1 tpos) (.Call (.Name "enumerate" p) [a] [] pos) (iEnum1 X.K ta):=by
  intro pins s σ H R I h
  refine Call_ (ld_blt I hg hm boot_enumerate (PyProof.Rows.callWith_type1 (thn (ha pos pins s σ H _ I h) fun us s1 ⟨vs,H1,I1,r1,q1⟩=>?_) hs rfl))
  obtain ⟨l,e,⟨xs,h1⟩,q⟩:=q1
  subst e
  cases r1 with
  | cons r rr =>
    cases rr
    cases r
    obtain ⟨its,rv,p,hz⟩:=I1.list h1
    refine call_enumerate_list p.isList fun h' a1 a2 a3 kk=>wpAny_pyIter_enum a1 ?_
    have ne:(s1.heap.objs.size + 1:Nat)≠s1.heap.objs.size:=Nat.succ_ne_self _
    refine ⟨s1.heap.objs.size + 1,_,_,_,H1,rfl,I1.kept (t':=s1.toks) kk,turn_enum (l:=l) (it:=s1.heap.objs.size) ne,⟨⟨_,a1⟩,a2⟩,fun b hb=>?_,q⟩
    have hb':b=s1.heap.objs.size + 1∨b=s1.heap.objs.size:=by simpa using hb
    have hle:s1.heap.objs.size≤b:=by rcases hb' with e | e <;> rw [e] <;> first | exact Nat.le_refl _ | exact Nat.le_add_right _ _
    exact I1.fpOk hle (I1.hok.fresh hle)
theorem fb_enum1 {a:Expr} {ta:TA} {p pos tpos:Pos} {elts:List Expr} {x1} (hg:Gl X "enumerate") (hm:X.mg "enumerate"=none) (ha:PB X [a] ta) (he:isStar a=false:=by rfl) :
    PI X (.Tuple elts x1 tpos) (.Call (.Name "enumerate" p) [a] [] pos) (iEnum1 X.K ta):=pi_enum1 hg hm ha.ok (star_cons he)
end
theorem w_enum {K:PySem.W.Frag} {ta:TA} {σ:St} {H:Hp} {R:It→Hp→Prop} (h:ta σ H fun vs H1=>∃ a,vs=[.ref a]∧(∃ xs,SqL K H1 a xs)∧R (Ite K a) H1):iEnum1 K ta σ H R:=h
theorem for_enum {K:PySem.W.Frag} {a:Addr} {xs:List V} {g:TG} {tb:TS} {D:Ends} {σ:St} {H:Hp} (Pv:Nat→St→Hp→Prop) (h0:Pv 0 σ H) (hl:∀ i σ H,i≤xs.length→Pv i σ H→SqL K H a xs)
    (hs:∀ i x σ H p,xs[i]?=some x→Pv i σ H→H p=none→g (.ref p) σ (upd H p (.tup [.int (i:Nat),x])) fun σ2 H2=>tb { D with nx:=Pv (i + 1),ct:=Pv (i + 1),bk:=D.nx } σ2 H2) (hd:∀ σ H,Pv xs.length σ H→D.nx σ H) :
    ∃ W:Nat→Nat→St→Hp→Prop,(∃ m,W 0 m σ H)∧∀ i m σ H,W i m σ H →
      ((Ite K a).stop i H∧D.nx σ H)∨((Ite K a).go i H∧∃ N:St→Hp→Prop,(∀ σ' H',N σ' H'→∃ m',m' < m∧W (i + 1) m' σ' H')∧∀ x H',(Ite K a).yld i H x H'→g x σ H' fun σ2 H2=>tb { D with nx:=N,ct:=N,bk:=D.nx } σ2 H2):=by
  refine ⟨fun i m σ H=>m=xs.length - i∧i≤xs.length∧Pv i σ H,⟨xs.length,by simp,Nat.zero_le _,h0⟩,?_⟩
  rintro i m σ H ⟨rfl,hi,p⟩
  have q:=hl i σ H hi p
  by_cases hlt:i < xs.length
  · refine .inr ⟨⟨xs,xs[i],q,by simp [hlt]⟩,Pv (i + 1),fun σ' H' p'=>⟨xs.length - (i + 1),by omega,rfl,hlt,p'⟩,fun x H' y=>?_⟩
    obtain ⟨t,y1,ht,rfl,y2,rfl⟩:=y
    exact hs i y1 σ H t (y2 xs q) p ht
  · have e:i=xs.length:=by omega
    subst e
    exact .inl ⟨⟨xs,q,Nat.le_refl _⟩,hd σ H p⟩
end L2
namespace L2
open PySem PySem.Spec PyProof.Rows
theorem ints_keys {P:Program} {w:World}:∀ {ns:List Int} {vs:List (Key×Value)} {us:List Value},vs.map (·.1)=ns.map Sum.inl→us.length=vs.length →
    (∀ (j:Nat) u,us[j]?=some u→∃ k x,vs[j]?=some (k,x)∧(mixKind P w).is k u=true)→IntsAre us ns
  | [],vs,us,hk,hl,_=>by
    have e:vs=[]:=by simpa using hk
    subst e
    have e2:us=[]:=List.eq_nil_of_length_eq_zero hl
    subst e2
    exact .nil
  | n :: ns,[],us,hk,_,_=>by simp at hk
  | n :: ns,v :: vs,[],hk,hl,_=>by simp at hl
  | n :: ns,v :: vs,u :: us,hk,hl,h=>by
    rw [List.map_cons,List.map_cons] at hk
    obtain ⟨e1,e2⟩:=List.cons.inj hk
    obtain ⟨k,x,ev,hi⟩:=h 0 u rfl
    have ek:v=(k,x):=by simpa using ev
    subst ek
    replace e1:k=Sum.inl n:=e1
    subst e1
    rw [mixKind_is] at hi
    have hu:∃ t,u=.int n t:=by
      cases u with
      | int i t =>
        have hi':Value.isInt n (.int i t)=true:=hi
        first
          | exact ⟨t,by have:=of_decide_eq_true hi'; rw [this]⟩
          | (simp [Value.isInt] at hi'; exact ⟨t,by rw [hi']⟩)
      | _=>simp [keyIs,Value.isInt] at hi
    obtain ⟨t,rfl⟩:=hu
    exact .cons n t (ints_keys e2 (by simpa using hl) fun j u hj=>h (j + 1) u (by simpa using hj))
def rSortedD:List V→Hp→VK→Prop:=fun xs H Q=>∃ (a:Addr) (kvs:List (Key×V)) (ns:List Int),xs=[.ref a]∧H a=some (.dK kvs)∧kvs.map (·.1)=ns.map Sum.inl∧ns.length < 64 ∧
  ∀ ns':List Int,ns'.Perm ns→ns'.Pairwise (·≤·)→∀ p,H p=none→Q (.ref p) (upd H p (.lst (ns'.map V.int)))
theorem call_sortedD {X:Cx} (hc:X.calm=true):CallR X (.builtin "sorted") rSortedD:=by
  intro pins s σ H xs us Q I r h
  obtain ⟨a,kvs,ns,rfl,ha,hk,h64,q⟩:=h
  obtain ⟨u,rfl,rx⟩:=vals1 r
  cases rx
  obtain ⟨hz,hsys,vs,kv,hd⟩:=dk_of I.hok ha
  obtain ⟨ep,hat⟩:=hd.dictAt
  have ek:vs.map (·.1)=ns.map Sum.inl:=by rw [← KV.keys kv]; exact hk
  have el:vs.length=ns.length:=by have:=congrArg List.length ek; simpa using this
  refine Calls.call_function_entry kind_sorted plain_sorted entry_sorted (args_sorted1 _) ?_
  unfold Builtin.«sorted»
  refine wpAny_bind (m:=checkCount "sorted" 1 1 _) (wpAny_pure ?_)
  refine wpAny_bind (PySem.W.kdu_collect (A:=X.A.in1) (PySem.W.kdl_dict (knd:=mixKind X.prog X.w) (kvs:=vs) (ep:=ep) hsys) (I.ok.hd hc) hat (by rw [el]; exact Nat.le_of_lt (Nat.lt_of_lt_of_le h64 (by decide))) fun h' tk acc hk' hacc=>?_)
  have hl:acc.toList.length=vs.length:=by rw [Array.length_toList]; exact hacc.1
  have hI:IntsAre acc.toList ns:=ints_keys (P:=X.prog) (w:=X.w) ek hl fun j v e=>hacc.2 j v (by rw [← Array.getElem?_toList]; exact e)
  refine wpAny_bind (wpAny_newList ?_ (by rw [hl,el]; exact Nat.le_of_lt (Nat.lt_of_lt_of_le h64 (by decide))))
  have I':Inv X pins σ H { s with heap:=h',toks:=tk }:=I.kept hk'
  have hoL:(h'.push { cls:=.type "list",data:=.seq acc.toList.toArray }).get? h'.objs.size=some (seqObj "list" acc.toList.toArray 0):=Heap.get?_push_size _ rfl
  refine wpAny_bind (wpAny_holding (wpAny_call_entry slot_list_sort ⟨_,hoL,rfl⟩ entry_list_sort (list_sort_tree hoL hI (by rw [hl,el]; exact h64) fun out ns' a1 a2 a3=>⟨_,rfl,?_⟩) (args_list_sort _)))
  refine wpAny_pure ⟨_,rfl,?_⟩
  obtain ⟨e,he⟩:=sortedHeap_at (out:=out) hoL
  have hn:H h'.objs.size=none:=I'.hok.fresh (Nat.le_refl _)
  refine ⟨.ref h'.objs.size,_,I'.laid (o:=.lst (ns'.map V.int)) (t':=tk) (fun b o z=>?_) (Nat.le_refl _) ?_,rfl,q ns' a2 a3 _ hn⟩
  · have lt:=Heap.lt_size z
    rw [sortedHeap_old (Nat.ne_of_lt lt) (by rw [size_push']; exact Nat.lt_succ_of_lt lt),Heap.get?_push_ne _ _ _ (Nat.ne_of_lt lt)]
    exact z
  · refine ⟨?_,out.toList,e,vals_ints a1,?_⟩
    · rw [List.length_map,a2.length_eq]; exact Nat.le_of_lt (Nat.lt_of_lt_of_le h64 (by decide))
    · rw [Array.toArray_toList]; exact he
theorem w_sortedD {H:Hp} {Q:VK} {a:Addr} {kvs:List (Key×V)} {ns:List Int} (ha:H a=some (.dK kvs)) (hk:kvs.map (·.1)=ns.map Sum.inl) (h:ns.length < 64)
    (q:∀ ns':List Int,ns'.Perm ns→ns'.Pairwise (·≤·)→∀ p,H p=none→Q (.ref p) (upd H p (.lst (ns'.map V.int)))):rSortedD [.ref a] H Q:=⟨a,kvs,ns,rfl,ha,hk,h,q⟩
end L2
namespace L2
open PySem PySem.Spec PyProof.Rows
section
variable {X:Cx}
end
end L2
namespace L2
open PySem PySem.Spec PyProof.Rows
theorem met_nodup (ns:List Int) (nd:ns.Nodup):∀ i,i≤ns.length→(firstMet (fun i=>ns.getD i 0) i).length=i∧∀ k,(firstMet (fun i=>ns.getD i 0) i).any (· == k)=((List.range i).map fun i=>ns.getD i 0).any (· == k):=by
  intro i
  induction i with
  | zero=>exact fun _=>⟨rfl,fun k=>firstMet_any _ 0 k⟩
  | succ i ih =>
    intro hi
    obtain ⟨h1,_⟩:=ih (by omega)
    refine ⟨?_,fun k=>firstMet_any _ (i + 1) k⟩
    rw [firstMet_succ]
    unfold step_dedup
    have no:(firstMet (fun i=>ns.getD i 0) i).any (· == ns.getD i 0)=false:=by
      rw [firstMet_any,List.any_eq_false]
      intro x hx
      obtain ⟨j,hj,rfl⟩:=List.mem_map.mp hx
      have hj':j < i:=List.mem_range.mp hj
      have e1:ns.getD j 0=ns[j]'(by omega):=by simp [show j < ns.length by omega]
      have e2:ns.getD i 0=ns[i]'(by omega):=by simp [show i < ns.length by omega]
      have:=(List.pairwise_iff_getElem.mp nd) j i (by omega) (by omega) hj'
      rw [e1,e2]
      simpa using this
    first
      | rw [if_neg (by rw [no]; decide),List.length_append,h1]; rfl
      | (simp only [no]; simp [h1])
def rTy_set (K:PySem.W.Frag):List V→Hp→VK→Prop:=fun xs H Q=>∃ (p:Addr) (ns:List Int),xs=[.ref p]∧SqL K H p (ns.map V.int)∧ns.Nodup∧ns.length≤1000∧∀ q S,H q=none→Q (.ref q) (upd H q (.set S ns.length))
theorem call_ty_set {X:Cx} (hc:X.calm=true):CallR X (.type "set") (rTy_set X.K):=by
  intro pins s σ H xs us Q I r h
  obtain ⟨p,ns,rfl,hs,nd,hn,q⟩:=h
  obtain ⟨u,rfl,ru⟩:=vals1 r
  cases ru
  obtain ⟨its,rv,pl,hz⟩:=I.list hs
  have hl:=rv.length
  rw [List.length_map] at hl
  refine PySem.call_set_list (items:=its.toArray) (ns:=ns) (I.ok.hd hc) pl.isList (by simpa using intsAre_of rv) (by rw [List.size_toArray,← hl]; exact Nat.lt_of_le_of_lt (Nat.succ_le_succ hn) (by decide)) fun h' tk hS hk=>?_
  have e:(firstMet (fun i=>ns.getD i 0) its.toArray.size).length=ns.length:=by
    rw [List.size_toArray,← hl]; exact (met_nodup ns nd ns.length (Nat.le_refl _)).1
  rw [e] at hS
  exact ⟨.ref s.heap.objs.size,_,I.laid (o:=.set _ ns.length) (t':=tk) (fun b o z=>hk b o (Heap.lt_size z) z) (Nat.le_refl _) hS,rfl,q _ _ (I.hok.fresh (Nat.le_refl _))⟩
def rLenS (K:PySem.W.Frag):List V→Hp→VK→Prop:=fun xs H Q=>∃ (p:Addr) (S:Int→Bool) (n:Nat),xs=[.ref p]∧H p=some (.set S n)∧n≤1000∧Q (.int (n:Nat)) H
theorem call_lenS {X:Cx}:CallR X (.builtin "len") (rLenS X.K):=by
  intro pins s σ H xs us Q I r h
  obtain ⟨p,S,n,rfl,hp,hn,q⟩:=h
  obtain ⟨u,rfl,ru⟩:=vals1 r
  cases ru
  obtain ⟨o,es,ep,t,ho,hex,hd,_,_,_,hf,hsz⟩:=(show ObjOk X.prog X.w H s.heap p (.set S n) from I.hok p _ hp)
  refine call_len_set ho hex hd hf (by omega) ?_
  rw [hsz]
  exact ⟨.int (n:Nat),H,I.tok _,⟨_,rfl⟩,q⟩
def rSortedL (K:PySem.W.Frag):List V→Hp→VK→Prop:=fun xs H Q=>∃ (p:Addr) (ns:List Int),xs=[.ref p]∧SqL K H p (ns.map V.int)∧ns.length < 64∧∀ ns':List Int,ns'.Perm ns→ns'.Pairwise (·≤·)→∀ q,H q=none→Q (.ref q) (upd H q (.lst (ns'.map V.int)))
theorem call_sortedL {X:Cx} (hc:X.calm=true):CallR X (.builtin "sorted") (rSortedL X.K):=by
  intro pins s σ H xs us Q I r h
  obtain ⟨p,ns,rfl,hs,h64,q⟩:=h
  obtain ⟨u,rfl,ru⟩:=vals1 r
  cases ru
  obtain ⟨its,rv,pl,hz⟩:=I.list hs
  have hl:=rv.length
  rw [List.length_map] at hl
  refine sorted_ints pl.isList (intsAre_of rv) (by omega) fun out ns' a1 a2 a3=>?_
  obtain ⟨e,he⟩:=sortedAll_at s.heap its out
  have hn:H (s.heap.objs.size + 1)=none:=I.hok.fresh (Nat.le_succ _)
  refine ⟨.ref (s.heap.objs.size + 1),_,I.laid (o:=.lst (ns'.map V.int)) (t':=s.toks) (fun b o z=>sortedAll_old z) (Nat.le_succ _) ⟨?_,out.toList,e,vals_ints a1,?_⟩,rfl,q ns' a2 a3 _ hn⟩
  · rw [List.length_map,a2.length_eq]; exact Nat.le_of_lt (Nat.lt_of_lt_of_le h64 (by decide))
  · rw [Array.toArray_toList]; exact he
end L2
namespace LB
open PySem L2
abbrev Ch:=List (Nat×List Nat)
abbrev nV (x:Nat):V:=.int (x:Nat)
def inK (C:Ch) (o:Nat):Bool:=C.any fun c=>c.1 == o
def chOf:Ch→Nat→List Nat
  | [],_=>[]
  | c :: r,o=>if c.1=o then c.2 else chOf r o
def stepF (last k:Nat) (m:Int) (s:Ch×List Nat):Ch×List Nat:=if m≠0∧inK s.1 k=false then (s.1 ++ [(k,chOf s.1 last ++ [k])],s.2 ++ [k]) else s
def rowF (last:Nat):List Int→Nat→Ch×List Nat→Ch×List Nat
  | [],_,s=>s
  | m :: r,k,s=>rowF last r (k + 1) (stepF last k m s)
def bfsF (M:List (List Int)):Nat→Ch×List Nat→Ch
  | 0,s=>s.1
  | _ + 1,(C,[])=>C
  | f + 1,(C,l :: w)=>bfsF M f (rowF l (M.getD l []) 0 (C,w))
def chainsF (M:List (List Int)) (d:Nat):Ch:=bfsF M (2 * M.length + 2) ([(d,[d])],[d])
def rowM (B:List (List Int×List Int)) (i:Nat):List Int:=(List.range B.length).map fun j=>onceF B i j
def marksF (B:List (List Int×List Int)):List (List Int):=(List.range B.length).map fun i=>rowM B i
def missF (n:Nat) (C:Ch):Nat:=((List.range n).filter fun o=>!inK C o).length
structure GoodS (n:Nat) (s:Ch×List Nat):Prop where
  sz:s.1.length + missF n s.1≤n
  wl:s.2.length≤s.1.length
  ky:∀ c∈s.1,c.1 < n∧c.2.length≤s.1.length
  wt:∀ l∈s.2,inK s.1 l=true
def MRep (H:Hp) (v:V) (M:List (List Int)):Prop:=∃ m rs,v=.ref m∧H m=some (.lst rs)∧rs.length=M.length∧∀ i,i < M.length→∃ p,rs[i]?=some (.ref p)∧H p=some (.lst ((M.getD i []).map V.int))
def DRep (H:Hp) (wa:Addr):List (Key×V)→Ch→Prop
  | [],[]=>True
  | kv :: r,c :: s=>kv.1=Sum.inl (c.1:Int)∧(∃ p,kv.2=.ref p∧p≠wa∧H p=some (.lst (c.2.map nV)))∧DRep H wa r s
  | _,_=>False
def sb_marks_from (K:PySem.W.Frag) (mg:Str→Option Value) (a b:V) (H:Hp) (Q:VK) (E:XK):Prop:=∃ (B:List (List Int×List Int)) (m n x:Nat),Rep H a (bookD B)∧GoodBook m n B∧m≤8∧b=.int (x:Nat)∧x < B.length ∧
  ∀ p H',H p=none→Same H H'→H' p=some (.lst ((rowM B x).map V.int))→Q (.ref p) H'
def sp_marks_from (K:PySem.W.Frag) (mg:Str→Option Value):Sp:=sp2 (sb_marks_from K mg)
def sb_marks_of (K:PySem.W.Frag) (mg:Str→Option Value) (a:V) (H:Hp) (Q:VK) (E:XK):Prop:=∃ (B:List (List Int×List Int)) (m n:Nat),Rep H a (bookD B)∧GoodBook m n B∧m≤8∧∀ v H',Same H H'→MRep H' v (marksF B)→Q v H'
def sp_marks_of (K:PySem.W.Frag) (mg:Str→Option Value):Sp:=sp1 (sb_marks_of K mg)
def sb_chains_from (K:PySem.W.Frag) (a b:V) (H:Hp) (Q:VK) (E:XK):Prop:=∃ (M:List (List Int)) (d:Nat),MRep H a M∧M.length≤8∧(∀ r∈M,r.length=M.length)∧b=.int (d:Nat)∧d < M.length ∧
  ∀ p wa kvs H',Same H H'→H' p=some (.dK kvs)→DRep H' wa kvs (chainsF M d)→GoodS M.length (chainsF M d,[])→Q (.ref p) H'
def sp_chains_from (K:PySem.W.Frag):Sp:=sp2 (sb_chains_from K)
def tb_marks_from (K:PySem.W.Frag) (mg:Str→Option Value):TS :=
  (tRet (tComp [none,some 0,some 1] (iRng1 (tCons (tCB (rLenU K) (tCons (tVar 0) tNil)) tNil)) (gName 0) tYes (tCall (sp_at_once K mg) [] E0 (tCons (tVar 1) (tCons (tVar 2) (tCons (tVar 0) tNil))))))
def tb_marks_of (K:PySem.W.Frag) (mg:Str→Option Value):TS :=
  (tRet (tComp [none,some 0] (iRng1 (tCons (tCB (rLenU K) (tCons (tVar 0) tNil)) tNil)) (gName 0) tYes (tCall (sp_marks_from K mg) [] E0 (tCons (tVar 1) (tCons (tVar 0) tNil)))))
def tb_chains_from (K:PySem.W.Frag):TS :=
  (tSeq (tAsg (tDisp [((tVar 1),(tLst (tCons (tVar 1) tNil)))]) (gName 2))
    (tSeq (tAsg (tLst (tCons (tVar 1) tNil)) (gName 3))
    (tSeq (tWhile (tTest (tOp rGtU (tCB (rLenU K) (tCons (tVar 3) tNil)) (tC (.int 0)))) (tSeq (tAsg (tBM K "list" rPopAt (tVar 3) (tCons (tC (.int 0)) tNil)) (gName 4))
    (tFor (iEnum1 K (tCons (tOp (rIx K) (tVar 0) (tVar 4)) tNil)) (gTup K 2 (gCons (gName 5) (gCons (gName 6) gNil))) (tIfS (tAnd (tTest (tOp (rNeU K) (tVar 6) (tC (.int 0)))) (tB (tDNotIn (tVar 5) (tVar 2)))) (tSeq (sDPut (tVar 2) (tVar 5) (tOp (rAddU K) (tDGet (tVar 2) (tVar 4)) (tLst (tCons (tVar 5) tNil))))
    (tDrop (tBM K "list" rAppend (tVar 3) (tCons (tVar 5) tNil)))) tNext))))
    (tRet (tVar 2)))))
theorem inK_snoc {C:Ch} {k o:Nat} {c:List Nat}:inK (C ++ [(k,c)]) o=(inK C o || k == o):=by simp [inK,List.any_append]
theorem filt_le {p q:Nat→Bool} (h:∀ x,p x=true→q x=true):∀ l:List Nat,(l.filter p).length≤(l.filter q).length
  | []=>Nat.le_refl _
  | x :: l=>by
    have ih:=filt_le h l
    by_cases hp:p x=true
    · rw [List.filter_cons_of_pos hp,List.filter_cons_of_pos (h x hp),List.length_cons,List.length_cons]; omega
    · rw [List.filter_cons_of_neg hp]
      by_cases hq:q x=true
      · rw [List.filter_cons_of_pos hq,List.length_cons]; omega
      · rw [List.filter_cons_of_neg hq]; exact ih
theorem filt_lt {p q:Nat→Bool} (h:∀ x,p x=true→q x=true) {a:Nat} (hp:p a=false) (hq:q a=true):∀ {l:List Nat},a∈l→(l.filter p).length + 1≤(l.filter q).length
  | [],ha=>by simp at ha
  | x :: l,ha=>by
    rcases List.mem_cons.mp ha with e | e
    · subst e
      have ih:=filt_le h l
      rw [List.filter_cons_of_neg (by rw [hp]; decide),List.filter_cons_of_pos hq,List.length_cons]; omega
    · have ih:=filt_lt h hp hq e
      by_cases hp':p x=true
      · rw [List.filter_cons_of_pos hp',List.filter_cons_of_pos (h x hp'),List.length_cons,List.length_cons]; omega
      · rw [List.filter_cons_of_neg hp']
        by_cases hq':q x=true
        · rw [List.filter_cons_of_pos hq',List.length_cons]; omega
        · rw [List.filter_cons_of_neg hq']; exact ih
theorem miss_snoc {n:Nat} {C:Ch} {k:Nat} {c:List Nat} (hk:k < n) (h:inK C k=false):missF n (C ++ [(k,c)]) + 1≤missF n C:=by
  unfold missF
  refine filt_lt (a:=k) (fun x hx=>?_) ?_ ?_ (List.mem_range.mpr hk)
  · rw [inK_snoc] at hx
    cases e:inK C x with
    | true=>rw [e] at hx; simp at hx
    | false=>rfl
  · rw [inK_snoc]; simp
  · rw [h]; rfl
theorem chOf_mem:∀ {C:Ch} {o:Nat},inK C o=true→∃ c∈C,c.1=o∧chOf C o=c.2
  | [],o,h=>by simp [inK] at h
  | c :: r,o,h=>by
    by_cases e:c.1=o
    · exact ⟨c,by simp,e,by simp [chOf,e]⟩
    · have h':inK r o=true:=by
        have:(c.1 == o || inK r o)=true:=by simpa [inK] using h
        rw [show (c.1 == o)=false by simp [e]] at this
        simpa using this
      obtain ⟨d,hd,e1,e2⟩:=chOf_mem h'
      exact ⟨d,by simp [hd],e1,by simp [chOf,e,e2]⟩
theorem GoodS.lt {n:Nat} {s:Ch×List Nat} (g:GoodS n s) {o:Nat} (h:inK s.1 o=true):o < n:=by
  obtain ⟨c,hc,e,_⟩:=chOf_mem h
  rw [← e]; exact (g.ky c hc).1
theorem GoodS.len {n:Nat} {s:Ch×List Nat} (g:GoodS n s) {o:Nat} (h:inK s.1 o=true):(chOf s.1 o).length≤s.1.length:=by
  obtain ⟨c,hc,_,e⟩:=chOf_mem h
  rw [e]; exact (g.ky c hc).2
theorem GoodS.add {n:Nat} {C:Ch} {w:List Nat} (g:GoodS n (C,w)) {k last:Nat} (hk:k < n) (h:inK C k=false) (hl:inK C last=true) :
    GoodS n (C ++ [(k,chOf C last ++ [k])],w ++ [k])∧2 * missF n (C ++ [(k,chOf C last ++ [k])]) + (w ++ [k]).length + 1≤2 * missF n C + w.length:=by
  have ms:=miss_snoc (c:=chOf C last ++ [k]) hk h
  have g1:=g.sz
  have g2:=g.wl
  have g3:=g.len hl
  replace g1:C.length + missF n C≤n:=g1
  replace g2:w.length≤C.length:=g2
  replace g3:(chOf C last).length≤C.length:=g3
  refine ⟨⟨?_,?_,?_,?_⟩,?_⟩
  · show (C ++ [(k,chOf C last ++ [k])]).length + missF n (C ++ [(k,chOf C last ++ [k])])≤n
    rw [List.length_append,List.length_singleton]; omega
  · show (w ++ [k]).length≤(C ++ [(k,chOf C last ++ [k])]).length
    rw [List.length_append,List.length_append,List.length_singleton,List.length_singleton]; omega
  · intro c hc
    show c.1 < n∧c.2.length≤(C ++ [(k,chOf C last ++ [k])]).length
    rw [List.length_append,List.length_singleton]
    rcases List.mem_append.mp hc with e | e
    · have:=g.ky c e
      exact ⟨this.1,Nat.le_trans this.2 (Nat.le_succ _)⟩
    · have e':c=(k,chOf C last ++ [k]):=by simpa using e
      subst e'
      refine ⟨hk,?_⟩
      show (chOf C last ++ [k]).length≤C.length + 1
      rw [List.length_append,List.length_singleton]; omega
  · intro l hl'
    show inK (C ++ [(k,chOf C last ++ [k])]) l=true
    rw [inK_snoc]
    rcases List.mem_append.mp hl' with e | e
    · rw [g.wt l e]; rfl
    · have e':l=k:=by simpa using e
      subst e'; simp
  · rw [List.length_append,List.length_singleton]; omega
theorem GoodS.pop {n:Nat} {C:Ch} {l:Nat} {w:List Nat} (g:GoodS n (C,l :: w)):GoodS n (C,w) :=
  ⟨g.sz,Nat.le_trans (Nat.le_succ _) g.wl,g.ky,fun x hx=>g.wt x (by simp [hx])⟩
theorem DRep.mono {H H':Hp} {wa:Addr} (k:∀ p xs,p≠wa→H p=some (.lst xs)→H' p=some (.lst xs)):∀ {kvs:List (Key×V)} {C:Ch},DRep H wa kvs C→DRep H' wa kvs C
  | [],[],_=>True.intro
  | [],_ :: _,h=>h.elim
  | _ :: _,[],h=>h.elim
  | kv :: r,c :: s,⟨e,⟨p,e2,ne,hp⟩,h⟩=>⟨e,⟨p,e2,ne,k p _ ne hp⟩,DRep.mono k h⟩
theorem DRep.len {H:Hp} {wa:Addr}:∀ {kvs:List (Key×V)} {C:Ch},DRep H wa kvs C→kvs.length=C.length
  | [],[],_=>rfl
  | [],_ :: _,h=>h.elim
  | _ :: _,[],h=>h.elim
  | kv :: r,c :: s,⟨_,_,h⟩=>by rw [List.length_cons,List.length_cons,DRep.len h]
theorem DRep.snoc {H:Hp} {wa p:Addr} {k:Nat} {c:List Nat} (ne:p≠wa) (hp:H p=some (.lst (c.map nV))):∀ {kvs:List (Key×V)} {C:Ch},DRep H wa kvs C→DRep H wa (kvs ++ [(Sum.inl (k:Int),.ref p)]) (C ++ [(k,c)])
  | [],[],_=>⟨rfl,⟨p,rfl,ne,hp⟩,True.intro⟩
  | [],_ :: _,h=>h.elim
  | _ :: _,[],h=>h.elim
  | kv :: r,d :: s,⟨e,z,h⟩=>⟨e,z,DRep.snoc ne hp h⟩
theorem DRep.get {H:Hp} {wa:Addr} {o:Nat}:∀ {kvs:List (Key×V)} {C:Ch},DRep H wa kvs C→(inK C o=false∧valV kvs (Sum.inl (o:Int))=none)∨(inK C o=true∧∃ p,valV kvs (Sum.inl (o:Int))=some (.ref p)∧p≠wa∧H p=some (.lst ((chOf C o).map nV)))
  | [],[],_=>.inl ⟨rfl,rfl⟩
  | [],_ :: _,h=>h.elim
  | _ :: _,[],h=>h.elim
  | kv :: r,c :: s,⟨e,⟨p,e2,ne,hp⟩,h⟩=>by
    by_cases z:c.1=o
    · refine .inr ⟨by simp [inK,z],p,?_,ne,by simp only [chOf,z,if_true]; exact hp⟩
      rw [valV_pos (by rw [e,z]),e2]
    · have z2:¬ kv.1=Sum.inl (o:Int):=by
        rw [e]; intro w
        have:=Sum.inl.inj w
        exact z (by omega)
      have ik:inK (c :: s) o=inK s o:=by simp [inK,z]
      have ic:chOf (c :: s) o=chOf s o:=by simp [chOf,z]
      rw [valV_neg z2,ik,ic]
      exact DRep.get h
theorem hu1 {u c:Nat} (h:u + 64 < c):u + 1 < c:=by omega
theorem w_disp1 {σ:St} {H:Hp} {Q:VK} {tk tv:TE} (h:∀ p,H p=none→tk σ (upd H p (.dK [])) fun x H1=>tv σ H1 fun y H2=>(fun ps H2=>H2 p=some (.dK [])∧∃ kvs:List (Key×V),ps=kvs.map (fun kv=>(kV kv.1,kv.2))∧kvs.length≤15∧Q (.ref p) (upd H2 p (.dK (mergeK [] kvs)))) [(x,y)] H2):tDisp [(tk,tv)] σ H Q:=h
theorem w_tB {t:TE} {σ:St} {H:Hp} {Q:Bool→Hp→Prop} (h:t σ H fun x H1=>∃ c,x=.bl c∧Q c H1):tB t σ H Q:=h
theorem w_dnotin {ty td:TE} {σ:St} {H:Hp} {Q:VK} (h:ty σ H fun y H1=>td σ H1 fun x H2=>∃ a o,x=.ref a∧DGet H2 a y o∧Q (.bl (!o.isSome)) H2):tDNotIn ty td σ H Q:=h
theorem w_din {ty td:TE} {σ:St} {H:Hp} {Q:VK} (h:ty σ H fun y H1=>td σ H1 fun x H2=>∃ a o,x=.ref a∧DGet H2 a y o∧Q (.bl o.isSome) H2):tDIn ty td σ H Q:=h
theorem w_dget {ty td:TE} {σ:St} {H:Hp} {Q:VK} (h:td σ H fun x H1=>ty σ H1 fun y H2=>∃ a v,x=.ref a∧DGet H2 a y (some v)∧Q v H2):tDGet td ty σ H Q:=h
theorem w_dput {ty td tv:TE} {D:Ends} {σ:St} {H:Hp} (h:tv σ H fun v H1=>td σ H1 fun x H2=>ty σ H2 fun y H3=>∃ a H4,x=.ref a∧DPut H3 a y v H4∧D.nx σ H4):sDPut td ty tv D σ H:=h
theorem w_pop0 {H:Hp} {Q:VK} {l:Addr} {x:V} {xs:List V} (h:H l=some (.lst (x :: xs))) (q:Q x (upd H l (.lst xs))):rPopAt (.ref l) [.int 0] H Q :=
  ⟨l,x :: xs,0,0,x,rfl,rfl,h,by decide,by decide,by simp [seqIndex?],rfl,q⟩
theorem w_while {c:TT} {tb:TS} {D:Ends} {σ:St} {H:Hp} (W:Nat→St→Hp→Prop) {m:Nat} (h0:W m σ H) (hs:∀ m σ H,W m σ H→c σ H fun b H1=>if b=true then ∃ N:St→Hp→Prop,(∀ σ' H',N σ' H'→∃ m',m' < m∧W m' σ' H')∧tb { D with nx:=N,ct:=N,bk:=D.nx } σ H1 else D.nx σ H1):tWhile c tb D σ H:=⟨W,⟨m,h0⟩,hs⟩
theorem comp_rangeL {l:List (Option Nat)} {te:TE} {σ σr:St} {H1:Hp} {Q:Hp→Prop} {n:Nat} (D:Addr) (f:Nat→List Int) (hn:n≤1000) (hD:H1 D=none) (hini:∃ r0,iniOf l σ=r0 :: σr)
    (hs:∀ i H (R:VK),i < n→Same H1 H→(∀ p H4,H p=none→Same H H4→H4 p=some (.lst ((f i).map V.int))→R (.ref p) H4)→te (some (.int (i:Nat)) :: σr) H R)
    (hd:∀ rs H,rs.length=n→(∀ i r,rs[i]?=some r→∃ p,r=.ref p∧H p=some (.lst ((f i).map V.int)))→Same H1 H→H D=some (.lst rs)→Q H) :
    ∃ W:CompW,(∃ m,W 0 m [] (iniOf l σ) (upd H1 D (.lst [])))∧compStep (Itr 0 n) (gName 0) tYes te D W Q:=by
  obtain ⟨r0,hini⟩:=hini
  refine comp_range D (fun i ys σ2 H=>ys.length=i∧(∀ (j:Nat) v,ys[j]?=some v→∃ p,v=.ref p∧p≠D∧H p=some (.lst ((f j).map V.int)))∧Same H1 H∧∃ r0,σ2=r0 :: σr) hn (fun i ys σ H h=>Nat.le_of_eq h.1) ⟨rfl,fun j v e=>by simp at e,Same.laid hD,r0,hini⟩ ?_ ?_
  · rintro i ys σ2 H hi ⟨hl,hp,hs1,r1,rfl⟩ hH
    refine w_name (w_yes (iteT ?_))
    show te (some (.int (0 + (i:Nat))) :: σr) H _
    rw [Int.zero_add]
    refine hs i H _ hi hs1 fun p H4 hp0 h4 hv=>?_
    have hD4:H4 D=some (.lst ys):=h4 _ _ hH
    have pD:p≠D:=fun z=>by subst z; rw [hH] at hp0; cases hp0
    refine ⟨hD4,by simp [hl],fun j u e=>?_,(hs1.trans h4).put hD,some (.int (i:Nat)),by simp⟩
    by_cases hj:j < ys.length
    · rw [List.getElem?_append_left hj] at e
      obtain ⟨p',e1,e2,e3⟩:=hp j u e
      exact ⟨p',e1,e2,by rw [upd_ne e2]; exact h4 _ _ e3⟩
    · rw [List.getElem?_append_right (by omega)] at e
      have hj2:j - ys.length=0:=by
        by_cases z:j - ys.length=0
        · exact z
        · rw [List.getElem?_eq_none (by simp; omega)] at e; cases e
      rw [hj2] at e
      have e':V.ref p=u:=by simpa using e
      have ej:j=i:=by omega
      rw [← e',ej]
      exact ⟨p,rfl,pD,by rw [upd_ne pD]; exact hv⟩
  · rintro ys σ2 H ⟨hl,hp,hs1,_⟩ hH
    exact hd ys H hl (fun i r e=>by obtain ⟨p,e1,_,e3⟩:=hp i r e; exact ⟨p,e1,e3⟩) hs1 hH
theorem ints_eq {f:Nat→Int}:∀ {n:Nat} {ys:List V},ys.length=n→(∀ (i:Nat) v,ys[i]?=some v→v=.int (f i))→ys=((List.range n).map f).map V.int:=by
  intro n ys hl h
  refine List.ext_getElem? fun i=>?_
  by_cases hi:i < ys.length
  · have e:=h i ys[i] (by simp [hi])
    rw [List.getElem?_eq_getElem hi,e]
    simp [show i < n by omega]
  · rw [List.getElem?_eq_none (by omega),List.getElem?_eq_none (by simp; omega)]
theorem rd_marks_from {K:PySem.W.Frag} {mg:Str→Option Value} {a b:V} {H:Hp} {Q:VK} {E:XK} (h:sb_marks_from K mg a b H Q E):tb_marks_from K mg (Rt Q) [some a,some b] H:=by
  obtain ⟨B,m,n,x,r,gB,hm,rfl,hx,q⟩:=h
  obtain ⟨p,xs,rfl,hp,hl,_⟩:=book_day r
  have m8:=gB.m8
  have ix:InB B (x:Int):=⟨by omega,by omega⟩
  unfold tb_marks_from
  refine w_ret (w_comp (w_rng1 (w_cons (w_cb (w_cons (w_var rfl (w_nil (w_lenT (SqT.of hp) (w_nil ⟨_,rfl,(rng_ok (by omega)).1,(rng_ok (by omega)).2,fun D hD=>?_⟩)))))))))
  refine comp_rangeP (n:=xs.length) (σr:=[some (.ref p),some (.int (x:Nat))]) D (fun i v _=>v=.int (onceF B x i)) (fun _ _ _ _ _ z=>z) (by omega) hD ⟨none,rfl⟩ ?_ ?_
  · intro i H1 R hi s1 kk
    have ii:InB B (i:Int):=⟨by omega,by omega⟩
    exact w_call (w_cons (w_var rfl (w_cons (w_var rfl (w_cons (w_var rfl (w_nil ⟨_,_,_,rfl,B,m,n,(x:Int),(i:Int),Rep.mono s1 _ _ r,gB,rfl,rfl,fun _ _ H2 s2=>kk _ _ s2 (by rw [Int.toNat_natCast,Int.toNat_natCast]),fun bad=>bad ⟨ix,ii⟩⟩)))))))
  · intro ys H1 hy hall s1 hD1
    refine q D H1 hD s1 ?_
    rw [hD1,ints_eq (f:=fun i=>onceF B x i) hy hall,hl]
    rfl
theorem rd_marks_of {K:PySem.W.Frag} {mg:Str→Option Value} {a:V} {H:Hp} {Q:VK} {E:XK} (h:sb_marks_of K mg a H Q E):tb_marks_of K mg (Rt Q) [some a] H:=by
  obtain ⟨B,m,n,r,gB,hm,q⟩:=h
  obtain ⟨p,xs,rfl,hp,hl,_⟩:=book_day r
  have m8:=gB.m8
  unfold tb_marks_of
  refine w_ret (w_comp (w_rng1 (w_cons (w_cb (w_cons (w_var rfl (w_nil (w_lenT (SqT.of hp) (w_nil ⟨_,rfl,(rng_ok (by omega)).1,(rng_ok (by omega)).2,fun D hD=>?_⟩)))))))))
  refine comp_rangeL (n:=xs.length) (σr:=[some (.ref p)]) D (fun i=>rowM B i) (by omega) hD ⟨none,rfl⟩ ?_ ?_
  · intro i H1 R hi s1 kk
    exact w_call (w_cons (w_var rfl (w_cons (w_var rfl (w_nil ⟨_,_,rfl,B,m,n,i,Rep.mono s1 _ _ r,gB,hm,rfl,by omega,fun t H2 ht s2 h2=>kk t H2 ht s2 h2⟩)))))
  · intro rs H1 hy hall s1 hD1
    refine q _ H1 s1 ⟨D,rs,rfl,hD1,by rw [hy,hl]; simp [marksF],fun i hi=>?_⟩
    have hi':i < B.length:=by simpa [marksF] using hi
    have e:rs[i]?=some (rs[i]'(by omega)):=by simp
    obtain ⟨t,e1,e2⟩:=hall i _ e
    refine ⟨t,by rw [e,e1],?_⟩
    rw [e2]
    simp [marksF,hi']
theorem seq_drop {α:Type} {xs:List α} {i:Nat} {x:α} (h:xs[i]?=some x):xs.drop i=x :: xs.drop (i + 1):=by
  have hi:i < xs.length:=by
    rcases Nat.lt_or_ge i xs.length with z | z
    · exact z
    · rw [List.getElem?_eq_none z] at h; cases h
  rw [List.getElem?_eq_getElem hi] at h
  rw [List.drop_eq_getElem_cons hi,Option.some.inj h]
theorem rd_chains_from {K:PySem.W.Frag} {a b:V} {H:Hp} {Q:VK} {E:XK} (h:sb_chains_from K a b H Q E):tb_chains_from K (Rt Q) [some a,some b,none,none,none,none,none] H:=by
  obtain ⟨M,dy,⟨m,rs,rfl,hm,hrs,hrow⟩,n8,sq,rfl,hdy,q⟩:=h
  unfold tb_chains_from
  refine w_seq (w_asg (w_disp1 fun d hd=>w_var rfl (w_lst (w_cons (w_var rfl (w_nil ⟨by show 1≤sizeLine; decide,fun p1 hp1=>?_⟩))))))
  have d1:d≠p1:=fun z=>by subst z; rw [upd_same] at hp1; cases hp1
  have hp1':H p1=none:=by rw [upd_ne (Ne.symm d1)] at hp1; exact hp1
  refine ⟨by rw [upd_ne d1]; exact upd_same,[(Sum.inl (dy:Int),.ref p1)],rfl,(by show 1≤15; decide),w_name ?_⟩
  have S1:Same H (upd (upd (upd H d (.dK [])) p1 (.lst [.int (dy:Nat)])) d (.dK (mergeK [] [(Sum.inl (dy:Int),.ref p1)]))):=(((Same.refl H).put hd).put hp1').put hd
  have G1:upd (upd (upd H d (.dK [])) p1 (.lst [.int (dy:Nat)])) d (.dK (mergeK [] [(Sum.inl (dy:Int),.ref p1)])) d=some (.dK [(Sum.inl (dy:Int),.ref p1)]):=upd_same
  have G2:upd (upd (upd H d (.dK [])) p1 (.lst [.int (dy:Nat)])) d (.dK (mergeK [] [(Sum.inl (dy:Int),.ref p1)])) p1=some (.lst ([dy].map nV)):=by rw [upd_ne (Ne.symm d1),upd_same]; rfl
  generalize upd (upd (upd H d (.dK [])) p1 (.lst [.int (dy:Nat)])) d (.dK (mergeK [] [(Sum.inl (dy:Int),.ref p1)]))=H1 at S1 G1 G2 ⊢
  refine w_seq (w_asg (w_lst (w_cons (w_var rfl (w_nil ⟨by show 1≤sizeLine; decide,fun wa hwa=>w_name ?_⟩)))))
  have nd:d≠wa:=fun z=>by subst z; rw [G1] at hwa; cases hwa
  have n1:p1≠wa:=fun z=>by subst z; rw [G2] at hwa; cases hwa
  have hwa0:H wa=none:=S1.free hwa
  have init:GoodS M.length ([(dy,[dy])],[dy]):=by
    have ms:missF M.length [(dy,[dy])] + 1≤missF M.length []:=miss_snoc (C:=[]) (c:=[dy]) hdy rfl
    have m0:missF M.length []≤M.length:=by
      unfold missF
      exact Nat.le_trans (List.length_filter_le _ _) (by simp)
    refine ⟨?_,Nat.le_refl _,?_,?_⟩
    · show 1 + missF M.length [(dy,[dy])]≤M.length; omega
    · intro c hc
      have e:c=(dy,[dy]):=by simpa using hc
      subst e
      exact ⟨hdy,Nat.le_refl _⟩
    · intro l hl
      have e:l=dy:=by simpa using hl
      subst e
      simp [inK]
  have m0:missF M.length [(dy,[dy])]≤M.length:=by
    unfold missF
    exact Nat.le_trans (List.length_filter_le _ _) (by simp)
  refine w_seq (w_while (fun f σ H'=>∃ (s:Ch×List Nat) (kvs:List (Key×V)) (r4 r5 r6:Option V),bfsF M f s=chainsF M dy∧2 * missF M.length s.1 + s.2.length < f∧GoodS M.length s∧H' d=some (.dK kvs)∧DRep H' wa kvs s.1∧H' wa=some (.lst (s.2.map nV))∧Same H H' ∧
      σ=[some (.ref m),some (.int (dy:Nat)),some (.ref d),some (.ref wa),r4,r5,r6]) (m:=2 * M.length + 2) ⟨([(dy,[dy])],[dy]),[(Sum.inl (dy:Int),.ref p1)],none,none,none,rfl,by show 2 * missF M.length [(dy,[dy])] + 1 < _; omega,init,by rw [upd_ne nd]; exact G1,
      ⟨rfl,⟨p1,rfl,n1,by rw [upd_ne n1]; exact G2⟩,True.intro⟩,upd_same,S1.put hwa0,rfl⟩ ?_)
  rintro f σ H' ⟨⟨C,ww⟩,kvs,r4,r5,r6,hf,hlt,gs,hd',dr,hw',s',rfl⟩
  replace dr:DRep H' wa kvs C:=dr
  replace hw':H' wa=some (.lst (ww.map nV)):=hw'
  refine w_test (w_op (w_cb (w_cons (w_var rfl (w_nil (w_lenL (SqL.of hw') (w_c (w_gtI (w_bl (iteD (fun hgt=>?_) fun hle=>?_))))))))))
  · obtain ⟨l,w,rfl⟩:∃ l w,ww=l :: w:=by
      cases ww with
      | nil=>simp at hgt
      | cons l w=>exact ⟨l,w,rfl⟩
    obtain ⟨f',rfl⟩:∃ f',f=f' + 1:=⟨f - 1,by omega⟩
    have hf':bfsF M f' (rowF l (M.getD l []) 0 (C,w))=chainsF M dy:=hf
    have hlt':2 * missF M.length C + w.length < f':=by
      have:2 * missF M.length C + (l :: w).length < f' + 1:=hlt
      rw [List.length_cons] at this; omega
    have il:inK C l=true:=gs.wt l (by simp)
    have ll:l < M.length:=gs.lt il
    refine ⟨_,fun σ' H'' z=>⟨f',Nat.lt_succ_self _,z⟩,?_⟩
    refine w_seq (w_asg (w_bm (w_var rfl ⟨tyV_lst hw',w_cons (w_c (w_nil (w_pop0 (x:=nV l) (xs:=w.map nV) hw' (w_name ?_))))⟩)))
    have nwd:∀ p xs,p≠wa→H' p=some (.lst xs)→upd H' wa (.lst (w.map nV)) p=some (.lst xs):=fun p xs ne e=>by rw [upd_ne ne]; exact e
    have d2:upd H' wa (.lst (w.map nV)) d=some (.dK kvs):=by rw [upd_ne nd]; exact hd'
    have s2:Same H (upd H' wa (.lst (w.map nV))):=s'.put hwa0
    have w2:upd H' wa (.lst (w.map nV)) wa=some (.lst (w.map nV)):=upd_same
    have dr2:=DRep.mono nwd dr
    generalize upd H' wa (.lst (w.map nV))=H2 at d2 s2 w2 dr2 ⊢
    obtain ⟨rp,er,hr⟩:=hrow l ll
    have rl:(M.getD l []).length=M.length:=by
      have e:M.getD l []=M[l]:=by simp [ll]
      rw [e]; exact sq _ (List.getElem_mem ll)
    refine w_for (w_enum (w_cons (w_op (w_var rfl (w_var rfl (w_ixL (SqL.of (s2 _ _ hm)) (atI_nat er) (w_nil ⟨rp,rfl,⟨_,SqL.of (s2 _ _ hr)⟩,for_enum (K:=K) (a:=rp)
      (fun i σ H3=>∃ (s:Ch×List Nat) (kvs:List (Key×V)) (r5 r6:Option V),rowF l ((M.getD l []).drop i) i s=rowF l (M.getD l []) 0 (C,w)∧2 * missF M.length s.1 + s.2.length < f'∧GoodS M.length s∧inK s.1 l=true∧H3 d=some (.dK kvs)∧DRep H3 wa kvs s.1∧H3 wa=some (.lst (s.2.map nV))∧Same H H3 ∧
        σ=[some (.ref m),some (.int (dy:Nat)),some (.ref d),some (.ref wa),some (nV l),r5,r6]) ⟨(C,w),kvs,r5,r6,rfl,hlt',gs.pop,il,d2,dr2,w2,s2,rfl⟩ (fun i σ H3 _ ⟨s,kvs,_,_,_,_,_,_,_,_,_,e,_⟩=>SqL.of (e _ _ hr)) ?_ ?_⟩)))))))
    · rintro i x σ H3 tp hx ⟨⟨C',w'⟩,kvs',r5,r6,hf3,hl3,g3,i3,d3,dr3,w3,s3,rfl⟩ htp
      replace i3:inK C' l=true:=i3
      replace dr3:DRep H3 wa kvs' C':=dr3
      replace w3:H3 wa=some (.lst (w'.map nV)):=w3
      replace hl3:2 * missF M.length C' + w'.length < f':=hl3
      obtain ⟨mk,rfl,hmk⟩:∃ mk:Int,x=.int mk∧(M.getD l [])[i]?=some mk:=by
        rw [List.getElem?_map] at hx
        cases e:(M.getD l [])[i]? with
        | none=>rw [e] at hx; cases hx
        | some z=>rw [e] at hx; exact ⟨z,by simpa using hx.symm,rfl⟩
      have hin:i < M.length:=by
        rw [← rl]
        rcases Nat.lt_or_ge i (M.getD l []).length with z | z
        · exact z
        · rw [List.getElem?_eq_none z] at hmk; cases hmk
      rw [seq_drop hmk] at hf3
      have st:Same H3 (upd H3 tp (.tup [.int (i:Nat),.int mk])):=Same.laid htp
      have d4:=st _ _ d3
      have w4:=st _ _ w3
      have s4:=s3.trans st
      have dr4:=DRep.mono (fun p xs _ e=>st p _ e) dr3
      refine w_gtup (SqT.of upd_same) rfl (w_gcons (w_name (w_gcons (w_name (w_gnil ?_)))))
      generalize upd H3 tp (.tup [.int (i:Nat),.int mk])=H4 at d4 w4 s4 dr4 ⊢
      refine w_ifS (w_and (w_test (w_op (w_var rfl (w_c (w_neI (w_bl (iteN (fun hne=>?_) fun he=>?_))))))))
      · refine w_tB (w_dnotin (w_var rfl (w_var rfl ⟨d,_,rfl,DGet.k (k:=Sum.inl (i:Int)) d4,w_bl ?_⟩)))
        rcases DRep.get (o:=i) dr4 with ⟨ni,ev⟩ | ⟨yi,p,ev,_,_⟩
        · rw [ev]
          refine iteT ?_
          have ef:stepF l i mk (C',w')=(C' ++ [(i,chOf C' l ++ [i])],w' ++ [i]):=by
            unfold stepF; rw [if_pos ⟨hne,ni⟩]
          obtain ⟨ga,gm⟩:=g3.add hin ni i3
          have gsz:=g3.sz
          have gwl:=g3.wl
          have gln:=g3.len i3
          replace gsz:C'.length + missF M.length C'≤M.length:=gsz
          replace gwl:w'.length≤C'.length:=gwl
          replace gln:(chOf C' l).length≤C'.length:=gln
          rcases DRep.get (o:=l) dr4 with ⟨nl,_⟩ | ⟨_,pl,el,pw,hpl⟩
          · rw [i3] at nl; cases nl
          refine w_seq (w_dput (w_op (w_dget (w_var rfl (w_var rfl ⟨d,_,rfl,el ▸ DGet.k (k:=Sum.inl (l:Int)) d4,w_lst (w_cons (w_var rfl (w_nil ⟨by show 1≤sizeLine; decide,fun t1 ht1=>?_⟩)))⟩)))))
          have z1:=Same.laid (o:=.lst [.int (i:Nat)]) ht1
          refine .inr (.inr (.inr ⟨pl,t1,_,_,rfl,rfl,z1 _ _ hpl,upd_same,small9 (by rw [List.length_map]; show _ + 1≤1000; omega),fun t2 ht2=>?_⟩))
          have z2:=Same.laid (o:=.lst ((chOf C' l).map nV ++ [.int (i:Nat)])) ht2
          have n2:t2≠wa:=fun z=>by subst z; rw [z1 _ _ w4] at ht2; cases ht2
          have e2:=upd_same (H:=upd H4 t1 (.lst [.int (i:Nat)])) (a:=t2) (o:=.lst ((chOf C' l).map nV ++ [.int (i:Nat)]))
          have d5:=z2 _ _ (z1 _ _ d4)
          have w5:=z2 _ _ (z1 _ _ w4)
          have s5:=(s4.trans z1).trans z2
          have dr5:=DRep.mono (fun p xs _ e=>z2 p _ (z1 p _ e)) dr4
          generalize upd (upd H4 t1 (.lst [.int (i:Nat)])) t2 (.lst ((chOf C' l).map nV ++ [.int (i:Nat)]))=H5 at d5 w5 s5 dr5 e2 ⊢
          have kl:kvs'.length < sizeLine:=by rw [dr5.len]; exact small1000 (by omega)
          refine w_var rfl (w_var rfl ⟨d,_,rfl,DPut.k (k:=Sum.inl (i:Int)) d5 kl,?_⟩)
          rw [putK_new _ ev]
          have ne2:t2≠d:=fun z=>by subst z; rw [d5] at e2; cases e2
          have w6:upd H5 d (.dK (kvs' ++ [(Sum.inl (i:Int),.ref t2)])) wa=some (.lst (w'.map nV)):=by rw [upd_ne (Ne.symm nd)]; exact w5
          have d6:upd H5 d (.dK (kvs' ++ [(Sum.inl (i:Int),.ref t2)])) d=some (.dK (kvs' ++ [(Sum.inl (i:Int),.ref t2)])):=upd_same
          have s6:Same H (upd H5 d (.dK (kvs' ++ [(Sum.inl (i:Int),.ref t2)]))):=s5.put hd
          have dr6:DRep (upd H5 d (.dK (kvs' ++ [(Sum.inl (i:Int),.ref t2)]))) wa (kvs' ++ [(Sum.inl (i:Int),.ref t2)]) (C' ++ [(i,chOf C' l ++ [i])]):=by
            have keep:∀ p xs,p≠wa→H5 p=some (.lst xs)→upd H5 d (.dK (kvs' ++ [(Sum.inl (i:Int),.ref t2)])) p=some (.lst xs):=fun p xs _ e=>by
              rw [upd_ne (fun z=>by subst z; rw [d5] at e; cases e)]; exact e
            refine DRep.snoc n2 (keep _ _ n2 ?_) (DRep.mono keep dr5)
            rw [e2,List.map_append]; rfl
          generalize upd H5 d (.dK (kvs' ++ [(Sum.inl (i:Int),.ref t2)]))=H6 at d6 w6 s6 dr6 ⊢
          refine w_drop (w_bm (w_var rfl ⟨tyV_lst w6,w_cons (w_var rfl (w_nil (w_append w6 (small1000 (by rw [List.length_map]; omega)) ?_)))⟩))
          refine ⟨(C' ++ [(i,chOf C' l ++ [i])],w' ++ [i]),kvs' ++ [(Sum.inl (i:Int),.ref t2)],_,_,?_,?_,ga,?_,by rw [upd_ne nd]; exact d6,DRep.mono (fun p xs ne e=>by rw [upd_ne ne]; exact e) dr6,by rw [upd_same,List.map_append]; rfl,s6.put hwa0,rfl⟩
          · rw [← ef]; exact hf3
          · show 2 * missF M.length (C' ++ [(i,chOf C' l ++ [i])]) + (w' ++ [i]).length < f'; omega
          · show inK (C' ++ [(i,chOf C' l ++ [i])]) l=true
            rw [inK_snoc,i3]; rfl
        · rw [ev]
          refine iteF (w_next ⟨(C',w'),kvs',_,_,?_,hl3,g3,i3,d4,dr4,w4,s4,rfl⟩)
          have ef:stepF l i mk (C',w')=(C',w'):=by
            unfold stepF; rw [if_neg (fun z=>by have:=z.2; rw [yi] at this; cases this)]
          rw [← ef]; exact hf3
      · refine iteF (w_next ⟨(C',w'),kvs',_,_,?_,hl3,g3,i3,d4,dr4,w4,s4,rfl⟩)
        have ef:stepF l i mk (C',w')=(C',w'):=by
          unfold stepF; rw [if_neg (fun z=>z.1 he)]
        rw [← ef]; exact hf3
    · rintro σ H3 ⟨s3',kvs',r5,r6,hf3,hl3,g3,i3,d3,dr3,w3,s3,rfl⟩
      rw [List.length_map,List.drop_length] at hf3
      replace hf3:s3'=rowF l (M.getD l []) 0 (C,w):=hf3
      exact ⟨s3',kvs',_,_,_,by rw [hf3]; exact hf',hl3,g3,d3,dr3,w3,s3,rfl⟩
  · have e0:ww=[]:=by
      cases ww with
      | nil=>rfl
      | cons l w=>exact absurd (by simp) hle
    subst e0
    obtain ⟨f',rfl⟩:∃ f',f=f' + 1:=⟨f - 1,by omega⟩
    have hf':C=chainsF M dy:=hf
    exact w_ret (w_var rfl (q d wa kvs H' s' hd' (by rw [← hf']; exact dr) (by rw [← hf']; exact gs)))
theorem row_head {l:Nat} {c0:Nat×List Nat}:∀ (r:List Int) (k:Nat) (C:Ch) (w:List Nat),∃ C' w',rowF l r k (c0 :: C,w)=(c0 :: C',w')
  | [],k,C,w=>⟨C,w,rfl⟩
  | m :: r,k,C,w=>by
    show ∃ C' w',rowF l r (k + 1) (stepF l k m (c0 :: C,w))=(c0 :: C',w')
    unfold stepF
    split
    · exact row_head r (k + 1) (C ++ [(k,chOf (c0 :: C) l ++ [k])]) (w ++ [k])
    · exact row_head r (k + 1) C w
theorem bfs_head {M:List (List Int)} {c0:Nat×List Nat}:∀ (f:Nat) (C:Ch) (w:List Nat),∃ C',bfsF M f (c0 :: C,w)=c0 :: C'
  | 0,C,w=>⟨C,rfl⟩
  | f + 1,C,[]=>⟨C,rfl⟩
  | f + 1,C,l :: w=>by
    show ∃ C',bfsF M f (rowF l (M.getD l []) 0 (c0 :: C,w))=c0 :: C'
    obtain ⟨C',w',e⟩:=row_head (l:=l) (c0:=c0) (M.getD l []) 0 C w
    rw [e]
    exact bfs_head f C' w'
theorem chains_head (M:List (List Int)) (d:Nat):∃ C',chainsF M d=(d,[d]) :: C':=bfs_head _ [] [d]
end LB
namespace LB
open PySem L2
theorem marks_len (B:List (List Int×List Int)):(marksF B).length=B.length:=by simp [marksF]
theorem marks_sq (B:List (List Int×List Int)):∀ r∈marksF B,r.length=(marksF B).length:=by
  intro r hr
  rw [marks_len]
  obtain ⟨i,_,rfl⟩:=List.mem_map.mp hr
  simp [rowM]
end LB
namespace LB
open PySem L2
def mkF (M:List (List Int)) (a b:Nat):Int:=(M.getD a []).getD b 0
def linkF (M:List (List Int)):List Nat→Prop
  | a :: b :: r=>mkF M a b≠0∧linkF M (b :: r)
  | _=>True
structure IsCh (M:List (List Int)) (d o:Nat) (C:Ch) (c:List Nat):Prop where
  hd:c.head?=some d
  la:c.getLast?=some o
  nd:c.Nodup
  mem:∀ x∈c,inK C x=true
  lk:linkF M c
def ChOk (M:List (List Int)) (d:Nat) (C:Ch):Prop:=∀ c∈C,IsCh M d c.1 C c.2
theorem link_snoc {M:List (List Int)} {k l:Nat} (hm:mkF M l k≠0):∀ {c:List Nat},linkF M c→c.getLast?=some l→linkF M (c ++ [k])
  | [],_,h=>by simp at h
  | [a],_,h=>by
    have e:a=l:=by simpa using h
    subst e
    exact ⟨hm,True.intro⟩
  | a :: b :: r,⟨h1,h2⟩,h=>⟨h1,link_snoc (c:=b :: r) hm h2 (by simpa using h)⟩
theorem inK_of_mem {C:Ch} {c:Nat×List Nat} (h:c∈C):inK C c.1=true:=by
  unfold inK
  rw [List.any_eq_true]
  exact ⟨c,h,by simp⟩
theorem IsCh.more {M:List (List Int)} {d o:Nat} {C:Ch} {c:List Nat} {x:Nat×List Nat} (h:IsCh M d o C c):IsCh M d o (C ++ [x]) c :=
  ⟨h.hd,h.la,h.nd,fun y hy=>by obtain ⟨k,e⟩:=x; rw [inK_snoc,h.mem y hy]; rfl,h.lk⟩
theorem ChOk.at {M:List (List Int)} {d o:Nat} {C:Ch} (h:ChOk M d C) (ho:inK C o=true):IsCh M d o C (chOf C o):=by
  obtain ⟨c,hc,e1,e2⟩:=chOf_mem ho
  rw [e2,← e1]; exact h c hc
theorem ChOk.add {M:List (List Int)} {d l k:Nat} {C:Ch} (h:ChOk M d C) (hl:inK C l=true) (hk:inK C k=false) (hm:mkF M l k≠0):ChOk M d (C ++ [(k,chOf C l ++ [k])]):=by
  intro c hc
  rcases List.mem_append.mp hc with e | e
  · exact (h c e).more
  · have e':c=(k,chOf C l ++ [k]):=by simpa using e
    subst e'
    have g:=h.at hl
    refine ⟨?_,?_,?_,?_,link_snoc hm g.lk g.la⟩
    · show (chOf C l ++ [k]).head?=some d
      have:=g.hd
      cases z:chOf C l with
      | nil=>rw [z] at this; simp at this
      | cons a r=>rw [z] at this; simpa using this
    · show (chOf C l ++ [k]).getLast?=some k
      simp
    · show (chOf C l ++ [k]).Nodup
      unfold List.Nodup
      rw [List.pairwise_append]
      refine ⟨g.nd,by simp,?_⟩
      intro a ha b hb
      have z:b=k:=by simpa using hb
      subst z
      intro w
      subst w
      rw [g.mem a ha] at hk; cases hk
    · intro x hx
      rw [inK_snoc]
      rcases List.mem_append.mp hx with w | w
      · rw [g.mem x w]; rfl
      · have z:x=k:=by simpa using w
        subst z; simp
theorem drop_at {xs:List Int} {k:Nat} {m:Int} {r:List Int} (h:xs.drop k=m :: r):xs.getD k 0=m∧xs.drop (k + 1)=r:=by
  have hk:k < xs.length:=by
    rcases Nat.lt_or_ge k xs.length with z | z
    · exact z
    · rw [List.drop_of_length_le z] at h; cases h
  rw [List.drop_eq_getElem_cons hk] at h
  obtain ⟨e1,e2⟩:=List.cons.inj h
  exact ⟨by simp [hk,e1],e2⟩
theorem row_ok {M:List (List Int)} {d l:Nat}:∀ (r:List Int) (k:Nat) (s:Ch×List Nat),(M.getD l []).drop k=r→ChOk M d s.1→(∀ x∈s.2,inK s.1 x=true)→inK s.1 l=true →
    ChOk M d (rowF l r k s).1∧(∀ x∈(rowF l r k s).2,inK (rowF l r k s).1 x=true)∧∀ x,inK s.1 x=true→inK (rowF l r k s).1 x=true
  | [],k,s,_,h,hw,_=>⟨h,hw,fun _ z=>z⟩
  | m :: r,k,(C,w),hr,h,hw,hl=>by
    obtain ⟨e1,e2⟩:=drop_at hr
    show ChOk M d (rowF l r (k + 1) (stepF l k m (C,w))).1∧(∀ x∈(rowF l r (k + 1) (stepF l k m (C,w))).2,inK (rowF l r (k + 1) (stepF l k m (C,w))).1 x=true)∧∀ x,inK C x=true→inK (rowF l r (k + 1) (stepF l k m (C,w))).1 x=true
    by_cases z:m≠0∧inK C k=false
    · have es:stepF l k m (C,w)=(C ++ [(k,chOf C l ++ [k])],w ++ [k]):=by unfold stepF; rw [if_pos z]
      rw [es]
      obtain ⟨a1,a2,a3⟩:=row_ok r (k + 1) (C ++ [(k,chOf C l ++ [k])],w ++ [k]) e2 (h.add hl z.2 (by unfold mkF; rw [e1]; exact z.1)) (fun x hx=>by
        show inK (C ++ [(k,chOf C l ++ [k])]) x=true
        rw [inK_snoc]
        rcases List.mem_append.mp hx with q | q
        · rw [hw x q]; rfl
        · have z:x=k:=by simpa using q
          subst z; simp) (by show inK (C ++ [(k,chOf C l ++ [k])]) l=true; rw [inK_snoc]; replace hl:inK C l=true:=hl; rw [hl]; rfl)
      exact ⟨a1,a2,fun x hx=>a3 x (by show inK (C ++ [(k,chOf C l ++ [k])]) x=true; rw [inK_snoc,hx]; rfl)⟩
    · have es:stepF l k m (C,w)=(C,w):=by unfold stepF; rw [if_neg z]
      rw [es]
      exact row_ok r (k + 1) (C,w) e2 h hw hl
theorem bfs_ok {M:List (List Int)} {d:Nat}:∀ (f:Nat) (s:Ch×List Nat),ChOk M d s.1→(∀ x∈s.2,inK s.1 x=true)→ChOk M d (bfsF M f s)
  | 0,s,h,_=>h
  | f + 1,(C,[]),h,_=>h
  | f + 1,(C,l :: w),h,hw=>by
    obtain ⟨a1,a2,_⟩:=row_ok (d:=d) (l:=l) (M.getD l []) 0 (C,w) (by simp) h (fun x hx=>hw x (by simp [hx])) (hw l (by simp))
    exact bfs_ok f _ a1 a2
theorem chains_ok (M:List (List Int)) (d:Nat):ChOk M d (chainsF M d):=by
  refine bfs_ok _ _ ?_ ?_
  · intro c hc
    have e:c=(d,[d]):=by simpa using hc
    subst e
    have hk:∀ x∈[d],inK [(d,[d])] x=true:=by
      intro x hx
      have z:x=d:=by simpa using hx
      subst z; simp [inK]
    exact ⟨rfl,rfl,by simp,hk,True.intro⟩
  · intro x hx
    have z:x=d:=by simpa using hx
    subst z; simp [inK]
end LB
namespace LB
open PySem L2
def stepsRow (i:Nat):List Int→Nat→List (Nat×Nat)
  | [],_=>[]
  | m :: r,k=>(if m=2 then [(i,k)] else []) ++ stepsRow i r (k + 1)
def stepsAll:List (List Int)→Nat→List (Nat×Nat)
  | [],_=>[]
  | row :: R,i=>stepsRow i row 0 ++ stepsAll R (i + 1)
def stepsF (M:List (List Int)):List (Nat×Nat):=stepsAll M 0
def StRep (H:Hp) (rs:List V) (S:List (Nat×Nat)):Prop:=rs.length=S.length∧∀ (i:Nat) s,S[i]?=some s→∃ t,rs[i]?=some (.ref t)∧H t=some (.tup [nV s.1,nV s.2])
def sb_better_steps (K:PySem.W.Frag) (a:V) (H:Hp) (Q:VK) (E:XK):Prop:=∃ M:List (List Int),MRep H a M∧M.length≤8∧(∀ r∈M,r.length=M.length)∧∀ l rs H',Same H H'→H' l=some (.lst rs)→StRep H' rs (stepsF M)→Q (.ref l) H'
def sp_better_steps (K:PySem.W.Frag):Sp:=sp1 (sb_better_steps K)
def tb_better_steps (K:PySem.W.Frag):TS :=
  (tSeq (tAsg (tLst tNil) (gName 1))
    (tSeq (tFor (iEnum1 K (tCons (tVar 0) tNil)) (gTup K 2 (gCons (gName 2) (gCons (gName 3) gNil))) (tFor (iEnum1 K (tCons (tVar 3) tNil)) (gTup K 2 (gCons (gName 4) (gCons (gName 5) gNil))) (tIfS (tTest (tOp (rEqU K) (tVar 5) (tC (.int 2)))) (tDrop (tBM K "list" rAppend (tVar 1) (tCons (tTup (tCons (tVar 2) (tCons (tVar 4) tNil))) tNil))) tNext)))
    (tRet (tVar 1))))
theorem row_len (i:Nat):∀ (r:List Int) (k:Nat),(stepsRow i r k).length≤r.length
  | [],_=>Nat.le_refl _
  | m :: r,k=>by
    have:=row_len i r (k + 1)
    unfold stepsRow
    rw [List.length_append,List.length_cons]
    split
    · rw [List.length_singleton]; omega
    · rw [List.length_nil]; omega
theorem all_len {n:Nat}:∀ (R:List (List Int)) (i:Nat),(∀ r∈R,r.length≤n)→(stepsAll R i).length≤R.length * n
  | [],_,_=>Nat.zero_le _
  | row :: R,i,h=>by
    have h1:=all_len R (i + 1) (fun r hr=>h r (by simp [hr]))
    have h2:=row_len i row 0
    have h3:=h row (by simp)
    unfold stepsAll
    rw [List.length_append,List.length_cons,Nat.succ_mul]; omega
theorem steps_len {M:List (List Int)} (h8:M.length≤8) (sq:∀ r∈M,r.length=M.length):(stepsF M).length≤64:=by
  have:=all_len (n:=8) M 0 (fun r hr=>by rw [sq r hr]; exact h8)
  have e:M.length * 8≤64:=by omega
  exact Nat.le_trans this e
theorem StRep.tu {H H':Hp} {rs:List V} {S:List (Nat×Nat)} (t:Tu H H') (h:StRep H rs S):StRep H' rs S:=⟨h.1,fun i s e=>by obtain ⟨p,e1,e2⟩:=h.2 i s e; exact ⟨p,e1,t _ _ e2⟩⟩
theorem StRep.snoc {H:Hp} {rs:List V} {S:List (Nat×Nat)} {t:Addr} {a b:Nat} (h:StRep H rs S) (ht:H t=some (.tup [nV a,nV b])):StRep H (rs ++ [.ref t]) (S ++ [(a,b)]):=by
  refine ⟨by rw [List.length_append,List.length_append,h.1]; rfl,fun i s e=>?_⟩
  by_cases hi:i < S.length
  · rw [List.getElem?_append_left hi] at e
    obtain ⟨p,e1,e2⟩:=h.2 i s e
    exact ⟨p,by rw [List.getElem?_append_left (by rw [h.1]; exact hi)]; exact e1,e2⟩
  · rw [List.getElem?_append_right (by omega)] at e
    have hz:i - S.length=0:=by
      by_cases z:i - S.length=0
      · exact z
      · rw [List.getElem?_eq_none (by simp; omega)] at e; cases e
    rw [hz] at e
    have e':(a,b)=s:=by simpa using e
    subst e'
    refine ⟨t,?_,ht⟩
    rw [List.getElem?_append_right (by rw [h.1]; omega),h.1,hz]; rfl
theorem rd_better_steps {K:PySem.W.Frag} {a:V} {H:Hp} {Q:VK} {E:XK} (h:sb_better_steps K a H Q E):tb_better_steps K (Rt Q) [some a,none,none,none,none,none] H:=by
  obtain ⟨M,⟨m,rs,rfl,hm,hrs,hrow⟩,n8,sq,q⟩:=h
  have s64:=steps_len n8 sq
  unfold tb_better_steps
  refine w_seq (w_asg (w_lst (w_nil ⟨Nat.zero_le _,fun l hl=>w_name ?_⟩)))
  refine w_seq (w_for (w_enum (w_cons (w_var rfl (w_nil ⟨m,rfl,⟨_,SqL.of (Same.laid hl _ _ hm)⟩,for_enum (K:=K) (a:=m)
    (fun i σ H1=>∃ (S:List (Nat×Nat)) (zs:List V) (r2 r3 r4 r5:Option V),S ++ stepsAll (M.drop i) i=stepsF M∧H1 l=some (.lst zs)∧StRep H1 zs S∧Same H H1∧σ=[some (.ref m),some (.ref l),r2,r3,r4,r5])
    ⟨[],[],none,none,none,none,rfl,upd_same,⟨rfl,fun i s e=>by simp at e⟩,Same.laid hl,rfl⟩ (fun i σ H1 _ ⟨_,_,_,_,_,_,_,_,_,e,_⟩=>SqL.of (e _ _ hm)) ?_ ?_⟩)))))
  · rintro i x σ H1 tp hx ⟨S,zs,r2,r3,r4,r5,hS,hz,sr,s1,rfl⟩ htp
    have hi:i < M.length:=by
      rw [← hrs]
      rcases Nat.lt_or_ge i rs.length with z | z
      · exact z
      · rw [List.getElem?_eq_none z] at hx; cases hx
    obtain ⟨rp,er,hr⟩:=hrow i hi
    rw [er] at hx
    have hx':V.ref rp=x:=by simpa using hx
    subst hx'
    have eM:M.drop i=M.getD i [] :: M.drop (i + 1):=by
      have e:M[i]?=some (M.getD i []):=by simp [hi]
      exact seq_drop e
    rw [eM] at hS
    replace hS:S ++ (stepsRow i (M.getD i []) 0 ++ stepsAll (M.drop (i + 1)) (i + 1))=stepsF M:=hS
    have st:=Same.laid (o:=.tup [.int (i:Nat),.ref rp]) htp
    refine w_gtup (SqT.of upd_same) rfl (w_gcons (w_name (w_gcons (w_name (w_gnil ?_)))))
    have hz2:=st _ _ hz
    have sr2:=sr.tu st.tu
    have s2:=s1.trans st
    generalize upd H1 tp (.tup [.int (i:Nat),.ref rp])=H2 at hz2 sr2 s2 ⊢
    refine w_for (w_enum (w_cons (w_var rfl (w_nil ⟨rp,rfl,⟨_,SqL.of (s2 _ _ hr)⟩,for_enum (K:=K) (a:=rp)
      (fun k σ H3=>∃ (S':List (Nat×Nat)) (zs:List V) (r4 r5:Option V),S' ++ (stepsRow i ((M.getD i []).drop k) k ++ stepsAll (M.drop (i + 1)) (i + 1))=stepsF M∧H3 l=some (.lst zs)∧StRep H3 zs S'∧Same H H3∧σ=[some (.ref m),some (.ref l),some (.int (i:Nat)),some (.ref rp),r4,r5])
      ⟨S,zs,_,_,hS,hz2,sr2,s2,rfl⟩ (fun k σ H3 _ ⟨_,_,_,_,_,_,_,e,_⟩=>SqL.of (e _ _ hr)) ?_ ?_⟩))))
    · rintro k x σ H3 tp hx ⟨S',zs,r4,r5,hS',hz3,sr3,s3,rfl⟩ htp
      obtain ⟨mk,rfl,hmk⟩:∃ mk:Int,x=.int mk∧(M.getD i [])[k]?=some mk:=by
        rw [List.getElem?_map] at hx
        cases e:(M.getD i [])[k]? with
        | none=>rw [e] at hx; cases hx
        | some z=>rw [e] at hx; exact ⟨z,by simpa using hx.symm,rfl⟩
      rw [seq_drop hmk] at hS'
      have st:=Same.laid (o:=.tup [.int (k:Nat),.int mk]) htp
      refine w_gtup (SqT.of upd_same) rfl (w_gcons (w_name (w_gcons (w_name (w_gnil ?_)))))
      have hz4:=st _ _ hz3
      have sr4:=sr3.tu st.tu
      have s4:=s3.trans st
      generalize upd H3 tp (.tup [.int (k:Nat),.int mk])=H4 at hz4 sr4 s4 ⊢
      refine w_ifS (w_test (w_op (w_var rfl (w_c (w_eqI (w_bl (iteD (fun h2=>?_) fun h2=>?_)))))))
      · have eS:stepsRow i (mk :: (M.getD i []).drop (k + 1)) k=[(i,k)] ++ stepsRow i ((M.getD i []).drop (k + 1)) (k + 1):=by
          show (if mk=2 then [(i,k)] else []) ++ _=_
          rw [if_pos h2]
        rw [eS] at hS'
        have lS:S'.length + 1≤64:=by
          have:=congrArg List.length hS'
          simp only [List.length_append,List.length_singleton] at this
          omega
        refine w_drop (w_bm (w_var rfl ⟨tyV_lst hz4,w_cons (w_tup (w_cons (w_var rfl (w_cons (w_var rfl (w_nil ⟨by show 2≤sizeLine; decide,fun t ht=>?_⟩))))))⟩))
        have zt:=Same.laid (o:=.tup [nV i,nV k]) ht
        have hz5:=zt _ _ hz4
        refine w_nil (w_append hz5 (small1000 (by rw [sr4.1]; omega)) ?_)
        refine ⟨S' ++ [(i,k)],zs ++ [.ref t],_,_,by rw [List.append_assoc,← hS',List.append_assoc],upd_same,?_,?_,rfl⟩
        · refine StRep.tu (Tu.put hz5) (StRep.snoc (sr4.tu zt.tu) upd_same)
        · exact (s4.trans zt).put hl
      · have eS:stepsRow i (mk :: (M.getD i []).drop (k + 1)) k=stepsRow i ((M.getD i []).drop (k + 1)) (k + 1):=by
          show (if mk=2 then [(i,k)] else []) ++ _=_
          rw [if_neg h2]; rfl
        rw [eS] at hS'
        exact w_next ⟨S',zs,_,_,hS',hz4,sr4,s4,rfl⟩
    · rintro σ H3 ⟨S',zs,r4,r5,hS',hz3,sr3,s3,rfl⟩
      rw [List.length_map,List.drop_length] at hS'
      exact ⟨S',zs,_,_,_,_,hS',hz3,sr3,s3,rfl⟩
  · rintro σ H1 ⟨S,zs,r2,r3,r4,r5,hS,hz,sr,s1,rfl⟩
    rw [hrs,List.drop_length] at hS
    have hS':S=stepsF M:=by rw [← hS]; simp [stepsAll]
    refine w_ret (w_var rfl (q l zs H1 s1 hz ?_))
    rw [← hS']; exact sr
theorem row_mem {i:Nat}:∀ (r:List Int) (k:Nat) (s:Nat×Nat),s∈stepsRow i r k→s.1=i∧k≤s.2∧r[s.2 - k]?=some 2
  | [],k,s,h=>by simp [stepsRow] at h
  | m :: r,k,s,h=>by
    unfold stepsRow at h
    rcases List.mem_append.mp h with e | e
    · by_cases z:m=2
      · rw [if_pos z] at e
        have e':s=(i,k):=by simpa using e
        subst e'
        exact ⟨rfl,Nat.le_refl _,by simp [z]⟩
      · rw [if_neg z] at e; simp at e
    · obtain ⟨a1,a2,a3⟩:=row_mem r (k + 1) s e
      refine ⟨a1,by omega,?_⟩
      rw [show s.2 - k=(s.2 - (k + 1)) + 1 by omega]
      simpa using a3
theorem mem_row {i:Nat}:∀ (r:List Int) (k j:Nat),r[j]?=some 2→(i,k + j)∈stepsRow i r k
  | [],k,j,h=>by simp at h
  | m :: r,k,0,h=>by
    have e:m=2:=by simpa using h
    unfold stepsRow
    rw [if_pos e]; simp
  | m :: r,k,j + 1,h=>by
    unfold stepsRow
    refine List.mem_append.mpr (.inr ?_)
    have:=mem_row (i:=i) r (k + 1) j (by simpa using h)
    rw [show k + (j + 1)=k + 1 + j by omega]; exact this
theorem all_mem:∀ (R:List (List Int)) (i:Nat) (s:Nat×Nat),s∈stepsAll R i→i≤s.1∧∃ row,R[s.1 - i]?=some row∧row[s.2]?=some 2
  | [],i,s,h=>by simp [stepsAll] at h
  | row :: R,i,s,h=>by
    unfold stepsAll at h
    rcases List.mem_append.mp h with e | e
    · obtain ⟨a1,a2,a3⟩:=row_mem row 0 s e
      refine ⟨by omega,row,?_,by simpa using a3⟩
      rw [show s.1 - i=0 by omega]; rfl
    · obtain ⟨a1,row',a2,a3⟩:=all_mem R (i + 1) s e
      refine ⟨by omega,row',?_,a3⟩
      rw [show s.1 - i=(s.1 - (i + 1)) + 1 by omega]
      simpa using a2
theorem mem_all:∀ (R:List (List Int)) (i a b:Nat) (row:List Int),R[a]?=some row→row[b]?=some 2→(i + a,b)∈stepsAll R i
  | [],_,_,_,_,h,_=>by simp at h
  | r :: R,i,0,b,row,h,hb=>by
    have e:r=row:=by simpa using h
    subst e
    unfold stepsAll
    refine List.mem_append.mpr (.inl ?_)
    have:=mem_row (i:=i) r 0 b hb
    simpa using this
  | r :: R,i,a + 1,b,row,h,hb=>by
    unfold stepsAll
    refine List.mem_append.mpr (.inr ?_)
    have:=mem_all R (i + 1) a b row (by simpa using h) hb
    rw [show i + (a + 1)=i + 1 + a by omega]; exact this
end LB
namespace LB
open PySem L2
theorem mk_marks {B:List (List Int×List Int)} {i j:Nat} (hi:i < B.length) (hj:j < B.length):mkF (marksF B) i j=onceF B i j:=by
  unfold mkF marksF rowM
  simp [hi,hj]
abbrev cI (c:List Nat):List Int:=c.map fun (k:Nat)=>(k:Int)
theorem nv_ints (c:List Nat):c.map nV=(cI c).map V.int:=by rw [List.map_map]; rfl
def insI (x:Int):List Int→List Int
  | []=>[x]
  | y :: r=>if x≤y then x :: y :: r else y :: insI x r
theorem ins_perm (x:Int):∀ l,(insI x l).Perm (x :: l)
  | []=>List.Perm.refl _
  | y :: r=>by
    unfold insI
    split
    · exact List.Perm.refl _
    · exact ((ins_perm x r).cons y).trans (List.Perm.swap x y r)
theorem sorted_eq:∀ {a b:List Int},a.Perm b→a.Pairwise (·≤·)→b.Pairwise (·≤·)→a=b
  | [],b,h,_,_=>(List.nil_perm.mp h).symm
  | x :: a,[],h,_,_=>absurd h.length_eq (by simp)
  | x :: a,y :: b,h,ha,hb=>by
    have ha':=List.pairwise_cons.mp ha
    have hb':=List.pairwise_cons.mp hb
    have e:x=y:=by
      have h1:y≤x:=by
        rcases List.mem_cons.mp (h.mem_iff.mp (List.mem_cons_self ..)) with z | z
        · omega
        · exact hb'.1 x z
      have h2:x≤y:=by
        rcases List.mem_cons.mp (h.mem_iff.mpr (List.mem_cons_self ..)) with z | z
        · omega
        · exact ha'.1 y z
      omega
    subst e
    rw [sorted_eq ((List.perm_cons x).mp h) ha'.2 hb'.2]
theorem eqv_ints:∀ ns:List Int,PyData.eqvAll (ns.map .int) (ns.map .int)=true
  | []=>by simp [PyData.eqvAll]
  | n :: ns=>by rw [List.map_cons]; simp [PyData.eqvAll,PyData.eqv,eqv_ints ns]
theorem lay_ints:∀ ns:List Int,PyData.canLayAll0 (ns.map .int)=true
  | []=>by simp [PyData.canLayAll0]
  | n :: ns=>by rw [List.map_cons]; simp [PyData.canLayAll0,PyData.canLay0,lay_ints ns]
theorem depth_ints:∀ ns:List Int,PyData.depthAll (ns.map .int)≤1
  | []=>by simp [PyData.depthAll]
  | n :: ns=>by
    have:=depth_ints ns
    rw [List.map_cons]
    simp only [PyData.depthAll,PyData.depth]
    omega
theorem eq_lists {K:PySem.W.Frag} {H:Hp} {Q:VK} {p q:Addr} {ns:List Int} (h1:H p=some (.lst (ns.map V.int))) (h2:H q=some (.lst (ns.map V.int))) (k:Q (.bl true) H):rEqU K (.ref p) (.ref q) H Q:=by
  have l:=lay_ints ns
  have dp:=depth_ints ns
  refine .inr ⟨.list (ns.map .int),.list (ns.map .int),rep_lst h1 (Reps.ints ns),rep_lst h2 (Reps.ints ns),by simpa only [PyData.canLay0] using l,by simpa only [PyData.canLay0] using l,?_,?_⟩
  · simp only [PyData.depth]; omega
  · have e:PyData.eqv (.list (ns.map .int)) (.list (ns.map .int))=true:=by simpa only [PyData.eqv] using eqv_ints ns
    rw [e]; exact k
end LB
namespace LB
open PySem L2
abbrev Dw (x:Int):Prop:=0≤x∧x < 10000000000000000000000000000000000000000
def sb__law_mixed (K:PySem.W.Frag) (a b:V) (H:Hp) (Q:VK) (E:XK):Prop:=∃ (l:Addr) (ns:List Int) (k:Nat),a=.ref l∧b=.int k∧SqL K H l (ns.map V.int)∧(∀ n∈ns,Builtin.Int.intBits n≤1048576)∧k≤1000∧∀ r,Dw r→Q (.int r) H
def sp__law_mixed (K:PySem.W.Frag):Sp:=sp2 (sb__law_mixed K)
def sb__law_draws (K:PySem.W.Frag) (a b:V) (H:Hp) (Q:VK) (E:XK):Prop:=∃ (l:Addr) (ns:List Int) (n:Nat),a=.ref l∧b=.int n∧SqL K H l (ns.map V.int)∧(∀ n∈ns,Builtin.Int.intBits n≤1048576)∧ns.length≤63∧n≤200 ∧
  ∀ t dl f (ds:List Int) H',Same H H'→H' t=some (.tup [.int f,.ref dl])→H' dl=some (.lst (ds.map V.int))→ds.length=n→(∀ x∈ds,Dw x)→Q (.ref t) H'
def sp__law_draws (K:PySem.W.Frag):Sp:=sp2 (sb__law_draws K)
def sb__law_free_book (K:PySem.W.Frag) (a b c:V) (H:Hp) (Q:VK) (E:XK):Prop:=∃ (dl:Addr) (ds:List Int) (m n:Nat),a=.ref dl∧H dl=some (.lst (ds.map V.int))∧(∀ x∈ds,Dw x)∧b=.int m∧c=.int n∧1≤m∧m≤8∧1≤n∧n≤6∧1 + 2 * n * m≤ds.length∧ds.length≤200 ∧
  ∀ v B k H',Same H H'→Rep H' v (bookD B)→GoodBook m k B→k≤n→Q v H'
def sp__law_free_book (K:PySem.W.Frag):Sp:=sp3 (sb__law_free_book K)
def tb__law_mixed (K:PySem.W.Frag):TS :=
  (tSeq (tIfS (tTest (tOp rLtU (tVar 1) (tCB (rLenU K) (tCons (tVar 0) tNil)))) (tRet (tOp rModU (tOp (rMulU K) (tOp (rIx K) (tVar 0) (tVar 1)) (tC (.int 2718281828459045235360287471352662497757))) (tC (.int 10000000000000000000000000000000000000000)))) tNext)
    (tSeq (tAsg (tOp (rAddU K) (tOp (rMulU K) (tOp (rMulU K) (tVar 1) (tVar 1)) (tC (.int 7919))) (tC (.int 5))) (gName 2))
    (tSeq (tIfS (tTest (tOp rGtU (tCB (rLenU K) (tCons (tVar 0) tNil)) (tC (.int 0)))) (tAsg (tOp (rAddU K) (tVar 2) (tOp (rMulU K) (tOp rModU (tOp (rIx K) (tVar 0) (tOp rModU (tOp (rMulU K) (tVar 1) (tC (.int 7))) (tCB (rLenU K) (tCons (tVar 0) tNil)))) (tC (.int 10000000000000000000000000000000000000000))) (tOp (rAddU K) (tC (.int 48271)) (tOp (rMulU K) (tC (.int 2)) (tVar 1))))) (gName 2)) tNext)
    (tSeq (tAsg (tOp rModU (tOp (rMulU K) (tVar 2) (tVar 2)) (tC (.int 2147483629))) (gName 2))
    (tSeq (tAsg (tOp rModU (tOp (rMulU K) (tOp (rAddU K) (tOp (rAddU K) (tVar 2) (tOp (rMulU K) (tOp (rMulU K) (tVar 1) (tVar 1)) (tVar 1))) (tC (.int 16807))) (tOp (rAddU K) (tVar 2) (tC (.int 69621)))) (tC (.int 4611686018427387847))) (gName 2))
    (tRet (tOp rModU (tOp (rMulU K) (tVar 2) (tC (.int 2718281828459045235360287471352662497757))) (tC (.int 10000000000000000000000000000000000000000)))))))))
def tb__law_draws (K:PySem.W.Frag):TS :=
  (tSeq (tAsg (tCB (rTy_list K) (tCons (tVar 0) tNil)) (gName 2))
    (tSeq (tIfS (tTest (tOp rGtU (tCB (rLenU K) (tCons (tVar 2) tNil)) (tC (.int 0)))) (tSeq (tAsg (tLst tNil) (gName 3))
    (tSeq (tFor (iRng1 (tCons (tVar 1) tNil)) (gName 4) (tSeq (tDrop (tBM K "list" rAppend (tVar 3) (tCons (tOp rModU (tOp (rIx K) (tVar 2) (tOp rModU (tVar 4) (tCB (rLenU K) (tCons (tVar 2) tNil)))) (tC (.int 10000000000000000000000000000000000000000))) tNil)))
    (tAsg (tOp rDivU (tOp (rIx K) (tVar 2) (tOp rModU (tVar 4) (tCB (rLenU K) (tCons (tVar 2) tNil)))) (tC (.int 10000000000000000000000000000000000000000))) (gSub (tVar 2) (tOp rModU (tVar 4) (tCB (rLenU K) (tCons (tVar 2) tNil))) rSetL))))
    (tIfS (tTest (tOp rGtU (tCB (rMinU K) (tCons (tVar 2) tNil)) (tC (.int 0)))) (tRet (tTup (tCons (tC (.int 1)) (tCons (tVar 3) tNil)))) tNext))) tNext)
    (tRet (tTup (tCons (tC (.int 0)) (tCons (tComp [none,some 0] (iRng1 (tCons (tVar 1) tNil)) (gName 0) tYes (tCall (sp__law_mixed K) [] E0 (tCons (tVar 1) (tCons (tVar 0) tNil)))) tNil))))))
def tb__law_free_book (K:PySem.W.Frag):TS :=
  (tSeq (tAsg (tOp (rAddU K) (tC (.int 1)) (tOp rModU (tOp (rIx K) (tVar 0) (tC (.int 0))) (tVar 2))) (gName 3))
    (tSeq (tAsg (tLst tNil) (gName 4))
    (tSeq (tFor (iRng1 (tCons (tOp (rAddU K) (tC (.int 1)) (tOp rModU (tOp rDivU (tOp (rIx K) (tVar 0) (tC (.int 0))) (tVar 2)) (tVar 1))) tNil)) (gName 5) (tSeq (tAsg (tSl (rSlU K) (tVar 0) (tPart (tOp (rAddU K) (tC (.int 1)) (tOp (rMulU K) (tOp (rMulU K) (tC (.int 2)) (tVar 3)) (tVar 5)))) (tPart (tOp (rAddU K) (tC (.int 1)) (tOp (rMulU K) (tOp (rMulU K) (tC (.int 2)) (tVar 3)) (tOp (rAddU K) (tVar 5) (tC (.int 1))))))) (gName 6))
    (tSeq (tAsg (tComp [none,some 6] (iRng1 (tCons (tVar 3) tNil)) (gName 0) tYes (tOp rModU (tOp (rIx K) (tVar 1) (tOp (rAddU K) (tOp (rMulU K) (tC (.int 2)) (tVar 0)) (tC (.int 1)))) (tOp (rAddU K) (tC (.int 1000000000)) (tC (.int 1))))) (gName 7))
    (tSeq (tIfS (tTest (tOp (rEqU K) (tCB (rSumU K) (tCons (tVar 7) tNil)) (tC (.int 0)))) (tAsg (tC (.int 1)) (gSub (tVar 7) (tC (.int 0)) rSetL)) tNext)
    (tDrop (tBM K "list" rAppend (tVar 4) (tCons (tTup (tCons (tCB (rTy_tuple K) (tCons (tComp [none,some 6] (iRng1 (tCons (tVar 3) tNil)) (gName 0) tYes (tOp (rAddU K) (tC (.int 1)) (tOp rModU (tOp (rIx K) (tVar 1) (tOp (rMulU K) (tC (.int 2)) (tVar 0))) (tC (.int 1000000000))))) tNil)) (tCons (tCB (rTy_tuple K) (tCons (tVar 7) tNil)) tNil))) tNil)))))))
    (tRet (tCB (rTy_tuple K) (tCons (tVar 4) tNil))))))
theorem dw_mod (x:Int):Dw (x % 10000000000000000000000000000000000000000):=⟨Int.emod_nonneg _ (by decide),Int.emod_lt_of_pos _ (by decide)⟩
theorem rd__law_mixed {K:PySem.W.Frag} {a b:V} {H:Hp} {Q:VK} {E:XK} (h:sb__law_mixed K a b H Q E):tb__law_mixed K (Rt Q) [some a,some b,none] H:=by
  obtain ⟨l,ns,k,rfl,rfl,hl,hb,hk,q⟩:=h
  unfold tb__law_mixed
  refine w_seq (w_ifS (w_test (w_op (w_var rfl (w_cb (w_cons (w_var rfl (w_nil (w_lenL hl (w_ltI (w_bl ?_)))))))))))
  rw [List.length_map]
  refine iteD (fun hlt=>?_) (fun hge=>?_)
  · have hlt':k < ns.length:=by omega
    refine w_ret (w_op (w_op (w_op (w_var rfl (w_var rfl (w_ixL hl (atI_ints (by omega) hlt) (w_c (w_mulI ?_ (w_c (w_modI (by decide) (q _ (dw_mod _))))))))))))
    exact IntMulOk.of_le (hb _ (by rw [Int.toNat_natCast]; exact L2.getD_mem hlt')) (bits_1000 (by decide) (by decide)) (by decide)
  have kk:(k:Int)≤1000:=by omega
  have kn:(0:Int)≤k:=by omega
  have k2:(k:Int) * k≤1000 * 1000:=Int.mul_le_mul kk kk kn (by decide)
  have k3:0≤(k:Int) * k:=Int.mul_nonneg kn kn
  have k4:(k:Int) * k * k≤1000 * 1000 * 1000:=Int.mul_le_mul k2 kk kn (by decide)
  have k5:0≤(k:Int) * k * k:=Int.mul_nonneg k3 kn
  have fin:∀ N:Int,0≤N→N≤10000000000000000000000000000000000000000000000000000→(tSeq (tAsg (tOp rModU (tOp (rMulU K) (tVar 2) (tVar 2)) (tC (.int 2147483629))) (gName 2))
    (tSeq (tAsg (tOp rModU (tOp (rMulU K) (tOp (rAddU K) (tOp (rAddU K) (tVar 2) (tOp (rMulU K) (tOp (rMulU K) (tVar 1) (tVar 1)) (tVar 1))) (tC (.int 16807))) (tOp (rAddU K) (tVar 2) (tC (.int 69621)))) (tC (.int 4611686018427387847))) (gName 2))
    (tRet (tOp rModU (tOp (rMulU K) (tVar 2) (tC (.int 2718281828459045235360287471352662497757))) (tC (.int 10000000000000000000000000000000000000000)))))) (Rt Q) [some (.ref l),some (.int k),some (.int N)] H:=by
    intro N h0 h1
    refine w_seq (w_asg (w_op (w_op (w_var rfl (w_var rfl (w_mulI (mulok_big (by omega) (by omega) (by omega) (by omega)) (w_c (w_modI (by decide) (w_name ?_)))))))))
    have r0:=Int.emod_nonneg (N * N) (show (2147483629:Int)≠0 by decide)
    have r1:=Int.emod_lt_of_pos (N * N) (show (0:Int) < 2147483629 by decide)
    generalize N * N % 2147483629=P at r0 r1 ⊢
    refine w_seq (w_asg (w_op (w_op (w_op (w_op (w_var rfl (w_op (w_op (w_var rfl (w_var rfl (w_mulI (mulok_l (by omega) (by omega)) (w_var rfl (w_mulI (mulok_l (by omega) (by omega)) (w_addI (w_c (w_addI ?_))))))))))))))))
    refine w_op (w_var rfl (w_c (w_addI (w_mulI (mulok_l (by omega) (by omega)) (w_c (w_modI (by decide) (w_name ?_)))))))
    have t0:=Int.emod_nonneg ((P + (k:Int) * k * k + 16807) * (P + 69621)) (show (4611686018427387847:Int)≠0 by decide)
    have t1:=Int.emod_lt_of_pos ((P + (k:Int) * k * k + 16807) * (P + 69621)) (show (0:Int) < 4611686018427387847 by decide)
    generalize (P + (k:Int) * k * k + 16807) * (P + 69621) % 4611686018427387847=R at t0 t1 ⊢
    exact w_ret (w_op (w_op (w_var rfl (w_c (w_mulI (mulok_l (by omega) (by omega)) (w_c (w_modI (by decide) (q _ (dw_mod _)))))))))
  refine w_next (w_seq (w_asg (w_op (w_op (w_op (w_var rfl (w_var rfl (w_mulI (mulok_l (by omega) (by omega)) (w_c (w_mulI (mulok_r (by decide) (by decide)) (w_c (w_addI (w_name ?_)))))))))))))
  refine w_seq (w_ifS (w_test (w_op (w_cb (w_cons (w_var rfl (w_nil (w_lenL hl (w_c (w_gtI (w_bl ?_)))))))))))
  rw [List.length_map]
  refine iteD (fun hp=>?_) (fun hz=>w_next (fin _ (by omega) (by omega)))
  have hp':0 < ns.length:=by omega
  have x0:(0:Int) < (ns.length:Int):=by omega
  have i0:=Int.emod_nonneg ((k:Int) * 7) (show (ns.length:Int)≠0 by omega)
  have i1:=Int.emod_lt_of_pos ((k:Int) * 7) x0
  refine w_asg (w_op (w_var rfl (w_op (w_op (w_op (w_var rfl (w_op (w_op (w_var rfl (w_c (w_mulI (mulok_r (by decide) (by decide)) (w_cb (w_cons (w_var rfl (w_nil (w_lenL hl ?_))))))))))))))))
  rw [List.length_map]
  refine w_modI x0 (w_ixL hl (atI_ints i0 i1) (w_c (w_modI (by decide) ?_)))
  obtain ⟨d0,d1⟩:=dw_mod (ns.getD (((k:Int) * 7) % (ns.length:Int)).toNat 0)
  generalize ns.getD (((k:Int) * 7) % (ns.length:Int)).toNat 0 % 10000000000000000000000000000000000000000=D at d0 d1 ⊢
  refine w_op (w_c (w_op (w_c (w_var rfl (w_mulI (mulok_l (by decide) (by decide)) (w_addI (w_mulI (mulok_r (by omega) (by omega)) (w_addI (w_name ?_)))))))))
  have e1:D * (48271 + 2 * (k:Int))≤10000000000000000000000000000000000000000 * 60000:=Int.mul_le_mul (by omega) (by omega) (by omega) (by decide)
  have e0:0≤D * (48271 + 2 * (k:Int)):=Int.mul_nonneg d0 (by omega)
  exact fin _ (by omega) (by omega)
theorem rd__law_draws {K:PySem.W.Frag} {a b:V} {H:Hp} {Q:VK} {E:XK} (h:sb__law_draws K a b H Q E):tb__law_draws K (Rt Q) [some a,some b,none,none,none] H:=by
  obtain ⟨l,ns,n,rfl,rfl,hl,hb,hlen,hn,q⟩:=h
  unfold tb__law_draws
  have fin:∀ H' r2 r3 r4,Same H H'→(tRet (tTup (tCons (tC (.int 0)) (tCons (tComp [none,some 0] (iRng1 (tCons (tVar 1) tNil)) (gName 0) tYes (tCall (sp__law_mixed K) [] E0 (tCons (tVar 1) (tCons (tVar 0) tNil)))) tNil)))) (Rt Q) [some (.ref l),some (.int (n:Nat)),r2,r3,r4] H':=by
    intro H' r2 r3 r4 s'
    refine w_ret (w_tup (w_cons (w_c (w_cons (w_comp (w_rng1 (w_cons (w_var rfl (w_nil ⟨_,rfl,(rng_ok (by omega)).1,(rng_ok (by omega)).2,fun D hD=>?_⟩)))))))))
    refine comp_rangeP (n:=n) (σr:=[some (.ref l)]) D (fun i v _=>∃ x:Int,v=.int x∧Dw x) (fun _ _ _ _ _ z=>z) (by omega) hD ⟨none,rfl⟩ ?_ ?_
    · intro i H1 R hi s1 kk
      exact w_call (w_cons (w_var rfl (w_cons (w_var rfl (w_nil ⟨_,_,rfl,l,ns,i,rfl,rfl,(s'.trans s1).seq hl,hb,by omega,fun r dr=>kk _ _ (Same.refl _) ⟨r,rfl,dr⟩⟩)))))
    · intro ys H1 hy hall s1 hD1
      obtain ⟨rs,rfl,hr⟩:=all_ints hall
      refine w_nil ⟨by show 2≤sizeLine; decide,fun t ht=>q t D 0 rs _ ((s'.trans s1).laidT ht) upd_same (Same.laid ht _ _ hD1) (by simpa using hy) (all_of_get hr)⟩
  refine w_seq (w_asg (w_cb (w_cons (w_var rfl (w_nil ⟨l,_,rfl,.inl hl,fun c hc=>w_name ?_⟩)))))
  have s1:=Same.laid (o:=.lst (ns.map V.int)) hc
  have g1:=upd_same (H:=H) (a:=c) (o:=.lst (ns.map V.int))
  have fc:=hc
  generalize upd H c (.lst (ns.map V.int))=H1 at s1 g1 ⊢
  refine w_seq (w_ifS (w_test (w_op (w_cb (w_cons (w_var rfl (w_nil (w_lenL (SqL.of g1) (w_c (w_gtI (w_bl ?_)))))))))))
  rw [List.length_map]
  refine iteD (fun hp=>?_) (fun hz=>w_next (fin H1 _ _ _ s1))
  refine w_seq (w_asg (w_lst (w_nil ⟨Nat.zero_le _,fun d hd=>w_name ?_⟩)))
  have cd:c≠d:=fun z=>by subst z; rw [g1] at hd; cases hd
  have fd:H d=none:=s1.free hd
  refine w_seq (w_for (w_rng1 (w_cons (w_var rfl (w_nil ⟨_,rfl,(rng_ok (by omega)).1,(rng_ok (by omega)).2,(for_range0 (fun i σ H2=>∃ (cs ds:List Int) (r4:Option V),σ=[some (.ref l),some (.int (n:Nat)),some (.ref c),some (.ref d),r4]∧H2 c=some (.lst (cs.map V.int))∧cs.length=ns.length∧H2 d=some (.lst (ds.map V.int))∧ds.length=i∧(∀ x∈ds,Dw x)∧Same H H2)
    ⟨ns,[],none,rfl,by rw [upd_ne cd]; exact g1,rfl,upd_same,rfl,fun x hx=>by simp at hx,s1.put fd⟩ ?_ ?_)⟩)))))
  · rintro i σ H2 hi ⟨cs,ds,r4,rfl,hc2,lc,hd2,ld,dd,s2⟩
    have x0:(0:Int) < (cs.length:Int):=by omega
    have i0:=Int.emod_nonneg (i:Int) (show (cs.length:Int)≠0 by omega)
    have i1:=Int.emod_lt_of_pos (i:Int) x0
    have xl:(0:Int) < ((cs.map V.int).length:Int):=by rw [List.length_map]; exact x0
    have em:(i:Int) % ((cs.map V.int).length:Int)=(i:Int) % (cs.length:Int):=by rw [List.length_map]
    refine w_name (w_seq (w_drop (w_bm (w_var rfl ⟨tyV_lst hd2,w_cons (w_op (w_op (w_var rfl (w_op (w_var rfl (w_cb (w_cons (w_var rfl (w_nil (w_lenL (SqL.of hc2) (w_modI xl ?_)))))))))))⟩))))
    rw [em]
    refine w_ixL (SqL.of hc2) (atI_ints i0 i1) (w_c (w_modI (by decide) (w_nil (w_append hd2 (small1000 (by rw [List.length_map]; omega)) ?_))))
    have dw:=dw_mod (cs.getD ((i:Int) % (cs.length:Int)).toNat 0)
    have hc3:upd H2 d (.lst (ds.map V.int ++ [.int (cs.getD ((i:Int) % (cs.length:Int)).toNat 0 % 10000000000000000000000000000000000000000)])) c=some (.lst (cs.map V.int)):=by rw [upd_ne cd]; exact hc2
    refine w_asg (w_op (w_op (w_var rfl (w_op (w_var rfl (w_cb (w_cons (w_var rfl (w_nil (w_lenL (SqL.of hc3) (w_modI xl ?_)))))))))))
    rw [em]
    refine w_ixL (SqL.of hc3) (atI_ints i0 i1) (w_c (w_divI (by decide) (by decide) ?_))
    refine w_sub (w_var rfl (w_op (w_var rfl (w_cb (w_cons (w_var rfl (w_nil (w_lenL (SqL.of hc3) (w_modI xl ?_)))))))))
    rw [em]
    refine w_setL hc3 (ixN_at (n:=(cs.map V.int).length) i0 (by rw [List.length_map]; exact i1)) ?_
    rw [map_set_int]
    refine ⟨cs.set ((i:Int) % (cs.length:Int)).toNat _,ds ++ [cs.getD ((i:Int) % (cs.length:Int)).toNat 0 % 10000000000000000000000000000000000000000],_,rfl,upd_same,by rw [List.length_set]; exact lc,?_,by rw [List.length_append,ld]; rfl,?_,?_⟩
    · rw [upd_ne (Ne.symm cd),upd_same,List.map_append]; rfl
    · intro x hx
      rcases List.mem_append.mp hx with e | e
      · exact dd x e
      · have e':x=cs.getD ((i:Int) % (cs.length:Int)).toNat 0 % 10000000000000000000000000000000000000000:=by simpa using e
        rw [e']; exact dw
    · exact (s2.put fd).put fc
  rintro σ H2 ⟨cs,ds,r4,rfl,hc2,lc,hd2,ld,dd,s2⟩
  have ne:cs≠[]:=fun z=>by rw [z] at lc; simp at lc; omega
  refine w_ifS (w_test (w_op (w_cb (w_cons (w_var rfl (w_nil ⟨c,cs,rfl,.inl (SqL.of hc2),ne,fun mn _ _=>w_c (w_gtI (w_bl (iteD (fun hm=>?_) fun hm=>w_next (fin H2 _ _ _ s2))))⟩))))))
  exact w_ret (w_tup (w_cons (w_c (w_cons (w_var rfl (w_nil ⟨by show 2≤sizeLine; decide,fun t ht=>q t d 1 ds _ (s2.laidT ht) upd_same (Same.laid ht _ _ hd2) ld dd⟩))))))
end LB
namespace LB
open PySem L2
theorem fix_sum {K:PySem.W.Frag} {σ:St} {H:Hp} {Dn:Ends} {n:Nat} {D:Addr} {as:List Int} (hv:σ[n]?=some (some (.ref D))) (hD:H D=some (.lst (as.map V.int))) (h0:∀ x∈as,0≤x∧x≤1000000000) (hl:1≤as.length)
    (k:∀ (as':List Int) H',as'.length=as.length→(∀ x∈as',0≤x∧x≤1000000000)→(∃ x∈as',0 < x)→H' D=some (.lst (as'.map V.int))→(∀ b u,b≠D→H b=some u→H' b=some u)→Dn.nx σ H') :
    tIfS (tTest (tOp (rEqU K) (tCB (rSumU K) (tCons (tVar n) tNil)) (tC (.int 0)))) (tAsg (tC (.int 1)) (gSub (tVar n) (tC (.int 0)) rSetL)) tNext Dn σ H:=by
  refine w_ifS (w_test (w_op (w_cb (w_cons (w_var hv (w_nil (w_sumA (.inl (SqL.of hD)) (w_c (w_eqI (w_bl (iteD (fun hz=>?_) fun hz=>?_)))))))))))
  · refine w_asg (w_c (w_sub (w_var hv (w_c (w_setL hD (ixN_at (n:=(as.map V.int).length) (by decide) (by rw [List.length_map]; omega)) ?_)))))
    rw [map_set_int]
    refine k (as.set (0:Int).toNat 1) _ (by rw [List.length_set]) (fun x hx=>?_) ⟨1,List.mem_set (by show 0 < as.length; omega) 1,by decide⟩ upd_same fun b u ne e=>by rw [upd_ne ne]; exact e
    rcases List.mem_or_eq_of_mem_set hx with e | e
    · exact h0 x e
    · subst e; omega
  · refine w_next (k as H rfl h0 (pos_of_sum (fun y hy=>(h0 y hy).1) hz) hD fun b u _ e=>e)
theorem cut_mid {xs:List V} {lo hi:Nat} (h1:lo≤hi) (h2:hi≤xs.length):cutV xs (some (lo:Int)) (some (hi:Int))=(xs.drop lo).take (hi - lo):=by
  unfold cutV
  rw [HT.sIx_nat,HT.sIx_nat,Nat.min_eq_left h2,Nat.min_eq_left (Nat.le_trans h1 h2)]
theorem one_mod {c:Int} {n:Nat} (h:1≤n):∃ k:Nat,1 + c % (n:Int)=(k:Int)∧1≤k∧k≤n:=by
  have r0:=Int.emod_nonneg c (show (n:Int)≠0 by omega)
  have r1:=Int.emod_lt_of_pos c (show (0:Int) < n by omega)
  exact ⟨(1 + c % (n:Int)).toNat,by omega,by omega,by omega⟩
theorem rd__law_free_book {K:PySem.W.Frag} {a b c:V} {H:Hp} {Q:VK} {E:XK} (h:sb__law_free_book K a b c H Q E):tb__law_free_book K (Rt Q) [some a,some b,some c,none,none,none,none,none] H:=by
  obtain ⟨dl,ds,m,n,rfl,hd,dw,rfl,rfl,m1,m8,n1,n6,hlen,h200,q⟩:=h
  unfold tb__law_free_book
  have nm:1≤2 * n * m:=Nat.mul_le_mul (show 1≤2 * n by omega) m1
  have l0:(0:Int) < (ds.length:Int):=by omega
  refine w_seq (w_asg (w_op (w_c (w_op (w_op (w_var rfl (w_c (w_ixL (SqL.of hd) (atI_ints (i:=0) (by decide) l0) (w_var rfl (w_modI (by omega) (w_addI (w_name ?_))))))))))))
  obtain ⟨k,ek,k1,kn⟩:=one_mod (c:=ds.getD (0:Int).toNat 0) (n:=n) n1
  rw [ek]
  refine w_seq (w_asg (w_lst (w_nil ⟨Nat.zero_le _,fun bl hbl=>w_name ?_⟩)))
  have zb:=Same.laid (o:=.lst []) hbl
  obtain ⟨g,eg,g1,gm⟩:=one_mod (c:=ds.getD (0:Int).toNat 0 / (n:Int)) (n:=m) m1
  refine w_seq (w_for (w_rng1 (w_cons (w_op (w_c (w_op (w_op (w_op (w_var rfl (w_c (w_ixL (SqL.of (zb _ _ hd)) (atI_ints (i:=0) (by decide) l0) (w_var rfl (w_divI (by omega) (by omega) (w_var rfl (w_modI (by omega) (w_addI (w_nil ?_)))))))))))))))))
  rw [eg]
  refine ⟨_,rfl,(rng_ok (by omega)).1,(rng_ok (by omega)).2,(for_range0 (fun i σ H2=>∃ (ys:List V) (B:List (List Int×List Int)) (r5 r6 r7:Option V),σ=[some (.ref dl),some (.int (m:Nat)),some (.int (n:Nat)),some (.int (k:Nat)),some (.ref bl),r5,r6,r7]∧H2 bl=some (.lst ys)∧Reps H2 ys (B.map dayD)∧B.length=i∧(∀ d∈B,GoodDay k d)∧Same H H2)
    ⟨[],[],none,none,none,rfl,upd_same,by unfold List.map Reps; rfl,rfl,fun d hd=>by simp at hd,zb⟩ ?_ ?_)⟩
  · rintro i σ H2 hi ⟨ys,B,r5,r6,r7,rfl,hb2,rB,lB,gB,s2⟩
    have ki:2 * k * (i + 1)≤2 * n * m:=Nat.mul_le_mul (by omega) (by omega)
    have ks:2 * k * (i + 1)=2 * k * i + 2 * k:=Nat.mul_succ (2 * k) i
    have elo:1 + 2 * (k:Int) * (i:Int)=((1 + 2 * k * i:Nat):Int):=by rw [Int.natCast_add,Int.natCast_mul,Int.natCast_mul]; rfl
    have ehi:1 + 2 * (k:Int) * ((i:Int) + 1)=((1 + 2 * k * (i + 1):Nat):Int):=by rw [Int.natCast_add,Int.natCast_mul,Int.natCast_mul,Int.natCast_add]; rfl
    refine w_name (w_seq (w_asg (w_sl (w_var rfl (w_part (w_op (w_c (w_op (w_op (w_c (w_var rfl (w_mulI (mulok_l (by decide) (by decide)) (w_var rfl (w_mulI (mulok_l (by omega) (by omega)) (w_addI (w_int ?_))))))))))))))))
    refine w_part (w_op (w_c (w_op (w_op (w_c (w_var rfl (w_mulI (mulok_l (by decide) (by decide)) (w_op (w_var rfl (w_c (w_addI (w_mulI (mulok_l (by omega) (by omega)) (w_addI (w_int ?_))))))))))))))
    rw [elo,ehi]
    refine .inr ⟨dl,_,rfl,SqL.of (s2 _ _ hd),fun sl hsl=>w_name ?_⟩
    rw [cut_mid (by omega) (by rw [List.length_map]; omega),show 1 + 2 * k * (i + 1) - (1 + 2 * k * i)=2 * k by omega,← List.map_drop,← List.map_take]
    obtain ⟨es,ees⟩:∃ es,(ds.drop (1 + 2 * k * i)).take (2 * k)=es:=⟨_,rfl⟩
    rw [ees]
    have le:es.length=2 * k:=by rw [← ees,List.length_take,List.length_drop]; omega
    have s3:Same H (upd H2 sl (.lst (es.map V.int))):=s2.laidT hsl
    have h3:=upd_same (H:=H2) (a:=sl) (o:=.lst (es.map V.int))
    have hb3:=Same.laid (o:=.lst (es.map V.int)) hsl _ _ hb2
    have rB3:=Reps.mono (Same.laid (o:=.lst (es.map V.int)) hsl) _ _ rB
    generalize upd H2 sl (.lst (es.map V.int))=H3 at s3 h3 hb3 rB3 ⊢
    refine w_seq (w_asg (w_comp (w_rng1 (w_cons (w_var rfl (w_nil ⟨_,rfl,(rng_ok (by omega)).1,(rng_ok (by omega)).2,fun D hD=>?_⟩))))))
    refine comp_rangeP (n:=k) (σr:=[some (.ref sl)]) D (fun _ v _=>∃ x:Int,v=.int x∧(0≤x∧x≤1000000000)) (fun _ _ _ _ _ z=>z) (by omega) hD ⟨none,rfl⟩ ?_ ?_
    · intro j H4 R hj s4 kk
      refine w_op (w_op (w_var rfl (w_op (w_op (w_c (w_var rfl (w_mulI (mulok_l (by decide) (by decide)) (w_c (w_addI (w_ixL (SqL.of (s4 _ _ h3)) (atI_ints (by omega) (by omega)) (w_op (w_c (w_c (w_addI (w_modI (by decide) ?_)))))))))))))))
      refine kk _ _ (Same.refl _) ⟨_,rfl,Int.emod_nonneg _ (by decide),?_⟩
      have:=Int.emod_lt_of_pos (es.getD (2 * (j:Int) + 1).toNat 0) (show (0:Int) < 1000000000 + 1 by decide)
      omega
    intro zs H4 hz hall s4 hD4
    obtain ⟨as,rfl,has⟩:=all_ints hall
    have las:as.length=k:=by simpa using hz
    refine w_name (w_seq (fix_sum (as:=as) rfl hD4 (all_of_get has) (by omega) fun as' H5 la5 ha5 pos5 hD5 keep=>?_))
    have fD:H D=none:=s3.free hD
    have nD:∀ b u,H3 b=some u→b≠D:=fun b u e z=>by subst z; rw [hD] at e; cases e
    have s35:Same H3 H5:=fun b u e=>keep b u (nD b u e) (s4 b u e)
    have hb5:=s35 _ _ hb3
    have h5:=s35 _ _ h3
    have rB5:=Reps.mono s35 _ _ rB3
    have s05:=s3.trans s35
    dsimp only
    refine w_drop (w_bm (w_var rfl ⟨tyV_lst hb5,w_cons (w_tup (w_cons (w_cb (w_cons (w_comp (w_rng1 (w_cons (w_var rfl (w_nil ⟨_,rfl,(rng_ok (by omega)).1,(rng_ok (by omega)).2,fun D2 hD2=>?_⟩)))))))))⟩))
    refine comp_rangeP (n:=k) (σr:=[some (.ref sl)]) D2 (fun _ v _=>∃ x:Int,v=.int x∧(1≤x∧x≤1000000000)) (fun _ _ _ _ _ z=>z) (by omega) hD2 ⟨none,rfl⟩ ?_ ?_
    · intro j H6 R hj s6 kk
      refine w_op (w_c (w_op (w_op (w_var rfl (w_op (w_c (w_var rfl (w_mulI (mulok_l (by decide) (by decide)) (w_ixL (SqL.of (s6 _ _ h5)) (atI_ints (by omega) (by omega)) (w_c (w_modI (by decide) (w_addI ?_))))))))))))
      have a0:=Int.emod_nonneg (es.getD (2 * (j:Int)).toNat 0) (show (1000000000:Int)≠0 by decide)
      have a1:=Int.emod_lt_of_pos (es.getD (2 * (j:Int)).toNat 0) (show (0:Int) < 1000000000 by decide)
      exact kk _ _ (Same.refl _) ⟨_,rfl,by omega,by omega⟩
    intro zs H6 hz6 hall6 s6 hD6
    obtain ⟨ps,rfl,hps⟩:=all_ints hall6
    have lps:ps.length=k:=by simpa using hz6
    refine w_nil (w_tupL (SqL.of hD6) fun t1 ht1=>?_)
    have z1:=Same.laid (o:=.tup (ps.map V.int)) ht1
    refine w_cons (w_cb (w_cons (w_var rfl (w_nil (w_tupL (SqL.of (z1 _ _ (s6 _ _ hD5))) fun t2 ht2=>?_)))))
    have z2:=Same.laid (o:=.tup (as'.map V.int)) ht2
    refine w_nil ⟨by show 2≤sizeLine; decide,fun t3 ht3=>?_⟩
    have z3:=Same.laid (o:=.tup [.ref t1,.ref t2]) ht3
    have s57:=((s6.trans z1).trans z2).trans z3
    have hb7:=s57 _ _ hb5
    have r7:Rep _ (.ref t3) (dayD (ps,as')):=rep_day (d:=(ps,as')) upd_same (z3 _ _ (z2 _ _ upd_same)) (z3 _ _ upd_same)
    have rB7:=Reps.mono s57 _ _ rB5
    have s07:=s05.trans s57
    refine w_nil (w_append hb7 (small1000 (by have:=rB.length; rw [List.length_map] at this; omega)) ?_)
    generalize upd (upd (upd H6 t1 (.tup (ps.map V.int))) t2 (.tup (as'.map V.int))) t3 (.tup [.ref t1,.ref t2])=H7 at hb7 r7 rB7 s07 ⊢
    have tu:=Tu.put (ys:=ys ++ [.ref t3]) hb7
    refine ⟨ys ++ [.ref t3],B ++ [(ps,as')],_,_,_,rfl,upd_same,?_,by rw [List.length_append,lB]; rfl,?_,s07.put hbl⟩
    · rw [List.map_append]
      exact reps_app (Reps.tu tu _ _ (noL_days B) rB7) (reps_cons (Rep.tu tu _ _ (noL_day _) r7) reps_nil)
    · intro d hd
      rcases List.mem_append.mp hd with e | e
      · exact gB d e
      · have e':d=(ps,as'):=by simpa using e
        subst e'
        exact ⟨lps,by show as'.length=k; omega,all_of_get hps,fun x hx=>by have:=ha5 x hx; omega,pos5⟩
  rintro σ H2 ⟨ys,B,r5,r6,r7,rfl,hb2,rB,lB,gB,s2⟩
  refine w_ret (w_cb (w_cons (w_var rfl (w_nil (w_tupL (SqL.of hb2) fun u hu=>?_)))))
  refine q _ B k _ (s2.laidT hu) ?_ ⟨k1,by omega,by omega,by omega,gB⟩ kn
  unfold bookD Rep
  exact ⟨u,ys,rfl,upd_same,Reps.mono (Same.laid hu) _ _ rB⟩
end LB
namespace LB
open PySem L2
theorem row_cl {n l:Nat}:∀ (r:List Int) (k:Nat) (s:Ch×List Nat),r.length + k≤n→GoodS n s→inK s.1 l=true →
    GoodS n (rowF l r k s)∧2 * missF n (rowF l r k s).1 + (rowF l r k s).2.length≤2 * missF n s.1 + s.2.length∧(∀ x,inK s.1 x=true→inK (rowF l r k s).1 x=true) ∧
    (∀ j,j < r.length→r.getD j 0≠0→inK (rowF l r k s).1 (k + j)=true)∧(∀ x∈s.2,x∈(rowF l r k s).2)∧∀ x,inK (rowF l r k s).1 x=true→inK s.1 x=true∨x∈(rowF l r k s).2
  | [],k,s,_,g,_=>⟨g,Nat.le_refl _,fun _ h=>h,fun j h=>by simp at h,fun _ h=>h,fun _ h=>.inl h⟩
  | m :: r,k,(C,w),hn,g,hl=>by
    rw [List.length_cons] at hn
    replace hl:inK C l=true:=hl
    by_cases z:m≠0∧inK C k=false
    · have es:stepF l k m (C,w)=(C ++ [(k,chOf C l ++ [k])],w ++ [k]):=by unfold stepF; rw [if_pos z]
      obtain ⟨ga,gm⟩:=g.add (k:=k) (last:=l) (by omega) z.2 hl
      have up:∀ x,inK C x=true→inK (C ++ [(k,chOf C l ++ [k])]) x=true:=fun x hx=>by rw [inK_snoc,hx]; rfl
      obtain ⟨b1,b2,b3,b4,b5,b6⟩:=row_cl (l:=l) r (k + 1) (C ++ [(k,chOf C l ++ [k])],w ++ [k]) (by omega) ga (up l hl)
      have er:rowF l (m :: r) k (C,w)=rowF l r (k + 1) (C ++ [(k,chOf C l ++ [k])],w ++ [k]):=by show rowF l r (k + 1) (stepF l k m (C,w))=_; rw [es]
      rw [er]
      have kin:inK (C ++ [(k,chOf C l ++ [k])]) k=true:=by rw [inK_snoc]; simp
      refine ⟨b1,?_,fun x hx=>b3 x (up x hx),fun j hj hne=>?_,fun x hx=>b5 x (List.mem_append.mpr (.inl hx)),fun x hx=>?_⟩
      · replace b2:_≤2 * missF n (C ++ [(k,chOf C l ++ [k])]) + (w ++ [k]).length:=b2
        show _≤2 * missF n C + w.length
        omega
      · cases j with
        | zero=>exact b3 k kin
        | succ j =>
          have:=b4 j (by simpa using hj) (by simpa using hne)
          rw [show k + (j + 1)=k + 1 + j by omega]; exact this
      · rcases b6 x hx with e | e
        · replace e:inK (C ++ [(k,chOf C l ++ [k])]) x=true:=e
          rw [inK_snoc] at e
          cases ec:inK C x with
          | true=>exact .inl rfl
          | false =>
            rw [ec] at e
            have ek:k=x:=by simpa using e
            subst ek
            exact .inr (b5 k (List.mem_append.mpr (.inr (by simp))))
        · exact .inr e
    · have es:stepF l k m (C,w)=(C,w):=by unfold stepF; rw [if_neg z]
      obtain ⟨b1,b2,b3,b4,b5,b6⟩:=row_cl (l:=l) r (k + 1) (C,w) (by omega) g hl
      have er:rowF l (m :: r) k (C,w)=rowF l r (k + 1) (C,w):=by show rowF l r (k + 1) (stepF l k m (C,w))=_; rw [es]
      rw [er]
      refine ⟨b1,b2,b3,fun j hj hne=>?_,b5,b6⟩
      cases j with
      | zero =>
        have hm:m≠0:=by simpa using hne
        have:inK C k=true:=by
          cases e:inK C k with
          | true=>rfl
          | false=>exact absurd ⟨hm,e⟩ z
        exact b3 k this
      | succ j =>
        have:=b4 j (by simpa using hj) (by simpa using hne)
        rw [show k + (j + 1)=k + 1 + j by omega]; exact this
theorem bfs_cl {M:List (List Int)} {n:Nat} (hM:∀ l,(M.getD l []).length≤n):∀ (f:Nat) (s:Ch×List Nat),2 * missF n s.1 + s.2.length < f→GoodS n s →
    (∀ i,inK s.1 i=true→i∈s.2∨∀ j,j < (M.getD i []).length→mkF M i j≠0→inK s.1 j=true) →
    ∀ i,inK (bfsF M f s) i=true→∀ j,j < (M.getD i []).length→mkF M i j≠0→inK (bfsF M f s) j=true
  | 0,s,h,_,_=>absurd h (Nat.not_lt_zero _)
  | f + 1,(C,[]),_,_,hc=>fun i hi=>by
    rcases hc i hi with e | e
    · simp at e
    · exact e
  | f + 1,(C,l :: w),h,g,hc=>by
    obtain ⟨b1,b2,b3,b4,b5,b6⟩:=row_cl (n:=n) (l:=l) (M.getD l []) 0 (C,w) (by have:=hM l; omega) g.pop (g.wt l (by simp))
    refine bfs_cl hM f (rowF l (M.getD l []) 0 (C,w)) ?_ b1 fun i hi=>?_
    · replace b2:_≤2 * missF n C + w.length:=b2
      replace h:2 * missF n C + (l :: w).length < f + 1:=h
      rw [List.length_cons] at h
      omega
    · rcases b6 i hi with e | e
      · rcases hc i e with u | u
        · rcases List.mem_cons.mp u with v | v
          · subst v
            refine .inr fun j hj hm=>?_
            have:=b4 j hj hm
            rw [Nat.zero_add] at this; exact this
          · exact .inl (b5 i v)
        · exact .inr fun j hj hm=>b3 j (u j hj hm)
      · exact .inl e
theorem row_nk {l:Nat}:∀ (r:List Int) (k:Nat) (s:Ch×List Nat),(s.1.map (·.1)).Nodup→((rowF l r k s).1.map (·.1)).Nodup
  | [],_,_,h=>h
  | m :: r,k,(C,w),h=>by
    show ((rowF l r (k + 1) (stepF l k m (C,w))).1.map (·.1)).Nodup
    refine row_nk r (k + 1) _ ?_
    unfold stepF
    split
    · rename_i z
      show ((C ++ [(k,chOf C l ++ [k])]).map (·.1)).Nodup
      rw [List.map_append]
      unfold List.Nodup
      rw [List.pairwise_append]
      refine ⟨h,by simp,fun a ha b hb=>?_⟩
      have e:b=k:=by simpa using hb
      subst e
      intro w2
      subst w2
      obtain ⟨c,hc,e⟩:=List.mem_map.mp ha
      have:=inK_of_mem hc
      rw [e] at this
      have z2:inK C a=false:=z.2
      rw [this] at z2; cases z2
    · exact h
theorem bfs_nk {M:List (List Int)}:∀ (f:Nat) (s:Ch×List Nat),(s.1.map (·.1)).Nodup→((bfsF M f s).map (·.1)).Nodup
  | 0,_,h=>h
  | _ + 1,(_,[]),h=>h
  | f + 1,(C,l :: w),h=>bfs_nk f _ (row_nk (M.getD l []) 0 (C,w) h)
end LB
namespace PySem
open Sem (wp)
open AutoSeq1 (wpAny_loadPart')
section
variable {prog:Program} {w:World} {A:Around} {E:Value→Shared→Prop} {s:Shared}
end
end PySem
namespace L2
open PySem PySem.Spec PyProof.Rows
section
variable {X:Cx}
end
end L2
namespace LB
open PySem L2
abbrev Wk:=Int×List Nat
abbrev Tb:=List (List (Option Int))
def entF (T:Tb) (i j:Nat):Option Int:=((T.getD i []).getD j none)
def pvF (T:Tb):List Nat→Int
  | a :: b :: r=>(entF T a b).getD 0 + pvF T (b :: r)
  | _=>0
def pathF (T:Tb):List Nat→Prop
  | a :: b :: r=>(∃ g,entF T a b=some g)∧pathF T (b :: r)
  | _=>True
structure WkOk (T:Tb) (n:Nat) (b:Nat→Int) (c:Nat) (w:Wk):Prop where
  la:w.2.getLast?=some c
  pa:pathF T w.2
  va:w.1=pvF T w.2
  lt:∀ x∈w.2,x < n
  lo:∀ i x,w.2[i]?=some x→b x≤pvF T (w.2.take (i + 1))
  rg:∀ i j x,i < j→w.2[i]?=some x→w.2[j]?=some x→pvF T (w.2.take (j + 1)) < pvF T (w.2.take (i + 1))
abbrev bestF (best:List Wk) (x:Nat):Int:=(best.getD x (0,[])).1
structure StOk (T:Tb) (n:Nat) (ws best:List Wk):Prop where
  l1:ws.length=n
  l2:best.length=n
  o1:∀ c w,ws[c]?=some w→WkOk T n (bestF best) c w
  o2:∀ c w,best[c]?=some w→WkOk T n (bestF best) c w
  le:∀ x,bestF best x≤bestF ws x
theorem nd_len:∀ (n:Nat) (p:List Nat),p.Nodup→(∀ x∈p,x < n)→p.length≤n
  | 0,p,_,h=>by
    cases p with
    | nil=>exact Nat.le_refl _
    | cons a r=>exact absurd (h a (by simp)) (Nat.not_lt_zero _)
  | n + 1,p,nd,h=>by
    have f:∀ (q:List Nat),q.Nodup→q.length≤(q.filter fun x=>x != n).length + 1:=by
      intro q
      induction q with
      | nil=>intro _; simp
      | cons a r ih =>
        intro hq
        rw [List.nodup_cons] at hq
        by_cases e:a=n
        · subst e
          have:(r.filter fun x=>x != a)=r:=List.filter_eq_self.mpr fun x hx=>by
            simp; intro z; subst z; exact hq.1 hx
          simp [this]
        · have:=ih hq.2
          rw [List.filter_cons_of_pos (by simp [e])]
          rw [List.length_cons,List.length_cons]; omega
    have h1:=nd_len n (p.filter fun x=>x != n) (List.Pairwise.filter _ nd) (fun x hx=>by
      rw [List.mem_filter] at hx
      have:=h x hx.1
      have:x≠n:=by simpa using hx.2
      omega)
    have h2:=f p nd
    omega
end LB
namespace LB
open PySem L2
namespace RS
abbrev Sh:={ p:Int×Int // 0 < p.1∧0 < p.2 }
instance:Add Sh:=⟨fun a b=>⟨(a.1.1 * b.1.1,a.1.2 * b.1.2),Int.mul_pos a.2.1 b.2.1,Int.mul_pos a.2.2 b.2.2⟩⟩
instance:OfNat Sh 0:=⟨⟨(1,1),by decide,by decide⟩⟩
instance:LT Sh:=⟨fun a b=>a.1.1 * b.1.2 < b.1.1 * a.1.2⟩
instance:LE Sh:=⟨fun a b=>a.1.1 * b.1.2≤b.1.1 * a.1.2⟩
instance (a b:Sh):Decidable (a < b):=inferInstanceAs (Decidable (a.1.1 * b.1.2 < b.1.1 * a.1.2))
abbrev Wk:=Sh×List Nat
abbrev Tb:=List (List (Option Sh))
def entF (T:Tb) (i j:Nat):Option Sh:=((T.getD i []).getD j none)
def pvF (T:Tb):List Nat→Sh
  | a :: b :: r=>(entF T a b).getD 0 + pvF T (b :: r)
  | _=>0
def pathF (T:Tb):List Nat→Prop
  | a :: b :: r=>(∃ g,entF T a b=some g)∧pathF T (b :: r)
  | _=>True
structure WkOk (T:Tb) (n:Nat) (b:Nat→Sh) (c:Nat) (w:Wk):Prop where
  la:w.2.getLast?=some c
  pa:pathF T w.2
  va:w.1=pvF T w.2
  lt:∀ x∈w.2,x < n
  lo:∀ i x,w.2[i]?=some x→b x≤pvF T (w.2.take (i + 1))
  rg:∀ i j x,i < j→w.2[i]?=some x→w.2[j]?=some x→pvF T (w.2.take (j + 1)) < pvF T (w.2.take (i + 1))
abbrev bestF (best:List Wk) (x:Nat):Sh:=(best.getD x (0,[])).1
structure StOk (T:Tb) (n:Nat) (ws best:List Wk):Prop where
  l1:ws.length=n
  l2:best.length=n
  o1:∀ c w,ws[c]?=some w→WkOk T n (bestF best) c w
  o2:∀ c w,best[c]?=some w→WkOk T n (bestF best) c w
  le:∀ x,bestF best x≤bestF ws x
end RS
namespace RS
theorem pow_mono {a b:Nat} (h:a≤b):(2:Int) ^ a≤2 ^ b:=by
  have:=Nat.pow_le_pow_right (show 0 < 2 by decide) h
  have h2:((2 ^ a:Nat):Int)≤((2 ^ b:Nat):Int):=Int.ofNat_le.mpr this
  simpa [Int.natCast_pow] using h2
end RS
end LB
namespace LB
open PySem L2
abbrev Wt:=Nat×Int×Int
def lowD (gap:Nat→Nat→Int) (a:Wt):List Nat→Int→Int
  | [],m=>m
  | d :: ds,m=>lowD gap a ds (min m (a.2.1 + a.2.2 * gap a.1 d))
def lowW (gap:Nat→Nat→Int) (level:List Nat):List Wt→Int→Int
  | [],m=>m
  | a :: st,m=>lowW gap level st (lowD gap a level m)
def wtW (gap:Nat→Nat→Int) (d:Nat) (own:Int):List Wt→Int→Int
  | [],w=>w
  | a :: st,w=>wtW gap d own st (max w (-((own - a.2.1) / gap d a.1)))
def stepW (gap:Nat→Nat→Int) (st:List Wt) (level:List Nat):List Wt :=
  st ++ level.map fun d=>(d,lowW gap level st 0,wtW gap d (lowW gap level st 0) st 1)
def runW (gap:Nat→Nat→Int):List (List Nat)→List Wt→List Wt
  | [],st=>st
  | l :: ls,st=>runW gap ls (stepW gap st l)
theorem lowD_le {gap:Nat→Nat→Int} {a:Wt}:∀ (ds:List Nat) (m:Int),lowD gap a ds m≤m∧∀ d∈ds,lowD gap a ds m≤a.2.1 + a.2.2 * gap a.1 d
  | [],m=>⟨Int.le_refl _,fun d hd=>by simp at hd⟩
  | d :: ds,m=>by
    obtain ⟨h1,h2⟩:=lowD_le (gap:=gap) (a:=a) ds (min m (a.2.1 + a.2.2 * gap a.1 d))
    refine ⟨Int.le_trans h1 (Int.min_le_left ..),fun e he=>?_⟩
    rcases List.mem_cons.mp he with z | z
    · rw [z]; exact Int.le_trans h1 (Int.min_le_right ..)
    · exact h2 e z
theorem lowW_le {gap:Nat→Nat→Int} {level:List Nat}:∀ (st:List Wt) (m:Int),lowW gap level st m≤m∧∀ a∈st,∀ d∈level,lowW gap level st m≤a.2.1 + a.2.2 * gap a.1 d
  | [],m=>⟨Int.le_refl _,fun d hd=>by simp at hd⟩
  | a :: st,m=>by
    obtain ⟨h1,h2⟩:=lowW_le (gap:=gap) (level:=level) st (lowD gap a level m)
    obtain ⟨g1,g2⟩:=lowD_le (gap:=gap) (a:=a) level m
    refine ⟨Int.le_trans h1 g1,fun b hb d hd=>?_⟩
    rcases List.mem_cons.mp hb with z | z
    · rw [z]; exact Int.le_trans h1 (g2 d hd)
    · exact h2 b z d hd
theorem wtW_ge {gap:Nat→Nat→Int} {d:Nat} {own:Int}:∀ (st:List Wt) (w:Int),w≤wtW gap d own st w∧∀ a∈st,-((own - a.2.1) / gap d a.1)≤wtW gap d own st w
  | [],m=>⟨Int.le_refl _,fun d hd=>by simp at hd⟩
  | a :: st,w=>by
    obtain ⟨h1,h2⟩:=wtW_ge (gap:=gap) (d:=d) (own:=own) st (max w (-((own - a.2.1) / gap d a.1)))
    refine ⟨Int.le_trans (Int.le_max_left ..) h1,fun b hb=>?_⟩
    rcases List.mem_cons.mp hb with z | z
    · rw [z]; exact Int.le_trans (Int.le_max_right ..) h1
    · exact h2 b z
structure TasteF (gap:Nat→Nat→Int) (st:List Wt):Prop where
  le:∀ a∈st,∀ b∈st,a.1≠b.1→b.2.1≤a.2.1 + a.2.2 * gap a.1 b.1
  w1:∀ a∈st,1≤a.2.2
theorem bridge {own x g w:Int} (hg:0 < g) (h:-((own - x) / g)≤w):x≤own + w * g:=by
  have h1:(own - x) / g * g≤own - x:=Int.ediv_mul_le _ (by omega)
  have h2:-((own - x) / g) * g≤w * g:=Int.mul_le_mul_of_nonneg_right h (Int.le_of_lt hg)
  rw [Int.neg_mul] at h2
  omega
theorem TasteF.step {gap:Nat→Nat→Int} {st:List Wt} {level:List Nat} (h:TasteF gap st) (ha:∀ a∈st,∀ d∈level,0 < gap d a.1) (hs:∀ d∈level,∀ e∈level,d≠e→0≤gap d e):TasteF gap (stepW gap st level):=by
  unfold stepW
  obtain ⟨l1,l2⟩:=lowW_le (gap:=gap) (level:=level) st 0
  generalize lowW gap level st 0=own at l1 l2
  refine ⟨fun a hA b hB ne=>?_,fun a hA=>?_⟩
  · rcases List.mem_append.mp hA with za | za
    · rcases List.mem_append.mp hB with zb | zb
      · exact h.le a za b zb ne
      · obtain ⟨d,hd,rfl⟩:=List.mem_map.mp zb
        exact l2 a za d hd
    · obtain ⟨d,hd,rfl⟩:=List.mem_map.mp za
      obtain ⟨w1,w2⟩:=wtW_ge (gap:=gap) (d:=d) (own:=own) st 1
      rcases List.mem_append.mp hB with zb | zb
      · exact bridge (ha b zb d hd) (w2 b zb)
      · obtain ⟨e,he,rfl⟩:=List.mem_map.mp zb
        show own≤own + wtW gap d own st 1 * gap d e
        have:=Int.mul_nonneg (show 0≤wtW gap d own st 1 by omega) (hs d hd e he ne)
        omega
  · rcases List.mem_append.mp hA with za | za
    · exact h.w1 a za
    · obtain ⟨d,hd,rfl⟩:=List.mem_map.mp za
      exact (wtW_ge (gap:=gap) (d:=d) (own:=own) st 1).1
theorem days_step {gap:Nat→Nat→Int} {st:List Wt} {level:List Nat}:(stepW gap st level).map (·.1)=st.map (·.1) ++ level:=by
  unfold stepW
  rw [List.map_append,List.map_map]
  congr 1
  exact (List.map_congr_left fun d _=>rfl).trans (List.map_id _)
theorem run_taste {gap:Nat→Nat→Int} {h:Nat→Nat} {n:Nat} (A:∀ d e,d < n→e < n→h d < h e→0 < gap d e) (B:∀ d e,d < n→e < n→d≠e→h d=h e→0≤gap d e):∀ (ls:List (List Nat)) (st:List Wt),TasteF gap st→(∀ l∈ls,∀ d∈l,d < n)→(∀ a∈st,a.1 < n)→(∀ l∈ls,∀ d∈l,∀ e∈l,h d=h e)→ls.Pairwise (fun l m=>∀ d∈l,∀ e∈m,h e < h d)→(∀ l∈ls,∀ a∈st,∀ d∈l,h d < h a.1)→TasteF gap (runW gap ls st)
  | [],st,h0,_,_,_,_,_=>h0
  | l :: ls,st,h0,n1,n2,h1,h2,h3=>by
    rw [List.pairwise_cons] at h2
    have s:=h0.step (level:=l) (fun a ha d hd=>A _ _ (n1 l (by simp) d hd) (n2 a ha) (h3 l (by simp) a ha d hd)) (fun d hd e he ne=>B d e (n1 l (by simp) d hd) (n1 l (by simp) e he) ne (h1 l (by simp) d hd e he))
    have new:∀ a∈stepW gap st l,(∃ b∈st,b.1=a.1)∨a.1∈l:=by
      intro a ha
      have hm':a.1∈(stepW gap st l).map (·.1):=List.mem_map.mpr ⟨a,ha,rfl⟩
      rw [days_step] at hm'
      rcases List.mem_append.mp hm' with z | z
      · obtain ⟨b,hb,e⟩:=List.mem_map.mp z
        exact .inl ⟨b,hb,e⟩
      · exact .inr z
    refine run_taste A B ls _ s (fun m hm=>n1 m (by simp [hm])) (fun a ha=>?_) (fun m hm=>h1 m (by simp [hm])) h2.2 (fun m hm a ha d hd=>?_)
    · rcases new a ha with ⟨b,hb,e⟩ | z
      · rw [← e]; exact n2 b hb
      · exact n1 l (by simp) _ z
    · rcases new a ha with ⟨b,hb,e⟩ | z
      · have:=h3 m (by simp [hm]) b hb d hd
        rw [e] at this; exact this
      · exact h2.1 m hm _ z d hd
theorem days_run {gap:Nat→Nat→Int}:∀ (ls:List (List Nat)) (st:List Wt),(runW gap ls st).map (·.1)=st.map (·.1) ++ ls.flatten
  | [],st=>by simp [runW]
  | l :: ls,st=>by
    show (runW gap ls (stepW gap st l)).map (·.1)=_
    rw [days_run ls,days_step,List.flatten_cons,List.append_assoc]
def levelsF (h:Nat→Nat) (n:Nat) (ks:List Nat):List (List Nat):=ks.map fun k=>(List.range n).filter fun d=>h d == k
theorem lev_mem {h:Nat→Nat} {n:Nat} {ks:List Nat} {l:List Nat} (hl:l∈levelsF h n ks):∃ k∈ks,∀ d,d∈l↔d < n∧h d=k:=by
  obtain ⟨k,hk,rfl⟩:=List.mem_map.mp hl
  exact ⟨k,hk,fun d=>by simp⟩
theorem lev_same {h:Nat→Nat} {n:Nat} {ks:List Nat}:∀ l∈levelsF h n ks,∀ d∈l,∀ e∈l,h d=h e:=fun l hl d hd e he=>by
  obtain ⟨k,_,hk⟩:=lev_mem hl
  rw [((hk d).mp hd).2,((hk e).mp he).2]
theorem lev_down {h:Nat→Nat} {n:Nat} {ks:List Nat} (hs:ks.Pairwise (fun a b=>b < a)):(levelsF h n ks).Pairwise (fun l m=>∀ d∈l,∀ e∈m,h e < h d):=by
  unfold levelsF
  rw [List.pairwise_map]
  refine hs.imp fun {a b} hab d hd e he=>?_
  have h1:h d=a:=by simpa using (List.mem_filter.mp hd).2
  have h2:h e=b:=by simpa using (List.mem_filter.mp he).2
  omega
theorem lev_nd {h:Nat→Nat} {n:Nat} {ks:List Nat} (hs:ks.Pairwise (fun a b=>b < a)):(levelsF h n ks).flatten.Nodup:=by
  unfold List.Nodup
  rw [List.pairwise_flatten]
  refine ⟨fun l hl=>?_,(lev_down hs).imp fun {l m} hlm d hd e he z=>?_⟩
  · obtain ⟨k,hk,rfl⟩:=List.mem_map.mp hl
    exact List.Pairwise.filter _ List.nodup_range
  · have:=hlm d hd e he
    rw [z] at this; omega
theorem lev_all {h:Nat→Nat} {n:Nat} {ks:List Nat} (hk:∀ d,d < n→h d∈ks) (d:Nat):d∈(levelsF h n ks).flatten↔d < n:=by
  rw [List.mem_flatten]
  constructor
  · rintro ⟨l,hl,hd⟩
    obtain ⟨k,_,hk⟩:=lev_mem hl
    exact ((hk d).mp hd).1
  · intro hd
    exact ⟨_,List.mem_map.mpr ⟨h d,hk d hd,rfl⟩,by simp [hd]⟩
theorem lev_perm {h:Nat→Nat} {n:Nat} {ks:List Nat} (hs:ks.Pairwise (fun a b=>b < a)) (hk:∀ d,d < n→h d∈ks):(levelsF h n ks).flatten.Perm (List.range n) :=
  (List.perm_ext_iff_of_nodup (lev_nd hs) List.nodup_range).mpr fun d=>by rw [lev_all hk,List.mem_range]
theorem taste_ok {gap:Nat→Nat→Int} {h:Nat→Nat} {n:Nat} {ks:List Nat} (hs:ks.Pairwise (fun a b=>b < a)) (hk:∀ d,d < n→h d∈ks) (A:∀ d e,d < n→e < n→h d < h e→0 < gap d e) (B:∀ d e,d < n→e < n→d≠e→h d=h e→0≤gap d e) :
    TasteF gap (runW gap (levelsF h n ks) [])∧((runW gap (levelsF h n ks) []).map (·.1)).Perm (List.range n):=by
  refine ⟨run_taste A B _ [] ⟨fun a ha=>by simp at ha,fun a ha=>by simp at ha⟩ (fun l hl d hd=>?_) (fun a ha=>by simp at ha) lev_same (lev_down hs) (fun l _ a ha=>by simp at ha),?_⟩
  · obtain ⟨k,_,hk⟩:=lev_mem hl
    exact ((hk d).mp hd).1
  · rw [days_run]
    exact lev_perm hs hk
structure Sq (M:List (List Int)):Prop where
  row:∀ i,i < M.length→(M.getD i []).length=M.length
theorem Sq.le {M:List (List Int)} (s:Sq M) (l:Nat):(M.getD l []).length≤M.length:=by
  by_cases h:l < M.length
  · exact Nat.le_of_eq (s.row l h)
  · rw [List.getD,List.getElem?_eq_none (by omega)]; simp
theorem start_good {n d:Nat} (hd:d < n):GoodS n ([(d,[d])],[d])∧2 * missF n [(d,[d])] + 1 < 2 * n + 2:=by
  have ms:missF n [(d,[d])] + 1≤missF n []:=miss_snoc (C:=[]) (c:=[d]) hd rfl
  have m0:missF n []≤n:=by
    unfold missF
    exact Nat.le_trans (List.length_filter_le _ _) (by simp)
  refine ⟨⟨?_,Nat.le_refl _,?_,?_⟩,by omega⟩
  · show 1 + missF n [(d,[d])]≤n; omega
  · intro c hc
    have e:c=(d,[d]):=by simpa using hc
    subst e
    exact ⟨hd,Nat.le_refl _⟩
  · intro l hl
    have e:l=d:=by simpa using hl
    subst e
    simp [inK]
theorem closedM {M:List (List Int)} (s:Sq M) {d i j:Nat} (hd:d < M.length) (il:i < M.length) (hj:j < M.length) (hi:inK (chainsF M d) i=true) (hm:mkF M i j≠0):inK (chainsF M d) j=true:=by
  obtain ⟨g,ms⟩:=start_good hd
  refine bfs_cl s.le _ _ ms g (fun i hi=>?_) i hi j (by rw [s.row i il]; exact hj) hm
  have e:d=i:=by simpa [inK] using hi
  subst e
  exact .inl (by simp)
theorem self_in (M:List (List Int)) (d:Nat):inK (chainsF M d) d=true:=by
  obtain ⟨C',hC⟩:=chains_head M d
  rw [hC]; simp [inK]
theorem link_in {M:List (List Int)} (s:Sq M) {d:Nat} (hd:d < M.length):∀ (c:List Nat) (a o:Nat),(∀ x∈c,x < M.length)→linkF M c→c.head?=some a→c.getLast?=some o→inK (chainsF M d) a=true→inK (chainsF M d) o=true
  | [],_,_,_,_,h,_,_=>by simp at h
  | [x],a,o,_,_,h1,h2,ha=>by
    have e1:x=a:=by simpa using h1
    have e2:x=o:=by simpa using h2
    rw [← e2,e1]; exact ha
  | x :: y :: r,a,o,hl,⟨h0,hk⟩,h1,h2,ha=>by
    have e1:x=a:=by simpa using h1
    subst e1
    exact link_in s hd (y :: r) y o (fun z hz=>hl z (by simp [hz])) hk rfl (by simpa using h2) (closedM s hd (hl x (by simp)) (hl y (by simp)) ha h0)
theorem reach_trans {M:List (List Int)} (s:Sq M) (kl:∀ e o,e < M.length→inK (chainsF M e) o=true→o < M.length) {d e o:Nat} (hd:d < M.length) (he:e < M.length) (h1:inK (chainsF M d) e=true) (h2:inK (chainsF M e) o=true):inK (chainsF M d) o=true:=by
  have c:=(chains_ok M e).at h2
  exact link_in s hd _ e o (fun x hx=>kl e x he (c.mem x hx)) c.lk c.hd c.la h1
theorem cnt_le {p q:Nat→Bool}:∀ (l:List Nat),(∀ x∈l,p x=true→q x=true)→(l.filter p).length≤(l.filter q).length∧((l.filter p).length=(l.filter q).length→∀ x∈l,q x=true→p x=true)
  | [],_=>⟨Nat.le_refl _,fun _ x hx=>by simp at hx⟩
  | a :: l,h=>by
    obtain ⟨h1,h2⟩:=cnt_le (p:=p) (q:=q) l (fun x hx=>h x (by simp [hx]))
    cases ep:p a with
    | true =>
      have eq:=h a (by simp) ep
      rw [List.filter_cons_of_pos ep,List.filter_cons_of_pos eq,List.length_cons,List.length_cons]
      refine ⟨by omega,fun e x hx hq=>?_⟩
      rcases List.mem_cons.mp hx with z | z
      · rw [z]; exact ep
      · exact h2 (by omega) x z hq
    | false =>
      rw [List.filter_cons_of_neg (by simp [ep])]
      cases eq:q a with
      | true =>
        rw [List.filter_cons_of_pos eq,List.length_cons]
        exact ⟨by omega,fun e=>by omega⟩
      | false =>
        rw [List.filter_cons_of_neg (by simp [eq])]
        refine ⟨h1,fun e x hx hq=>?_⟩
        rcases List.mem_cons.mp hx with z | z
        · rw [z,eq] at hq; cases hq
        · exact h2 e x z hq
theorem high_cnt {M:List (List Int)} (kl:∀ e o,e < M.length→inK (chainsF M e) o=true→o < M.length) {d:Nat} (hd:d < M.length):(chainsF M d).length=((List.range M.length).filter (inK (chainsF M d))).length:=by
  have nd:=bfs_nk (M:=M) (2 * M.length + 2) ([(d,[d])],[d]) (by simp)
  have p:((chainsF M d).map (·.1)).Perm ((List.range M.length).filter (inK (chainsF M d))):=by
    refine (List.perm_ext_iff_of_nodup nd (List.Pairwise.filter _ List.nodup_range)).mpr fun o=>?_
    rw [List.mem_filter,List.mem_range]
    constructor
    · intro h
      obtain ⟨c,hc,e⟩:=List.mem_map.mp h
      have k:=inK_of_mem hc
      rw [e] at k
      exact ⟨kl d o hd k,k⟩
    · intro h
      obtain ⟨c,hc,e,_⟩:=chOf_mem h.2
      exact List.mem_map.mpr ⟨c,hc,e⟩
  rw [← p.length_eq,List.length_map]
theorem high_le {M:List (List Int)} (s:Sq M) (kl:∀ e o,e < M.length→inK (chainsF M e) o=true→o < M.length) {d e:Nat} (hd:d < M.length) (he:e < M.length) (hm:mkF M d e≠0):(chainsF M e).length≤(chainsF M d).length∧((chainsF M e).length=(chainsF M d).length→inK (chainsF M e) d=true):=by
  rw [high_cnt kl hd,high_cnt kl he]
  have h1:=closedM s hd hd he (self_in M d) hm
  obtain ⟨a,b⟩:=cnt_le (p:=inK (chainsF M e)) (q:=inK (chainsF M d)) (List.range M.length) (fun x _ hx=>reach_trans s kl hd he h1 hx)
  exact ⟨a,fun z=>b z d (List.mem_range.mpr hd) (self_in M d)⟩
theorem bfs_gd {M:List (List Int)} {n:Nat} (hM:∀ l,(M.getD l []).length≤n):∀ (f:Nat) (s:Ch×List Nat),GoodS n s→∀ c∈bfsF M f s,c.1 < n
  | 0,s,g=>fun c hc=>(g.ky c hc).1
  | f + 1,(C,[]),g=>fun c hc=>(g.ky c hc).1
  | f + 1,(C,l :: w),g=>by
    obtain ⟨b1,_⟩:=row_cl (n:=n) (l:=l) (M.getD l []) 0 (C,w) (by have:=hM l; omega) g.pop (g.wt l (by simp))
    exact bfs_gd hM f (rowF l (M.getD l []) 0 (C,w)) b1
theorem keys_ltM {M:List (List Int)} (s:Sq M) (e o:Nat) (he:e < M.length) (h:inK (chainsF M e) o=true):o < M.length:=by
  obtain ⟨c,hc,z,_⟩:=chOf_mem h
  rw [← z]
  exact bfs_gd s.le _ _ (start_good he).1 c hc
theorem levels_taste {M:List (List Int)} {gap:Nat→Nat→Int} {ks:List Nat} (s:Sq M) (hg:∀ d e,d < M.length→e < M.length→d≠e→(mkF M d e≠0↔gap d e≤0)) (nr:∀ d e,d < M.length→e < M.length→d≠e→gap d e < 0→inK (chainsF M e) d=false)
    (hs:ks.Pairwise (fun a b=>b < a)) (hk:∀ d,d < M.length→(chainsF M d).length∈ks) :
    TasteF gap (runW gap (levelsF (fun d=>(chainsF M d).length) M.length ks) [])∧((runW gap (levelsF (fun d=>(chainsF M d).length) M.length ks) []).map (·.1)).Perm (List.range M.length):=by
  have kl:=keys_ltM s
  refine taste_ok hs hk (fun d e hd he h=>?_) (fun d e hd he ne h=>?_)
  · have ne:d≠e:=fun z=>by subst z; exact Nat.lt_irrefl _ h
    rcases Int.lt_or_le 0 (gap d e) with z | z
    · exact z
    · have:=(high_le s kl hd he ((hg d e hd he ne).mpr z)).1
      have h':(chainsF M d).length < (chainsF M e).length:=h
      omega
  · rcases Int.lt_or_le (gap d e) 0 with z | z
    · have h':(chainsF M d).length=(chainsF M e).length:=h
      have t:=(high_le s kl hd he ((hg d e hd he ne).mpr (Int.le_of_lt z))).2 h'.symm
      rw [nr d e hd he ne z] at t; cases t
    · exact z
end LB
namespace L2
open PySem PySem.Spec PySem.W PyProof.Rows
section
variable {K:PySem.W.Frag} {mg:Str→Option Value} {h:Heap} {x y m qual fl:Str} {C D f:Addr}
variable {P:Program} {w:World} {base:Heap}
end
section
variable {X:Cx} {CX:CXT} {k:Nat} {C:Addr} {ps:List Str} {sp:Sp} {E:XK} {x m:Str} {p pos apos cpos:Pos} {e o:Expr} {es:List Expr} {ta to:TE} {t:TA}
abbrev rShrU:R2:=rI (fun _ j=>0≤j) fun i j=>.int (i.fdiv (2 ^ j.toNat))
theorem op_shrU:OpR X (binaryOp .RShift) rShrU:=opI fun _ _ _ _ _ _ _ hc q=>rshift_int hc q
end
section
variable {X:Cx} {k:Nat} {g x x2 n:Str} {ps:List Str} {sp:Sp} {p np np2 cpos epos hpos hpos2 pos:Pos} {e:Expr} {es:List Expr} {t:TA} {ts ts2:TS} {D D2:Addr} {b₀ b₂:Stmt} {suite suite2:List Stmt} {i:Nat}
end
section
variable {X:Cx}
end
section
variable {K:PySem.W.Frag} {σ:St} {H:Hp} {Q:VK} {D:Ends} {te ta tb:TE} {t:TA} {C p:Addr} {sp:Sp} {E:XK} {m f:Str}
theorem w_shrI {i j:Int} (h0:0≤j) (h:Q (.int (i.fdiv (2 ^ j.toNat))) H):rShrU (.int i) (.int j) H Q:=⟨i,j,rfl,rfl,h0,h⟩
end
end L2
namespace LB
open PySem L2
theorem comp_rangeF {l:List (Option Nat)} {te:TE} {tc:TT} {σ σr:St} {H1:Hp} {Q:Hp→Prop} {n:Nat} (D:Addr) (f:Nat→Bool) (g:Nat→V) (hn:n≤1000) (hD:H1 D=none) (hini:∃ r0,iniOf l σ=r0 :: σr)
    (ht:∀ i H (R:Bool→Hp→Prop),i < n→Same H1 H→R (f i) H→tc (some (.int (i:Nat)) :: σr) H R)
    (hs:∀ i H (R:VK),i < n→f i=true→Same H1 H→R (g i) H→te (some (.int (i:Nat)) :: σr) H R)
    (hd:∀ H,Same H1 H→H D=some (.lst (((List.range n).filter f).map g))→Q H) :
    ∃ W:CompW,(∃ m,W 0 m [] (iniOf l σ) (upd H1 D (.lst [])))∧compStep (Itr 0 n) (gName 0) tc te D W Q:=by
  obtain ⟨r0,hini⟩:=hini
  refine comp_range D (fun i ys σ2 H=>ys=((List.range i).filter f).map g∧Same H1 H∧∃ r0,σ2=r0 :: σr) hn (fun i ys σ H h=>?_) ⟨rfl,Same.laid hD,r0,hini⟩ ?_ ?_
  · rw [h.1,List.length_map]
    exact Nat.le_trans (List.length_filter_le ..) (Nat.le_of_eq List.length_range)
  · rintro i ys σ2 H hi ⟨rfl,hs1,r1,rfl⟩ hH
    refine w_name ?_
    show tc (some (.int (0 + (i:Nat))) :: σr) H _
    rw [Int.zero_add]
    have hr:(List.range (i + 1)).filter f=(List.range i).filter f ++ [i].filter f:=by rw [List.range_succ,List.filter_append]
    refine ht i H _ hi hs1 (iteB (fun hf=>?_) fun hf=>?_)
    · refine hs i H _ hi hf hs1 ⟨hH,?_,hs1.put hD,_,rfl⟩
      rw [hr,List.map_append,List.filter_cons_of_pos hf]; rfl
    · refine ⟨hH,?_,hs1,_,rfl⟩
      rw [hr,List.map_append,List.filter_cons_of_neg (by rw [hf]; decide)]; simp
  · rintro ys σ2 H ⟨rfl,hs1,_⟩ hH
    exact hd H hs1 hH
theorem rep_tup_inv {H:Hp} {w:V} {ds:List PyData} (h:Rep H w (.tuple ds)):∃ p xs,w=.ref p∧H p=some (.tup xs)∧Reps H xs ds:=by
  unfold Rep at h; exact h
section
variable {K:PySem.W.Frag} {σ:St} {H:Hp} {Q:VK}
end
theorem w_seqI {t u:TS} {D:Ends} {σ:St} {H:Hp} (I:St→Hp→Prop) (h:∀ R:St→Hp→Prop,(∀ σ' H',I σ' H'→R σ' H')→t { D with nx:=R } σ H) (k:∀ σ' H',I σ' H'→u D σ' H'):tSeq t u D σ H:=h _ k
theorem w_eqS {K:PySem.W.Frag} {H:Hp} {Q:VK} {x y:Str} (h:Q (.bl (decide (x=y))) H):rEqU K (.str x) (.str y) H Q:=.inl ⟨rfl,by rw [show decide (V.str x=V.str y)=decide (x=y) by simp]; exact h⟩
theorem w_neS {K:PySem.W.Frag} {H:Hp} {Q:VK} {x y:Str} (h:Q (.bl (!decide (x=y))) H):rNeU K (.str x) (.str y) H Q:=.inl ⟨rfl,by rw [show decide (V.str x=V.str y)=decide (x=y) by simp]; exact h⟩
theorem dot_bd:∀ {ps as:List Int},as.length=ps.length→(∀ x∈ps,1≤x∧x≤1000000000)→(∀ x∈as,0≤x∧x≤1000000000000000000)→0≤dotF ps as∧dotF ps as≤(ps.length:Int) * 1000000000000000000000000000
  | [],[],_,_,_=>by simp [dotF]
  | [],a :: as,h,_,_=>by simp at h
  | p :: ps,[],h,_,_=>by simp at h
  | p :: ps,a :: as,h,hp,ha=>by
    have ih:=dot_bd (ps:=ps) (as:=as) (by simpa using h) (fun x hx=>hp x (by simp [hx])) fun x hx=>ha x (by simp [hx])
    have h1:=hp p (by simp)
    have h2:=ha a (by simp)
    have e:dotF (p :: ps) (a :: as)=p * a + dotF ps as:=rfl
    have z1:0≤p * a:=Int.mul_nonneg (by omega) h2.1
    have z2:p * a≤1000000000 * 1000000000000000000:=Int.le_trans (Int.mul_le_mul_of_nonneg_right h1.2 h2.1) (Int.mul_le_mul_of_nonneg_left h2.2 (by decide))
    rw [e,List.length_cons]
    omega
theorem dot_pos:∀ {ps as:List Int},as.length=ps.length→(∀ x∈ps,1≤x∧x≤1000000000)→(∀ x∈as,0≤x∧x≤1000000000000000000)→(∃ x∈as,0 < x)→0 < dotF ps as
  | [],[],_,_,_,⟨x,hx,_⟩=>by simp at hx
  | [],a :: as,h,_,_,_=>by simp at h
  | p :: ps,[],h,_,_,_=>by simp at h
  | p :: ps,a :: as,h,hp,ha,⟨x,hx,x0⟩=>by
    have h1:=hp p (by simp)
    have h2:=ha a (by simp)
    have bd:=dot_bd (ps:=ps) (as:=as) (by simpa using h) (fun x hx=>hp x (by simp [hx])) fun x hx=>ha x (by simp [hx])
    have e:dotF (p :: ps) (a :: as)=p * a + dotF ps as:=rfl
    rw [e]
    rcases List.mem_cons.mp hx with z | z
    · subst z
      have:0 < p * x:=Int.mul_pos (by omega) x0
      omega
    · have:=dot_pos (ps:=ps) (as:=as) (by simpa using h) (fun x hx=>hp x (by simp [hx])) (fun x hx=>ha x (by simp [hx])) ⟨x,z,x0⟩
      have:0≤p * a:=Int.mul_nonneg (by omega) h2.1
      omega
theorem cost_bd {m n:Nat} {B:List (List Int×List Int)} (g:GoodBook m n B) {i j:Nat} (hi:i < B.length) (hj:j < B.length):0 < costF B i j∧costF B i j≤6000000000000000000000000000:=by
  have gi:=getD_day g.dy hi
  have gj:=getD_day g.dy hj
  have l:(B.getD j ([],[])).2.length=(B.getD i ([],[])).1.length:=by rw [gi.l1,gj.l2]
  have h1:=dot_bd l gi.pr gj.am
  have h2:=dot_pos l gi.pr gj.am gj.ps
  have n6:=g.n6
  rw [gi.l1] at h1
  unfold costF
  omega
end LB
namespace L2
open PySem PySem.Spec PyProof.Rows
section
variable {X:Cx} {tg:Expr} {pins:List (Addr×Obj)} {σ:St} {H:Hp} {s:Shared} {d:Addr} {o:Obj} {kvs:List (Key×V)}
theorem Inv.freeze (I:Inv X pins σ H s) (e:H d=some (.dK kvs)):∃ o,Inv X pins σ (upd H d (.frz o (.dK kvs))) s:=by
  obtain ⟨z,y,vs,r,ob,es,ep,g,c⟩:=id (show ObjOk X.prog X.w H s.heap d (.dK kvs) from I.hok d _ e)
  exact ⟨ob,I.write (h':=s.heap) (t':=s.toks) (x:=d) (e:=d) (by rw [e]; trivial) (.inl rfl) (fun _ _ _ q=>q) ⟨ob,g⟩ ⟨g,z,y,vs,r,ob,es,ep,g,c⟩⟩
theorem Inv.thaw (I:Inv X pins σ H s) (e:H d=some (.frz o (.dK kvs))) (nf:∀ ob u,X.H₀ d≠some (.frz ob u)):Inv X pins σ (upd H d (.dK kvs)) s:=by
  have no:∀ b u,H b=u→u≠some (.frz o (.dK kvs))→upd H d (.dK kvs) b=u:=fun b u q n=>by
    rw [upd_ne (fun z=>by rw [z,e] at q; exact n q.symm)]; exact q
  refine ⟨I.ok,I.os,I.bare,⟨I.base.keep,I.base.slot,fun b ob q n hx=>no b _ (I.base.free b ob q n hx) (by simp),I.base.there,fun b xs q=>no b _ (I.base.tups b xs q) (by simp),fun b ob u q=>?_,fun b ps q=>?_⟩,I.loc,I.cell,no _ _ I.free (by simp),fun x c q=>no c _ (I.freeC x c q) (by simp),fun p hp=>?_,fun b u q=>?_,I.len⟩
  · have z:=I.base.frzs b ob u q
    rw [upd_ne (fun w=>nf ob u (by rw [← w]; exact q))]; exact z
  · obtain ⟨m,z⟩:=I.base.tbls b ps q
    exact ⟨m,no b _ z (by simp)⟩
  · obtain ⟨a1,a2,a3⟩:=I.pin p hp
    exact ⟨a1,no _ _ a2 (by simp),a3⟩
  · by_cases hb:b=d
    · subst hb
      rw [upd_same] at q
      cases q
      obtain ⟨_,z⟩:=(show ObjOk X.prog X.w H s.heap b (.frz o (.dK kvs)) from I.hok b _ e)
      exact z
    · rw [upd_ne hb] at q
      exact (I.hok b u q).stay (fun c v _ r=>r) (fun c r=>no c _ r (by simp)) fun c xs r=>no c _ r (by simp)
theorem int_key {P:Program} {w:World} {n:Int} {u:Value} (hi:(mixKind P w).is (Sum.inl n) u=true):∃ t,u=.int n t:=by
  rw [mixKind_is] at hi
  cases u with
  | int i t =>
    have hi':Value.isInt n (.int i t)=true:=hi
    first
      | exact ⟨t,by have:=of_decide_eq_true hi'; rw [this]⟩
      | (simp [Value.isInt] at hi'; exact ⟨t,by rw [hi']⟩)
  | _=>simp [keyIs,Value.isInt] at hi
theorem dict_at (I:Inv X pins σ H s) (e:H d=some (.frz o (.dK kvs))) {es ep} (ho:o.data=.dict es ep):∃ vs,KV kvs vs∧s.heap.DictAt (mixKind X.prog X.w) d vs ep:=by
  obtain ⟨g,z,y,vs,r,ob,es',ep',g',c1,c2,c3⟩:=(show ObjOk X.prog X.w H s.heap d (.frz o (.dK kvs)) from I.hok d _ e)
  rw [g] at g'
  cases g'
  rw [ho] at c2
  cases c2
  exact ⟨vs,r,o,es,g,c1,ho,c3⟩
def Itd (d:Addr) (o:Obj) (kvs:List (Key×V)) (ns:List Int):It :=
  ⟨fun i H=>H d=some (.frz o (.dK kvs))∧i < ns.length,fun i H x H'=>H'=H∧∃ n,ns[i]?=some n∧x=.int n,fun i H=>H d=some (.frz o (.dK kvs))∧ns.length≤i⟩
theorem turn_dict {P:Program} {w:World} {K:PySem.W.Frag} (d it:Addr) {ns:List Int} (hk:kvs.map (·.1)=ns.map Sum.inl) {es ep} (ho:o.data=.dict es ep):Turn P w K tg (Itd d o kvs ns) [it] it (fun i h=>h.IsKeyIter it d i ns.length ep) where
  mem:=by simp
  obj:=fun i h st b hb=>by
    have e:b=it:=by simpa using hb
    subst e
    obtain ⟨o,e,c,d⟩:=st
    exact ⟨o,e,fun v z=>by rw [d] at z; cases z⟩
  keep:=fun i h h' st k=>st.at fun o e=>k it (by simp) o e
  item:=by
    intro X hP hw hK hc i pins s σ H E I hf st hg
    subst hP hw hK
    obtain ⟨he,hi⟩:=hg
    obtain ⟨vs,r,hm⟩:=dict_at I he ho
    have lv:vs.length=ns.length:=by rw [← r.length]; have:=congrArg List.length hk; simpa using this
    obtain ⟨n,hn⟩:∃ n,ns[i]?=some n:=⟨ns[i],List.getElem?_eq_getElem hi⟩
    have kx:(vs.map (·.1))[i]?=some (Sum.inl n):=by rw [← r.keys,hk,List.getElem?_map,hn]; rfl
    rw [List.getElem?_map] at kx
    obtain ⟨⟨k,x⟩,ex,ek⟩:=Option.map_eq_some_iff.mp kx
    have ek':k=Sum.inl n:=ek
    subst ek'
    obtain ⟨f0,f1,f2,f3,f4,f5⟩:=hf it (by simp)
    refine wpAny_pyNext_dict_item (knd:=mixKind X.prog X.w) (by rw [lv]; exact st) hm ex fun key h' hkey st' sb=>?_
    rw [lv] at st'
    obtain ⟨t,rfl⟩:=int_key hkey
    have I1:Inv X pins σ H { s with heap:=h' }:=I.turned (t':=s.toks) (fun b o hb e=>(sb.2 b hb).trans e) f0 f1 f3 f4 f5
    obtain ⟨o',e',c',d'⟩:=id st'
    exact ⟨_,rfl,go_of (s:={ s with heap:=h' }) e' c' d' (by decide) ⟨.int n,H,I1,⟨t,rfl⟩,⟨rfl,n,hn,rfl⟩,st',fun b hb=>(hf b hb).1⟩⟩
  done:=by
    intro X hP hw hK hc i pins s σ H E I hf st hg
    subst hP hw hK
    obtain ⟨he,hi⟩:=hg
    obtain ⟨vs,r,hm⟩:=dict_at I he ho
    have lv:vs.length=ns.length:=by rw [← r.length]; have:=congrArg List.length hk; simpa using this
    obtain ⟨f0,f1,f2,f3,f4,f5⟩:=hf it (by simp)
    exact wpAny_pyNext_dict_end (knd:=mixKind X.prog X.w) (I.ok.hd hc) (by rw [lv]; exact st) hm (List.getElem?_eq_none (by omega)) fun h' eb=>⟨rfl,I.turned (t':=s.toks) (fun b o hb e=>eb b o hb e) f0 f1 f3 f4 f5⟩
  self:=fun _ _ _ _ _ st h=>wpAny_pyIter_keyiter st h
def iDict (tl:TE):TI:=fun σ H R=>tl σ H fun x H1=>∃ d o kvs ns,x=.ref d∧H1 d=some (.frz o (.dK kvs))∧kvs.map (·.1)=ns.map Sum.inl∧R (Itd d o kvs ns) H1
theorem pi_dict {l:Expr} {tl:TE} (hl:PE X l tl):PI X tg l (iDict tl):=by
  intro pins s σ H R I h
  refine thn (hl pins s σ H _ I h) fun v s1 ⟨x,H1,I1,r1,q1⟩=>?_
  obtain ⟨d,o,kvs,ns,e,he,hk,q⟩:=q1
  subst e
  cases r1
  obtain ⟨g,z,y,vs,r,ob,es,ep,g',c1,c2,c3⟩:=id (show ObjOk X.prog X.w H1 s1.heap d (.frz o (.dK kvs)) from I1.hok d _ he)
  have eo:ob=o:=by rw [g] at g'; cases g'; rfl
  subst eo
  have hm:s1.heap.DictAt (mixKind X.prog X.w) d vs ep:=⟨ob,es,g,c1,c2,c3⟩
  have lv:vs.length=ns.length:=by rw [← r.length]; have:=congrArg List.length hk; simpa using this
  refine wpAny_pyIter_dict y hm ?_
  refine ⟨s1.heap.objs.size,[s1.heap.objs.size],_,_,H1,rfl,I1.kept (t':=s1.toks) fun b o e=>Heap.get?_push_of_some _ e,turn_dict d _ hk c2,⟨_,Heap.get?_push_size _ rfl,rfl,by rw [lv]; rfl⟩,fun b hb=>?_,q⟩
  have e:b=s1.heap.objs.size:=by simpa using hb
  subst e
  exact I1.fpOk (Nat.le_refl _) (I1.hok.fresh (Nat.le_refl _))
def Ends.held (D:Ends) (d:Addr) (o:Obj) (kvs:List (Key×V)):Ends where
  nx:=fun σ H=>H d=some (.frz o (.dK kvs))∧D.nx σ (upd H d (.dK kvs))
  rt:=fun v H=>H d=some (.frz o (.dK kvs))∧D.rt v (upd H d (.dK kvs))
  bk:=fun σ H=>H d=some (.frz o (.dK kvs))∧D.bk σ (upd H d (.dK kvs))
  ct:=fun σ H=>H d=some (.frz o (.dK kvs))∧D.ct σ (upd H d (.dK kvs))
def tForD (i:Nat) (g:TG) (tb:TS):TS:=fun D σ H=>∃ (d:Addr) (kvs:List (Key×V)),σ[i]?=some (some (.ref d))∧H d=some (.dK kvs)∧∀ o,tFor (iDict (tVar i)) g tb (D.held d o kvs) σ (upd H d (.frz o (.dK kvs)))
theorem ps_forD {st:Stmt} {i:Nat} {g:TG} {tb:TS} (h:PS X st (tFor (iDict (tVar i)) g tb)):PS X st (tForD i g tb):=by
  intro pins s σ H D I ⟨d,kvs,hσ,hd,w⟩
  obtain ⟨o,I1⟩:=I.freeze hd
  have nf:∀ ob u,X.H₀ d≠some (.frz ob u):=fun ob u z=>by
    have:=I.base.frzs d ob u z
    rw [hd] at this; cases this
  refine thn (h pins s σ _ (D.held d o kvs) I1 (w o)) fun f s' q=>?_
  cases f with
  | next=>obtain ⟨σ',H',I',e,q⟩:=q; exact ⟨σ',_,I'.thaw e nf,q⟩
  | brk=>obtain ⟨σ',H',I',e,q⟩:=q; exact ⟨σ',_,I'.thaw e nf,q⟩
  | cont=>obtain ⟨σ',H',I',e,q⟩:=q; exact ⟨σ',_,I'.thaw e nf,q⟩
  | ret u=>obtain ⟨v,σ',H',I',r,e,q⟩:=q; exact ⟨v,σ',_,I'.thaw e nf,r,q⟩
theorem w_forD {i:Nat} {g:TG} {tb:TS} {D:Ends} {ns:List Int} (hσ:σ[i]?=some (some (.ref d))) (hd:H d=some (.dK kvs)) (hk:kvs.map (·.1)=ns.map Sum.inl) (Pv:Obj→Nat→St→Hp→Prop)
    (h0:∀ o,Pv o 0 σ (upd H d (.frz o (.dK kvs)))) (hl:∀ o j σ H,Pv o j σ H→H d=some (.frz o (.dK kvs)))
    (hs:∀ o j n σ H,ns[j]?=some n→Pv o j σ H→g (.int n) σ H fun σ2 H2=>tb { D.held d o kvs with nx:=Pv o (j + 1),ct:=Pv o (j + 1),bk:=(D.held d o kvs).nx } σ2 H2)
    (he:∀ o σ H,Pv o ns.length σ H→D.nx σ (upd H d (.dK kvs))):tForD i g tb D σ H:=by
  refine ⟨d,kvs,hσ,hd,fun o=>w_for (w_var hσ ⟨d,o,kvs,ns,rfl,upd_same,hk,?_⟩)⟩
  refine ⟨fun i m σ H=>m=ns.length - i∧i≤ns.length∧Pv o i σ H,⟨ns.length,by simp,Nat.zero_le _,h0 o⟩,?_⟩
  rintro i m σ H ⟨rfl,hi,p⟩
  have q:=hl o i σ H p
  by_cases hlt:i < ns.length
  · refine .inr ⟨⟨q,hlt⟩,Pv o (i + 1),fun σ' H' p'=>⟨ns.length - (i + 1),by omega,rfl,hlt,p'⟩,fun x H' y=>?_⟩
    obtain ⟨e,n,hn,ex⟩:=y
    subst e ex
    exact hs o i n σ _ hn p
  · have e:i=ns.length:=by omega
    subst e
    exact .inl ⟨⟨q,Nat.le_refl _⟩,q,he o σ H p⟩
theorem DGet.f {k:Key} (e:H d=some (.frz o (.dK kvs))):DGet H d (kV k) (valV kvs k):=.inl ⟨kvs,k,.inr ⟨o,e⟩,rfl,rfl⟩
def rLenD:List V→Hp→VK→Prop:=fun xs H Q=>∃ (a:Addr) (kvs:List (Key×V)),xs=[.ref a]∧H a=some (.dK kvs)∧Q (.int (kvs.length:Nat)) H
theorem call_lenD:CallR X (.builtin "len") rLenD:=by
  intro pins s σ H xs us Q I r h
  obtain ⟨a,kvs,rfl,ha,q⟩:=h
  obtain ⟨u,rfl,ru⟩:=vals1 r
  cases ru
  exact d_len I (.inl ha) fun t s' I'=>⟨.int (kvs.length:Nat),H,I',⟨t,rfl⟩,q⟩
end
end L2
namespace L2
open PySem
theorem erase_perm {α:Type}:∀ (l:List α) (i:Nat) (h:i < l.length),(l[i] :: l.eraseIdx i).Perm l
  | a :: l,0,_=>List.Perm.refl _
  | a :: l,i + 1,h=>(List.Perm.swap a _ _).trans ((erase_perm l i (by simpa using h)).cons a)
theorem pick_go {α:Type} (next:Nat→Nat):∀ (fuel k:Nat) (left:List α) (out:Array α),left.length=fuel→(pickOrder.go next fuel k left out).toList.Perm (out.toList ++ left)
  | 0,k,left,out,h=>by
    have e:left=[]:=List.eq_nil_of_length_eq_zero h
    subst e
    simp [pickOrder.go]
  | fuel + 1,k,left,out,h=>by
    have hp:0 < left.length:=by omega
    have hi:next k % left.length < left.length:=Nat.mod_lt _ hp
    unfold pickOrder.go
    rw [List.getElem?_eq_getElem hi]
    dsimp only
    refine (pick_go next fuel (k + 1) _ _ (by rw [List.length_eraseIdx_of_lt hi]; omega)).trans ?_
    rw [Array.toList_push,List.append_assoc]
    exact List.Perm.append_left _ (erase_perm _ _ hi)
theorem pick_perm {α:Type} (next:Nat→Nat) (xs:Array α):(pickOrder next xs).toList.Perm xs.toList:=by
  have:=pick_go next xs.size 0 xs.toList #[] (by simp)
  simpa [pickOrder] using this
def Rise (xs:Array Nat):Prop:=xs.toList.Pairwise (· < ·)
theorem Rise.lt {xs:Array Nat} (h:Rise xs) {i j:Nat} (hij:i < j) (hj:j < xs.size):xs[i]'(by omega) < xs[j]:=by
  have:=List.pairwise_iff_getElem.mp h i j (by simp; omega) (by simpa using hj) hij
  simpa using this
theorem below_go {xs:Array Nat} (hx:Rise xs) (j:Nat):∀ (fuel lo hi:Nat),hi - lo≤fuel→lo≤hi→hi≤xs.size→(∀ m (h:m < xs.size),m < lo→xs[m] < j)→(∀ m (h:m < xs.size),hi≤m→¬ xs[m] < j) →
    SetTable.below.go xs j fuel lo hi≤xs.size∧(∀ m (h:m < xs.size),m < SetTable.below.go xs j fuel lo hi→xs[m] < j)∧∀ m (h:m < xs.size),SetTable.below.go xs j fuel lo hi≤m→¬ xs[m] < j
  | 0,lo,hi,hf,hl,hh,a,b=>by
    have e:lo=hi:=by omega
    subst e
    exact ⟨hh,a,b⟩
  | fuel + 1,lo,hi,hf,hl,hh,a,b=>by
    have e0:SetTable.below.go xs j (fuel + 1) lo hi=if lo < hi then (if xs.getD ((lo + hi) / 2) j < j then SetTable.below.go xs j fuel ((lo + hi) / 2 + 1) hi else SetTable.below.go xs j fuel lo ((lo + hi) / 2)) else lo:=rfl
    rw [e0]
    by_cases c:lo < hi
    · rw [if_pos c]
      have hm:(lo + hi) / 2 < xs.size:=by omega
      have eg:xs.getD ((lo + hi) / 2) j=xs[(lo + hi) / 2]:=by simp [Array.getD,hm]
      by_cases d:xs[(lo + hi) / 2] < j
      · rw [eg,if_pos d]
        refine below_go hx j fuel ((lo + hi) / 2 + 1) hi (by omega) (by omega) hh (fun m h q=>?_) b
        by_cases e:m=(lo + hi) / 2
        · subst e; exact d
        · exact Nat.lt_trans (hx.lt (show m < (lo + hi) / 2 by omega) hm) d
      · rw [eg,if_neg d]
        refine below_go hx j fuel lo ((lo + hi) / 2) (by omega) (by omega) (by omega) a (fun m h q=>?_)
        by_cases e:m=(lo + hi) / 2
        · subst e; exact d
        · have:=hx.lt (show (lo + hi) / 2 < m by omega) h
          omega
    · rw [if_neg c]
      have e:lo=hi:=by omega
      subst e
      exact ⟨hh,a,b⟩
theorem below_is {xs:Array Nat} (hx:Rise xs) (j:Nat):SetTable.below xs j≤xs.size∧(∀ m (h:m < xs.size),m < SetTable.below xs j→xs[m] < j)∧∀ m (h:m < xs.size),SetTable.below xs j≤m→¬ xs[m] < j :=
  below_go hx j xs.size 0 xs.size (by omega) (by omega) (Nat.le_refl _) (fun m h q=>by omega) (fun m h q=>by omega)
theorem below_zero {xs:Array Nat} (hx:Rise xs):SetTable.below xs 0=0:=by
  obtain ⟨h1,h2,_⟩:=below_is hx 0
  rcases Nat.eq_zero_or_pos (SetTable.below xs 0) with z | z
  · exact z
  · have:=h2 0 (by omega) z
    omega
theorem below_next {xs:Array Nat} (hx:Rise xs) {i:Nat} (hi:i < xs.size):SetTable.below xs (xs[i] + 1)=i + 1:=by
  obtain ⟨h1,h2,h3⟩:=below_is hx (xs[i] + 1)
  rcases Nat.lt_trichotomy (SetTable.below xs (xs[i] + 1)) (i + 1) with z | z | z
  · have:=h3 i hi (by omega)
    omega
  · exact z
  · have h4:i + 1 < xs.size:=by omega
    have:=h2 (i + 1) h4 z
    have:=hx.lt (show i < i + 1 by omega) h4
    omega
theorem insert_list {α:Type} (xs:Array α) {p:Nat} (hp:p≤xs.size) (x:α):(SetTable.insertAt xs p x).toList=xs.toList.take p ++ x :: xs.toList.drop p:=by
  unfold SetTable.insertAt
  simp [Array.toList_extract,List.extract_eq_take_drop]
  exact List.take_of_length_le (by simp)
theorem rise_insert {xs:Array Nat} (hx:Rise xs) {j:Nat} (hn:xs[SetTable.below xs j]?≠some j):Rise (SetTable.insertAt xs (SetTable.below xs j) j):=by
  obtain ⟨h1,h2,h3⟩:=below_is hx j
  unfold Rise
  rw [insert_list xs h1]
  have gt:∀ m (h:m < xs.size),SetTable.below xs j≤m→j < xs[m]:=fun m h q=>by
    have a:=h3 m h q
    rcases Nat.lt_or_ge j xs[m] with z | z
    · exact z
    · have e:xs[m]=j:=by omega
      rcases Nat.lt_or_ge (SetTable.below xs j) m with w | w
      · have b:=h3 (SetTable.below xs j) (by omega) (Nat.le_refl _)
        have c:=hx.lt w h
        omega
      · have e2:SetTable.below xs j=m:=by omega
        rw [e2,Array.getElem?_eq_getElem h,e] at hn
        exact absurd rfl hn
  refine List.pairwise_append.mpr ⟨List.Pairwise.sublist (List.take_sublist _ _) hx,List.pairwise_cons.mpr ⟨fun y hy=>?_,List.Pairwise.sublist (List.drop_sublist _ _) hx⟩,fun a ha b hb=>?_⟩
  · obtain ⟨m,hm,rfl⟩:=List.mem_iff_getElem.mp hy
    rw [List.getElem_drop]
    have hm':SetTable.below xs j + m < xs.size:=by simp at hm; omega
    simpa using gt (SetTable.below xs j + m) hm' (by omega)
  · obtain ⟨m,hm,rfl⟩:=List.mem_iff_getElem.mp ha
    have hm':m < SetTable.below xs j∧m < xs.size:=by simp at hm; omega
    have e1:(xs.toList.take (SetTable.below xs j))[m] < j:=by
      rw [List.getElem_take]; simpa using h2 m hm'.2 hm'.1
    rcases List.mem_cons.mp hb with rfl | hb
    · exact e1
    · obtain ⟨q,hq,rfl⟩:=List.mem_iff_getElem.mp hb
      have hq':SetTable.below xs j + q < xs.size:=by simp at hq; omega
      have:=gt (SetTable.below xs j + q) hq' (by omega)
      rw [List.getElem_drop]
      have e2:j < xs.toList[SetTable.below xs j + q]:=by simpa using this
      omega
theorem rise_laid {mask finger moves:Nat} {led plain:Bool} {hashes:Array Int} {t:SetTable} {order:Array Nat} (h:SetTable.laid mask finger moves led plain hashes=some (t,order)):Rise t.place∧t.led=led:=by
  unfold SetTable.laid at h
  cases e:SetTable.layClean mask hashes with
  | none=>rw [e] at h; cases h
  | some owner =>
    rw [e] at h
    cases h
    refine ⟨?_,rfl⟩
    unfold Rise
    simp only [List.map_filterMap]
    refine List.Pairwise.filterMap _ ?_ List.pairwise_lt_range
    intro a b hab x hx y hy
    have ex:x=a:=by
      cases eo:owner.getD a none with
      | none=>rw [eo] at hx; cases hx
      | some k=>rw [eo] at hx; simpa using hx.symm
    have ey:y=b:=by
      cases eo:owner.getD b none with
      | none=>rw [eo] at hy; cases hy
      | some k=>rw [eo] at hy; simpa using hy.symm
    omega
end L2
namespace L2
open PySem
def home (m:Nat) (h:Int):Nat:=SetTable.bits h % (m + 1)
theorem home_is {m:Nat} {h:Int} (h1:1≤h) (h8:h≤8):home m h=h.toNat % (m + 1):=by
  unfold home SetTable.bits
  rw [Int.emod_eq_of_lt (by omega) (by omega)]
theorem home_inj {m:Nat} (hm:m=7∨m=31) {h h':Int} (h1:1≤h) (h8:h≤8) (g1:1≤h') (g8:h'≤8) (e:home m h=home m h'):h=h':=by
  rw [home_is h1 h8,home_is g1 g8] at e
  rcases hm with rfl | rfl <;> omega
structure Home (led:Bool) (t:SetTable) (hs:List Int):Prop where
  ld:t.led=led
  pl:t.plain=true
  du:t.dummies=#[]
  ms:t.mask=7∧hs.length≤4∨t.mask=31∧hs.length≤8
  pc:t.place.toList=hs.map (home t.mask)
  ri:Rise t.place
  bd:∀ h∈hs,1≤h∧h≤8
theorem Home.m2 {led:Bool} {t:SetTable} {hs:List Int} (H:Home led t hs):t.mask=7∨t.mask=31:=H.ms.elim (fun z=>.inl z.1) fun z=>.inr z.1
theorem Home.fresh (led:Bool):Home led (.fresh 0 0 led) []:=⟨rfl,rfl,rfl,.inl ⟨rfl,by decide⟩,rfl,List.Pairwise.nil,fun _ h=>by cases h⟩
theorem Home.size {led:Bool} {t:SetTable} {hs:List Int} (H:Home led t hs):t.place.size=hs.length:=by
  have:=congrArg List.length H.pc
  simpa using this
theorem Home.notin {led:Bool} {t:SetTable} {hs:List Int} (H:Home led t hs) {h:Int} (h1:1≤h) (h8:h≤8) (hn:h ∉ hs) (i:Nat):t.place[i]?≠some (home t.mask h):=fun e=>by
  have e2:home t.mask h∈t.place.toList:=by
    have:=List.mem_of_getElem? (l:=t.place.toList) (i:=i) (by rw [Array.getElem?_toList]; exact e)
    exact this
  rw [H.pc] at e2
  obtain ⟨g,hg,eg⟩:=List.mem_map.mp e2
  have:=home_inj H.m2 (H.bd g hg).1 (H.bd g hg).2 h1 h8 eg
  subst this
  exact hn hg
theorem has_nil (j:Nat):SetTable.has #[] j=false:=by
  unfold SetTable.has
  simp
theorem Home.free {led:Bool} {t:SetTable} {hs:List Int} (H:Home led t hs) {h:Int} (h1:1≤h) (h8:h≤8) (hn:h ∉ hs):t.freeSlot h=some (home t.mask h,false):=by
  have es:t.slot (home t.mask h)=.empty:=by
    unfold SetTable.slot
    dsimp only
    rw [if_neg (by rw [beq_iff_eq]; exact H.notin h1 h8 hn _),H.du,has_nil]
    rfl
  have ep:t.probe (fun _=>h + 1) h (t.probeStart h)=some (.empty (home t.mask h) none):=by
    unfold SetTable.probe
    have e0:10 * SetTable.turns t.mask=(10 * SetTable.turns t.mask - 1) + 1:=by unfold SetTable.turns; omega
    rw [e0]
    unfold SetTable.probe.go
    have ej:(t.probeStart h).j=home t.mask h:=rfl
    rw [ej,es]
    rfl
  unfold SetTable.freeSlot
  rw [ep]
  rfl
def posOf (t:SetTable) (h:Int):Nat:=SetTable.below t.place (home t.mask h)
theorem map_insert {α β:Type} (f:α→β) (xs:Array α) {p:Nat} (hp:p≤xs.size) (x:α):(SetTable.insertAt xs p x).toList.map f=(xs.toList.map f).take p ++ f x :: (xs.toList.map f).drop p:=by
  rw [insert_list xs hp,List.map_append,List.map_cons,List.map_take,List.map_drop]
theorem Home.put {led:Bool} {t:SetTable} {es:Array (Int×Value)} (H:Home led t (es.toList.map (·.1))) {h:Int} {x:Value} (h1:1≤h) (h8:h≤8) (hn:h ∉ es.toList.map (·.1)) :
    ∃ t',layNew t es h x=(SetTable.insertAt es (posOf t h) (h,x),t',false,false)∧t'.led=led∧t'.plain=true∧t'.dummies=#[]∧t'.mask=t.mask∧t'.finger=t.finger∧t'.moves=t.moves ∧
      t'.place.toList=(((SetTable.insertAt es (posOf t h) (h,x)).toList.map (·.1)).map (home t.mask))∧Rise t'.place:=by
  have hp:=(below_is H.ri (home t.mask h)).1
  have hz:t.place.size=es.size:=by rw [H.size]; simp
  have hp':posOf t h≤es.size:=by rw [← hz]; exact hp
  have hl:(SetTable.insertAt es (posOf t h) (h,x)).size=es.size + 1:=by
    have:=congrArg List.length (insert_list es hp' (h,x))
    simp at this
    omega
  have hl2:(SetTable.insertAt t.place (posOf t h) (home t.mask h)).size=es.size + 1:=by
    have:=congrArg List.length (insert_list t.place hp (home t.mask h))
    simp at this
    unfold posOf
    omega
  have len:(es.toList.map (·.1)).length=es.size:=by simp
  have hfit:({ t with place:=SetTable.insertAt t.place (posOf t h) (home t.mask h),dummies:=t.dummies }:SetTable).fits (SetTable.insertAt es (posOf t h) (h,x)).size=true:=by
    unfold SetTable.fits SetTable.fill
    rw [hl,hl2,H.du]
    have:=H.ms
    rw [len] at this
    simp
    rcases this with z | z <;> omega
  refine ⟨{ t with place:=SetTable.insertAt t.place (posOf t h) (home t.mask h),dummies:=t.dummies },?_,H.ld,H.pl,H.du,rfl,rfl,rfl,?_,rise_insert H.ri (H.notin h1 h8 hn _)⟩
  · unfold layNew
    rw [H.free h1 h8 hn]
    have ep:t.put (home t.mask h)=({ t with place:=SetTable.insertAt t.place (posOf t h) (home t.mask h),dummies:=t.dummies },posOf t h):=by
      unfold SetTable.put
      dsimp only
      rw [H.du,has_nil]
      rfl
    dsimp only
    rw [ep]
    dsimp only
    unfold SetTable.orStandIn
    rw [hfit]
    rfl
  · show (SetTable.insertAt t.place (posOf t h) (home t.mask h)).toList=_
    have e1:=insert_list t.place hp (home t.mask h)
    have e2:=map_insert (fun e:Int×Value=>home t.mask e.1) es hp' (h,x)
    rw [List.map_map]
    have e3:t.place.toList=es.toList.map fun e=>home t.mask e.1:=by rw [H.pc,List.map_map]; rfl
    rw [e3] at e1
    exact e1.trans e2.symm
def laidOk (hs:List Int):Bool :=
  match SetTable.laid 31 0 1 true true hs.toArray with
  | some (t,order)=>t.place.toList == (order.toList.map fun i=>home 31 (hs.getD i 0)) && order.toList.isPerm (List.range 5) && t.mask == 31 && t.dummies.isEmpty && t.plain && t.led
  | none=>false
end L2
namespace L2
open PySem
theorem laid_as (mask f mv:Nat) (l p:Bool) (hs:Array Int):SetTable.laid mask f mv l p hs=(SetTable.laid mask 0 1 true true hs).map fun q=>({ q.1 with finger:=f,moves:=mv,led:=l,plain:=p },q.2):=by
  unfold SetTable.laid
  cases SetTable.layClean mask hs with
  | none=>rfl
  | some o=>rfl
def subsL {α:Type}:List α→List (List α)
  | []=>[[]]
  | x :: l=>subsL l ++ (subsL l).map (x :: ·)
theorem subs_mem {α:Type} {r l:List α} (h:r.Sublist l):r∈subsL l:=by
  induction h with
  | slnil=>simp [subsL]
  | cons a _ ih=>exact List.mem_append_left _ ih
  | cons_cons a _ ih=>exact List.mem_append_right _ (List.mem_map.mpr ⟨_,ih,rfl⟩)
theorem rise_sub:∀ (n a:Nat) (r:List Nat),r.Pairwise (· < ·)→(∀ x∈r,a≤x∧x < a + n)→r.Sublist (List.range' a n)
  | 0,a,r,_,h=>by
    cases r with
    | nil=>exact List.Sublist.slnil
    | cons x r=>have:=h x (by simp); omega
  | n + 1,a,r,p,h=>by
    rw [List.range'_succ]
    cases r with
    | nil=>exact List.nil_sublist _
    | cons x r =>
      obtain ⟨p1,p2⟩:=List.pairwise_cons.mp p
      have hx:=h x (by simp)
      by_cases e:x=a
      · subst e
        exact List.Sublist.cons_cons _ (rise_sub n (x + 1) r p2 fun y hy=>⟨p1 y hy,by have:=(h y (by simp [hy])).2; omega⟩)
      · refine List.Sublist.cons _ (rise_sub n (a + 1) (x :: r) p fun y hy=>?_)
        have hy2:=h y hy
        rcases List.mem_cons.mp hy with rfl | hy'
        · omega
        · have:=p1 y hy'
          omega
def back (k:Nat):Int:=if k=0 then 8 else k
theorem back_home {h:Int} (h1:1≤h) (h8:h≤8):back (home 7 h)=h:=by
  rw [home_is h1 h8]
  unfold back
  split <;> omega
def laidOk2 (r:List Nat):Bool:=!(r.length == 5) || laidOk (r.map back)
theorem all_laid:(subsL (List.range' 0 8)).all laidOk2=true:=by decide +kernel
theorem laid_ok {hs:List Int} (hb:∀ h∈hs,1≤h∧h≤8) (hr:(hs.map (home 7)).Pairwise (· < ·)) (hl:hs.length=5):laidOk hs=true:=by
  have hm:=subs_mem (rise_sub 8 0 (hs.map (home 7)) hr fun x hx=>by
    obtain ⟨h,hh,rfl⟩:=List.mem_map.mp hx
    unfold home
    exact ⟨Nat.zero_le _,by have:=Nat.mod_lt (SetTable.bits h) (show 0 < 7 + 1 by decide); omega⟩)
  have:=List.all_eq_true.mp all_laid _ hm
  unfold laidOk2 at this
  rw [List.length_map,hl] at this
  have e:(hs.map (home 7)).map back=hs:=by
    rw [List.map_map]
    have:hs.map (back ∘ home 7)=hs.map id:=List.map_congr_left fun h hh=>back_home (hb h hh).1 (hb h hh).2
    rw [this,List.map_id]
  rw [e] at this
  simpa using this
theorem filter_get {α:Type} {es:Array α}:∀ (o:List Nat),(∀ i∈o,i < es.size)→(o.filterMap (es[·]?)).length=o.length∧∀ {β:Type} (f:α→β) (d:β),(o.filterMap (es[·]?)).map f=o.map fun i=>(es.toList.map f).getD i d
  | [],_=>⟨rfl,fun _ _=>rfl⟩
  | i :: o,h=>by
    obtain ⟨a,b⟩:=filter_get o fun j hj=>h j (by simp [hj])
    have hi:=h i (by simp)
    have e:(fun x=>es[x]?) i=some es[i]:=by show es[i]?=_; simp [hi]
    rw [List.filterMap_cons_some (f:=(es[·]?)) e]
    refine ⟨by simp [a],fun f d=>?_⟩
    rw [List.map_cons,List.map_cons,b f d]
    congr 1
    simp [hi]
theorem filter_perm {α:Type} {es:Array α} {o:List Nat} (h:o.Perm (List.range es.size)):(o.filterMap (es[·]?)).Perm es.toList:=by
  have h1:=h.filterMap (es[·]?)
  have h2:(List.range es.size).filterMap (es[·]?)=es.toList:=by
    apply List.ext_getElem?
    intro i
    have hall:=filter_get (es:=es) (List.range es.size) fun i hi=>List.mem_range.mp hi
    have hlen:=hall.1
    rcases Nat.lt_or_ge i es.size with z | z
    · have e1:i < ((List.range es.size).filterMap (es[·]?)).length:=by rw [hlen]; simpa using z
      rw [List.getElem?_eq_getElem e1,List.getElem?_eq_getElem (by simpa using z)]
      congr 1
      have q:=hall.2 (fun x=>x) es[i]
      have q2:=congrArg (fun l=>l[i]?) q
      simp only [List.map_id'] at q2
      rw [List.getElem?_eq_getElem e1,List.getElem?_map,List.getElem?_range z] at q2
      simpa [z] using q2
    · rw [List.getElem?_eq_none (by rw [hlen]; simpa using z),List.getElem?_eq_none (by simpa using z)]
  rw [h2] at h1
  exact h1
theorem Home.relay {led:Bool} {t:SetTable} {es:Array (Int×Value)} (ld:t.led=led) (pl:t.plain=true) (mk7:t.mask=7) (h5:es.size=5) (pc:t.place.toList=(es.toList.map (·.1)).map (home 7)) (ri:Rise t.place) (bd:∀ h∈es.toList.map (·.1),1≤h∧h≤8) :
    ∃ es2 t2,relayAll t es (SetTable.grown es.size)=(es2,t2,false)∧es2.toList.Perm es.toList∧Home led t2 (es2.toList.map (·.1)):=by
  have ok:=laid_ok bd (by rw [← pc]; exact ri) (by simp [h5])
  unfold laidOk at ok
  cases el:SetTable.laid 31 0 1 true true (es.toList.map (·.1)).toArray with
  | none=>rw [el] at ok; cases ok
  | some q =>
    obtain ⟨t0,order⟩:=q
    rw [el] at ok
    simp only [Bool.and_eq_true,beq_iff_eq] at ok
    obtain ⟨⟨⟨⟨⟨o1,o2⟩,o3⟩,o4⟩,o5⟩,o6⟩:=ok
    have ea:es.map (·.1)=(es.toList.map (·.1)).toArray:=by rw [← Array.toArray_toList (xs:=es.map (·.1)),Array.toList_map]
    have er:t.relaid (es.map (·.1)) (SetTable.grown es.size)=some ({ t0 with finger:=t.finger,moves:=t.movedTo 31,led:=t.led,plain:=t.plain },order):=by
      unfold SetTable.relaid
      have e31:SetTable.sizeAbove (SetTable.grown es.size) - 1=31:=by rw [h5]; decide
      rw [e31,ea,laid_as,el]
      rfl
    have hp:order.toList.Perm (List.range 5):=List.isPerm_iff.mp o2
    have hp':order.toList.Perm (List.range es.size):=by rw [h5]; exact hp
    have hin:∀ i∈order.toList,i < es.size:=fun i hi=>List.mem_range.mp (hp'.mem_iff.mp hi)
    have hf:=filter_get (es:=es) order.toList hin
    have ef:(order.filterMap (es[·]?)).toList=order.toList.filterMap (es[·]?):=Array.toList_filterMap ..
    have sz:(order.filterMap (es[·]?)).size=5:=by
      rw [← Array.length_toList,ef,hf.1,hp.length_eq]; rfl
    have pcl:t0.place.toList=((order.filterMap (es[·]?)).toList.map (·.1)).map (home 31):=by
      rw [o1,ef,hf.2 (·.1) 0,List.map_map]; rfl
    have psz:t0.place.size=5:=by
      have:=congrArg List.length pcl
      rw [List.length_map,List.length_map,Array.length_toList,Array.length_toList,sz] at this
      exact this
    have d0:t0.dummies=#[]:=by simpa using o4
    have hperm:(order.filterMap (es[·]?)).toList.Perm es.toList:=by rw [ef]; exact filter_perm hp'
    have hfit:({ t0 with finger:=t.finger,moves:=t.movedTo 31,led:=t.led,plain:=t.plain }:SetTable).fits (order.filterMap (es[·]?)).size=true:=by
      unfold SetTable.fits SetTable.fill
      rw [sz]
      simp [psz,d0,o3]
    refine ⟨order.filterMap (es[·]?),{ t0 with finger:=t.finger,moves:=t.movedTo 31,led:=t.led,plain:=t.plain },?_,hperm,ld,pl,d0,.inr ⟨o3,by rw [List.length_map,Array.length_toList,sz]; decide⟩,?_,?_,fun h hh=>bd h ?_⟩
    · unfold relayAll
      rw [er]
      dsimp only
      have hc:coversAll order es.size=true:=by unfold coversAll; rw [h5]; exact o2
      rw [hc,hfit]
      rfl
    · show t0.place.toList=List.map (home t0.mask) _
      rw [o3]; exact pcl
    · exact (rise_laid el).1
    · exact ((hperm.map (·.1)).mem_iff).mp hh
theorem Home.add {led:Bool} {t:SetTable} {es:Array (Int×Value)} (H:Home led t (es.toList.map (·.1))) {h:Int} {x:Value} (h1:1≤h) (h8:h≤8) (hn:h ∉ es.toList.map (·.1)) (hz:es.size < 8) :
    ∃ es1 t1,layNew t es h x=(es1,t1,false,false)∧t1.plain=true∧es1.toList.Perm (es.toList ++ [(h,x)])∧t1.fits es1.size=true ∧
      ((t1.tooFull=false∧Home led t1 (es1.toList.map (·.1)))∨(t1.tooFull=true∧∃ es2 t2,relayAll t1 es1 (SetTable.grown es1.size)=(es2,t2,false)∧es2.toList.Perm es1.toList∧t2.fits es2.size=true∧Home led t2 (es2.toList.map (·.1)))):=by
  obtain ⟨t',e,a1,a2,a3,a4,a5,a6,a7,a8⟩:=H.put (x:=x) h1 h8 hn
  have hp':posOf t h≤es.size:=by
    have:=(below_is H.ri (home t.mask h)).1
    have hz:t.place.size=es.size:=by rw [H.size]; simp
    rw [hz] at this
    exact this
  have pm:(SetTable.insertAt es (posOf t h) (h,x)).toList.Perm (es.toList ++ [(h,x)]):=by
    rw [insert_list es hp']
    refine List.Perm.trans (List.perm_middle) ?_
    rw [List.take_append_drop]
    exact (List.perm_append_singleton _ _).symm
  have sz:(SetTable.insertAt es (posOf t h) (h,x)).size=es.size + 1:=by
    have:=pm.length_eq
    simpa using this
  have bd:∀ g∈(SetTable.insertAt es (posOf t h) (h,x)).toList.map (·.1),1≤g∧g≤8:=fun g hg=>by
    have:=((pm.map (·.1)).mem_iff).mp hg
    rw [List.map_append] at this
    rcases List.mem_append.mp this with z | z
    · exact H.bd g z
    · have:g=h:=by simpa using z
      subst this; exact ⟨h1,h8⟩
  have ps:t'.place.size=es.size + 1:=by
    have:=congrArg List.length a7
    simpa [sz] using this
  have ms:=H.ms
  rw [List.length_map,Array.length_toList] at ms
  have fit:t'.fits (SetTable.insertAt es (posOf t h) (h,x)).size=true:=by
    unfold SetTable.fits SetTable.fill
    rw [sz,ps,a3,a4]
    simp
    rcases ms with z | z <;> omega
  refine ⟨_,t',e,a2,pm,fit,?_⟩
  by_cases full:t'.tooFull=true
  · refine .inr ⟨full,?_⟩
    have f2:=full
    unfold SetTable.tooFull SetTable.fill at f2
    rw [ps,a3,a4] at f2
    have f3:(es.size + 1 + 0) * 5 ≥ t.mask * 3:=by simpa using f2
    have m7:t.mask=7:=by rcases ms with z | z <;> omega
    have s5:(SetTable.insertAt es (posOf t h) (h,x)).size=5:=by rw [sz]; rcases ms with z | z <;> omega
    obtain ⟨es2,t2,r1,r2,r3⟩:=Home.relay a1 a2 (a4.trans m7) s5 (by rw [a7,m7]) a8 bd
    refine ⟨es2,t2,r1,r2,?_,r3⟩
    have q:=relayAll_fits t' (SetTable.insertAt es (posOf t h) (h,x)) (SetTable.grown (SetTable.insertAt es (posOf t h) (h,x)).size)
    rw [r1] at q
    exact q
  · have f0:t'.tooFull=false:=by simpa using full
    refine .inl ⟨f0,a1,a2,a3,?_,by rw [a4]; exact a7,a8,bd⟩
    rw [List.length_map,Array.length_toList,sz,a4]
    unfold SetTable.tooFull SetTable.fill at f0
    rw [ps,a3,a4] at f0
    have f3:¬ (es.size + 1 + 0) * 5 ≥ t.mask * 3:=by simpa using f0
    rcases ms with z | z <;> omega
end L2
namespace L2
open PySem PySem.Spec PyProof.Rows
section
variable {prog:Program} {w:World} {A:Around} {E:Value→Shared→Prop} {s:Shared}
def SetAt (h:Heap) (a:Addr) (led:Bool) (hs:List Int):Prop :=
  ∃ o es ep t,h.get? a=some o∧o.ExactSet∧o.data=.set es ep t∧(∀ e∈es.toList,∃ tk,e.2=.int e.1 tk)∧t.fits es.size=true∧Home led t (es.toList.map (·.1))∧(es.toList.map (·.1)).Perm hs∧hs.Nodup
theorem SetAt.at {h h':Heap} {a:Addr} {led:Bool} {hs:List Int} (x:SetAt h a led hs) (k:∀ o,h.get? a=some o→h'.get? a=some o):SetAt h' a led hs :=
  let ⟨o,es,ep,t,e,r⟩:=x; ⟨o,es,ep,t,k o e,r⟩
theorem hash_small {k:Int} (h1:1≤k) (h8:k≤8):hashInt k=k:=by
  rcases (by omega:k=1∨k=2∨k=3∨k=4∨k=5∨k=6∨k=7∨k=8) with rfl | rfl | rfl | rfl | rfl | rfl | rfl | rfl <;> decide
theorem elems_home {led:Bool} {t:SetTable} {es:Array (Int×Value)} (hi:∀ e∈es.toList,∃ tk,e.2=.int e.1 tk) (H:Home led t (es.toList.map (·.1))):ElemsOf (intKind prog w) es.toList:=fun e he=>by
  obtain ⟨tk,et⟩:=hi e he
  have b:=H.bd e.1 (List.mem_map.mpr ⟨e,he,rfl⟩)
  refine ⟨⟨e.1,by rw [et]; exact intKind_is _ _ _ _,(hash_small b.1 b.2).symm⟩,by rw [et]; rfl⟩
theorem size_home {led:Bool} {t:SetTable} {es:Array (Int×Value)} (H:Home led t (es.toList.map (·.1))):es.size≤8:=by
  have:=H.ms
  rw [List.length_map,Array.length_toList] at this
  rcases this with z | z <;> omega
theorem is_int {k j:Int} {tk:Tok}:(intKind prog w).is k (.int j tk)=decide (k=j):=KeyKind.is_eq_decide (intKind_is prog w j tk) k
theorem store_home {a:Addr} {o:Obj} {es es':Array (Int×Value)} {ep:Nat} {t t':SetTable} {h:Heap} {led:Bool} {hs:List Int} (ho:h.get? a=some o) (hex:o.ExactSet) (hd:o.data=.set es ep t) (hi:∀ e∈es'.toList,∃ tk,e.2=.int e.1 tk)
    (hf:t'.fits es'.size=true) (H:Home led t' (es'.toList.map (·.1))) (pm:(es'.toList.map (·.1)).Perm hs) (nd:hs.Nodup):SetAt (h.update a (Obj.putSet es' t')) a led hs:=by
  have hg:(h.update a (Obj.putSet es' t')).get? a=some { o with data:=.set es' (ep + 1) t' }:=by
    have:=Heap.get?_update_self (Obj.putSet es' t') ho (by rw [putSet_of es' t' hd]; rfl)
    rw [putSet_of es' t' hd] at this; exact this
  exact ⟨_,es',ep + 1,t',hg,hex,rfl,hi,hf,H,pm,nd⟩
theorem add_home {a:Addr} {led:Bool} {hs:List Int} {k:Int} {tk:Tok} {Q:Bool→Shared→Prop} (hS:SetAt s.heap a led hs) (h1:1≤k) (h8:k≤8) (hz:hs.length < 8)
    (h:∀ h' b,Heap.SameBut a s.heap h'→SetAt h' a led (if k∈hs then hs else hs ++ [k])→Q b { s with heap:=h' }) :
    wpAny (model prog w) A (setAddHashed a (.int k tk) ((intKind prog w).hash k)) Q E s:=by
  obtain ⟨o,es,ep,t,ho,hex,hd,hi,hf,H,pm,nd⟩:=hS
  have hel:=elems_home (prog:=prog) (w:=w) hi H
  have s8:=size_home H
  have sl:es.size=hs.length:=by have:=pm.length_eq; simpa using this
  have hb:es.size < scanBound:=Nat.lt_of_le_of_lt s8 (by decide)
  have hsc:(Value.int k tk).scannable=true:=rfl
  have hh:(intKind prog w).hash k=k:=hash_small h1 h8
  unfold setAddHashed setAddHashedIn
  refine wpAny_holding (wpAny_bind (wpAny_setState_of ho hd hf ?_))
  dsimp only
  rw [byScan_of hsc hb hel]
  simp only [↓reduceIte]
  unfold setAddByScan
  refine wpAny_bind ?_
  refine wpAny_bind (wpAny_rule ?_)
  refine wpAny_bind (wpAny_setScan_of (intKind_is _ _ _ _) ho hd hf hel ?_)
  cases hr:List.findIdx? (fun e=>(intKind prog w).is k e.2) es.toList with
  | some j =>
    dsimp only
    obtain ⟨hj,hpj,_⟩:=List.findIdx?_eq_some_iff_getElem.mp hr
    obtain ⟨t2,e2⟩:=hi _ (List.getElem_mem hj)
    rw [e2,is_int,decide_eq_true_iff] at hpj
    have hin:k∈hs:=pm.mem_iff.mp (List.mem_map.mpr ⟨_,List.getElem_mem hj,hpj.symm⟩)
    refine wpAny_pure (wpAny_pure ?_)
    have e:s={ s with heap:=s.heap }:=by cases s; rfl
    have:=h s.heap false (Heap.SameBut.refl a s.heap) (by rw [if_pos hin]; exact ⟨o,es,ep,t,ho,hex,hd,hi,hf,H,pm,nd⟩)
    rw [e]; exact this
  | none =>
    dsimp only
    have hno:k ∉ es.toList.map (·.1):=fun hk=>by
      obtain ⟨e,he,ek⟩:=List.mem_map.mp hk
      obtain ⟨t2,e2⟩:=hi e he
      have:=List.findIdx?_eq_none_iff.mp hr e he
      rw [e2,is_int,ek] at this
      simp at this
    have hno':k ∉ hs:=fun z=>hno (pm.mem_iff.mpr z)
    obtain ⟨es1,t1,eL,p1,pm1,f1,ends⟩:=H.add (x:=.int k tk) h1 h8 hno (by omega)
    have eL':layNew t es ((intKind prog w).hash k) (.int k tk)=(es1,t1,false,false):=by rw [hh]; exact eL
    have nd':(hs ++ [k]).Nodup:=List.nodup_append.mpr ⟨nd,by simp,fun a ha b hb e=>by
      have:b=k:=by simpa using hb
      subst this; subst e; exact hno' ha⟩
    have pmk:(es1.toList.map (·.1)).Perm (hs ++ [k]):=by
      have:=pm1.map (·.1)
      rw [List.map_append] at this
      exact this.trans (pm.append_right _)
    have hi1:∀ e∈es1.toList,∃ tk,e.2=.int e.1 tk:=fun e he=>by
      rcases List.mem_append.mp (pm1.mem_iff.mp he) with z | z
      · exact hi e z
      · have:e=(k,.int k tk):=by simpa using z
        subst this; exact ⟨tk,rfl⟩
    have sz1:es1.size=es.size + 1:=by have:=pm1.length_eq; simpa using this
    simp only [eL']
    refine wpAny_bind (wpAny_pure ?_)
    rw [if_pos p1]
    refine wpAny_bind ?_
    rw [hashByValue_scannable 8 hsc]
    refine wpAny_pure ?_
    have hk:plainKind (.int k tk)=true:=rfl
    simp only [hk,↓reduceIte]
    have hz1:es1.size≤sizeLine:=by rw [sz1]; exact Nat.le_trans (show es.size + 1≤9 by omega) (by decide)
    refine wpAny_bind (wpAny_storeSet_of ho hd ?_ hz1)
    have hsb:=Heap.SameBut.update s.heap a (Obj.putSet es1 t1)
    rcases ends with ⟨nf,H1⟩ | ⟨fu,es2,t2,eR,pm2,f2,H2⟩
    · rw [if_neg (by rw [nf]; decide)]
      refine wpAny_pure (wpAny_pure ?_)
      exact h _ true hsb (by rw [if_neg hno']; exact store_home ho hex hd hi1 f1 H1 pmk nd')
    · rw [if_pos (by rw [fu]; decide)]
      simp only [eR]
      refine wpAny_bind (wpAny_pure ?_)
      have ho1:(s.heap.update a (Obj.putSet es1 t1)).get? a=some { o with data:=.set es1 (ep + 1) t1 }:=by
        have:=Heap.get?_update_self (Obj.putSet es1 t1) ho (by rw [putSet_of es1 t1 hd]; rfl)
        rw [putSet_of es1 t1 hd] at this; exact this
      have hz2:es2.size≤sizeLine:=by
        have:=pm2.length_eq
        rw [Array.length_toList,Array.length_toList] at this
        rw [this]; exact hz1
      refine wpAny_bind (wpAny_storeSet_of ho1 rfl ?_ hz2)
      refine wpAny_pure (wpAny_pure ?_)
      exact h _ true (hsb.trans (Heap.SameBut.update _ a _)) (by rw [if_neg hno']; exact store_home ho1 hex rfl (fun e he=>hi1 e (pm2.mem_iff.mp he)) f2 H2 ((pm2.map (·.1)).trans pmk) nd')
end
end L2
namespace L2
open PySem PySem.Spec PyProof.Rows
def metF (val:Nat→Int):Nat→List Int
  | 0=>[]
  | i + 1=>if val i∈metF val i then metF val i else metF val i ++ [val i]
theorem met_len (val:Nat→Int):∀ i,(metF val i).length≤i
  | 0=>Nat.le_refl _
  | i + 1=>by
    have:=met_len val i
    unfold metF
    split
    · omega
    · rw [List.length_append]; simp; omega
theorem met_mem (val:Nat→Int):∀ i k,k∈metF val i↔∃ j,j < i∧val j=k
  | 0,k=>⟨fun h=>(by cases h),fun ⟨j,hj,_⟩=>(by omega)⟩
  | i + 1,k=>by
    have ih:=met_mem val i
    unfold metF
    split
    · rename_i h
      rw [ih]
      refine ⟨fun ⟨j,a,b⟩=>⟨j,by omega,b⟩,fun ⟨j,a,b⟩=>?_⟩
      by_cases e:j=i
      · subst e; rw [← b]; exact (ih _).mp h
      · exact ⟨j,by omega,b⟩
    · rw [List.mem_append,ih]
      refine ⟨fun z=>?_,fun ⟨j,a,b⟩=>?_⟩
      · rcases z with ⟨j,a,b⟩ | z
        · exact ⟨j,by omega,b⟩
        · exact ⟨i,by omega,(by have:k=val i:=by simpa using z
                                exact this.symm)⟩
      · by_cases e:j=i
        · subst e; exact .inr (by simp [b])
        · exact .inl ⟨j,by omega,b⟩
abbrev ledOf (w:World):Bool:=!(w.params.followText "set-order")
section
variable {prog:Program} {w:World} {A:Around} {R:Result→Shared→Prop} {I:Addr} {fp wr:List Addr} {G:Array GenState→Array GenState→Prop} {n:Nat} {P:Nat→Value→Prop} {St:Nat→Shared→Prop}
theorem loop_home (W:WalksS prog w A.in1 I fp wr G n P St) (S:Addr) (hSf:S ∉ fp) {led:Bool} (val:Nat→Int) (hval:∀ i v,P i v→∃ t,v=.int (val i) t) (hb:n≤8) (hv:∀ i,i < n→1≤val i∧val i≤8) :
    ∀ (k i:Nat) (s:Shared),n - i=k→i≤n→St i s→SetAt s.heap S led (metF val i)→(∀ s',Moved (S :: wr) G s s'→SetAt s'.heap S led (metF val n)→R (.ok (.ret .none)) s') →
      codeAny (model prog w) A (.builtin "set.update.loop" ⟨[.ref S,.ref I],[]⟩) R s:=by
  have hSw:S ∉ wr:=fun h=>hSf (W.sub _ h)
  have hsub:∀ b∈wr,b∈S :: wr:=fun b hb=>List.mem_cons_of_mem _ hb
  intro k
  induction k with
  | zero =>
    intro i s hk hi hst hS hR
    have e:i=n:=by omega
    subst e
    refine codeAny_builtin PyProof.Rows.F.entry_set_update_loop ?_
    rw [Around.under_plainId PyProof.Rows.F.plain_set_update_loop _]
    show wpAny _ A.in1 (pyNext (.ref I) >>= _) _ _ s
    refine wpAny_bind (W.done s _ _ hst fun s' hm=>?_)
    show wpAny _ A.in1 (ret Value.none) _ _ s'
    exact wpAny_pure (hR s' (hm.mono hsub) (hS.at fun o e=>hm.heap S o hSw e))
  | succ k ih =>
    intro i s hk hi hst hS hR
    have hlt:i < n:=by omega
    refine codeAny_builtin PyProof.Rows.F.entry_set_update_loop ?_
    rw [Around.under_plainId PyProof.Rows.F.plain_set_update_loop _]
    show wpAny _ A.in1 (pyNext (.ref I) >>= _) _ _ s
    refine wpAny_bind (W.item i s _ _ hlt hst fun v s' hP hst' hm=>?_)
    obtain ⟨t,rfl⟩:=hval i v hP
    have hS':SetAt s'.heap S led (metF val i):=hS.at fun o e=>hm.heap S o hSw e
    show wpAny _ A.in1 (holding [Value.int (val i) t] (setAdd S (.int (val i) t)) >>= _) _ _ s'
    refine wpAny_bind (wpAny_holding ?_)
    unfold setAdd
    refine wpAny_holding ?_
    refine wpAny_bind ((intKind prog w).pyHash (k:=val i) (intKind_is _ _ _ _) ?_)
    refine add_home (prog:=prog) (w:=w) (s:={ s' with toks:=s'.toks + 1 }) hS' (hv i hlt).1 (hv i hlt).2 (by have:=met_len val i; omega) fun h' b hsb hS2=>?_
    refine wpAny_pure ⟨plainId_quiet PyProof.Rows.F.plain_set_update_loop _,ih (i + 1) _ (by omega) hlt (W.frame _ s' _ _ hst' (Nat.le_succ _) fun b hb o e=>?_) hS2 fun s'' hm'' hS''=>?_⟩
    · rw [hsb.2 b (fun h:b=S=>hSf (by rw [← h]; exact hb))]; exact e
    · refine hR s'' (Moved.trans W.gtrans ((hm.mono hsub).then_heap (Nat.le_succ _) fun b o hb e=>?_) hm'') hS''
      rw [hsb.2 b (fun h:b=S=>hb (by rw [h]; exact List.mem_cons_self))]; exact e
end
section
variable {prog:Program} {w:World} {A:Around} {E:Value→Shared→Prop} {s:Shared}
abbrev emptySet (w:World):Obj:={ cls:=.type "set",dict:=none,data:=.set #[] 0 (.fresh 0 0 (ledOf w)) }
theorem new_home (a:Value) {Q₁:Value→Shared→Prop} (h:Q₁ (.ref s.heap.objs.size) { s with heap:=s.heap.push (emptySet w) }) :
    codeAny (model prog w) A (.call (.builtin "set.__new__") ⟨[.type "set",a],[]⟩) (wants Q₁ E) s:=by
  refine codeAny_of_tree ?_
  show wpAny _ A.in1 (do checkBuiltinCall "set.__new__" ⟨[.type "set",a],[]⟩; again (.builtin "set.__new__" ⟨[.type "set",a],[]⟩)) _ _ s
  refine wpAny_bind (wpAny_of_eq (PySem.F.newCall_set_1 a) (wpAny_pure ⟨plainId_quiet PySem.F.plain_set_new _,codeAny_builtin PySem.F.entry_set_new ?_⟩))
  rw [Around.under_plainId PySem.F.plain_set_new _]
  unfold Builtin.«set.__new__» Builtin.Frozenset.newClass
  have hsub:=sub_set_self
  obtain ⟨hp,g,d,tk,os⟩:=s
  dsimp only
  wp_walk
  refine wpAny_askSetting (wpAny_pure ?_)
  dsimp only
  simp only [newObj]
  refine wpAny_bind (wpAny_alloc (wpAny_pure ?_))
  exact wpAny_pure h
theorem set_home {l:Addr} {items:Array Value} {ns:List Int} {Q:Value→Shared→Prop} (hh:A.handled=none) (hl:s.heap.IsList l items) (hi:IntsAre items.toList ns) (hb:items.size≤8) (hv:∀ i,i < items.size→1≤ns.getD i 0∧ns.getD i 0≤8)
    (h:∀ (h':Heap) (tk:Nat),SetAt h' s.heap.objs.size (ledOf w) (metF (fun i=>ns.getD i 0) items.size)→(∀ b o,b < s.heap.objs.size→s.heap.get? b=some o→h'.get? b=some o)→Q (.ref s.heap.objs.size) { s with heap:=h',toks:=tk }) :
    wpAny (model prog w) A (call (.type "set") [.ref l]) Q E s:=by
  obtain ⟨c,tl,hmro⟩:=PySem.F.called_set.mro
  have hmade:=PySem.F.called_set.made
  have hsub:=PySem.F.called_set.sub
  refine wpAny_call (codeAny_of_tree ?_)
  show wpAny _ _ (callAny (.type "set") _) _ _ _
  refine wpAny_pure ⟨Code.quiet_builtin _ (by decide +kernel),codeAny_builtin PySem.F.entry_type_call ?_⟩
  rw [Around.under_plain (weight_type_call_type "set" [.ref l] []) rfl]
  have h1:=PySem.F.called_set.notType
  have h2:=PySem.F.called_set.canCreate
  have hct:=PySem.F.typeCall_set_1 (.ref l)
  repeat (any_goals (first | assumption | wp_step))
  refine codeAny_mono (new_home (.ref l) (E:=E) (Q₁:=fun obj s₁=>obj=.ref s.heap.objs.size∧s₁={ s with heap:=s.heap.push (emptySet w) }) ⟨rfl,rfl⟩) fun r s₁ hr=>?_
  cases r with
  | error e=>exact hr
  | ok fl =>
    cases fl with
    | ret obj =>
      obtain ⟨rfl,rfl⟩:=hr
      have hS:(s.heap.push (emptySet w)).get? s.heap.objs.size=some (emptySet w):=Heap.get?_push_size _ rfl
      have hT:Shared.TypeIs { s with heap:=s.heap.push (emptySet w) } (.ref s.heap.objs.size) "set":=⟨_,hS,rfl⟩
      have hli:=PySem.F.called_set.init.lookup
      have hbi:=PySem.F.called_set.init.bind (.ref s.heap.objs.size)
      repeat (any_goals (first | assumption | wp_step))
      refine codeAny_mono (codeAny_call_builtin (R:=wants (fun r s₂=>r=.none∧∃ h' tk,s₂={ s with heap:=h',toks:=tk }∧SetAt h' s.heap.objs.size (ledOf w) (metF (fun i=>ns.getD i 0) items.size) ∧
          (∀ b o,b < s.heap.objs.size→s.heap.get? b=some o→h'.get? b=some o)) E) PySem.F.called_set.init.plain PySem.F.entry_set_init (check_set_init_1 hT ?_)) fun r₂ s₂ hr₂=>?_
      · obtain ⟨ol,hol,hcl,nl,hdl⟩:=hl
        obtain ⟨ocls,odict,odata,oslots⟩:=ol
        simp only at hcl hdl
        subst hcl; subst hdl
        have hol':(s.heap.push (emptySet w)).get? l=some { cls:=.type "list",dict:=odict,data:=.seq items nl,slots:=oslots }:=Heap.get?_push_of_some _ hol
        have hsls:=PySem.F.sub_list_set
        have hslf:=PySem.F.sub_list_frozenset
        have hne:(Value.type "list" == Value.type "dict")=false:=by decide
        have hl1:(s.heap.push (emptySet w)).IsList l items:=⟨_,hol',rfl,nl,rfl⟩
        unfold Builtin.«set.__init__» noKeywords Builtin.Frozenset.updateFrom
        generalize hPI:pyIter=PI
        wp_walk
        subst hPI
        refine wpAny_pyIter_list hl1 ?_
        refine wpAny_bind (wpAny_runValue ?_)
        have hlS:l < s.heap.objs.size:=Heap.lt_size hol
        have hh3:A.in1.in1.in1.handled=none:=by simp [hh]
        have hneI:l≠(s.heap.push (emptySet w)).objs.size:=by
          rw [Heap.size_push]; exact Nat.ne_of_lt (Nat.lt_succ_of_lt hlS)
        have hSf:s.heap.objs.size ∉ [(s.heap.push (emptySet w)).objs.size,l]:=by
          rw [Heap.size_push]; simp only [List.mem_cons,List.mem_singleton,List.not_mem_nil,or_false,not_or]
          exact ⟨Nat.ne_of_lt (Nat.lt_succ_self _),Nat.ne_of_gt hlS⟩
        have hval:∀ (i:Nat) (v:Value),items[i]?=some v→∃ t,v=.int ((fun i=>ns.getD i 0) i) t:=fun i v hv =>
          IntsAre.int_at hi i v (by rw [Array.getElem?_toList]; exact hv)
        refine loop_home ((Walks.list hh3 _ l hneI items).toS) s.heap.objs.size hSf (led:=ledOf w) (fun i=>ns.getD i 0) hval hb hv (items.size - 0) 0 _ (by omega) (Nat.zero_le _) ⟨⟨_,Heap.get?_push_size _ rfl,rfl,rfl⟩,(hl1.push _)⟩ ?hS0 ?hR
        case hS0 =>
          exact ⟨_,#[],0,_,Heap.get?_push_of_some _ hS,⟨rfl,rfl,rfl⟩,rfl,fun e he=>by simp at he,by rfl,Home.fresh _,List.Perm.refl _,List.nodup_nil⟩
        case hR =>
          intro s' hm hS'
          obtain ⟨h',g',d',tk',os'⟩:=s'
          have eg:g'=s.gens:=hm.gens
          have ed:d'=s.drawn:=hm.drawn
          have eo:os'=s.os:=hm.os
          subst eg; subst ed; subst eo
          show wpAny _ _ _ _ _ _
          refine wpAny_pure ?_
          show wpAny _ _ (ret Value.none) _ _ _
          refine wpAny_pure ⟨rfl,h',tk',rfl,hS',fun b o hb e=>?_⟩
          have hb1:b≠s.heap.objs.size:=Nat.ne_of_lt hb
          have hb2:b≠(s.heap.push (emptySet w)).objs.size:=by
            rw [Heap.size_push]; exact Nat.ne_of_lt (Nat.lt_succ_of_lt hb)
          exact hm.heap b o (by simp only [List.mem_cons,List.mem_singleton,List.not_mem_nil,or_false,not_or]; exact ⟨hb1,hb2⟩) (Heap.get?_push_of_some _ (Heap.get?_push_of_some _ e))
      · cases r₂ with
        | error e=>exact hr₂
        | ok fl₂ =>
          cases fl₂ with
          | ret r =>
            obtain ⟨rfl,h',tk,rfl,hS',hk'⟩:=hr₂
            repeat (any_goals (first | assumption | wp_step))
            exact h _ _ hS' hk'
          | _=>exact hr₂.elim
    | _=>exact hr.elim
end
end L2
namespace L2
open PySem PySem.Spec PyProof.Rows
theorem slot_si_next:Slot "set_iterator" "__next__" "set_iterator.__next__" :=
  .of (owner:="set_iterator") (n:="__next__") (by rw [typeLookup_type,builtinLookup_eq_fast]; kernel_rfl) (by decide +kernel) (by decide +kernel) (by decide +kernel) (by first | exact .inl (by decide +kernel) | exact .inr (by decide +kernel)) (by rw [isSubtype_type]; kernel_rfl)
theorem slot_si_iter:Slot "set_iterator" "__iter__" "set_iterator.__iter__" :=
  .of (owner:="set_iterator") (n:="__iter__") (by rw [typeLookup_type,builtinLookup_eq_fast]; kernel_rfl) (by decide +kernel) (by decide +kernel) (by decide +kernel) (by first | exact .inl (by decide +kernel) | exact .inr (by decide +kernel)) (by rw [isSubtype_type]; kernel_rfl)
theorem entry_si_next:entryFor table "set_iterator.__next__"=some Builtin.«set_iterator.__next__»:=entryFor_of_tree (by kernel_rfl)
theorem entry_si_iter:entryFor table "set_iterator.__iter__"=some Builtin.«dict_keyiterator.__iter__»:=entryFor_alias (id':="dict_keyiterator.__iter__") (by kernel_rfl) rfl (by decide +kernel) (by kernel_rfl)
theorem entry_s_iter:entryFor table "set.__iter__"=some Builtin.«frozenset.__iter__»:=entryFor_alias (id':="frozenset.__iter__") (by kernel_rfl) rfl (by decide +kernel) (by kernel_rfl)
theorem args_si_next (a:Value):argsOk "set_iterator.__next__" ⟨[a],[]⟩:=by unfold argsOk; kernel_rfl
theorem args_si_iter (a:Value):argsOk "set_iterator.__iter__" ⟨[a],[]⟩:=by unfold argsOk; kernel_rfl
theorem args_s_iter (a:Value):argsOk "set.__iter__" ⟨[a],[]⟩:=by unfold argsOk; kernel_rfl
abbrev byText (w:World):Bool:=w.params.followText "set-order"
section
variable {prog:Program} {w:World} {A:Around} {E:Value→Shared→Prop} {s:Shared} {a it:Addr} {o:Obj} {es:Array (Int×Value)} {ep:Nat} {t:SetTable}
def ordOf (w:World) (a:Addr) (es:Array (Int×Value)) (ep:Nat):Array (Int×Value):=if byText w then pickOrder (w.params.setOrder a ep) es else es
theorem ord_perm:(ordOf w a es ep).toList.Perm es.toList:=by
  unfold ordOf
  split
  · exact pick_perm _ _
  · exact List.Perm.refl _
theorem ord_size:(ordOf w a es ep).size=es.size:=by
  have:=(ord_perm (w:=w) (a:=a) (es:=es) (ep:=ep)).length_eq
  simpa using this
def slotAt (w:World) (t:SetTable) (i:Nat):Nat:=if byText w then 0 else match i with | 0=>0 | j + 1=>t.place.getD j 0 + 1
theorem wp_byText {Q:Bool→Shared→Prop} (h:Q (byText w) s):wpAny (model prog w) A setsByText Q E s:=by
  unfold setsByText
  exact wpAny_bind (wpAny_askSetting (wpAny_pure h))
structure Known (w:World) (o:Obj) (es:Array (Int×Value)) (ep:Nat) (t:SetTable):Prop where
  ex:o.ExactSet
  da:o.data=.set es ep t
  fi:t.fits es.size=true
  pl:t.plain=true
  ld:t.led=ledOf w
  ri:Rise t.place
  sz:t.place.size=es.size
theorem next_some (K:Known w o es ep t) (ho:s.heap.get? a=some o) {i:Nat} (hi:i < es.size) {Q:Option (Value×Nat)→Shared→Prop}
    (h:Q (some (((ordOf w a es ep)[i]'(by rw [ord_size]; exact hi)).2,slotAt w t (i + 1))) s):wpAny (model prog w) A (setNext a (slotAt w t i) i ep) Q E s:=by
  unfold setNext
  refine wpAny_bind (wpAny_setState_of ho K.da K.fi ?_)
  dsimp only
  refine wpAny_bind (wp_byText ?_)
  have hi':i < (ordOf w a es ep).size:=by rw [ord_size]; exact hi
  by_cases b:byText w=true
  · have es0:∀ j,slotAt w t j=0:=fun j=>by unfold slotAt; rw [if_pos b]
    have eo:ordOf w a es ep=pickOrder (w.params.setOrder a ep) es:=by unfold ordOf; rw [if_pos b]
    rw [if_pos b,if_neg (by simp)]
    rw [es0] at h ⊢
    unfold setWalk
    refine wpAny_bind (wpAny_bind (wpAny_setState_of ho K.da K.fi ?_))
    dsimp only
    refine wpAny_bind (wp_byText ?_)
    rw [if_pos b]
    refine wpAny_bind (wpAny_askSetting (wpAny_pure (wpAny_pure ?_)))
    have e2:(pickOrder (w.params.setOrder a ep) es)[i]?=some ((ordOf w a es ep)[i]'hi'):=by
      rw [← eo]; exact Array.getElem?_eq_getElem hi'
    show Q (((pickOrder (w.params.setOrder a ep) es)[i]?).map fun e=>(e.2,0)) s
    rw [e2]
    exact h
  · have eo:ordOf w a es ep=es:=by unfold ordOf; rw [if_neg b]
    have hp:i < t.place.size:=by rw [K.sz]; exact hi
    have eb:SetTable.below t.place (slotAt w t i)=i:=by
      unfold slotAt
      rw [if_neg b]
      cases i with
      | zero=>exact below_zero K.ri
      | succ j =>
        have hj:j < t.place.size:=by omega
        have:=below_next K.ri hj
        simpa [Array.getD,hj] using this
    have en:slotAt w t (i + 1)=t.place[i] + 1:=by
      unfold slotAt
      rw [if_neg b]
      simp [Array.getD,hp]
    rw [if_neg b]
    refine wpAny_ite_split (fun hab=>absurd (show (!t.plain && decide (es.size > 1))=true from hab) (by rw [K.pl]; simp)) fun _=>?_
    refine wpAny_bind ?_
    show wpAny _ _ (if (!t.led && !es.isEmpty)=true then _ else _) _ _ s
    rw [if_neg (by rw [K.ld]; unfold ledOf; simp [b])]
    refine wpAny_pure ?_
    try dsimp only
    rw [eb,Array.getElem?_eq_getElem hi,Array.getElem?_eq_getElem hp]
    refine wpAny_pure ?_
    rw [en] at h
    have e2:(ordOf w a es ep)[i]'hi'=es[i]:=by simp [eo]
    rw [e2] at h
    exact h
theorem next_none (K:Known w o es ep t) (ho:s.heap.get? a=some o) {Q:Option (Value×Nat)→Shared→Prop} (h:Q none s):wpAny (model prog w) A (setNext a (slotAt w t es.size) es.size ep) Q E s:=by
  unfold setNext
  refine wpAny_bind (wpAny_setState_of ho K.da K.fi ?_)
  dsimp only
  refine wpAny_bind (wp_byText ?_)
  by_cases b:byText w=true
  · rw [if_pos b,if_neg (by simp)]
    unfold setWalk
    refine wpAny_bind (wpAny_bind (wpAny_setState_of ho K.da K.fi ?_))
    dsimp only
    refine wpAny_bind (wp_byText ?_)
    rw [if_pos b]
    refine wpAny_bind (wpAny_askSetting (wpAny_pure (wpAny_pure ?_)))
    have eo:ordOf w a es ep=pickOrder (w.params.setOrder a ep) es:=by unfold ordOf; rw [if_pos b]
    have e2:(pickOrder (w.params.setOrder a ep) es)[es.size]?=none:=Array.getElem?_eq_none (by rw [← eo,ord_size]; exact Nat.le_refl _)
    show Q (((pickOrder (w.params.setOrder a ep) es)[es.size]?).map fun e=>(e.2,_)) s
    rw [e2]
    exact h
  · rw [if_neg b]
    refine wpAny_ite_split (fun hab=>absurd (show (!t.plain && decide (es.size > 1))=true from hab) (by rw [K.pl]; simp)) fun _=>?_
    refine wpAny_bind ?_
    show wpAny _ _ (if (!t.led && !es.isEmpty)=true then _ else _) _ _ s
    rw [if_neg (by rw [K.ld]; unfold ledOf; simp [b])]
    refine wpAny_pure ?_
    try dsimp only
    have eb:SetTable.below t.place (slotAt w t es.size)=es.size:=by
      unfold slotAt
      rw [if_neg b]
      cases e:es.size with
      | zero=>exact below_zero K.ri
      | succ j =>
        have hj:j < t.place.size:=by rw [K.sz]; omega
        have:=below_next K.ri hj
        simpa [Array.getD,hj] using this
    rw [eb,Array.getElem?_eq_none (Nat.le_refl _)]
    exact wpAny_pure h
def SetIt (h:Heap) (it a:Addr) (sl i n ep:Nat):Prop:=∃ o,h.get? it=some o∧o.cls=.type "set_iterator"∧o.data=.fields #[.int (sl:Nat) 0,.int (i:Nat) 0,.ref a,.int (n:Nat) 0,.int (ep:Nat) 0]
theorem SetIt.typeIs {sl i n ep:Nat} (x:SetIt s.heap it a sl i n ep):s.TypeIs (.ref it) "set_iterator":=let ⟨o,ho,hc,_⟩:=x; ⟨o,ho,hc⟩
theorem si_item (K:Known w o es ep t) (ho:s.heap.get? a=some o) {i:Nat} (hi:i < es.size) (hit:SetIt s.heap it a (slotAt w t i) i es.size ep) {Q:Option Value→Shared→Prop}
    (h:∀ h',SetIt h' it a (slotAt w t (i + 1)) (i + 1) es.size ep→Heap.SameBut it s.heap h'→Q (some ((ordOf w a es ep)[i]'(by rw [ord_size]; exact hi)).2) { s with heap:=h' }):wpAny (model prog w) A (pyNext (.ref it)) Q E s:=by
  obtain ⟨oi,hoi,hc,hd⟩:=id hit
  unfold pyNext
  refine wpAny_bind (wpAny_attempt (wpAny_callSpecial?_slot (name:=Str.ofString "__next__") hit.typeIs slot_si_next (wpAny_call_entry slot_si_next hit.typeIs entry_si_next ?_ (args_si_next _))))
  unfold Builtin.«set_iterator.__next__»
  refine wpAny_bind (wpAny_pure ?_)
  refine wpAny_bind (wpAny_fieldsOf hoi hd ?_)
  dsimp only
  refine wpAny_bind (wpAny_setEntries_of ho K.da K.fi ?_)
  rw [if_neg (by simp)]
  refine wpAny_bind (next_some K ho hi ?_)
  dsimp only
  refine wpAny_bind (wpAny_setField hoi hd (by simp) ?_)
  have h1:=Heap.get?_update_self (Obj.mapFields (·.setIfInBounds 0 (rawInt ((slotAt w t (i + 1):Nat):Int)))) hoi (Obj.isFreed_of_fields (Obj.data_mapFields hd _))
  refine wpAny_bind (wpAny_setField h1 (Obj.data_mapFields hd _) (by simp) ?_)
  have d1:=Obj.data_mapFields hd (·.setIfInBounds 0 (rawInt ((slotAt w t (i + 1):Nat):Int)))
  have h2:=Heap.get?_update_self (Obj.mapFields (·.setIfInBounds 1 (rawInt ((i:Int) + 1)))) h1 (Obj.isFreed_of_fields (Obj.data_mapFields d1 _))
  refine wpAny_pure ⟨_,rfl,wpAny_pure (h _ ⟨_,h2,(Obj.cls_mapFields ..).trans ((Obj.cls_mapFields ..).trans hc),?_⟩ ((Heap.SameBut.update ..).trans (Heap.SameBut.update ..)))⟩
  rw [Obj.data_mapFields d1]
  simp [rawInt]
theorem si_done (K:Known w o es ep t) (hh:A.handled=none) (ho:s.heap.get? a=some o) (hit:SetIt s.heap it a (slotAt w t es.size) es.size es.size ep) {Q:Option Value→Shared→Prop}
    (h:∀ h',Heap.ExtBut it s.heap h'→Q none { s with heap:=h' }):wpAny (model prog w) A (pyNext (.ref it)) Q E s:=by
  obtain ⟨oi,hoi,hc,hd⟩:=id hit
  unfold pyNext
  refine wpAny_bind (wpAny_attempt (wpAny_callSpecial?_slot (name:=Str.ofString "__next__") hit.typeIs slot_si_next (wpAny_call_entry slot_si_next hit.typeIs entry_si_next ?_ (args_si_next _))))
  unfold Builtin.«set_iterator.__next__»
  refine wpAny_bind (wpAny_pure ?_)
  refine wpAny_bind (wpAny_fieldsOf hoi hd ?_)
  dsimp only
  refine wpAny_bind (wpAny_setEntries_of ho K.da K.fi ?_)
  rw [if_neg (by simp)]
  refine wpAny_bind (next_none K ho ?_)
  dsimp only
  refine wpAny_bind (wpAny_setField hoi hd (by simp) ?_)
  refine wpAny_bind ?_
  simp only [newExc,newTuple]
  refine wpAny_bind (wpAny_newObj_type ?_ (by size_fits))
  refine wpAny_bind (m:=firstArgMember _ _) (wpAny_of_eq (a:=Value.none) (by first | rfl | (simp only [firstArgMember]; rfl)) ?_)
  refine wpAny_newObj_type ?_ (by size_fits)
  simp only [raiseNew]
  refine wpAny_bind (wpAny_handled ?_)
  rw [show A.in1.handled=none from hh]
  refine wpAny_bind (wpAny_pure (wpAny_throw ?_))
  refine wpAny_bind (wpAny_isInstance (T:="StopIteration") (b:=true) ⟨_,Heap.get?_push_size _ rfl,rfl⟩ isSubtype_stop ?_)
  exact wpAny_pure (h _ (((Heap.SameBut.update ..).extBut.push _).push _))
abbrev setItO (a:Addr) (n ep:Nat):Obj:={ cls:=.type "set_iterator",data:=.fields #[.int 0 0,.int 0 0,.ref a,.int (n:Nat) 0,.int (ep:Nat) 0] }
theorem si_iter (K:Known w o es ep t) (ho:s.heap.get? a=some o) {Q:Value→Shared→Prop} (h:Q (.ref s.heap.objs.size) { s with heap:=s.heap.push (setItO a es.size ep) }):wpAny (model prog w) A (pyIter (.ref a)) Q E s:=by
  have hT:s.TypeIs (.ref a) "set":=⟨o,ho,K.ex.1⟩
  refine wpAny_pyIter_slot hT PySem.F.slot_set_iter (wpAny_call_entry PySem.F.slot_set_iter hT entry_s_iter ?_ (args_s_iter _))
  unfold Builtin.«frozenset.__iter__» Builtin.Frozenset.slot0 slotArgs
  simp only [List.isEmpty_nil,Bool.not_true,Bool.false_eq_true,↓reduceIte,bind_assoc,List.length_nil,bne_self_eq_false]
  unfold Builtin.Frozenset.addrOf Builtin.Frozenset.sizeOf
  refine wpAny_bind (wpAny_pure ?_)
  try dsimp only
  refine wpAny_bind (wpAny_pure ?_)
  refine wpAny_bind (wpAny_bind (wpAny_setEntries_of ho K.da K.fi (wpAny_pure ?_)))
  unfold setDrawn
  refine wpAny_bind (wpAny_bind (wpAny_setState_of ho K.da K.fi ?_))
  dsimp only
  refine wpAny_bind (wp_byText (wpAny_pure ?_))
  refine wpAny_ite_split (fun hab=>absurd (show (!byText w && (!t.plain && decide (es.size > 1)))=true from hab) (by rw [K.pl]; simp)) fun _=>?_
  refine wpAny_bind (wpAny_pure ?_)
  refine wpAny_bind (wpAny_setEpoch_of ho K.da K.fi ?_)
  refine wpAny_bind (wpAny_newObj_type (wpAny_pure ⟨_,rfl,"set_iterator",_,⟨_,Heap.get?_push_size _ rfl,rfl⟩,slot_si_next.lookup,?_⟩))
  simpa [rawInt] using h
theorem slotAt_zero:slotAt w t 0=0:=by unfold slotAt; split <;> rfl
theorem walk_set (K:Known w o es ep t) (hh:A.handled=none) (I:Addr) (hne:a≠I) :
    Walks prog w A I [I,a] [I] es.size (fun i v=>∃ e,(ordOf w a es ep)[i]?=some e∧v=e.2) (fun i h=>SetIt h I a (slotAt w t i) i es.size ep∧h.get? a=some o) where
  sub:=fun b hb=>by simp at hb; simp [hb]
  frame:=fun i h h' st hk=>⟨let ⟨o,ho,r⟩:=st.1; ⟨o,hk I (by simp) o ho,r⟩,hk a (by simp) o st.2⟩
  item:=fun i s Q E hi st hQ=>by
    refine si_item K st.2 hi st.1 fun h' st' sb=>?_
    have e:s={ s with toks:=s.toks }:=by cases s; rfl
    have hi':i < (ordOf w a es ep).size:=by rw [ord_size]; exact hi
    exact hQ _ h' s.toks ⟨_,Array.getElem?_eq_getElem hi',rfl⟩ ⟨st',by rw [sb.2 a hne]; exact st.2⟩ fun b ob hb q=>by rw [sb.2 b (fun z=>hb (by simp [z]))]; exact q
  done:=fun s Q E st hQ=>si_done K hh st.2 st.1 fun h' eb=>hQ h' s.toks fun b ob hb q=>eb b ob (fun z=>hb (by simp [z])) q
  self:=fun i s Q E st hq=>by
    refine wpAny_pyIter_slot st.1.typeIs slot_si_iter (wpAny_call_entry slot_si_iter st.1.typeIs entry_si_iter ?_ (args_si_iter _))
    show wpAny _ _ (ret (.ref I)) _ _ s
    exact wpAny_pure ⟨_,rfl,"set_iterator",_,st.1.typeIs,slot_si_next.lookup,hq⟩
theorem hint_set {Q:Bool→Shared→Prop} (hT:s.TypeIs (.ref a) "set") (h:Q false s):wpAny (model prog w) A (Builtin.List.listLengthHint (.ref a)) Q E s:=by
  unfold Builtin.List.listLengthHint
  refine wpAny_bind (wpAny_specialOf hT PySem.F.slot_set_len.lookup ?_)
  generalize hid:("set.__len__":String)=id0
  wp_delta
  rw [show splitId id0=some ("set","__len__") from by subst hid; decide +kernel]
  subst hid
  refine wpAny_bind (wpAny_isInstance (T:="set") (b:=true) hT (by rw [isSubtype_type]; kernel_rfl) ?_)
  refine wpAny_ite_split (fun hab=>absurd hab (by decide)) (fun _=>?_)
  refine wpAny_ite_split (fun _=>?_) (fun hab=>absurd (by decide +kernel) hab)
  refine wpAny_bind (wpAny_typeOf hT ?_)
  exact wpAny_pure h
theorem kdl_set (K:Known w o es ep t):PySem.W.KdlSrc prog w "set" a a es.size (fun i v=>∃ e,(ordOf w a es ep)[i]?=some e∧v=e.2) (fun h=>h.get? a=some o) where
  type:=fun s ho=>⟨o,ho,K.ex.1⟩
  there:=fun h ho=>⟨Heap.lt_size ho,Heap.lt_size ho⟩
  keep:=fun h h' ho k=>k a (.inl rfl) o ho
  notList:=by decide
  notTuple:=by decide
  hint:=fun _ _ s _ ho hq=>hint_set (s:=s) ⟨o,ho,K.ex.1⟩ hq
  iter:=fun A s hh ho=>⟨setItO a es.size ep,_,fun E Q hq=>si_iter K ho hq,walk_set K hh s.heap.objs.size (Nat.ne_of_lt (Heap.lt_size ho)),⟨⟨_,Heap.get?_push_size _ rfl,rfl,by rw [slotAt_zero]; rfl⟩,Heap.get?_push_of_some _ ho⟩⟩
end
end L2
namespace L2
open PySem PySem.Spec PyProof.Rows
theorem known_of {w:World} {h:Heap} {a:Addr} {hs:List Int} (x:SetAt h a (ledOf w) hs) :
    ∃ o es ep t,h.get? a=some o∧Known w o es ep t∧(∀ e∈es.toList,∃ tk,e.2=.int e.1 tk)∧(es.toList.map (·.1)).Perm hs∧es.size≤8:=by
  obtain ⟨o,es,ep,t,ho,hex,hd,hi,hf,H,pm,nd⟩:=x
  exact ⟨o,es,ep,t,ho,⟨hex,hd,hf,H.pl,H.ld,H.ri,by rw [H.size]; simp⟩,hi,pm,size_home H⟩
theorem ints_of:∀ {us:List Value} {ns:List Int},us.length=ns.length→(∀ (j:Nat) u,us[j]?=some u→∃ n t,ns[j]?=some n∧u=.int n t)→IntsAre us ns
  | [],[],_,_=>.nil
  | [],n :: ns,h,_=>by simp at h
  | u :: us,[],h,_=>by simp at h
  | u :: us,n :: ns,h,f=>by
    obtain ⟨n',t,e,rfl⟩:=f 0 u rfl
    have e':n=n':=by simpa using e
    subst e'
    exact .cons n t (ints_of (by simpa using h) fun j v hv=>f (j + 1) v (by simpa using hv))
theorem met_nd (val:Nat→Int):∀ i,(metF val i).Nodup
  | 0=>List.nodup_nil
  | i + 1=>by
    have ih:=met_nd val i
    unfold metF
    split
    · exact ih
    · rename_i h
      exact List.nodup_append.mpr ⟨ih,by simp,fun a ha b hb e=>by
        have:b=val i:=by simpa using hb
        subst this; subst e; exact h ha⟩
def rSetH (ld:Bool) (K:PySem.W.Frag):List V→Hp→VK→Prop:=fun xs H Q=>∃ (p:Addr) (ns:List Int),xs=[.ref p]∧SqL K H p (ns.map V.int)∧ns.length≤8∧(∀ n∈ns,1≤n∧n≤8) ∧
  ∀ q,H q=none→Q (.ref q) (upd H q (.ext fun h=>SetAt h q ld (metF (fun i=>ns.getD i 0) ns.length)))
def rSortedH (ld:Bool):List V→Hp→VK→Prop:=fun xs H Q=>∃ (a:Addr) (hs:List Int),xs=[.ref a]∧H a=some (.ext fun h=>SetAt h a ld hs) ∧
  ∀ ns':List Int,ns'.Perm hs→ns'.Pairwise (·≤·)→∀ p,H p=none→Q (.ref p) (upd H p (.lst (ns'.map V.int)))
theorem call_sortedH {X:Cx} (hc:X.calm=true):CallR X (.builtin "sorted") (rSortedH (ledOf X.w)):=by
  intro pins s σ H xs us Q I r h
  obtain ⟨a,hs,rfl,ha,q⟩:=h
  obtain ⟨u,rfl,rx⟩:=vals1 r
  cases rx
  obtain ⟨sa,_,_⟩:=(show ObjOk X.prog X.w H s.heap a (.ext fun h=>SetAt h a (ledOf X.w) hs) from I.hok a _ ha)
  obtain ⟨o,es,ep,t,ho,K,hi,pm,h8⟩:=known_of sa
  refine Calls.call_function_entry kind_sorted plain_sorted entry_sorted (args_sorted1 _) ?_
  unfold Builtin.«sorted»
  refine wpAny_bind (m:=checkCount "sorted" 1 1 _) (wpAny_pure ?_)
  refine wpAny_bind (PySem.W.kdu_collect (A:=X.A.in1) (kdl_set (prog:=X.prog) (a:=a) K) (I.ok.hd hc) ho (Nat.le_trans h8 (by decide)) fun h' tk acc hk' hacc=>?_)
  have hl:acc.toList.length=es.size:=by rw [Array.length_toList]; exact hacc.1
  have hI:IntsAre acc.toList ((ordOf X.w a es ep).toList.map (·.1)):=ints_of (by rw [hl,List.length_map,Array.length_toList,ord_size]) fun j v e=>by
    obtain ⟨e2,h1,h2⟩:=hacc.2 j v (by rw [← Array.getElem?_toList]; exact e)
    have hm:e2∈es.toList:=(ord_perm (w:=X.w) (a:=a) (es:=es) (ep:=ep)).mem_iff.mp (List.mem_of_getElem? (by rw [Array.getElem?_toList]; exact h1))
    obtain ⟨tk,et⟩:=hi e2 hm
    exact ⟨e2.1,tk,by rw [List.getElem?_map,Array.getElem?_toList,h1]; rfl,by rw [h2,et]⟩
  refine wpAny_bind (wpAny_newList ?_ (by rw [hl]; exact Nat.le_trans h8 (by decide)))
  have I':Inv X pins σ H { s with heap:=h',toks:=tk }:=I.kept hk'
  have hoL:(h'.push { cls:=.type "list",data:=.seq acc.toList.toArray }).get? h'.objs.size=some (seqObj "list" acc.toList.toArray 0):=Heap.get?_push_size _ rfl
  refine wpAny_bind (wpAny_holding (wpAny_call_entry slot_list_sort ⟨_,hoL,rfl⟩ entry_list_sort (list_sort_tree hoL hI (by rw [hl]; exact Nat.lt_of_le_of_lt h8 (by decide)) fun out ns' a1 a2 a3=>⟨_,rfl,?_⟩) (args_list_sort _)))
  refine wpAny_pure ⟨_,rfl,?_⟩
  obtain ⟨e,he⟩:=sortedHeap_at (out:=out) hoL
  have hn:H h'.objs.size=none:=I'.hok.fresh (Nat.le_refl _)
  have pmh:ns'.Perm hs:=a2.trans ((ord_perm.map (·.1)).trans pm)
  refine ⟨.ref h'.objs.size,_,I'.laid (o:=.lst (ns'.map V.int)) (t':=tk) (fun b o z=>?_) (Nat.le_refl _) ?_,rfl,q ns' pmh a3 _ hn⟩
  · have lt:=Heap.lt_size z
    rw [sortedHeap_old (Nat.ne_of_lt lt) (by rw [size_push']; exact Nat.lt_succ_of_lt lt),Heap.get?_push_ne _ _ _ (Nat.ne_of_lt lt)]
    exact z
  · refine ⟨?_,out.toList,e,vals_ints a1,?_⟩
    · rw [List.length_map,a2.length_eq,List.length_map,Array.length_toList,ord_size]; exact Nat.le_trans h8 (by decide)
    · rw [Array.toArray_toList]; exact he
theorem call_setH {X:Cx} (hc:X.calm=true):CallR X (.type "set") (rSetH (ledOf X.w) X.K):=by
  intro pins s σ H xs us Q I r h
  obtain ⟨p,ns,rfl,hs,h8,hv,q⟩:=h
  obtain ⟨u,rfl,ru⟩:=vals1 r
  cases ru
  obtain ⟨its,rv,pl,hz⟩:=I.list hs
  have hl:=rv.length
  rw [List.length_map] at hl
  refine set_home (items:=its.toArray) (ns:=ns) (I.ok.hd hc) pl.isList (by simpa using intsAre_of rv) (by rw [List.size_toArray,← hl]; exact h8) (fun i hi=>hv _ (getD_mem (by rw [List.size_toArray,← hl] at hi; exact hi))) fun h' tk hS hk=>?_
  have hsz:its.toArray.size=ns.length:=by rw [List.size_toArray,← hl]
  rw [hsz] at hS
  have hS2:=hS
  obtain ⟨o,_,_,_,ho,_⟩:=hS
  exact ⟨.ref s.heap.objs.size,_,I.laid (o:=.ext fun h=>SetAt h s.heap.objs.size (ledOf X.w) (metF (fun i=>ns.getD i 0) ns.length)) (t':=tk) (fun b o z=>hk b o (Heap.lt_size z) z) (Nat.le_refl _) ⟨hS2,⟨o,ho⟩,fun h1 h2 a b=>a.at b⟩,rfl,q _ (I.hok.fresh (Nat.le_refl _))⟩
def tUp (te:TE):TE:=fun σ H Q=>∃ Q':VK,te σ H Q'∧∀ v H',Q' v H'→Q v H'
theorem pe_up {X:Cx} {e:Expr} {te:TE} (h:PE X e te):PE X e (tUp te):=fun pins s σ H Q I ⟨Q',q,m⟩ =>
  thn (h pins s σ H Q' I q) fun u s' ⟨v,H',I',r,z⟩=>⟨v,H',I',r,m v H' z⟩
theorem pe_weak {X:Cx} {e:Expr} {t t':TE} (h:PE X e t) (w:∀ σ H Q,t' σ H Q→t σ H Q):PE X e t':=fun pins s σ H Q I q=>h pins s σ H Q I (w _ _ _ q)
def tSortSet (K:PySem.W.Frag) (te:TE):TE:=fun σ H Q=>te σ H fun x H1=>∀ ld,rSetH ld K [x] H1 fun y H2=>rSortedH ld [y] H2 Q
theorem fb_sortset {X:Cx} {e:Expr} {te:TE} {p pos p2 pos2:Pos} (hc:X.calm=true) (hg:Gl X "sorted") (hm:X.mg "sorted"=none) (hg2:Gl X "set") (hm2:X.mg "set"=none) (h:PE X e te) (hst:isStar e=false:=by rfl) :
    PE X (.Call (.Name "sorted" p) [.Call (.Name "set" p2) [e] [] pos2] [] pos) (tSortSet X.K te) :=
  pe_weak (t:=tCB (rSortedH (ledOf X.w)) (tCons (tCB (rSetH (ledOf X.w) X.K) (tCons (tUp te) tNil)) tNil))
    (fb_cB (call_sortedH hc) hg hm (by decide +kernel) (pb_c (fb_cTy (call_setH hc) hg2 hm2 (by decide +kernel) (pb_c (pe_up h) pb_nil hst) (he:=hst)) pb_nil)) fun σ H Q q=>⟨_,q,fun v H' z=>z (ledOf X.w)⟩
theorem w_sortset {K:PySem.W.Frag} {te:TE} {σ:St} {H:Hp} {Q:VK}
    (h:te σ H fun x H1=>∃ (p:Addr) (ns:List Int),x=.ref p∧SqL K H1 p (ns.map V.int)∧ns.length≤8∧(∀ n∈ns,1≤n∧n≤8)∧∀ (out:List Int) (r:Addr) H2,out.Pairwise (· < ·)→(∀ k,k∈out↔k∈ns)→Same H1 H2→H1 r=none→H2 r=some (.lst (out.map V.int))→Q (.ref r) H2)
    (up:∀ Q1 Q2:VK,(∀ v H',Q1 v H'→Q2 v H')→te σ H Q1→te σ H Q2):tSortSet K te σ H Q:=by
  refine up _ _ (fun x H1 ⟨p,ns,hx,hs,h8,hv,q⟩ ld=>?_) h
  subst hx
  refine ⟨p,ns,rfl,hs,h8,hv,fun a ha=>⟨a,_,rfl,upd_same,fun ns' pm so r hr=>?_⟩⟩
  have hra:r≠a:=fun z=>by rw [z,upd_same] at hr; cases hr
  have hr1:H1 r=none:=by rw [upd_ne hra] at hr; exact hr
  have mm:=met_mem (fun i=>ns.getD i 0) ns.length
  have nd:(metF (fun i=>ns.getD i 0) ns.length).Nodup:=met_nd _ _
  refine q ns' r _ ?_ (fun k=>?_) ((Same.laid ha).laidT hr) hr1 upd_same
  · have nd':ns'.Nodup:=pm.nodup_iff.mpr nd
    exact (List.Pairwise.and so nd').imp fun ⟨a,b⟩=>by omega
  · rw [pm.mem_iff,mm]
    refine ⟨fun ⟨j,hj,e⟩=>by rw [← e]; exact getD_mem hj,fun hk=>?_⟩
    obtain ⟨j,hj,e⟩:=List.mem_iff_getElem.mp hk
    exact ⟨j,hj,by simp [hj,e]⟩
end L2
namespace L2
abbrev rMin2:List V→Hp→VK→Prop:=fun xs H Q=>∃ i j:Int,xs=[.int i,.int j]∧Q (.int (if j < i then j else i)) H
abbrev rMax2:List V→Hp→VK→Prop:=fun xs H Q=>∃ i j:Int,xs=[.int i,.int j]∧Q (.int (if j > i then j else i)) H
theorem w_min2 {i j:Int} {H:Hp} {Q:VK} (h:Q (.int (min i j)) H):rMin2 [.int i,.int j] H Q:=⟨i,j,rfl,by
  have e:(if j < i then j else i)=min i j:=by split <;> omega
  rw [e]; exact h⟩
theorem w_max2 {i j:Int} {H:Hp} {Q:VK} (h:Q (.int (max i j)) H):rMax2 [.int i,.int j] H Q:=⟨i,j,rfl,by
  have e:(if j > i then j else i)=max i j:=by split <;> omega
  rw [e]; exact h⟩
end L2
namespace HT
open PySem PySem.Spec PyProof.Rows
section
variable {prog:Program} {w:World} {A:Around} {E:Value→Shared→Prop} {s:Shared}
end
end HT
namespace L2
open PySem PySem.Spec PyProof.Rows
end L2
namespace LB.TS
open PySem L2 LB
def sb__law_book (K:PySem.W.Frag) (a b c d:V) (H:Hp) (Q:VK) (E:XK):Prop:=∃ (t dl:Addr) (f:Int) (ds:List Int) (st m n:Nat),a=.ref t∧H t=some (.tup [.int f,.ref dl])∧H dl=some (.lst (ds.map V.int))∧(∀ x∈ds,Dw x)∧b=.int st∧c=.int m∧d=.int n∧1≤m∧m≤8∧1≤n∧n≤6∧st + 1 + 2 * n * m≤ds.length∧ds.length≤200 ∧
  ∀ v B k H',Same H H'→Rep H' v (bookD B)→GoodBook m k B→k≤n→Q v H'
def sp__law_book (K:PySem.W.Frag):Sp:=sp4 (sb__law_book K)
def tb__law_book (K:PySem.W.Frag):TS :=
  (tSeq (tAsg (tVar 0) (gTup K 2 (gCons (gName 4) (gCons (gName 5) gNil))))
    (tSeq (tIfS (tTest (tOp (rEqU K) (tVar 4) (tC (.int 1)))) (tRet (tCall (sp__law_free_book K) [] E0 (tCons (tSl (rSlU K) (tVar 5) (tPart (tVar 1)) tNoPart) (tCons (tVar 2) (tCons (tVar 3) tNil))))) tNext)
    (tSeq (tAsg (tOp (rIx K) (tVar 5) (tVar 1)) (gName 6))
    (tSeq (tAsg (tOp (rIx K) (tLst (tCons (tC (.int 0)) (tCons (tC (.int 1)) (tCons (tC (.int 0)) (tCons (tC (.int 2)) (tCons (tC (.int 8)) (tCons (tC (.int 3)) (tCons (tC (.int 4)) (tCons (tC (.int 5)) (tCons (tC (.int 6)) (tCons (tC (.int 7)) tNil))))))))))) (tOp rModU (tOp rDivU (tVar 6) (tC (.int 8))) (tC (.int 10)))) (gName 7))
    (tSeq (tAsg (tCall (sp__law_shape K) [] E0 (tCons (tVar 6) (tCons (tOp (rAddU K) (tC (.int 1)) (tOp rModU (tVar 6) (tVar 3))) tNil))) (gName 8))
    (tSeq (tAsg (tComp [none,some 5,some 1,some 7,some 8] (iRng1 (tCons (tOp (rAddU K) (tC (.int 1)) (tOp rModU (tOp rDivU (tVar 6) (tC (.int 80))) (tVar 2))) tNil)) (gName 0) tYes (tCall (sp__law_day K) [] E0 (tCons (tOp (rIx K) (tVar 1) (tOp (rAddU K) (tOp (rAddU K) (tVar 2) (tC (.int 1))) (tVar 0))) (tCons (tVar 3) (tCons (tVar 4) tNil))))) (gName 9))
    (tSeq (tIfS (tTest (tOp (rEqU K) (tOp rModU (tOp rDivU (tVar 6) (tC (.int 1000))) (tC (.int 4))) (tC (.int 0)))) (tSeq (tAsg (tOp rModU (tOp rDivU (tVar 6) (tC (.int 4000))) (tCB (rLenU K) (tCons (tVar 9) tNil))) (gName 10))
    (tSeq (tAsg (tOp rModU (tOp rDivU (tVar 6) (tC (.int 40000))) (tCB (rLenU K) (tCons (tVar 8) tNil))) (gName 11))
    (tSeq (tAsg (tOp (rAddU K) (tOp (rAddU K) (tSl (rSlU K) (tOp (rIx K) (tOp (rIx K) (tVar 9) (tVar 10)) (tC (.int 1))) tNoPart (tPart (tVar 11))) (tTup (tCons (tOp (rAddU K) (tOp (rIx K) (tOp (rIx K) (tOp (rIx K) (tVar 9) (tVar 10)) (tC (.int 1))) (tVar 11)) (tC (.int 1))) tNil))) (tSl (rSlU K) (tOp (rIx K) (tOp (rIx K) (tVar 9) (tVar 10)) (tC (.int 1))) (tPart (tOp (rAddU K) (tVar 11) (tC (.int 1)))) tNoPart)) (gName 12))
    (tAsg (tTup (tCons (tOp (rIx K) (tOp (rIx K) (tVar 9) (tVar 10)) (tC (.int 0))) (tCons (tVar 12) tNil))) (gSub (tVar 9) (tVar 10) rSetL))))) tNext)
    (tRet (tCB (rTy_tuple K) (tCons (tVar 9) tNil))))))))))
theorem cut_from {xs:List V} {lo:Nat} (h:lo≤xs.length):cutV xs (some (lo:Int)) none=xs.drop lo:=by
  unfold cutV
  have e1:HT.sIx xs.length xs.length none=xs.length:=rfl
  rw [HT.sIx_nat,e1,Nat.min_eq_left h,List.take_of_length_le (by rw [List.length_drop]; omega)]
theorem rd__law_book {K:PySem.W.Frag} {a b c d:V} {H:Hp} {Q:VK} {E:XK} (h:sb__law_book K a b c d H Q E):tb__law_book K (Rt Q) [some a,some b,some c,some d,none,none,none,none,none,none,none,none,none] H:=by
  obtain ⟨t,dl,f,ds,st,m,n,rfl,ht,hd,dw,rfl,rfl,rfl,m1,m8,n1,n6,hl1,hl2,q⟩:=h
  have nm:1≤2 * n * m:=Nat.mul_le_mul (show 1≤2 * n by omega) m1
  have nm2:m≤2 * n * m:=by
    have:=Nat.mul_le_mul (show 1≤2 * n by omega) (Nat.le_refl m)
    omega
  unfold tb__law_book
  refine w_seq (w_asg (w_var rfl (w_gtup (SqT.of ht) rfl (w_gcons (w_name (w_gcons (w_name (w_gnil ?_))))))))
  dsimp only
  refine w_seq (w_ifS (w_test (w_op (w_var rfl (w_c (w_eqI (w_bl (iteD (fun hf=>?_) fun hf=>w_next ?_))))))))
  · refine w_ret (w_call (w_cons (w_sl (w_var rfl (w_part (w_var rfl (w_int (w_nopart (.inr ⟨dl,_,rfl,SqL.of hd,fun sl hsl=>?_⟩)))))))))
    rw [cut_from (by rw [List.length_map]; omega),← List.map_drop]
    exact w_cons (w_var rfl (w_cons (w_var rfl (w_nil ⟨_,_,_,rfl,sl,ds.drop st,m,n,rfl,upd_same,fun x hx=>dw x (List.mem_of_mem_drop hx),rfl,rfl,m1,m8,n1,n6,by rw [List.length_drop]; omega,by rw [List.length_drop]; omega,fun v B k H' s' rB gB kn=>q v B k H' ((Same.laid hsl).trans s') rB gB kn⟩))))
  have hget:∀ i,i < ds.length→Dw (ds.getD i 0):=fun i hi=>dw _ (L2.getD_mem hi)
  refine w_seq (w_asg (w_op (w_var rfl (w_var rfl (w_ixL (SqL.of hd) (atI_ints (by omega) (by omega)) (w_name ?_))))))
  obtain ⟨c0,c1⟩:=hget (st:Int).toNat (by omega)
  generalize ds.getD (st:Int).toNat 0=c at c0 c1 ⊢
  refine w_seq (w_asg (w_op (w_lst (w_cons (w_c (w_cons (w_c (w_cons (w_c (w_cons (w_c (w_cons (w_c (w_cons (w_c (w_cons (w_c (w_cons (w_c (w_cons (w_c (w_cons (w_c (w_nil ⟨by show 10≤sizeLine; decide,fun a1 ha1=>?_⟩))))))))))))))))))))))))
  refine w_op (w_op (w_var rfl (w_c (w_divI (by decide) (by decide) (w_c (w_modI (by decide) ?_))))))
  have way:∃ w:Int,atI [V.int 0,.int 1,.int 0,.int 2,.int 8,.int 3,.int 4,.int 5,.int 6,.int 7] (c / 8 % 10)=some (.int w):=by
    have r0:=Int.emod_nonneg (c / 8) (show (10:Int)≠0 by decide)
    have r1:=Int.emod_lt_of_pos (c / 8) (show (0:Int) < 10 by decide)
    generalize c / 8 % 10=z at r0 r1 ⊢
    rcases (by omega:z=0∨z=1∨z=2∨z=3∨z=4∨z=5∨z=6∨z=7∨z=8∨z=9) with rfl | rfl | rfl | rfl | rfl | rfl | rfl | rfl | rfl | rfl <;> exact ⟨_,rfl⟩
  obtain ⟨w,ew⟩:=way
  refine w_ixL (SqL.of upd_same) ew (w_name ?_)
  have s1:Same H (upd H a1 (.lst [.int 0,.int 1,.int 0,.int 2,.int 8,.int 3,.int 4,.int 5,.int 6,.int 7])):=Same.laid ha1
  generalize upd H a1 (.lst [.int 0,.int 1,.int 0,.int 2,.int 8,.int 3,.int 4,.int 5,.int 6,.int 7])=H1 at s1 ⊢
  obtain ⟨k,ek,k1,k2⟩:∃ k:Nat,1 + c % (n:Int)=(k:Int)∧1≤k∧k≤n:=by
    have r0:=Int.emod_nonneg c (show (n:Int)≠0 by omega)
    have r1:=Int.emod_lt_of_pos c (show (0:Int) < n by omega)
    exact ⟨(1 + c % (n:Int)).toNat,by omega,by omega,by omega⟩
  refine w_seq (w_asg (w_call (w_cons (w_var rfl (w_cons (w_op (w_c (w_op (w_var rfl (w_var rfl (w_modI (by omega) (w_addI (w_nil ?_)))))))))))))
  rw [ek]
  refine ⟨_,_,rfl,c,k,rfl,rfl,k1,by omega,fun p ss H2 hp2 s2 hp hl2 hss hsum=>w_name ?_⟩
  have s12:=s1.trans s2
  obtain ⟨g,eg,g1,g2⟩:∃ g:Nat,1 + c / 80 % (m:Int)=(g:Int)∧1≤g∧g≤m:=by
    have r0:=Int.emod_nonneg (c / 80) (show (m:Int)≠0 by omega)
    have r1:=Int.emod_lt_of_pos (c / 80) (show (0:Int) < m by omega)
    exact ⟨(1 + c / 80 % (m:Int)).toNat,by omega,by omega,by omega⟩
  refine w_seq (w_asg (w_comp (w_rng1 (w_cons (w_op (w_c (w_op (w_op (w_var rfl (w_c (w_divI (by decide) (by decide) (w_var rfl (w_modI (by omega) (w_addI (w_nil ?_)))))))))))))))
  rw [eg]
  refine ⟨_,rfl,(rng_ok (by omega)).1,(rng_ok (by omega)).2,fun D hD=>?_⟩
  refine comp_rangeP D (fun i v H=>∃ d,Rep H v (dayD d)∧GoodDay k d∧∀ x∈d.2,x≤1000000001) (fun i v H H' t ⟨d,r,z⟩=>⟨d,Rep.tu t _ _ (noL_day d) r,z⟩) (by omega) hD ⟨_,rfl⟩ (fun i H3 R hi s3 kk=>?_) (fun ys H3 hy hall s3 hD3=>w_name ?_)
  · have s13:=s12.trans s3
    refine w_call (w_cons (w_op (w_var rfl (w_op (w_op (w_var rfl (w_c (w_addI (w_var rfl (w_addI (w_ixL (SqL.of (s13 _ _ hd)) (atI_ints (by omega) (by omega)) ?_)))))))))))
    obtain ⟨e0,e1⟩:=hget ((st:Int) + 1 + (i:Int)).toNat (by omega)
    refine w_cons (w_var rfl (w_cons (w_var rfl (w_nil ⟨_,_,_,rfl,_,w,p,ss,rfl,rfl,rfl,e0,e1,s3 _ _ hp,by omega,by omega,hss,fun v d H4 s4 r gd gx=>kk v H4 s4 ⟨d,r,?_,gx⟩⟩))))
    rw [← hl2]; exact gd
  obtain ⟨B,rB,gB⟩:=days_of (G:=fun d=>GoodDay k d∧∀ x∈d.2,x≤1000000001) (fun i v e=>by obtain ⟨d,h1,h2⟩:=hall i v e; exact ⟨d,h1,h2⟩)
  have lB:B.length=g:=by have:=rB.length; rw [List.length_map] at this; omega
  have s13:=s12.trans s3
  have fD:H D=none:=s12.free hD
  have fin:∀ (B:List (List Int×List Int)) (ys:List V) (H4:Hp) r8 r9 r10,Same H H4→H4 D=some (.lst ys)→Reps H4 ys (B.map dayD)→B.length=g→(∀ d∈B,GoodDay k d∧∀ x∈d.2,x≤1000000002) →
      (tRet (tCB (rTy_tuple K) (tCons (tVar 9) tNil))) (Rt Q) [some (.ref t),some (.int st),some (.int m),some (.int n),some (.int f),some (.ref dl),some (.int c),some (.int w),some (.ref p),some (.ref D),r8,r9,r10] H4:=by
    intro B ys H4 r8 r9 r10 s4 hD4 r4 l4 g4
    refine w_ret (w_cb (w_cons (w_var rfl (w_nil (w_tupL (SqL.of hD4) fun u hu=>?_)))))
    refine q _ B k _ (s4.laidT hu) ?_ ⟨k1,by omega,by omega,by omega,fun d hd=>(g4 d hd).1⟩ k2
    unfold bookD Rep
    exact ⟨u,ys,rfl,upd_same,Reps.mono (Same.laid hu) _ _ r4⟩
  have gB2:∀ d∈B,GoodDay k d∧∀ x∈d.2,x≤1000000002:=fun d hd=>⟨(gB d hd).1,fun x hx=>by have:=(gB d hd).2 x hx; omega⟩
  refine w_seq (w_ifS (w_test (w_op (w_op (w_op (w_var rfl (w_c (w_divI (by decide) (by decide) (w_c (w_modI (by decide) (w_c (w_eqI (w_bl (iteD (fun _=>?_) fun _=>w_next (fin B ys H3 _ _ _ s13 hD3 rB lB gB2)))))))))))))))
  refine w_seq (w_asg (w_op (w_op (w_var rfl (w_c (w_divI (by decide) (by decide) (w_cb (w_cons (w_var rfl (w_nil (w_lenL (SqL.of hD3) (w_modI (by omega) (w_name ?_)))))))))))))
  have hpp:H3 p=some (.lst (ss.map V.int)):=s3 _ _ hp
  refine w_seq (w_asg (w_op (w_op (w_var rfl (w_c (w_divI (by decide) (by decide) (w_cb (w_cons (w_var rfl (w_nil (w_lenL (SqL.of hpp) (w_modI (by rw [List.length_map]; omega) (w_name ?_)))))))))))))
  rw [List.length_map]
  obtain ⟨kk,ekk,hkk⟩:∃ z:Nat,c / 4000 % (ys.length:Int)=(z:Int)∧z < ys.length:=by
    have r0:=Int.emod_nonneg (c / 4000) (show (ys.length:Int)≠0 by omega)
    have r1:=Int.emod_lt_of_pos (c / 4000) (show (0:Int) < ys.length by omega)
    exact ⟨(c / 4000 % (ys.length:Int)).toNat,by omega,by omega⟩
  obtain ⟨j,ej,hj⟩:∃ z:Nat,c / 40000 % (ss.length:Int)=(z:Int)∧z < ss.length:=by
    have r0:=Int.emod_nonneg (c / 40000) (show (ss.length:Int)≠0 by omega)
    have r1:=Int.emod_lt_of_pos (c / 40000) (show (0:Int) < ss.length by omega)
    exact ⟨(c / 40000 % (ss.length:Int)).toNat,by omega,by omega⟩
  rw [ekk,ej]
  obtain ⟨d,hd⟩:∃ d,B[kk]?=some d:=⟨B[kk]'(by omega),by simp [show kk < B.length by omega]⟩
  obtain ⟨v,hv⟩:∃ v,ys[kk]?=some v:=⟨ys[kk],by simp [hkk]⟩
  obtain ⟨d',hd',rd⟩:=rB.get hv
  rw [List.getElem?_map,hd] at hd'
  cases hd'
  obtain ⟨pd,p1,p2,rfl,e1,e2,e3⟩:=day_rep rd
  have gd:=(gB d (List.mem_of_getElem? hd)).1
  have gx:=(gB d (List.mem_of_getElem? hd)).2
  have l2:=gd.l2
  refine w_seq (w_asg (w_op (w_op (w_sl (w_op (w_op (w_var rfl (w_var rfl (w_ixL (SqL.of hD3) (atI_nat hv) (w_c (w_ixT (SqT.of e1) (v:=.ref p2) rfl (w_nopart (w_part (w_var rfl (w_int (w_cutTo e3 (by rw [List.length_map]; omega) fun t1 H4 s4 f1=>?_))))))))))))))))
  have hD4:=s4 _ _ hD3
  have e1':=s4 _ _ e1
  have e3':=s4 _ _ e3
  refine w_tup (w_cons (w_op (w_op (w_op (w_op (w_var rfl (w_var rfl (w_ixL (SqL.of hD4) (atI_nat hv) (w_c (w_ixT (SqT.of e1') (v:=.ref p2) rfl (w_var rfl (w_ixT (SqT.of e3') (ixi (by omega)) (w_c (w_addI (w_nil ⟨by show 1≤sizeLine; decide,fun t2 ht2=>?_⟩)))))))))))))))
  have f1':upd H4 t2 (.tup [.int (d.2.getD j 0 + 1)]) t1=some (.tup ((d.2.map V.int).take j)):=Same.laid ht2 _ _ f1
  have s5:Same H4 (upd H4 t2 (.tup [.int (d.2.getD j 0 + 1)])):=Same.laid ht2
  refine w_cat f1' upd_same (by rw [List.length_take,List.length_map]; show min j d.2.length + 1≤1000; omega) fun t3 H6 s6 f3=>?_
  have hD6:=s6 _ _ (s5 _ _ hD4)
  have e1'':=s6 _ _ (s5 _ _ e1')
  have e3'':=s6 _ _ (s5 _ _ e3')
  refine w_sl (w_op (w_op (w_var rfl (w_var rfl (w_ixL (SqL.of hD6) (atI_nat hv) (w_c (w_ixT (SqT.of e1'') (v:=.ref p2) rfl (w_part (w_op (w_var rfl (w_c (w_addI (w_int (w_nopart (w_cutFrom (j:=j + 1) e3'' (by simp) (by omega) (by rw [List.length_map]; omega) fun t4 H7 s7 f4=>?_)))))))))))))))
  refine w_cat (s7 _ _ f3) f4 (by simp; omega) fun t5 H8 s8 f5=>w_name ?_
  have s38:Same H3 H8:=(((s4.trans s5).trans s6).trans s7).trans s8
  have hD8:=s38 _ _ hD3
  have e18:=s38 _ _ e1
  refine w_asg (w_tup (w_cons (w_op (w_op (w_var rfl (w_var rfl (w_ixL (SqL.of hD8) (atI_nat hv) (w_c (w_ixT (SqT.of e18) (v:=.ref p1) rfl (w_cons (w_var rfl (w_nil ⟨by show 2≤sizeLine; decide,fun t6 ht6=>?_⟩))))))))))))
  have s9:Same H8 (upd H8 t6 (.tup [.ref p1,.ref t5])):=Same.laid ht6
  refine w_sub (w_var rfl (w_var rfl (w_setL (s9 _ _ hD8) (ixN_at (by omega) (by omega)) ?_)))
  rw [Int.toNat_natCast]
  have eam:(d.2.map V.int).take j ++ [V.int (d.2.getD j 0 + 1)] ++ (d.2.map V.int).drop (j + 1)=(d.2.set j (d.2.getD j 0 + 1)).map V.int:=by
    rw [List.map_set,List.set_eq_take_append_cons_drop,if_pos (by rw [List.length_map]; omega)]
    simp
  rw [eam] at f5
  have tu:=Tu.put (ys:=ys.set kk (.ref t6)) (s9 _ _ hD8)
  refine fin (B.set kk (d.1,d.2.set j (d.2.getD j 0 + 1))) (ys.set kk (.ref t6)) _ _ _ _ ?_ upd_same ?_ (by rw [List.length_set]; exact lB) (fun e he=>?_)
  · exact ((s13.trans s38).trans s9).put fD
  · have r1:Reps (upd (upd H8 t6 (.tup [.ref p1,.ref t5])) D (.lst (ys.set kk (.ref t6)))) ys (B.map dayD):=Reps.tu ((s38.trans s9).tu.trans tu) _ _ (noL_days B) rB
    have:=Reps.set kk (x:=.ref t6) (d:=dayD (d.1,d.2.set j (d.2.getD j 0 + 1))) r1 (rep_day (p1:=p1) (p2:=t5) (tu _ _ upd_same) (tu _ _ (s9 _ _ (s38 _ _ e2))) (tu _ _ (s9 _ _ f5)))
    rw [List.map_set]; exact this
  · rcases List.mem_or_eq_of_mem_set he with z | z
    · exact gB2 e z
    · subst z
      have hg:=gd.am _ (getD_in (show j < d.2.length by omega))
      have hg2:=gx _ (getD_in (show j < d.2.length by omega))
      refine ⟨⟨gd.l1,by rw [List.length_set]; exact l2,gd.pr,fun x hx=>?_,⟨_,List.mem_set (by omega) _,by omega⟩⟩,fun x hx=>?_⟩
      · rcases List.mem_or_eq_of_mem_set hx with z | z
        · exact gd.am x z
        · subst z; omega
      · rcases List.mem_or_eq_of_mem_set hx with z | z
        · have:=gx x z
          omega
        · subst z; omega
def BdI (m:Nat) (x:Int):Prop:=-(2 ^ (150 * m)) < x∧x < 2 ^ (150 * m)
theorem BdI.mul {m n:Nat} {x y:Int} (hm:m≤1000) (hn:n≤1000) (hx:BdI m x) (hy:BdI n y):IntMulOk x y :=
  IntMulOk.of_le (bits_of hx.1 hx.2) (bits_of hy.1 hy.2) (by omega)
def GRep (H:Hp) (v:V) (gap:Nat→Nat→Int) (n:Nat):Prop:=∃ g rs,v=.ref g∧H g=some (.lst rs)∧rs.length=n∧∀ i,i < n→∃ r,rs[i]?=some (.ref r)∧H r=some (.lst ((List.range n).map fun j=>V.int (gap i j)))
def wkv (f:Wt→Int) (st:List Wt):List (Key×V):=st.map fun a=>(Sum.inl (a.1:Int),.int (f a))
theorem wkv_keys (f:Wt→Int) (st:List Wt):(wkv f st).map (·.1)=(st.map fun a=>(a.1:Int)).map Sum.inl:=by unfold wkv; simp
theorem wkv_val (f:Wt→Int):∀ {st:List Wt},(st.map (·.1)).Nodup→∀ a∈st,valV (wkv f st) (Sum.inl (a.1:Int))=some (.int (f a))
  | [],_,a,ha=>by cases ha
  | b :: st,nd,a,ha=>by
    have nd':=List.nodup_cons.mp (show (b.1 :: st.map (·.1)).Nodup from nd)
    show valV ((Sum.inl (b.1:Int),V.int (f b)) :: wkv f st) _=_
    rcases List.mem_cons.mp ha with rfl | h
    · exact valV_pos rfl
    · rw [valV_neg (fun z=>?_)]
      · exact wkv_val f nd'.2 a h
      · have z':(b.1:Int)=(a.1:Int):=Sum.inl.inj z
        have e:b.1=a.1:=by omega
        exact nd'.1 (by rw [e]; exact List.mem_map.mpr ⟨a,h,rfl⟩)
theorem lowD_snoc {gap:Nat→Nat→Int} {a:Wt} (d:Nat):∀ (ds:List Nat) (m:Int),lowD gap a (ds ++ [d]) m=min (lowD gap a ds m) (a.2.1 + a.2.2 * gap a.1 d)
  | [],m=>rfl
  | e :: ds,m=>lowD_snoc d ds _
theorem lowW_snoc {gap:Nat→Nat→Int} {l:List Nat} (a:Wt):∀ (st:List Wt) (m:Int),lowW gap l (st ++ [a]) m=lowD gap a l (lowW gap l st m)
  | [],m=>rfl
  | b :: st,m=>lowW_snoc a st _
theorem wtW_snoc {gap:Nat→Nat→Int} {d:Nat} {own:Int} (a:Wt):∀ (st:List Wt) (w:Int),wtW gap d own (st ++ [a]) w=max (wtW gap d own st w) (-((own - a.2.1) / gap d a.1))
  | [],w=>rfl
  | b :: st,w=>wtW_snoc a st _
theorem upd_back {H:Hp} {d:Addr} {x y:HO} (e:H d=some y):upd (upd H d x) d y=H:=by
  funext b
  by_cases hb:b=d
  · subst hb; rw [upd_same,e]
  · rw [upd_ne hb,upd_ne hb]
structure StOk (m n:Nat) (st:List Wt):Prop where
  nd:(st.map (·.1)).Nodup
  lt:∀ a∈st,a.1 < n
  bw:∀ a∈st,BdI m a.2.1∧BdI m a.2.2
def GapOk (n:Nat) (gap:Nat→Nat→Int):Prop:=∀ i j,i < n→j < n→BdI 4 (gap i j)
def sb_worth_below (K:PySem.W.Frag) (a b c d:V) (H:Hp) (Q:VK) (E:XK):Prop:=∃ (gap:Nat→Nat→Int) (m n:Nat) (st:List Wt) (w u l:Addr) (ds:List Nat),GRep H a gap n∧GapOk n gap∧n≤8∧m≤900∧StOk m n st∧b=.ref w∧H w=some (.dK (wkv (·.2.1) st))∧c=.ref u∧H u=some (.dK (wkv (·.2.2) st))∧w≠u ∧
  d=.ref l∧H l=some (.lst (ds.map nV))∧(∀ x∈ds,x < n)∧Q (.int (lowW gap ds st 0)) H
def sp_worth_below (K:PySem.W.Frag):Sp:=sp4 (sb_worth_below K)
def sb_weight_below (K:PySem.W.Frag) (a b c d:V) (H:Hp) (Q:VK) (E:XK):Prop:=∃ (gap:Nat→Nat→Int) (m n:Nat) (st:List Wt) (w:Addr) (e:Nat) (own:Int),GRep H a gap n∧GapOk n gap∧n≤8∧m≤900∧StOk m n st∧b=.ref w∧H w=some (.dK (wkv (·.2.1) st))∧c=.int (e:Nat)∧d=.int own∧e < n ∧
  (∀ a∈st,0 < gap e a.1)∧Q (.int (wtW gap e own st 1)) H
def sp_weight_below (K:PySem.W.Frag):Sp:=sp4 (sb_weight_below K)
def cmF (gap:Nat→Nat→Int) (i j:Nat):Int:=if i=j then 1 else markF (gap i j)
def cmR (gap:Nat→Nat→Int) (n i:Nat):List Int:=(List.range n).map fun j=>cmF gap i j
def cmM (gap:Nat→Nat→Int) (n:Nat):List (List Int):=(List.range n).map fun i=>cmR gap n i
theorem cm_len (gap:Nat→Nat→Int) (n:Nat):(cmM gap n).length=n:=by unfold cmM; simp
theorem cm_row {gap:Nat→Nat→Int} {n i:Nat} (h:i < n):(cmM gap n).getD i []=cmR gap n i:=by unfold cmM; simp [h]
theorem cm_sq (gap:Nat→Nat→Int) (n:Nat):∀ r∈cmM gap n,r.length=(cmM gap n).length:=fun r hr=>by
  obtain ⟨i,_,rfl⟩:=List.mem_map.mp hr
  rw [cm_len]; unfold cmR; simp
theorem grep_same {H H':Hp} {v:V} {gap:Nat→Nat→Int} {n:Nat} (s:Same H H') (h:GRep H v gap n):GRep H' v gap n :=
  let ⟨g,rs,e,hg,l,r⟩:=h; ⟨g,rs,e,s _ _ hg,l,fun i hi=>let ⟨p,a,b⟩:=r i hi; ⟨p,a,s _ _ b⟩⟩
def sb_cut_mark (K:PySem.W.Frag) (a b c:V) (H:Hp) (Q:VK) (E:XK):Prop:=∃ (gap:Nat→Nat→Int) (n i j:Nat),GRep H a gap n∧b=.int (i:Nat)∧c=.int (j:Nat)∧i < n∧j < n∧Q (.int (cmF gap i j)) H
def sp_cut_mark (K:PySem.W.Frag):Sp:=sp3 (sb_cut_mark K)
def sb_cut_marks_from (K:PySem.W.Frag) (a b:V) (H:Hp) (Q:VK) (E:XK):Prop:=∃ (gap:Nat→Nat→Int) (n i:Nat),GRep H a gap n∧n≤8∧b=.int (i:Nat)∧i < n∧∀ p H',H p=none→Same H H'→H' p=some (.lst ((cmR gap n i).map V.int))→Q (.ref p) H'
def sp_cut_marks_from (K:PySem.W.Frag):Sp:=sp2 (sb_cut_marks_from K)
def sb_cut_marks_of (K:PySem.W.Frag) (a:V) (H:Hp) (Q:VK) (E:XK):Prop:=∃ (gap:Nat→Nat→Int) (n:Nat),GRep H a gap n∧n≤8∧∀ v H',Same H H'→MRep H' v (cmM gap n)→Q v H'
def sp_cut_marks_of (K:PySem.W.Frag):Sp:=sp1 (sb_cut_marks_of K)
theorem comp_enum {K:PySem.W.Frag} {a:Addr} {l:List (Option Nat)} {g:TG} {tc:TT} {te:TE} {σ:St} {H1:Hp} {Q:Hp→Prop} (D:Addr) (xs:List V) (Pv:Nat→List V→St→Hp→Prop) (hn:xs.length≤1000) (hy:∀ i ys σ H,Pv i ys σ H→ys.length≤i)
    (hl:∀ i ys σ H,Pv i ys σ H→H D=some (.lst ys)→SqL K H a xs) (h0:Pv 0 [] (iniOf l σ) (upd H1 D (.lst [])))
    (hs:∀ i x ys σ H p,xs[i]?=some x→Pv i ys σ H→H D=some (.lst ys)→H p=none→g (.ref p) σ (upd H p (.tup [.int (i:Nat),x])) fun σ2 H2=>tc σ2 H2 fun b H3 =>
      if b=true then te σ2 H3 fun v H4=>H4 D=some (.lst ys)∧Pv (i + 1) (ys ++ [v]) σ2 (upd H4 D (.lst (ys ++ [v]))) else H3 D=some (.lst ys)∧Pv (i + 1) ys σ2 H3)
    (hd:∀ ys σ H,Pv xs.length ys σ H→H D=some (.lst ys)→Q H) :
    ∃ W:CompW,(∃ m,W 0 m [] (iniOf l σ) (upd H1 D (.lst [])))∧compStep (Ite K a) g tc te D W Q:=by
  refine ⟨fun i m ys σ H=>m=xs.length - i∧i≤xs.length∧H D=some (.lst ys)∧Pv i ys σ H,⟨xs.length,by simp,Nat.zero_le _,upd_same,h0⟩,?_⟩
  rintro i m ys σ H ⟨rfl,hi,hD,p⟩
  refine ⟨hD,?_⟩
  have q:=hl i ys σ H p hD
  by_cases hlt:i < xs.length
  · refine .inr ⟨⟨xs,xs[i],q,by simp [hlt]⟩,fun v σ2 H4=>H4 D=some (.lst ys)∧Pv (i + 1) (ys ++ [v]) σ2 (upd H4 D (.lst (ys ++ [v]))),fun σ2 H3=>H3 D=some (.lst ys)∧Pv (i + 1) ys σ2 H3,fun v σ2 H4 q=>?_,fun σ2 H3 q=>⟨xs.length - (i + 1),by omega,rfl,hlt,q⟩,fun x H' y=>?_⟩
    · exact ⟨q.1,small1000 (Nat.le_trans (hy _ _ _ _ p) (by omega)),xs.length - (i + 1),by omega,rfl,hlt,upd_same,q.2⟩
    · obtain ⟨t,y1,ht,rfl,y2,rfl⟩:=y
      exact hs i y1 ys σ H t (y2 xs q) p hD ht
  · have e:i=xs.length:=by omega
    subst e
    exact .inl ⟨⟨xs,q,Nat.le_refl _⟩,hd ys σ H p hD⟩
theorem drep_len {H:Hp} {wa:Addr}:∀ {kvs:List (Key×V)} {c:Ch},DRep H wa kvs c→kvs.length=c.length
  | [],[],_=>rfl
  | [],_ :: _,h=>h.elim
  | _ :: _,[],h=>h.elim
  | _ :: r,_ :: s,h=>by rw [List.length_cons,List.length_cons,drep_len h.2.2]
theorem mrep_same {H H':Hp} {v:V} {M:List (List Int)} (s:Same H H') (h:MRep H v M):MRep H' v M :=
  let ⟨m,rs,e,hm,l,r⟩:=h; ⟨m,rs,e,s _ _ hm,l,fun i hi=>let ⟨p,a,b⟩:=r i hi; ⟨p,a,s _ _ b⟩⟩
abbrev hiF (M:List (List Int)) (d:Nat):Nat:=(chainsF M d).length
def LvRep (H:Hp) (v:V) (ls:List (List Nat)):Prop:=∃ p rs,v=.ref p∧H p=some (.lst rs)∧rs.length=ls.length∧∀ (i:Nat) l,ls[i]?=some l→∃ q,rs[i]?=some (.ref q)∧H q=some (.lst (l.map nV))
def sb_levels_of (K:PySem.W.Frag) (a:V) (H:Hp) (Q:VK) (E:XK):Prop:=∃ M:List (List Int),MRep H a M∧M.length≤8∧(∀ r∈M,r.length=M.length) ∧
  ∀ v ks H',Same H H'→ks.Pairwise (fun a b=>b < a)→(∀ k,k∈ks↔∃ d,d < M.length∧hiF M d=k)→LvRep H' v (levelsF (hiF M) M.length ks)→Q v H'
def sp_levels_of (K:PySem.W.Frag):Sp:=sp1 (sb_levels_of K)
theorem hi_pos (M:List (List Int)) (d:Nat):1≤hiF M d:=by
  have h:=self_in M d
  show 1≤(chainsF M d).length
  cases e:chainsF M d with
  | nil=>rw [e] at h; cases h
  | cons c r=>simp
theorem lev_snoc (h:Nat→Nat) (n:Nat) (ks:List Nat) (k:Nat):levelsF h n (ks ++ [k])=levelsF h n ks ++ [(List.range n).filter fun d=>h d == k]:=by unfold levelsF; simp
theorem bd_abs {m:Nat} {x:Int}:BdI m x↔x.natAbs < 2 ^ (150 * m):=by
  have e:(((2:Nat) ^ (150 * m):Nat):Int)=(2:Int) ^ (150 * m):=by rw [Int.natCast_pow]; rfl
  unfold BdI
  rw [← e]
  omega
theorem BdI.mono {m k:Nat} {x:Int} (h:BdI m x) (hk:m≤k):BdI k x :=
  bd_abs.mpr (Nat.lt_of_lt_of_le (bd_abs.mp h) (Nat.pow_le_pow_right (by decide) (by omega)))
theorem BdI.prod {m k:Nat} {x y:Int} (h:BdI m x) (g:BdI k y):BdI (m + k) (x * y):=by
  have h1:=bd_abs.mp h
  have h2:=bd_abs.mp g
  refine bd_abs.mpr ?_
  rw [Int.natAbs_mul,Nat.mul_add,Nat.pow_add]
  exact Nat.mul_lt_mul'' h1 h2
theorem pow_twice (m:Nat):2 * 2 ^ (150 * m)≤2 ^ (150 * (m + 1)):=by
  rw [Nat.mul_add,Nat.pow_add,Nat.mul_comm]
  exact Nat.mul_le_mul_left _ (by decide)
theorem BdI.add {m:Nat} {x y:Int} (h:BdI m x) (g:BdI m y):BdI (m + 1) (x + y):=by
  have h1:=bd_abs.mp h
  have h2:=bd_abs.mp g
  have h3:=pow_twice m
  exact bd_abs.mpr (by omega)
theorem BdI.neg {m:Nat} {x:Int} (h:BdI m x):BdI m (-x):=bd_abs.mpr (by have:=bd_abs.mp h; omega)
theorem BdI.div {m:Nat} {x g:Int} (h:BdI m x) (hg:0 < g):BdI (m + 1) (x / g):=by
  have h1:=bd_abs.mp h
  have h3:=pow_twice m
  have hp:0 < 2 ^ (150 * m):=Nat.pow_pos (by decide)
  have a1:x / g * g≤x:=Int.ediv_mul_le _ (by omega)
  have a2:x < (x / g + 1) * g:=Int.lt_ediv_add_one_mul_self _ hg
  refine bd_abs.mpr ?_
  have b1:x / g≤x.natAbs:=by
    rcases Int.lt_or_le x 0 with z | z
    · have:x / g < 0:=Int.ediv_neg_of_neg_of_pos z hg
      omega
    · have:=Int.ediv_le_self g z
      omega
  have b2:-(x.natAbs:Int)≤x / g:=by
    rcases Int.lt_or_le x 0 with z | z
    · have c:=(Int.le_ediv_iff_mul_le hg (a:=-(x.natAbs:Int)) (b:=x)).mpr (by
        have:-(x.natAbs:Int)=x:=by omega
        rw [this]
        have:=Int.mul_le_mul_of_nonpos_left (a:=x) (b:=g) (c:=1) (by omega) (by omega)
        omega)
      exact c
    · have:=Int.ediv_nonneg z (Int.le_of_lt hg)
      omega
  omega
theorem BdI.min {m:Nat} {x y:Int} (h:BdI m x) (g:BdI m y):BdI m (min x y):=by
  rcases Int.le_total x y with z | z
  · rw [Int.min_eq_left z]; exact h
  · rw [Int.min_eq_right z]; exact g
theorem BdI.max {m:Nat} {x y:Int} (h:BdI m x) (g:BdI m y):BdI m (max x y):=by
  rcases Int.le_total x y with z | z
  · rw [Int.max_eq_right z]; exact g
  · rw [Int.max_eq_left z]; exact h
theorem bd_zero (m:Nat):BdI m 0:=bd_abs.mpr (Nat.pow_pos (by decide))
theorem bd_one (m:Nat):BdI (m + 1) 1:=bd_abs.mpr (by have:=pow_twice m; have hp:0 < 2 ^ (150 * m):=Nat.pow_pos (by decide); show 1 < _; omega)
theorem lowD_bd {gap:Nat→Nat→Int} {m n:Nat} (gok:GapOk n gap) {a:Wt} (ha:a.1 < n) (h1:BdI m a.2.1) (h2:BdI m a.2.2):∀ (ds:List Nat) (x:Int),(∀ d∈ds,d < n)→BdI (m + 5) x→BdI (m + 5) (lowD gap a ds x)
  | [],x,_,h=>h
  | d :: ds,x,hd,h=>lowD_bd gok ha h1 h2 ds _ (fun e he=>hd e (by simp [he])) (h.min ((h1.mono (by omega)).add (h2.prod (gok a.1 d ha (hd d (by simp))))))
theorem lowW_bd {gap:Nat→Nat→Int} {m n:Nat} (gok:GapOk n gap) {ds:List Nat} (hd:∀ d∈ds,d < n):∀ (st:List Wt) (x:Int),(∀ a∈st,a.1 < n∧BdI m a.2.1∧BdI m a.2.2)→BdI (m + 5) x→BdI (m + 5) (lowW gap ds st x)
  | [],x,_,h=>h
  | a :: st,x,hs,h=>lowW_bd gok hd st _ (fun b hb=>hs b (by simp [hb])) (lowD_bd gok (hs a (by simp)).1 (hs a (by simp)).2.1 (hs a (by simp)).2.2 ds x hd h)
theorem wtW_bd {gap:Nat→Nat→Int} {m d:Nat} {own:Int} (ho:BdI (m + 5) own):∀ (st:List Wt) (x:Int),(∀ a∈st,BdI m a.2.1∧0 < gap d a.1)→BdI (m + 7) x→BdI (m + 7) (wtW gap d own st x)
  | [],x,_,h=>h
  | a :: st,x,hs,h=>by
    have e:own - a.2.1=own + -a.2.1:=by omega
    refine wtW_bd ho st _ (fun b hb=>hs b (by simp [hb])) (h.max ?_)
    rw [e]
    exact (BdI.div (m:=m + 6) (ho.add ((hs a (by simp)).1.neg.mono (by omega))) (hs a (by simp)).2).neg
theorem step_ok {gap:Nat→Nat→Int} {m n:Nat} {st:List Wt} {level:List Nat} (gok:GapOk n gap) (so:StOk m n st) (hl:∀ d∈level,d < n) (nd:(st.map (·.1) ++ level).Nodup) (pos:∀ a∈st,∀ d∈level,0 < gap d a.1):StOk (m + 7) n (stepW gap st level):=by
  have hst:∀ a∈st,a.1 < n∧BdI m a.2.1∧BdI m a.2.2:=fun a ha=>⟨so.lt a ha,so.bw a ha⟩
  have ob:=lowW_bd gok hl st 0 hst (bd_zero _)
  refine ⟨by rw [days_step]; exact nd,fun a ha=>?_,fun a ha=>?_⟩
  · rcases List.mem_append.mp ha with z | z
    · exact so.lt a z
    · obtain ⟨d,hd,rfl⟩:=List.mem_map.mp z
      exact hl d hd
  · rcases List.mem_append.mp ha with z | z
    · exact ⟨(so.bw a z).1.mono (by omega),(so.bw a z).2.mono (by omega)⟩
    · obtain ⟨d,hd,rfl⟩:=List.mem_map.mp z
      exact ⟨ob.mono (by omega),wtW_bd ob st 1 (fun a ha=>⟨(so.bw a ha).1,pos a ha d hd⟩) (bd_one _)⟩
theorem run_snoc {gap:Nat→Nat→Int} (l:List Nat):∀ (ls:List (List Nat)) (st:List Wt),runW gap (ls ++ [l]) st=stepW gap (runW gap ls st) l
  | [],st=>rfl
  | m :: ls,st=>run_snoc l ls _
theorem val_none {kvs:List (Key×V)} {k:Key} (h:∀ kv∈kvs,kv.1≠k):valV kvs k=none:=by
  unfold valV
  rw [List.find?_eq_none.mpr (fun kv hkv=>by simpa using h kv hkv)]
  rfl
theorem wkv_app (f:Wt→Int) (st st':List Wt):wkv f (st ++ st')=wkv f st ++ wkv f st':=by unfold wkv; exact List.map_append ..
def wOf (f:Wt→Int) (st:List Wt) (d:Nat):Int:=((st.find? fun a=>a.1 == d).map f).getD 0
def TsRep (H0 H:Hp) (v:V) (st:List Wt) (n:Nat):Prop:=∃ t p1 p2,v=.ref t∧H t=some (.tup [.str "taste",.ref p1,.ref p2])∧H0 p1=none∧H0 p2=none∧p1≠p2∧H p1=some (.lst ((List.range n).map fun d=>V.int (wOf (·.2.1) st d)))∧H p2=some (.lst ((List.range n).map fun d=>V.int (wOf (·.2.2) st d)))
def sb_taste_by (K:PySem.W.Frag) (a b:V) (H:Hp) (Q:VK) (E:XK):Prop:=∃ (gap:Nat→Nat→Int) (n:Nat) (ls:List (List Nat)),GRep H a gap n∧GapOk n gap∧n≤8∧LvRep H b ls∧(∀ l∈ls,∀ d∈l,d < n)∧ls.flatten.Perm (List.range n)∧ls.length≤9∧ls.Pairwise (fun l m=>∀ d∈l,∀ e∈m,0 < gap e d) ∧
  ∀ v H',Same H H'→TsRep H H' v (runW gap ls []) n→Q v H'
def sp_taste_by (K:PySem.W.Frag):Sp:=sp2 (sb_taste_by K)
def rngF (M:List (List Int)):Option (List Nat):=(stepsF M).findSome? fun s=>if inK (chainsF M s.2) s.1=true then some (chOf (chainsF M s.2) s.1) else none
def ksF (h:Nat→Nat) (n:Nat):List Nat:=(List.range 9).reverse.filter fun k=>(List.range n).any fun d=>h d == k
def tasteW (gap:Nat→Nat→Int) (n:Nat):List Wt:=runW gap (levelsF (hiF (cmM gap n)) n (ksF (hiF (cmM gap n)) n)) []
def tasA (gap:Nat→Nat→Int) (n:Nat):List Nat ⊕ List Wt:=match rngF (cmM gap n) with
  | some r=>.inl r
  | none=>.inr (tasteW gap n)
structure RingOk (gap:Nat→Nat→Int) (n:Nat) (r:List Nat):Prop where
  nd:r.Nodup
  lt:∀ x∈r,x < n
  two:2≤r.length
  le:∀ k,k < r.length→gap (r.getD k 0) (r.getD ((k + 1) % r.length) 0)≤0
  be:gap (r.getD (r.length - 1) 0) (r.getD 0 0) < 0
structure TasteOk (gap:Nat→Nat→Int) (n:Nat) (st:List Wt):Prop where
  w1:∀ d,d < n→1≤wOf (·.2.2) st d
  ok:∀ d e,d < n→e < n→d≠e→wOf (·.2.1) st e≤wOf (·.2.1) st d + wOf (·.2.2) st d * gap d e
  bw:∀ d,d < n→BdI 100 (wOf (·.2.2) st d)
def AnsOk (gap:Nat→Nat→Int) (n:Nat):List Nat ⊕ List Wt→Prop
  | .inl r=>RingOk gap n r
  | .inr st=>TasteOk gap n st
theorem desc_eq:∀ {a b:List Nat},a.Pairwise (fun x y=>y < x)→b.Pairwise (fun x y=>y < x)→(∀ k,k∈a↔k∈b)→a=b
  | [],[],_,_,_=>rfl
  | [],y :: b,_,_,h=>absurd ((h y).mpr (by simp)) (by simp)
  | x :: a,[],_,_,h=>absurd ((h x).mp (by simp)) (by simp)
  | x :: a,y :: b,p,q,h=>by
    have px:=List.pairwise_cons.mp p
    have qy:=List.pairwise_cons.mp q
    have e:x=y:=by
      rcases List.mem_cons.mp ((h x).mp (by simp)) with e | e
      · exact e
      · rcases List.mem_cons.mp ((h y).mpr (by simp)) with f | f
        · exact f.symm
        · have:=qy.1 x e
          have:=px.1 y f
          omega
    subst e
    rw [desc_eq px.2 qy.2 fun k=>⟨fun hk=>?_,fun hk=>?_⟩]
    · rcases List.mem_cons.mp ((h k).mp (by simp [hk])) with z | z
      · subst z; exact absurd (px.1 _ hk) (Nat.lt_irrefl _)
      · exact z
    · rcases List.mem_cons.mp ((h k).mpr (by simp [hk])) with z | z
      · subst z; exact absurd (qy.1 _ hk) (Nat.lt_irrefl _)
      · exact z
theorem ks_down (h:Nat→Nat) (n:Nat):(ksF h n).Pairwise (fun a b=>b < a):=by
  unfold ksF
  refine List.Pairwise.sublist List.filter_sublist (List.pairwise_reverse.mpr ?_)
  exact List.pairwise_lt_range
theorem ks_mem {h:Nat→Nat} {n:Nat} (hb:∀ d,d < n→h d≤8) (k:Nat):k∈ksF h n↔∃ d,d < n∧h d=k:=by
  unfold ksF
  rw [List.mem_filter,List.mem_reverse,List.mem_range,List.any_eq_true]
  constructor
  · rintro ⟨_,d,hd,e⟩
    exact ⟨d,List.mem_range.mp hd,by simpa using e⟩
  · rintro ⟨d,hd,e⟩
    have:=hb d hd
    exact ⟨by omega,d,List.mem_range.mpr hd,by simpa using e⟩
theorem ks_len (h:Nat→Nat) (n:Nat):(ksF h n).length≤9:=by
  unfold ksF
  refine Nat.le_trans (List.length_filter_le ..) ?_
  rw [List.length_reverse,List.length_range]
  exact Nat.le_refl _
theorem cm_mk {gap:Nat→Nat→Int} {n i j:Nat} (hi:i < n) (hj:j < n):mkF (cmM gap n) i j=cmF gap i j:=by
  unfold mkF
  rw [cm_row hi]
  unfold cmR
  simp [hj]
theorem cm_Sq (gap:Nat→Nat→Int) (n:Nat):Sq (cmM gap n):=⟨fun i hi=>by
  rw [cm_len] at hi
  rw [cm_row hi,cm_len]; unfold cmR; simp⟩
theorem hi_le {gap:Nat→Nat→Int} {n:Nat} (n8:n≤8) (d:Nat) (hd:d < n):hiF (cmM gap n) d≤8:=by
  have h:=high_cnt (M:=cmM gap n) (keys_ltM (cm_Sq gap n)) (d:=d) (by rw [cm_len]; exact hd)
  show (chainsF (cmM gap n) d).length≤8
  rw [h]
  refine Nat.le_trans (List.length_filter_le ..) ?_
  rw [List.length_range,cm_len]; exact n8
theorem mark_nz {g:Int}:markF g≠0↔g≤0:=by
  unfold markF
  by_cases h:g < 0
  · rw [if_pos h]; exact ⟨fun _=>by omega,fun _=>by decide⟩
  · rw [if_neg h]
    by_cases h2:g=0
    · rw [if_pos h2]; exact ⟨fun _=>by omega,fun _=>by decide⟩
    · rw [if_neg h2]; exact ⟨fun z=>absurd rfl z,fun _=>by omega⟩
theorem mark_two {g:Int}:markF g=2↔g < 0:=by
  unfold markF
  by_cases h:g < 0
  · rw [if_pos h]; exact ⟨fun _=>h,fun _=>rfl⟩
  · rw [if_neg h]
    by_cases h2:g=0
    · rw [if_pos h2]; exact ⟨fun z=>absurd z (by decide),fun z=>absurd z h⟩
    · rw [if_neg h2]; exact ⟨fun z=>absurd z (by decide),fun z=>absurd z h⟩
theorem cm_nz {gap:Nat→Nat→Int} {n:Nat}:∀ d e,d < (cmM gap n).length→e < (cmM gap n).length→d≠e→(mkF (cmM gap n) d e≠0↔gap d e≤0):=fun d e hd he ne=>by
  rw [cm_len] at hd he
  rw [cm_mk hd he]
  unfold cmF
  rw [if_neg ne]
  exact mark_nz
theorem up_gap {gap:Nat→Nat→Int} {n d e:Nat} (hd:d < n) (he:e < n) (h:hiF (cmM gap n) d < hiF (cmM gap n) e):0 < gap d e:=by
  have ne:d≠e:=fun z=>by subst z; exact Nat.lt_irrefl _ h
  have hd':d < (cmM gap n).length:=by rw [cm_len]; exact hd
  have he':e < (cmM gap n).length:=by rw [cm_len]; exact he
  rcases Int.lt_or_le 0 (gap d e) with z | z
  · exact z
  · have:=(high_le (cm_Sq gap n) (keys_ltM (cm_Sq gap n)) hd' he' ((cm_nz d e hd' he' ne).mpr z)).1
    have h':(chainsF (cmM gap n) d).length < (chainsF (cmM gap n) e).length:=h
    omega
theorem link_get {M:List (List Int)}:∀ (c:List Nat) (k:Nat),linkF M c→k + 1 < c.length→mkF M (c.getD k 0) (c.getD (k + 1) 0)≠0
  | [],k,_,h=>by simp at h
  | [a],k,_,h=>by simp at h
  | a :: b :: r,0,⟨h1,_⟩,_=>by simpa using h1
  | a :: b :: r,k + 1,⟨_,h2⟩,h=>by
    have:=link_get (b :: r) k h2 (by simpa using h)
    simpa using this
theorem step_at {gap:Nat→Nat→Int} {n:Nat} {s:Nat×Nat} (h:s∈stepsF (cmM gap n)):s.1 < n∧s.2 < n∧s.1≠s.2∧gap s.1 s.2 < 0:=by
  obtain ⟨_,row,ar,ab⟩:=all_mem _ 0 s h
  have s1:s.1 < n:=by
    rcases Nat.lt_or_ge s.1 n with z | z
    · exact z
    · rw [List.getElem?_eq_none (by rw [cm_len]; omega)] at ar; cases ar
  rw [Nat.sub_zero] at ar
  have er:row=cmR gap n s.1:=by
    unfold cmM at ar
    rw [List.getElem?_map,List.getElem?_range s1] at ar
    simpa using ar.symm
  subst er
  have s2:s.2 < n:=by
    rcases Nat.lt_or_ge s.2 n with z | z
    · exact z
    · rw [List.getElem?_eq_none (by unfold cmR; simp; omega)] at ab; cases ab
  have e2:cmF gap s.1 s.2=2:=by
    unfold cmR at ab
    rw [List.getElem?_map,List.getElem?_range s2] at ab
    simpa using ab
  unfold cmF at e2
  by_cases z:s.1=s.2
  · rw [if_pos z] at e2; exact absurd e2 (by decide)
  · rw [if_neg z] at e2
    exact ⟨s1,s2,z,mark_two.mp e2⟩
theorem at_step {gap:Nat→Nat→Int} {n d e:Nat} (hd:d < n) (he:e < n) (ne:d≠e) (h:gap d e < 0):(d,e)∈stepsF (cmM gap n):=by
  have h1:(cmM gap n)[d]?=some (cmR gap n d):=by unfold cmM; rw [List.getElem?_map,List.getElem?_range hd]; rfl
  have h2:(cmR gap n d)[e]?=some 2:=by
    unfold cmR
    rw [List.getElem?_map,List.getElem?_range he]
    show some (cmF gap d e)=_
    unfold cmF
    rw [if_neg ne,mark_two.mpr h]
  have:=mem_all (cmM gap n) 0 d e _ h1 h2
  rw [Nat.zero_add] at this
  exact this
theorem rng_ok' {gap:Nat→Nat→Int} {n:Nat} {r:List Nat} (h:rngF (cmM gap n)=some r):RingOk gap n r:=by
  obtain ⟨s,hs,e⟩:=List.exists_of_findSome?_eq_some h
  obtain ⟨s1,s2,ne,neg⟩:=step_at hs
  by_cases hin:inK (chainsF (cmM gap n) s.2) s.1=true
  · rw [if_pos hin] at e
    have ic:=(chains_ok (cmM gap n) s.2).at hin
    have er:chOf (chainsF (cmM gap n) s.2) s.1=r:=by simpa using e
    rw [er] at ic
    have lt:∀ x∈r,x < n:=fun x hx=>by
      have:=keys_ltM (cm_Sq gap n) s.2 x (by rw [cm_len]; exact s2) (ic.mem x hx)
      rwa [cm_len] at this
    have hd:r.getD 0 0=s.2:=by
      have:=ic.hd
      cases r with
      | nil=>simp at this
      | cons a c=>simpa using this
    have one:1≤r.length:=by
      have:=ic.hd
      cases r with
      | nil=>simp at this
      | cons a c=>simp
    have la:r.getD (r.length - 1) 0=s.1:=by
      have:=ic.la
      rw [List.getLast?_eq_getElem?] at this
      rw [List.getD,this]; rfl
    have two:2≤r.length:=by
      rcases (by omega:r.length=1∨2≤r.length) with z | z
      · rw [z] at la
        have:r.getD 0 0=s.1:=la
        exact absurd (this.symm.trans hd) ne
      · exact z
    have mem:∀ k,k < r.length→r.getD k 0∈r:=fun k hk=>by rw [List.getD,List.getElem?_eq_getElem hk]; exact List.getElem_mem _
    refine ⟨ic.nd,lt,two,fun k hk=>?_,by rw [la,hd]; exact neg⟩
    by_cases z:k + 1 < r.length
    · rw [Nat.mod_eq_of_lt z]
      have h1:=link_get r k ic.lk z
      have a1:=lt _ (mem k hk)
      have a2:=lt _ (mem (k + 1) z)
      have nek:r.getD k 0≠r.getD (k + 1) 0:=by
        have:=List.pairwise_iff_getElem.mp ic.nd k (k + 1) hk z (by omega)
        rw [List.getD,List.getD,List.getElem?_eq_getElem hk,List.getElem?_eq_getElem z]
        exact this
      exact (cm_nz _ _ (by rw [cm_len]; exact a1) (by rw [cm_len]; exact a2) nek).mp h1
    · have ek:k + 1=r.length:=by omega
      rw [ek,Nat.mod_self,hd,show k=r.length - 1 by omega,la]
      exact Int.le_of_lt neg
  · rw [if_neg hin] at e; cases e
theorem run_ok {gap:Nat→Nat→Int} {n:Nat} (gok:GapOk n gap):∀ (ls:List (List Nat)) (m:Nat) (st:List Wt),StOk m n st→(∀ l∈ls,∀ d∈l,d < n)→(st.map (·.1) ++ ls.flatten).Nodup→(∀ a∈st,∀ l∈ls,∀ d∈l,0 < gap d a.1)→ls.Pairwise (fun l m=>∀ d∈l,∀ e∈m,0 < gap e d)→StOk (m + 7 * ls.length) n (runW gap ls st)
  | [],m,st,so,_,_,_,_=>so
  | l :: ls,m,st,so,hl,nd,pos,pw=>by
    rw [List.flatten_cons,← List.append_assoc] at nd
    have so':=step_ok gok so (hl l (by simp)) (List.nodup_append.mp nd).1 (fun a ha d hd=>pos a ha l (by simp) d hd)
    have pc:=List.pairwise_cons.mp pw
    have r:=run_ok gok ls (m + 7) (stepW gap st l) so' (fun l' hl'=>hl l' (by simp [hl'])) (by rw [days_step]; exact nd) (fun a ha l' hl' d hd=>?_) pc.2
    · rw [List.length_cons,show m + 7 * (ls.length + 1)=m + 7 + 7 * ls.length by omega]
      exact r
    · rcases List.mem_append.mp ha with z | z
      · exact pos a z l' (by simp [hl']) d hd
      · obtain ⟨e,he,rfl⟩:=List.mem_map.mp z
        exact pc.1 l' hl' e he d hd
theorem wOf_at {f:Wt→Int} {st:List Wt} {n d:Nat} (pm:(st.map (·.1)).Perm (List.range n)) (hd:d < n):∃ a∈st,a.1=d∧∀ f:Wt→Int,wOf f st d=f a:=by
  have h1:d∈st.map (·.1):=pm.mem_iff.mpr (List.mem_range.mpr hd)
  obtain ⟨b,hb,eb⟩:=List.mem_map.mp h1
  cases ef:st.find? (fun a=>a.1 == d) with
  | none=>exact absurd (List.find?_eq_none.mp ef b hb) (by simp [eb])
  | some c =>
    refine ⟨c,List.mem_of_find?_eq_some ef,by simpa using List.find?_some ef,fun f=>?_⟩
    unfold wOf
    rw [ef]; rfl
theorem lv_lt {h:Nat→Nat} {n:Nat} {ks:List Nat}:∀ l∈levelsF h n ks,∀ d∈l,d < n:=fun l hl d hd=>by
  obtain ⟨k,_,hk⟩:=lev_mem hl
  exact ((hk d).mp hd).1
theorem lv_pos {gap:Nat→Nat→Int} {n:Nat} {ks:List Nat} (hs:ks.Pairwise (fun a b=>b < a)):(levelsF (hiF (cmM gap n)) n ks).Pairwise (fun l m=>∀ d∈l,∀ e∈m,0 < gap e d):=by
  have h1:=lev_down (h:=hiF (cmM gap n)) (n:=n) hs
  rw [List.pairwise_iff_getElem] at h1 ⊢
  intro i j hi hj hij d hd e he
  exact up_gap (lv_lt _ (List.getElem_mem hj) e he) (lv_lt _ (List.getElem_mem hi) d hd) (h1 i j hi hj hij d hd e he)
theorem tas_ok {gap:Nat→Nat→Int} {n:Nat} (n8:n≤8) (gok:GapOk n gap):AnsOk gap n (tasA gap n):=by
  unfold tasA
  cases er:rngF (cmM gap n) with
  | some r=>exact rng_ok' er
  | none =>
    show TasteOk gap n (tasteW gap n)
    have hb:∀ d,d < n→hiF (cmM gap n) d≤8:=fun d hd=>hi_le n8 d hd
    have hk:∀ d,d < n→hiF (cmM gap n) d∈ksF (hiF (cmM gap n)) n:=fun d hd=>(ks_mem hb _).mpr ⟨d,hd,rfl⟩
    have nr:∀ d e,d < (cmM gap n).length→e < (cmM gap n).length→d≠e→gap d e < 0→inK (chainsF (cmM gap n) e) d=false:=fun d e hd he ne neg=>by
      rw [cm_len] at hd he
      have:=List.findSome?_eq_none_iff.mp er (d,e) (at_step hd he ne neg)
      by_cases z:inK (chainsF (cmM gap n) e) d=true
      · rw [if_pos z] at this; cases this
      · simpa using z
    obtain ⟨tf,pm⟩:=levels_taste (cm_Sq gap n) cm_nz nr (ks_down (hiF (cmM gap n)) n) (by rw [cm_len]; exact hk)
    rw [cm_len] at tf pm
    replace tf:TasteF gap (tasteW gap n):=tf
    replace pm:((tasteW gap n).map (·.1)).Perm (List.range n):=pm
    have so:StOk (1 + 7 * (levelsF (hiF (cmM gap n)) n (ksF (hiF (cmM gap n)) n)).length) n (tasteW gap n) :=
      run_ok gok _ 1 [] ⟨List.nodup_nil,fun a ha=>(by cases ha),fun a ha=>(by cases ha)⟩ lv_lt (lev_nd (ks_down _ _)) (fun a ha=>by cases ha) (lv_pos (ks_down _ _))
    have ll:(levelsF (hiF (cmM gap n)) n (ksF (hiF (cmM gap n)) n)).length≤9:=by
      unfold levelsF; rw [List.length_map]; exact ks_len _ _
    refine ⟨fun d hd=>?_,fun d e hd he ne=>?_,fun d hd=>?_⟩
    · obtain ⟨a,ha,_,w⟩:=wOf_at (f:=(·.2.2)) pm hd
      rw [w]; exact tf.w1 a ha
    · obtain ⟨a,ha,ea,w⟩:=wOf_at (f:=(·.2.2)) pm hd
      obtain ⟨b,hb',eb,v⟩:=wOf_at (f:=(·.2.2)) pm he
      rw [w,w,v,← ea,← eb]
      exact tf.le a ha b hb' (by rw [ea,eb]; exact ne)
    · obtain ⟨a,ha,_,w⟩:=wOf_at (f:=(·.2.2)) pm hd
      rw [w]; exact (so.bw a ha).2.mono (by omega)
def gpF (B:List (List Int×List Int)) (x y:Int) (i j:Nat):Int:=y * costF B i j - x * costF B i i
abbrev ShB (x:Int):Prop:=0≤x∧x≤10000000000000000000000000000000000000000000000000000000000000000
theorem bd_sh {x:Int} (h:ShB x):BdI 2 x:=⟨Int.lt_of_lt_of_le (by decide +kernel:-(2 ^ (150 * 2):Int) < 0) h.1,Int.lt_of_le_of_lt h.2 (by decide +kernel)⟩
theorem bd_co {c:Int} (h:0 < c∧c≤6000000000000000000000000000):BdI 1 c:=⟨Int.lt_trans (by decide +kernel:-(2 ^ (150 * 1):Int) < 0) h.1,Int.lt_of_le_of_lt h.2 (by decide +kernel)⟩
theorem gp_bd {m n:Nat} {B:List (List Int×List Int)} (g:GoodBook m n B) {x y:Int} (hx:ShB x) (hy:ShB y):GapOk B.length (gpF B x y):=fun i j hi hj=>by
  have a:=(bd_sh hy).prod (bd_co (cost_bd g hi hj))
  have b:=((bd_sh hx).prod (bd_co (cost_bd g hi hi))).neg
  have e:gpF B x y i j=y * costF B i j + -(x * costF B i i):=by unfold gpF; omega
  rw [e]
  exact a.add b
theorem mulok_s {x c:Int} (hx:ShB x) (h1:0 < c) (h2:c≤6000000000000000000000000000):IntMulOk x c:=by
  have h0:(0:Int) < 10000000000000000000000000000000000000000000000000000000000000000:=by decide
  exact mulok_big (by have:=hx.1; omega) (by have:=hx.2; omega) (by omega) (by omega)
def sb_gaps_from (K:PySem.W.Frag) (mg:Str→Option Value) (a b c:V) (H:Hp) (Q:VK) (E:XK):Prop:=∃ (B:List (List Int×List Int)) (m n d:Nat) (t:Addr) (x y:Int),Rep H a (bookD B)∧GoodBook m n B∧m≤9∧b=.int (d:Nat)∧d < B.length∧c=.ref t∧H t=some (.tup [.int x,.int y])∧ShB x∧ShB y ∧
  ∀ q H',Same H H'→H q=none→H' q=some (.lst (((List.range B.length).map fun j=>gpF B x y d j).map V.int))→Q (.ref q) H'
def sp_gaps_from (K:PySem.W.Frag) (mg:Str→Option Value):Sp:=sp3 (sb_gaps_from K mg)
def sb_gaps_of (K:PySem.W.Frag) (mg:Str→Option Value) (a b:V) (H:Hp) (Q:VK) (E:XK):Prop:=∃ (B:List (List Int×List Int)) (m n:Nat) (t:Addr) (x y:Int),Rep H a (bookD B)∧GoodBook m n B∧m≤9∧b=.ref t∧H t=some (.tup [.int x,.int y])∧ShB x∧ShB y∧∀ v H',Same H H'→GRep H' v (gpF B x y) B.length→Q v H'
def sp_gaps_of (K:PySem.W.Frag) (mg:Str→Option Value):Sp:=sp2 (sb_gaps_of K mg)
def sb_ring_in (K:PySem.W.Frag) (a:V) (H:Hp) (Q:VK) (E:XK):Prop:=∃ M:List (List Int),MRep H a M∧M.length≤8∧(∀ r∈M,r.length=M.length) ∧
  ∀ v H',Same H H'→((rngF M=none∧v=.non)∨∃ c p,rngF M=some c∧v=.ref p∧H' p=some (.lst (c.map nV)))→Q v H'
def sp_ring_in (K:PySem.W.Frag):Sp:=sp1 (sb_ring_in K)
def TaRep (H0 H:Hp) (v:V) (n:Nat):List Nat ⊕ List Wt→Prop
  | .inl r=>∃ t p,v=.ref t∧H t=some (.tup [.str "ring",.ref p])∧H p=some (.lst (r.map nV))
  | .inr st=>TsRep H0 H v st n
theorem ta_same {H0 H H':Hp} {v:V} {n:Nat} {o:List Nat ⊕ List Wt} (s:Same H H') (h:TaRep H0 H v n o):TaRep H0 H' v n o:=by
  cases o with
  | inl r=>exact let ⟨t,p,e,h1,h2⟩:=h; ⟨t,p,e,s _ _ h1,s _ _ h2⟩
  | inr st=>exact let ⟨t,p1,p2,e,h1,a,b,c,h2,h3⟩:=h; ⟨t,p1,p2,e,s _ _ h1,a,b,c,s _ _ h2,s _ _ h3⟩
def ShV (H:Hp) (b:V) (x y:Int):Prop:=(b=.non∧x=1∧y=1)∨∃ t,b=.ref t∧H t=some (.tup [.int x,.int y])
def sb_taste_of (K:PySem.W.Frag) (mg:Str→Option Value) (a b:V) (H:Hp) (Q:VK) (E:XK):Prop:=∃ (B:List (List Int×List Int)) (m n:Nat) (x y:Int),Rep H a (bookD B)∧GoodBook m n B∧m≤8∧ShV H b x y∧ShB x∧ShB y ∧
  ∀ w H',Same H H'→TaRep H H' w B.length (tasA (gpF B x y) B.length)→Q w H'
def sp_taste_of (K:PySem.W.Frag) (mg:Str→Option Value):Sp:=sp2 (sb_taste_of K mg)
def sb__law_wide (K:PySem.W.Frag) (a b c:V) (H:Hp) (Q:VK) (E:XK):Prop:=∃ (t dl:Addr) (f:Int) (ds:List Int) (st m:Nat),a=.ref t∧H t=some (.tup [.int f,.ref dl])∧H dl=some (.lst (ds.map V.int))∧(∀ x∈ds,Dw x)∧b=.int st∧c=.int m∧1≤m∧m≤8∧st + 1 + 12 * m≤ds.length∧st + 1 + 48≤ds.length∧ds.length≤200 ∧
  ∀ v B k H',Same H H'→Rep H' v (bookD B)→GoodBook 8 k B→Q v H'
def sp__law_wide (K:PySem.W.Frag):Sp:=sp3 (sb__law_wide K)
def sb__law_days (K:PySem.W.Frag) (a b:V) (H:Hp) (Q:VK) (E:XK):Prop:=∃ (p:Addr) (ns:List Int) (n:Nat),a=.ref p∧H p=some (.lst (ns.map V.int))∧ns.Nodup∧ns.length≤16∧b=.int (n:Nat)∧(∀ x∈ns,0≤x∧x < (n:Int))∧∀ H',Same H H'→Q (.bl true) H'
def sp__law_days (K:PySem.W.Frag):Sp:=sp2 (sb__law_days K)
def sb__law_ints (K:PySem.W.Frag) (a b:V) (H:Hp) (Q:VK) (E:XK):Prop:=∃ (p:Addr) (ns:List Int),a=.ref p∧H p=some (.lst (ns.map V.int))∧ns.length≤100∧b=.int (ns.length:Nat)∧∀ H',Same H H'→Q (.bl true) H'
def sp__law_ints (K:PySem.W.Frag):Sp:=sp2 (sb__law_ints K)
def sb__law_is_ring (K:PySem.W.Frag) (a b c:V) (H:Hp) (Q:VK) (E:XK):Prop:=∃ (B:List (List Int×List Int)) (m n:Nat) (t p:Addr) (x y:Int) (r:List Nat),Rep H a (bookD B)∧GoodBook m n B∧m≤8∧b=.ref t∧H t=some (.tup [.int x,.int y])∧ShB x∧ShB y∧c=.ref p∧H p=some (.lst (r.map nV))∧RingOk (gpF B x y) B.length r∧∀ H',Same H H'→Q (.bl true) H'
def sp__law_is_ring (K:PySem.W.Frag):Sp:=sp3 (sb__law_is_ring K)
def sb__law_is_taste (K:PySem.W.Frag) (a b c d:V) (H:Hp) (Q:VK) (E:XK):Prop:=∃ (B:List (List Int×List Int)) (m n:Nat) (t p1 p2:Addr) (x y:Int) (st:List Wt),Rep H a (bookD B)∧GoodBook m n B∧m≤8∧b=.ref t∧H t=some (.tup [.int x,.int y])∧ShB x∧ShB y ∧
  c=.ref p1∧H p1=some (.lst (((List.range B.length).map fun d=>wOf (·.2.1) st d).map V.int))∧d=.ref p2∧H p2=some (.lst (((List.range B.length).map fun d=>wOf (·.2.2) st d).map V.int))∧TasteOk (gpF B x y) B.length st∧∀ H',Same H H'→Q (.bl true) H'
def sp__law_is_taste (K:PySem.W.Frag):Sp:=sp4 (sb__law_is_taste K)
def kdM:List Nat ⊕ List Wt→Str
  | .inl _=>"ring"
  | .inr _=>"taste"
def sb__law_kind_of (K:PySem.W.Frag) (a b c:V) (H:Hp) (Q:VK) (E:XK):Prop:=∃ (B:List (List Int×List Int)) (m n:Nat) (t:Addr) (x y:Int) (o:List Nat ⊕ List Wt) (H0:Hp),Rep H b (bookD B)∧GoodBook m n B∧m≤8∧c=.ref t∧H t=some (.tup [.int x,.int y])∧ShB x∧ShB y ∧
  TaRep H0 H a B.length o∧AnsOk (gpF B x y) B.length o∧∀ H',Same H H'→Q (.str (kdM o)) H'
def sp__law_kind_of (K:PySem.W.Frag):Sp:=sp3 (sb__law_kind_of K)
def tb_ring_in (K:PySem.W.Frag):TS :=
  (tSeq (tFor (iSeq K (tCall (sp_better_steps K) [] E0 (tCons (tVar 0) tNil))) (gName 1) (tSeq (tAsg (tCall (sp_chains_from K) [] E0 (tCons (tVar 0) (tCons (tOp (rIx K) (tVar 1) (tC (.int 1))) tNil))) (gName 2))
    (tIfS (tB (tDIn (tOp (rIx K) (tVar 1) (tC (.int 0))) (tVar 2))) (tRet (tDGet (tVar 2) (tOp (rIx K) (tVar 1) (tC (.int 0))))) tNext)))
    (tRet (tC .non)))
def tb_gaps_from (K:PySem.W.Frag) (mg:Str→Option Value):TS :=
  (tSeq (tAsg (tOp (rMulU K) (tOp (rIx K) (tVar 2) (tC (.int 0))) (tCall (sp_purse K mg) [] E0 (tCons (tVar 0) (tCons (tVar 1) tNil)))) (gName 3))
    (tRet (tComp [none,some 2,some 0,some 1,some 3] (iRng1 (tCons (tCB (rLenU K) (tCons (tVar 0) tNil)) tNil)) (gName 0) tYes (tOp rSubU (tOp (rMulU K) (tOp (rIx K) (tVar 1) (tC (.int 1))) (tCall (sp_cost K mg) [] E0 (tCons (tVar 2) (tCons (tVar 3) (tCons (tVar 0) tNil))))) (tVar 4)))))
def tb_gaps_of (K:PySem.W.Frag) (mg:Str→Option Value):TS :=
  (tRet (tComp [none,some 0,some 1] (iRng1 (tCons (tCB (rLenU K) (tCons (tVar 0) tNil)) tNil)) (gName 0) tYes (tCall (sp_gaps_from K mg) [] E0 (tCons (tVar 1) (tCons (tVar 0) (tCons (tVar 2) tNil))))))
def tb_cut_mark (K:PySem.W.Frag):TS :=
  (tSeq (tIfS (tTest (tOp (rEqU K) (tVar 1) (tVar 2))) (tRet (tC (.int 1))) tNext)
    (tRet (tCall (sp_mark_of K) [] E0 (tCons (tOp (rIx K) (tOp (rIx K) (tVar 0) (tVar 1)) (tVar 2)) tNil))))
def tb_cut_marks_from (K:PySem.W.Frag):TS :=
  (tRet (tComp [none,some 0,some 1] (iRng1 (tCons (tCB (rLenU K) (tCons (tVar 0) tNil)) tNil)) (gName 0) tYes (tCall (sp_cut_mark K) [] E0 (tCons (tVar 1) (tCons (tVar 2) (tCons (tVar 0) tNil))))))
def tb_cut_marks_of (K:PySem.W.Frag):TS :=
  (tRet (tComp [none,some 0] (iRng1 (tCons (tCB (rLenU K) (tCons (tVar 0) tNil)) tNil)) (gName 0) tYes (tCall (sp_cut_marks_from K) [] E0 (tCons (tVar 1) (tCons (tVar 0) tNil)))))
def tb_levels_of (K:PySem.W.Frag):TS :=
  (tSeq (tAsg (tComp [none,some 0] (iRng1 (tCons (tCB (rLenU K) (tCons (tVar 0) tNil)) tNil)) (gName 0) tYes (tCB rLenD (tCons (tCall (sp_chains_from K) [] E0 (tCons (tVar 1) (tCons (tVar 0) tNil))) tNil))) (gName 1))
    (tSeq (tAsg (tLst tNil) (gName 2))
    (tSeq (tFor (iRev K (tCons (tSortSet K (tVar 1)) tNil)) (gName 3) (tDrop (tBM K "list" rAppend (tVar 2) (tCons (tComp [none,none,some 3] (iEnum1 K (tCons (tVar 1) tNil)) (gTup K 2 (gCons (gName 0) (gCons (gName 1) gNil))) (tTest (tOp (rEqU K) (tVar 1) (tVar 2))) (tVar 0)) tNil))))
    (tRet (tVar 2)))))
def tb_worth_below (K:PySem.W.Frag):TS :=
  (tSeq (tAsg (tC (.int 0)) (gName 4))
    (tSeq (tForD 1 (gName 5) (tFor (iSeq K (tVar 3)) (gName 6) (tAsg (tCB rMin2 (tCons (tVar 4) (tCons (tOp (rAddU K) (tDGet (tVar 1) (tVar 5)) (tOp (rMulU K) (tDGet (tVar 2) (tVar 5)) (tOp (rIx K) (tOp (rIx K) (tVar 0) (tVar 5)) (tVar 6)))) tNil))) (gName 4))))
    (tRet (tVar 4))))
def tb_weight_below (K:PySem.W.Frag):TS :=
  (tSeq (tAsg (tC (.int 1)) (gName 4))
    (tSeq (tForD 1 (gName 5) (tAsg (tCB rMax2 (tCons (tVar 4) (tCons (tUn rNegU (tOp rDivU (tOp rSubU (tVar 3) (tDGet (tVar 1) (tVar 5))) (tOp (rIx K) (tOp (rIx K) (tVar 0) (tVar 2)) (tVar 5)))) tNil))) (gName 4)))
    (tRet (tVar 4))))
def tb_taste_by (K:PySem.W.Frag):TS :=
  (tSeq (tAsg tDNew (gName 2))
    (tSeq (tAsg tDNew (gName 3))
    (tSeq (tFor (iSeq K (tVar 1)) (gName 4) (tSeq (tAsg (tCall (sp_worth_below K) [] E0 (tCons (tVar 0) (tCons (tVar 2) (tCons (tVar 3) (tCons (tVar 4) tNil))))) (gName 5))
    (tSeq (tFor (iSeq K (tVar 4)) (gName 6) (sDPut (tVar 3) (tVar 6) (tCall (sp_weight_below K) [] E0 (tCons (tVar 0) (tCons (tVar 2) (tCons (tVar 6) (tCons (tVar 5) tNil)))))))
    (tFor (iSeq K (tVar 4)) (gName 6) (sDPut (tVar 2) (tVar 6) (tVar 5))))))
    (tSeq (tAsg (tCB rSortedD (tCons (tVar 2) tNil)) (gName 7))
    (tRet (tTup (tCons (tC (.str "taste")) (tCons (tComp [none,some 2] (iSeq K (tVar 7)) (gName 0) tYes (tDGet (tVar 1) (tVar 0))) (tCons (tComp [none,some 3] (iSeq K (tVar 7)) (gName 0) tYes (tDGet (tVar 1) (tVar 0))) tNil)))))))))
def tb_taste_of (K:PySem.W.Frag) (mg:Str→Option Value):TS :=
  (tSeq (tAsg (tCall (sp_gaps_of K mg) [] E0 (tCons (tVar 0) (tCons (tIf (tTest (tOp rIsU (tVar 1) (tC .non))) (tTup (tCons (tC (.int 1)) (tCons (tC (.int 1)) tNil))) (tVar 1)) tNil))) (gName 2))
    (tSeq (tAsg (tCall (sp_cut_marks_of K) [] E0 (tCons (tVar 2) tNil)) (gName 3))
    (tSeq (tAsg (tCall (sp_ring_in K) [] E0 (tCons (tVar 3) tNil)) (gName 4))
    (tSeq (tIfS (tTest (tOp rIsNotU (tVar 4) (tC .non))) (tRet (tTup (tCons (tC (.str "ring")) (tCons (tVar 4) tNil)))) tNext)
    (tRet (tCall (sp_taste_by K) [] E0 (tCons (tVar 2) (tCons (tCall (sp_levels_of K) [] E0 (tCons (tVar 3) tNil)) tNil))))))))
def tb__law_wide (K:PySem.W.Frag):TS :=
  (tSeq (tIfS (tOr (tTest (tOp (rEqU K) (tOp (rIx K) (tVar 0) (tC (.int 0))) (tC (.int 1)))) (tTest (tOp (rEqU K) (tOp rModU (tOp rDivU (tOp (rIx K) (tOp (rIx K) (tVar 0) (tC (.int 1))) (tVar 1)) (tC (.int 1000000000000000000000000000000))) (tC (.int 4))) (tC (.int 0))))) (tRet (tCall (sp__law_book K) [] E0 (tCons (tVar 0) (tCons (tVar 1) (tCons (tVar 2) (tCons (tC (.int 6)) tNil)))))) tNext)
    (tRet (tCall (sp__law_book K) [] E0 (tCons (tVar 0) (tCons (tVar 1) (tCons (tC (.int 6)) (tCons (tC (.int 4)) tNil)))))))
def tb__law_days (K:PySem.W.Frag):TS :=
  (tSeq (tIfS (tOr (tNot (tTru K (tCB (rIsinst K) (tCons (tVar 0) (tCons (tC (.ty "list")) tNil))))) (tTest (tOp (rNeU K) (tCB (rLenU K) (tCons (tVar 0) tNil)) (tCB (rLenS K) (tCons (tCB (rTy_set K) (tCons (tVar 0) tNil)) tNil))))) (tRet (tC (.bl false))) tNext)
    (tSeq (tFor (iSeq K (tVar 0)) (gName 2) (tIfS (tOr (tNot (tTru K (tCall (sp__law_int K) [] E0 (tCons (tVar 2) tNil)))) (tNot (tTest (tChain rLeU rLtU (tC (.int 0)) (tVar 2) (tVar 1))))) (tRet (tC (.bl false))) tNext))
    (tRet (tC (.bl true)))))
def tb__law_is_ring (K:PySem.W.Frag):TS :=
  (tSeq (tIfS (tOr (tNot (tTru K (tCall (sp__law_days K) [] E0 (tCons (tVar 2) (tCons (tCB (rLenU K) (tCons (tVar 0) tNil)) tNil))))) (tTest (tOp rLtU (tCB (rLenU K) (tCons (tVar 2) tNil)) (tC (.int 2))))) (tRet (tC (.bl false))) tNext)
    (tSeq (tAsg (tC (.bl false)) (gName 3))
    (tSeq (tFor (iRng1 (tCons (tCB (rLenU K) (tCons (tVar 2) tNil)) tNil)) (gName 4) (tSeq (tAsg (tOp (rIx K) (tVar 2) (tVar 4)) (gName 5))
    (tSeq (tAsg (tOp rSubU (tOp (rMulU K) (tOp (rIx K) (tVar 1) (tC (.int 1))) (tCall (sp__law_cost K) [] E0 (tCons (tVar 0) (tCons (tVar 5) (tCons (tOp (rIx K) (tVar 2) (tOp rModU (tOp (rAddU K) (tVar 4) (tC (.int 1))) (tCB (rLenU K) (tCons (tVar 2) tNil)))) tNil))))) (tOp (rMulU K) (tOp (rIx K) (tVar 1) (tC (.int 0))) (tCall (sp__law_cost K) [] E0 (tCons (tVar 0) (tCons (tVar 5) (tCons (tVar 5) tNil)))))) (gName 6))
    (tSeq (tIfS (tTest (tOp rGtU (tVar 6) (tC (.int 0)))) (tRet (tC (.bl false))) tNext)
    (tAsg (tOrV (tVar 3) (tOp rLtU (tVar 6) (tC (.int 0)))) (gName 3))))))
    (tRet (tVar 3)))))
def tb__law_ints (K:PySem.W.Frag):TS :=
  (tRet (tAndV (tCB (rIsinst K) (tCons (tVar 0) (tCons (tC (.ty "list")) tNil))) (tAndV (tOp (rEqU K) (tCB (rLenU K) (tCons (tVar 0) tNil)) (tVar 1)) (tOp (rEqU K) (tCB (rLenU K) (tCons (tComp [none] (iSeq K (tVar 0)) (gName 0) (tTru K (tCall (sp__law_int K) [] E0 (tCons (tVar 0) tNil))) (tVar 0)) tNil)) (tVar 1)))))
def tb__law_is_taste (K:PySem.W.Frag):TS :=
  (tSeq (tIfS (tOr (tNot (tTru K (tCall (sp__law_ints K) [] E0 (tCons (tVar 2) (tCons (tCB (rLenU K) (tCons (tVar 0) tNil)) tNil))))) (tOr (tNot (tTru K (tCall (sp__law_ints K) [] E0 (tCons (tVar 3) (tCons (tCB (rLenU K) (tCons (tVar 0) tNil)) tNil))))) (tTest (tOp rLtU (tCB (rMinU K) (tCons (tVar 3) tNil)) (tC (.int 1)))))) (tRet (tC (.bl false))) tNext)
    (tSeq (tFor (iRng1 (tCons (tCB (rLenU K) (tCons (tVar 0) tNil)) tNil)) (gName 4) (tFor (iRng1 (tCons (tCB (rLenU K) (tCons (tVar 0) tNil)) tNil)) (gName 5) (tSeq (tAsg (tOp rSubU (tOp (rMulU K) (tOp (rIx K) (tVar 1) (tC (.int 1))) (tCall (sp__law_cost K) [] E0 (tCons (tVar 0) (tCons (tVar 4) (tCons (tVar 5) tNil))))) (tOp (rMulU K) (tOp (rIx K) (tVar 1) (tC (.int 0))) (tCall (sp__law_cost K) [] E0 (tCons (tVar 0) (tCons (tVar 4) (tCons (tVar 4) tNil)))))) (gName 6))
    (tIfS (tAnd (tTest (tOp (rNeU K) (tVar 5) (tVar 4))) (tTest (tOp rGtU (tOp (rIx K) (tVar 2) (tVar 5)) (tOp (rAddU K) (tOp (rIx K) (tVar 2) (tVar 4)) (tOp (rMulU K) (tOp (rIx K) (tVar 3) (tVar 4)) (tVar 6)))))) (tRet (tC (.bl false))) tNext))))
    (tRet (tC (.bl true)))))
def tb__law_kind_of (K:PySem.W.Frag):TS :=
  (tSeq (tIfS (tOr (tNot (tTru K (tCB (rIsinst K) (tCons (tVar 0) (tCons (tC (.ty "tuple")) tNil))))) (tTest (tOp rLtU (tCB (rLenU K) (tCons (tVar 0) tNil)) (tC (.int 2))))) (tRet (tC (.str "none"))) tNext)
    (tSeq (tIfS (tAnd (tTest (tOp (rEqU K) (tOp (rIx K) (tVar 0) (tC (.int 0))) (tC (.str "taste")))) (tAnd (tTest (tOp (rEqU K) (tCB (rLenU K) (tCons (tVar 0) tNil)) (tC (.int 3)))) (tTru K (tCall (sp__law_is_taste K) [] E0 (tCons (tVar 1) (tCons (tVar 2) (tCons (tOp (rIx K) (tVar 0) (tC (.int 1))) (tCons (tOp (rIx K) (tVar 0) (tC (.int 2))) tNil)))))))) (tRet (tC (.str "taste"))) tNext)
    (tSeq (tIfS (tAnd (tTest (tOp (rEqU K) (tOp (rIx K) (tVar 0) (tC (.int 0))) (tC (.str "ring")))) (tAnd (tTest (tOp (rEqU K) (tCB (rLenU K) (tCons (tVar 0) tNil)) (tC (.int 2)))) (tTru K (tCall (sp__law_is_ring K) [] E0 (tCons (tVar 1) (tCons (tVar 2) (tCons (tOp (rIx K) (tVar 0) (tC (.int 1))) tNil))))))) (tRet (tC (.str "ring"))) tNext)
    (tRet (tC (.str "none"))))))
theorem w_dget {td ty:TE} {σ:St} {H:Hp} {Q:VK} (h:td σ H fun x H1=>ty σ H1 fun y H2=>∃ a v,x=.ref a∧DGet H2 a y (some v)∧Q v H2):tDGet td ty σ H Q:=h
theorem ix_row {K:PySem.W.Frag} {n j:Nat} (f:Nat→Int) (hj:j < n):atI ((List.range n).map fun j=>V.int (f j)) ((j:Nat):Int)=some (.int (f j)):=atI_nat (by rw [List.getElem?_map,List.getElem?_range hj]; rfl)
theorem pow_9000 {x:Int} (h:BdI 4 x):x < 2 ^ 9000:=Int.lt_of_lt_of_le h.2 (RS.pow_mono (by decide))
theorem rd_worth_below {K:PySem.W.Frag} {a b c d:V} {H:Hp} {Q:VK} {E:XK} (h:sb_worth_below K a b c d H Q E):tb_worth_below K (Rt Q) [some a,some b,some c,some d,none,none,none] H:=by
  obtain ⟨gap,m,n,st,w,u,l,ds,⟨g,rs,rfl,hg,lr,row⟩,gok,n8,m9,sok,rfl,hw,rfl,hu,wu,rfl,hl,dn,q⟩:=h
  have gw:g≠w:=fun z=>by rw [z,hw] at hg; cases hg
  have lw:l≠w:=fun z=>by rw [z,hw] at hl; cases hl
  unfold tb_worth_below
  refine w_seq (w_asg (w_c (w_name ?_)))
  try dsimp only
  refine w_seq (w_forD (d:=w) (kvs:=wkv (·.2.1) st) (ns:=st.map fun a=>(a.1:Int)) rfl hw (wkv_keys _ st) (fun o j σ H1=>H1=upd H w (.frz o (.dK (wkv (·.2.1) st)))∧∃ r5 r6,σ=[some (.ref g),some (.ref w),some (.ref u),some (.ref l),some (.int (lowW gap ds (st.take j) 0)),r5,r6]) (fun o=>⟨rfl,_,_,rfl⟩) (fun o j σ H1 z=>by rw [z.1]; exact upd_same) ?_ ?_)
  · rintro o j x σ H1 hx ⟨eH,r5,r6,rfl⟩
    have hj:j < st.length:=by
      have:=(List.getElem?_eq_some_iff.mp hx).1
      simpa using this
    have hm:st[j]∈st:=List.getElem_mem hj
    have ex:x=((st[j].1:Nat):Int):=by
      rw [List.getElem?_map,List.getElem?_eq_getElem hj] at hx
      simpa using hx.symm
    subst ex
    have wl:=sok.lt _ hm
    obtain ⟨r,hr,hrow⟩:=row _ wl
    have rw':r≠w:=fun z=>by rw [z,hw] at hrow; cases hrow
    have h1w:H1 w=some (.frz o (.dK (wkv (·.2.1) st))):=by rw [eH]; exact upd_same
    have h1u:H1 u=some (.dK (wkv (·.2.2) st)):=by rw [eH,upd_ne (Ne.symm wu)]; exact hu
    have h1g:H1 g=some (.lst rs):=by rw [eH,upd_ne gw]; exact hg
    have h1l:H1 l=some (.lst (ds.map nV)):=by rw [eH,upd_ne lw]; exact hl
    have h1r:H1 r=some (.lst ((List.range n).map fun i=>V.int (gap st[j].1 i))):=by rw [eH,upd_ne rw']; exact hrow
    have v1:=wkv_val (·.2.1) sok.nd _ hm
    have v2:=wkv_val (·.2.2) sok.nd _ hm
    refine w_name (w_for (w_seq0 (w_var rfl ⟨_,rfl,.inl ⟨⟨_,SqL.of h1l⟩,?_⟩⟩)))
    refine for_list (K:=K) (a:=l) (xs:=ds.map nV) (fun k σ H2=>H2=H1∧∃ r6,σ=[some (.ref g),some (.ref w),some (.ref u),some (.ref l),some (.int (lowD gap st[j] (ds.take k) (lowW gap ds (st.take j) 0))),some (.int ((st[j].1:Nat):Int)),r6]) ⟨rfl,_,rfl⟩ (fun k σ H2 _ z=>by rw [z.1]; exact SqL.of h1l) ?_ ?_
    · rintro k y σ H2 hy ⟨rfl,r6,rfl⟩
      have hk:k < ds.length:=by
        have:=(List.getElem?_eq_some_iff.mp hy).1
        simpa using this
      have ey:y=nV ds[k]:=by
        rw [List.getElem?_map,List.getElem?_eq_getElem hk] at hy
        simpa using hy.symm
      subst ey
      have dk:=dn _ (List.getElem_mem hk)
      have bw:=sok.bw _ hm
      refine w_name (w_asg (w_cb (w_cons (w_var rfl (w_cons (w_op (w_dget (w_var rfl (w_var rfl ⟨w,_,rfl,v1 ▸ DGet.f (k:=Sum.inl ((st[j].1:Nat):Int)) h1w,?_⟩)))))))))
      refine w_op (w_dget (w_var rfl (w_var rfl ⟨u,_,rfl,v2 ▸ DGet.k (k:=Sum.inl ((st[j].1:Nat):Int)) h1u,?_⟩)))
      refine w_op (w_op (w_var rfl (w_var rfl (w_ixL (SqL.of h1g) (atI_nat hr) (w_var rfl (w_ixL (SqL.of h1r) (ix_row (K:=K) _ dk) ?_))))))
      refine w_mulI (BdI.mul (by omega) (by decide) bw.2 (gok _ _ wl dk)) (w_addI (w_nil (w_min2 (w_name ⟨rfl,some (nV ds[k]),?_⟩))))
      rw [List.take_add_one,List.getElem?_eq_getElem hk]
      show _=[_,_,_,_,some (V.int (lowD gap st[j] (ds.take k ++ [ds[k]]) _)),_,_]
      rw [lowD_snoc]; rfl
    · rintro σ H2 ⟨rfl,r6,rfl⟩
      refine ⟨eH,some (.int ((st[j].1:Nat):Int)),r6,?_⟩
      rw [List.length_map,List.take_length,List.take_add_one,List.getElem?_eq_getElem hj]
      show _=[_,_,_,_,some (V.int (lowW gap ds (st.take j ++ [st[j]]) 0)),_,_]
      rw [lowW_snoc]
  · rintro o σ H1 ⟨rfl,r5,r6,rfl⟩
    rw [List.length_map,List.take_length,upd_back hw]
    try dsimp only
    exact w_ret (w_var rfl q)
theorem rd_weight_below {K:PySem.W.Frag} {a b c d:V} {H:Hp} {Q:VK} {E:XK} (h:sb_weight_below K a b c d H Q E):tb_weight_below K (Rt Q) [some a,some b,some c,some d,none,none] H:=by
  obtain ⟨gap,m,n,st,w,e,own,⟨g,rs,rfl,hg,lr,row⟩,gok,n8,m9,sok,rfl,hw,rfl,rfl,en,pos,q⟩:=h
  have gw:g≠w:=fun z=>by rw [z,hw] at hg; cases hg
  obtain ⟨r,hr,hrow⟩:=row _ en
  have rw':r≠w:=fun z=>by rw [z,hw] at hrow; cases hrow
  unfold tb_weight_below
  refine w_seq (w_asg (w_c (w_name ?_)))
  try dsimp only
  refine w_seq (w_forD (d:=w) (kvs:=wkv (·.2.1) st) (ns:=st.map fun a=>(a.1:Int)) rfl hw (wkv_keys _ st) (fun o j σ H1=>H1=upd H w (.frz o (.dK (wkv (·.2.1) st)))∧∃ r5,σ=[some (.ref g),some (.ref w),some (.int (e:Nat)),some (.int own),some (.int (wtW gap e own (st.take j) 1)),r5]) (fun o=>⟨rfl,_,rfl⟩) (fun o j σ H1 z=>by rw [z.1]; exact upd_same) ?_ ?_)
  · rintro o j x σ H1 hx ⟨eH,r5,rfl⟩
    have hj:j < st.length:=by
      have:=(List.getElem?_eq_some_iff.mp hx).1
      simpa using this
    have hm:st[j]∈st:=List.getElem_mem hj
    have ex:x=((st[j].1:Nat):Int):=by
      rw [List.getElem?_map,List.getElem?_eq_getElem hj] at hx
      simpa using hx.symm
    subst ex
    have wl:=sok.lt _ hm
    have h1w:H1 w=some (.frz o (.dK (wkv (·.2.1) st))):=by rw [eH]; exact upd_same
    have h1g:H1 g=some (.lst rs):=by rw [eH,upd_ne gw]; exact hg
    have h1r:H1 r=some (.lst ((List.range n).map fun j=>V.int (gap e j))):=by rw [eH,upd_ne rw']; exact hrow
    have v1:=wkv_val (·.2.1) sok.nd _ hm
    refine w_name (w_asg (w_cb (w_cons (w_var rfl (w_cons (w_un (w_op (w_op (w_var rfl (w_dget (w_var rfl (w_var rfl ⟨w,_,rfl,v1 ▸ DGet.f (k:=Sum.inl ((st[j].1:Nat):Int)) h1w,?_⟩))))))))))))
    refine w_subI (w_op (w_op (w_var rfl (w_var rfl (w_ixL (SqL.of h1g) (atI_nat hr) (w_var rfl (w_ixL (SqL.of h1r) (ix_row (K:=K) _ wl) ?_)))))))
    refine ⟨_,_,rfl,rfl,CDivB.of (pos _ hm) (pow_9000 (gok _ _ en wl)),w_negI (w_nil (w_max2 (w_name ⟨eH,some (.int ((st[j].1:Nat):Int)),?_⟩)))⟩
    rw [List.take_add_one,List.getElem?_eq_getElem hj]
    show _=[_,_,_,_,some (V.int (wtW gap e own (st.take j ++ [st[j]]) 1)),_]
    rw [wtW_snoc]; rfl
  · rintro o σ H1 ⟨rfl,r5,rfl⟩
    rw [List.length_map,List.take_length,upd_back hw]
    try dsimp only
    exact w_ret (w_var rfl q)
theorem rd_cut_mark {K:PySem.W.Frag} {a b c:V} {H:Hp} {Q:VK} {E:XK} (h:sb_cut_mark K a b c H Q E):tb_cut_mark K (Rt Q) [some a,some b,some c] H:=by
  obtain ⟨gap,n,i,j,⟨g,rs,rfl,hg,lr,row⟩,rfl,rfl,hi,hj,q⟩:=h
  obtain ⟨r,hr,hrow⟩:=row i hi
  unfold tb_cut_mark
  refine w_seq (w_ifS (w_test (w_op (w_var rfl (w_var rfl (w_eqI (w_bl (iteD (fun e=>?_) fun e=>?_))))))))
  · refine w_ret (w_c ?_)
    have ce:cmF gap i j=1:=by unfold cmF; rw [if_pos (by omega)]
    rw [ce] at q
    exact q
  · refine w_next ?_
    try dsimp only
    refine w_ret (w_call (w_cons (w_op (w_op (w_var rfl (w_var rfl (w_ixL (SqL.of hg) (atI_nat hr) (w_var rfl (w_ixL (SqL.of hrow) (ix_row (K:=K) _ hj) (w_nil ⟨_,rfl,_,rfl,?_⟩))))))))))
    have ce:cmF gap i j=markF (gap i j):=by unfold cmF; rw [if_neg (by omega)]
    rw [ce] at q
    exact q
theorem rd_cut_marks_from {K:PySem.W.Frag} {a b:V} {H:Hp} {Q:VK} {E:XK} (h:sb_cut_marks_from K a b H Q E):tb_cut_marks_from K (Rt Q) [some a,some b] H:=by
  obtain ⟨gap,n,i,gr,n8,rfl,hi,q⟩:=h
  obtain ⟨g,rs,rfl,hg,lr,row⟩:=id gr
  unfold tb_cut_marks_from
  refine w_ret (w_comp (w_rng1 (w_cons (w_cb (w_cons (w_var rfl (w_nil (w_lenL (SqL.of hg) (w_nil ⟨_,rfl,(rng_ok (by omega)).1,(rng_ok (by omega)).2,fun D hD=>?_⟩)))))))))
  refine comp_rangeP (n:=rs.length) D (fun j v H=>v=.int (cmF gap i j)) (fun _ _ _ _ t z=>z) (by omega) hD ⟨_,rfl⟩ (fun j H3 R hj s3 k=>?_) fun ys H3 hl3 hy s3 h3=>?_
  · exact w_call (w_cons (w_var rfl (w_cons (w_var rfl (w_cons (w_var rfl (w_nil ⟨_,_,_,rfl,gap,n,i,j,grep_same s3 gr,rfl,rfl,hi,by omega,k _ _ (Same.refl _) rfl⟩)))))))
  · have ey:ys=(cmR gap n i).map V.int:=by
      unfold cmR
      rw [List.map_map]
      apply List.ext_getElem?
      intro j
      rcases Nat.lt_or_ge j n with z | z
      · have h1:ys[j]?=some (ys[j]'(by omega)):=List.getElem?_eq_getElem (by omega)
        rw [h1,hy j _ h1,List.getElem?_map,List.getElem?_range z]; rfl
      · rw [List.getElem?_eq_none (by omega),List.getElem?_eq_none (by simp; omega)]
    exact q D H3 hD s3 (by rw [← ey]; exact h3)
theorem rd_cut_marks_of {K:PySem.W.Frag} {a:V} {H:Hp} {Q:VK} {E:XK} (h:sb_cut_marks_of K a H Q E):tb_cut_marks_of K (Rt Q) [some a] H:=by
  obtain ⟨gap,n,gr,n8,q⟩:=h
  obtain ⟨g,rs,rfl,hg,lr,row⟩:=id gr
  unfold tb_cut_marks_of
  refine w_ret (w_comp (w_rng1 (w_cons (w_cb (w_cons (w_var rfl (w_nil (w_lenL (SqL.of hg) (w_nil ⟨_,rfl,(rng_ok (by omega)).1,(rng_ok (by omega)).2,fun D hD=>?_⟩)))))))))
  refine comp_rangeL (n:=rs.length) (σr:=[some (.ref g)]) D (fun i=>cmR gap n i) (by omega) hD ⟨none,rfl⟩ ?_ ?_
  · intro i H1 R hi s1 kk
    exact w_call (w_cons (w_var rfl (w_cons (w_var rfl (w_nil ⟨_,_,rfl,gap,n,i,grep_same s1 gr,n8,rfl,by omega,fun t H2 ht s2 h2=>kk t H2 ht s2 h2⟩)))))
  · intro zs H1 hy hall s1 hD1
    refine q _ H1 s1 ⟨D,zs,rfl,hD1,by rw [hy,lr,cm_len],fun i hi=>?_⟩
    rw [cm_len] at hi
    have hi':i < zs.length:=by omega
    have e:zs[i]?=some zs[i]:=List.getElem?_eq_getElem hi'
    obtain ⟨t,e1,e2⟩:=hall i _ e
    exact ⟨t,by rw [e,e1],by rw [cm_row hi]; exact e2⟩
theorem rd_levels_of {K:PySem.W.Frag} {a:V} {H:Hp} {Q:VK} {E:XK} (h:sb_levels_of K a H Q E):tb_levels_of K (Rt Q) [some a,none,none,none] H:=by
  obtain ⟨M,mr,n8,sq,q⟩:=h
  obtain ⟨mp,rs,rfl,hm,lr,rows⟩:=id mr
  have lenM:rs.length=M.length:=lr
  unfold tb_levels_of
  refine w_seq (w_asg (w_comp (w_rng1 (w_cons (w_cb (w_cons (w_var rfl (w_nil (w_lenL (SqL.of hm) (w_nil ⟨_,rfl,(rng_ok (by omega)).1,(rng_ok (by omega)).2,fun D hD=>?_⟩))))))))))
  refine comp_rangeP (n:=rs.length) D (fun d v H=>v=.int (hiF M d:Nat)∧hiF M d≤M.length) (fun _ _ _ _ t z=>z) (by omega) hD ⟨_,rfl⟩ (fun d H3 R hd s3 k=>?_) fun ys H3 hl3 hy s3 h3=>?_
  · refine w_cb (w_cons (w_call (w_cons (w_var rfl (w_cons (w_var rfl (w_nil ⟨_,_,rfl,M,d,mrep_same s3 mr,n8,sq,rfl,by omega,fun p wa kvs H4 s4 hp dr gd=>w_nil ⟨p,kvs,rfl,hp,?_⟩⟩)))))))
    rw [drep_len dr]
    exact k _ _ s4 ⟨rfl,by have:=gd.sz; show (chainsF M d).length≤_; dsimp only at this; omega⟩
  have ey:ys=(List.range rs.length).map fun d=>V.int (hiF M d:Nat):=by
    apply List.ext_getElem?
    intro i
    rcases Nat.lt_or_ge i rs.length with z | z
    · have h1:ys[i]?=some (ys[i]'(by omega)):=List.getElem?_eq_getElem (by omega)
      rw [h1,(hy i _ h1).1,List.getElem?_map,List.getElem?_range z]; rfl
    · rw [List.getElem?_eq_none (by omega),List.getElem?_eq_none (by simp; omega)]
  have hb:∀ d,d < rs.length→hiF M d≤M.length:=fun d hd=>(hy d _ (List.getElem?_eq_getElem (show d < ys.length by omega))).2
  have ns_eq:ys=((List.range rs.length).map fun d=>((hiF M d:Nat):Int)).map V.int:=by rw [ey,List.map_map]; rfl
  refine w_name ?_
  try dsimp only
  refine w_seq (w_asg (w_lst (w_nil ⟨by show 0≤sizeLine; decide,fun q' hq'=>w_name ?_⟩)))
  have s4:=s3.laidT (o:=.lst []) hq'
  have e4:=upd_same (H:=H3) (a:=q') (o:=.lst [])
  have hD4:(upd H3 q' (.lst [])) D=some (.lst ys):=by rw [upd_ne (fun z=>by rw [z,hq'] at h3; cases h3)]; exact h3
  have hq0:H q'=none:=s3.free hq'
  generalize upd H3 q' (.lst [])=H4 at s4 e4 hD4 ⊢
  try dsimp only
  refine w_seq (w_for (w_rev (w_cons (w_sortset (w_var rfl ⟨D,(List.range rs.length).map fun d=>((hiF M d:Nat):Int),rfl,SqL.of (by rw [← ns_eq]; exact hD4),by simp; omega,?_,fun out r H5 so mem s5 hr0 hr=>?_⟩) (fun Q1 Q2 m ⟨v,e,z⟩=>⟨v,e,m _ _ z⟩)))))
  · intro x hx
    obtain ⟨d,hd,rfl⟩:=List.mem_map.mp hx
    have h1:=hi_pos M d
    have h2:=hb d (List.mem_range.mp hd)
    omega
  have qr:q'≠r:=fun z=>by rw [← z,e4] at hr0; cases hr0
  have Dr:D≠r:=fun z=>by rw [← z,hD4] at hr0; cases hr0
  have Dq:D≠q':=fun z=>by rw [z] at h3; rw [h3] at hq'; cases hq'
  have pos:∀ x∈out,0≤x:=fun x hx=>by
    obtain ⟨d,hd,rfl⟩:=List.mem_map.mp ((mem x).mp hx)
    omega
  let ks:List Nat:=out.reverse.map Int.toNat
  have pw:ks.Pairwise (fun a b=>b < a):=by
    refine List.pairwise_map.mpr (List.Pairwise.imp_of_mem (fun {x y} hx hy z=>?_) (List.pairwise_reverse.mpr so))
    have h1:=pos x (List.mem_reverse.mp hx)
    have h2:=pos y (List.mem_reverse.mp hy)
    omega
  have ol:out.length≤9:=by
    have h1:=nd_len 9 ks (pw.imp fun h e=>by omega) fun x hx=>by
      obtain ⟨y,hy,rfl⟩:=List.mem_map.mp hx
      obtain ⟨d,hd,rfl⟩:=List.mem_map.mp ((mem y).mp (List.mem_reverse.mp hy))
      have:=hb d (List.mem_range.mp hd)
      omega
    simpa [ks] using h1
  refine w_nil ⟨r,out.map V.int,rfl,SqL.of hr,for_rev (K:=K) (a:=r) (fun i σ H6=>Same H H6∧H6 D=some (.lst ys)∧H6 r=some (.lst (out.map V.int))∧∃ zs r3,H6 q'=some (.lst zs)∧zs.length=i∧(∀ (k:Nat) l,(levelsF (hiF M) M.length (ks.take i))[k]?=some l→∃ p,zs[k]?=some (.ref p)∧p≠q'∧H6 p=some (.lst (l.map nV)))∧σ=[some (.ref mp),some (.ref D),some (.ref q'),r3]) ⟨s4.trans s5,s5 _ _ hD4,hr,[],none,s5 _ _ e4,rfl,fun k l z=>by simp [levelsF] at z,rfl⟩ (fun i σ H6 _ z=>SqL.of z.2.2.1) ?_ ?_⟩
  · rintro i x σ H6 hi hx ⟨s6,d6,o6,zs,r3,z6,lz,lv,rfl⟩
    have hi':i < out.length:=by simpa using hi
    obtain ⟨kk,hk,rfl⟩:∃ kk:Nat,ks[i]?=some kk∧x=.int (kk:Nat):=by
      have e1:out.reverse[i]?=out[out.length - 1 - i]?:=List.getElem?_reverse hi'
      have hlt:out.length - 1 - i < out.length:=by omega
      rw [List.length_map,List.getElem?_map,List.getElem?_eq_getElem hlt] at hx
      have ex:x=.int (out[out.length - 1 - i]):=by simpa using hx.symm
      have p0:=pos _ (List.getElem_mem hlt)
      refine ⟨(out[out.length - 1 - i]).toNat,?_,?_⟩
      · show (out.reverse.map Int.toNat)[i]?=_
        rw [List.getElem?_map,e1,List.getElem?_eq_getElem hlt]; rfl
      · rw [ex,Int.toNat_of_nonneg p0]
    refine w_name (w_drop (w_bm (w_var rfl ⟨tyV_lst z6,w_cons (w_comp (w_enum (w_cons (w_var rfl (w_nil ⟨D,rfl,⟨_,SqL.of d6⟩,fun F hF=>?_⟩)))))⟩)))
    refine comp_enum (K:=K) (a:=D) F ys (fun j ws σ2 H7=>ws=((List.range j).filter fun d=>hiF M d == kk).map nV∧Same H6 H7∧∃ r0 r1,σ2=[r0,r1,some (.int (kk:Nat))]) (by omega) (fun j ws σ2 H7 h=>by rw [h.1,List.length_map]; exact Nat.le_trans (List.length_filter_le _ _) (by simp)) (fun j ws σ2 H7 h _=>SqL.of (h.2.1 _ _ d6)) ⟨rfl,Same.laid hF,_,_,rfl⟩ ?_ ?_
    · rintro j y ws σ2 H7 t hy2 ⟨hw,s7,r0,r1,rfl⟩ hF7 ht
      have ey2:=(hy j y hy2).1
      subst ey2
      have Ft:F≠t:=fun z=>by rw [z,ht] at hF7; cases hF7
      have st:=Same.laid (o:=.tup [.int (j:Nat),.int (hiF M j:Nat)]) ht
      have hF8:(upd H7 t (.tup [.int (j:Nat),.int (hiF M j:Nat)])) F=some (.lst ws):=by rw [upd_ne Ft]; exact hF7
      refine w_gtup (SqT.of upd_same) rfl (w_gcons (w_name (w_gcons (w_name (w_gnil ?_)))))
      generalize upd H7 t (.tup [.int (j:Nat),.int (hiF M j:Nat)])=H8 at st hF8 ⊢
      refine w_test (w_op (w_var rfl (w_var rfl (w_eqI (w_bl (iteD (fun e=>?_) fun e=>?_))))))
      · refine w_var rfl ⟨hF8,?_,(s7.trans st).put hF,_,_,rfl⟩
        have e2:(hiF M j == kk)=true:=by rw [beq_iff_eq]; omega
        rw [hw,List.range_succ,List.filter_append,List.map_append]
        simp [e2]
      · refine ⟨hF8,?_,s7.trans st,_,_,rfl⟩
        have e2:(hiF M j == kk)=false:=by rw [beq_eq_false_iff_ne]; intro z; exact e (by rw [z])
        rw [hw,List.range_succ,List.filter_append,List.map_append]
        simp [e2]
    · rintro ws σ2 H7 ⟨hw,s7,_⟩ hF7
      have Fq:F≠q':=fun z=>by rw [z,z6] at hF; cases hF
      have tk:ks.take (i + 1)=ks.take i ++ [kk]:=by rw [List.take_add_one,hk]; rfl
      refine w_nil (w_append (s7 _ _ z6) (small1000 (by omega)) ⟨(s6.trans s7).put hq0,by rw [upd_ne Dq]; exact s7 _ _ d6,by rw [upd_ne (Ne.symm qr)]; exact s7 _ _ o6,_,_,upd_same,by rw [List.length_append,lz]; rfl,fun k l z=>?_,rfl⟩)
      rw [tk,lev_snoc] at z
      have ll:(levelsF (hiF M) M.length (ks.take i)).length=i:=by unfold levelsF; rw [List.length_map,List.length_take]; have:ks.length=out.length:=by simp [ks]
                                                                  omega
      rcases Nat.lt_or_ge k i with c | c
      · rw [List.getElem?_append_left (by omega)] at z
        obtain ⟨p,a1,a2,a3⟩:=lv k l z
        exact ⟨p,by rw [List.getElem?_append_left (by omega)]; exact a1,a2,by rw [upd_ne a2]; exact s7 _ _ a3⟩
      · rw [List.getElem?_append_right (by omega),ll] at z
        have ek:k=i:=by
          have:=(List.getElem?_eq_some_iff.mp z).1
          simp at this
          omega
        subst ek
        have el:(List.range M.length).filter (fun d=>hiF M d == kk)=l:=by simpa using z
        refine ⟨F,by rw [List.getElem?_append_right (by omega),lz]; simp,Fq,?_⟩
        rw [upd_ne Fq,hF7,hw,← el,hl3,lenM]
  · rintro σ H6 ⟨s6,d6,o6,zs,r3,z6,lz,lv,rfl⟩
    try dsimp only
    have lk:ks.length=(out.map V.int).length:=by simp [ks]
    rw [List.take_of_length_le (by omega)] at lv
    refine w_ret (w_var rfl (q (.ref q') ks H6 s6 ?_ (fun k=>?_) ⟨q',zs,rfl,z6,?_,fun k l z=>?_⟩))
    · exact pw
    · refine ⟨fun hk=>?_,fun ⟨d,hd,e⟩=>?_⟩
      · obtain ⟨x,hx,e⟩:=List.mem_map.mp hk
        obtain ⟨d,hd,e2⟩:=List.mem_map.mp ((mem x).mp (List.mem_reverse.mp hx))
        exact ⟨d,by have:=List.mem_range.mp hd; omega,by omega⟩
      · refine List.mem_map.mpr ⟨((hiF M d:Nat):Int),List.mem_reverse.mpr ((mem _).mpr (List.mem_map.mpr ⟨d,List.mem_range.mpr (by omega),rfl⟩)),by omega⟩
    · rw [lz]; unfold levelsF; simp [ks]
    · obtain ⟨p,a,_,b⟩:=lv k l z
      exact ⟨p,a,b⟩
theorem rd_taste_by {K:PySem.W.Frag} {a b:V} {H:Hp} {Q:VK} {E:XK} (h:sb_taste_by K a b H Q E):tb_taste_by K (Rt Q) [some a,some b,none,none,none,none,none,none] H:=by
  obtain ⟨gap,n,ls,gr,gok,n8,lvr,dn,pm,l9,pw,q⟩:=h
  obtain ⟨g,grs,rfl,hg,lgr,grow⟩:=id gr
  obtain ⟨lp,lrs,rfl,hlp,llr,lrow⟩:=id lvr
  unfold tb_taste_by
  refine w_seq (w_asg (w_dnew fun w hw=>w_name ?_))
  have s1:=Same.laid (o:=.dK []) hw
  have e1:=upd_same (H:=H) (a:=w) (o:=.dK [])
  generalize upd H w (.dK [])=H1 at s1 e1 ⊢
  try dsimp only
  refine w_seq (w_asg (w_dnew fun u hu=>w_name ?_))
  have s2:=s1.laidT (o:=.dK []) hu
  have e2:=upd_same (H:=H1) (a:=u) (o:=.dK [])
  have wu:w≠u:=fun z=>by rw [z,hu] at e1; cases e1
  have e3:(upd H1 u (.dK [])) w=some (.dK []):=by rw [upd_ne wu]; exact e1
  have u0:H u=none:=s1.free hu
  generalize upd H1 u (.dK [])=H2 at s2 e2 e3 ⊢
  try dsimp only
  refine w_seq (w_for (w_seq0 (w_var rfl ⟨_,rfl,.inl ⟨⟨_,SqL.of (s2 _ _ hlp)⟩,?_⟩⟩)))
  refine for_list (K:=K) (a:=lp) (xs:=lrs) (fun i σ H3=>Same H H3∧H3 w=some (.dK (wkv (·.2.1) (runW gap (ls.take i) [])))∧H3 u=some (.dK (wkv (·.2.2) (runW gap (ls.take i) [])))∧StOk (1 + 7 * i) n (runW gap (ls.take i) [])∧∃ r4 r5 r6 r7,σ=[some (.ref g),some (.ref lp),some (.ref w),some (.ref u),r4,r5,r6,r7]) ⟨s2,e3,e2,⟨List.nodup_nil,fun a ha=>(by cases ha),fun a ha=>(by cases ha)⟩,_,_,_,_,rfl⟩ (fun i σ H3 _ z=>SqL.of (z.1 _ _ hlp)) ?_ ?_
  · rintro i x σ H3 hx ⟨s3,w3,u3,so,r4,r5,r6,r7,rfl⟩
    have hi:i < ls.length:=by
      have:=(List.getElem?_eq_some_iff.mp hx).1
      omega
    obtain ⟨dp,hdp,hd⟩:=lrow i ls[i] (List.getElem?_eq_getElem hi)
    rw [hx] at hdp
    cases hdp
    have hm:ls[i]∈ls:=List.getElem_mem hi
    have dl:=dn _ hm
    have tk:ls.take (i + 1)=ls.take i ++ [ls[i]]:=by rw [List.take_add_one,List.getElem?_eq_getElem hi]; rfl
    have er:runW gap (ls.take (i + 1)) []=stepW gap (runW gap (ls.take i) []) ls[i]:=by rw [tk,run_snoc]
    have dy:(runW gap (ls.take i) []).map (·.1)=(ls.take i).flatten:=by rw [days_run]; rfl
    have fl:((ls.take i).flatten ++ ls[i]).Nodup:=by
      have h1:ls.flatten.Nodup:=pm.nodup_iff.mpr List.nodup_range
      have h2:(ls.take i).flatten ++ ls[i]=(ls.take (i + 1)).flatten:=by rw [tk,List.flatten_append]; simp
      rw [h2]
      rw [← List.take_append_drop (i + 1) ls,List.flatten_append] at h1
      exact (List.nodup_append.mp h1).1
    have pos:∀ a∈runW gap (ls.take i) [],∀ d∈ls[i],0 < gap d a.1:=fun a ha d hd'=>by
      have h1:a.1∈(ls.take i).flatten:=by rw [← dy]; exact List.mem_map.mpr ⟨a,ha,rfl⟩
      obtain ⟨l,hl,hal⟩:=List.mem_flatten.mp h1
      obtain ⟨j,hj,rfl⟩:=List.mem_iff_getElem.mp hl
      rw [List.length_take] at hj
      have e:(ls.take i)[j]'(by rw [List.length_take]; exact hj)=ls[j]'(by omega):=List.getElem_take
      rw [e] at hal
      exact List.pairwise_iff_getElem.mp pw j i (by omega) hi (by omega) _ hal _ hd'
    have so':=step_ok gok so dl (by rw [dy]; exact fl) pos
    generalize est:runW gap (ls.take i) []=st at w3 u3 so er dy pos so' ⊢
    rw [er]
    have gr3:=grep_same s3 gr
    have hd3:=s3 _ _ hd
    refine w_name (w_seq (w_asg (w_call (w_cons (w_var rfl (w_cons (w_var rfl (w_cons (w_var rfl (w_cons (w_var rfl (w_nil ⟨_,_,_,_,rfl,gap,1 + 7 * i,n,st,w,u,dp,ls[i],gr3,gok,n8,by omega,so,rfl,w3,rfl,u3,wu,rfl,hd3,dl,w_name ?_⟩))))))))))))
    try dsimp only
    generalize eo:lowW gap ls[i] st 0=own
    have kn:∀ (f:Wt→Int) (k:Nat) (hk:k < ls[i].length) (h2:Nat→Int×Int),valV (wkv f (st ++ (ls[i].take k).map fun d=>(d,h2 d))) (Sum.inl ((ls[i][k]:Nat):Int))=none:=fun f k hk h2=>by
      refine val_none fun kv hkv z=>?_
      obtain ⟨b,hb,rfl⟩:=List.mem_map.mp hkv
      have z':(b.1:Int)=((ls[i][k]:Nat):Int):=Sum.inl.inj z
      have z2:b.1=ls[i][k]:=by omega
      rcases List.mem_append.mp hb with c | c
      · have h1:b.1∈(ls.take i).flatten:=by rw [← dy]; exact List.mem_map.mpr ⟨b,c,rfl⟩
        exact (List.nodup_append.mp fl).2.2 _ h1 _ (List.getElem_mem hk) z2
      · obtain ⟨d,hd',rfl⟩:=List.mem_map.mp c
        obtain ⟨j,hj,e⟩:=List.mem_iff_getElem.mp hd'
        rw [List.length_take] at hj
        rw [List.getElem_take] at e
        have nd:=(List.nodup_append.mp fl).2.1
        have:=List.pairwise_iff_getElem.mp nd j k (by omega) hk (by omega)
        exact this (by rw [e]; exact z2)
    have ll:st.length + ls[i].length≤8:=by
      have h1:((ls.take i).flatten ++ ls[i]).length≤n:=nd_len n _ fl fun x hx=>by
        rcases List.mem_append.mp hx with c | c
        · obtain ⟨l,hl,hxl⟩:=List.mem_flatten.mp c
          exact dn l (List.mem_of_mem_take hl) x hxl
        · exact dl x c
      rw [List.length_append,← dy,List.length_map] at h1
      omega
    refine w_seq (w_for (w_seq0 (w_var rfl ⟨_,rfl,.inl ⟨⟨_,SqL.of hd3⟩,?_⟩⟩)))
    refine for_list (K:=K) (a:=dp) (xs:=ls[i].map nV) (fun k σ H4=>Same H H4∧H4 w=some (.dK (wkv (·.2.1) st))∧H4 u=some (.dK (wkv (·.2.2) (st ++ (ls[i].take k).map fun d=>(d,own,wtW gap d own st 1))))∧∃ r6,σ=[some (.ref g),some (.ref lp),some (.ref w),some (.ref u),some (.ref dp),some (.int own),r6,r7]) ⟨s3,w3,by simpa using u3,_,rfl⟩ (fun k σ H4 _ z=>SqL.of (z.1 _ _ hd)) ?_ ?_
    · rintro k y σ H4 hy ⟨s4,w4,u4,r6',rfl⟩
      have hk:k < ls[i].length:=by
        have:=(List.getElem?_eq_some_iff.mp hy).1
        simpa using this
      have ey:y=nV ls[i][k]:=by
        rw [List.getElem?_map,List.getElem?_eq_getElem hk] at hy
        simpa using hy.symm
      subst ey
      have dk:=dl _ (List.getElem_mem hk)
      refine w_name ?_
      refine w_call (w_cons (w_var rfl (w_cons (w_var rfl (w_cons (w_var rfl (w_cons (w_var rfl (w_nil ⟨_,_,_,_,rfl,gap,1 + 7 * i,n,st,w,ls[i][k],own,grep_same s4 gr,gok,n8,by omega,so,rfl,w4,rfl,rfl,dk,fun a ha=>pos a ha _ (List.getElem_mem hk),?_⟩)))))))))
      refine w_var rfl (w_var rfl ⟨u,_,rfl,DPut.k (k:=Sum.inl ((ls[i][k]:Nat):Int)) u4 ?_,s4.put u0,by rw [upd_ne wu]; exact w4,?_,_,rfl⟩)
      · unfold wkv; rw [List.length_map,List.length_append,List.length_map,List.length_take]; exact Nat.lt_of_le_of_lt (show _≤8 by omega) (by decide)
      · rw [upd_same,putK_new _ (kn (·.2.2) k hk _),List.take_add_one,List.getElem?_eq_getElem hk,Option.toList_some,List.map_append,← List.append_assoc,wkv_app (·.2.2) (st ++ _) _]; rfl
    · rintro σ H4 ⟨s4,w4,u4,r6',rfl⟩
      try dsimp only
      rw [List.length_map,List.take_length] at u4
      refine w_for (w_seq0 (w_var rfl ⟨_,rfl,.inl ⟨⟨_,SqL.of (s4 _ _ hd)⟩,?_⟩⟩))
      refine for_list (K:=K) (a:=dp) (xs:=ls[i].map nV) (fun k σ H5=>Same H H5∧H5 w=some (.dK (wkv (·.2.1) (st ++ (ls[i].take k).map fun d=>(d,own,wtW gap d own st 1))))∧H5 u=some (.dK (wkv (·.2.2) (st ++ ls[i].map fun d=>(d,own,wtW gap d own st 1))))∧∃ r6,σ=[some (.ref g),some (.ref lp),some (.ref w),some (.ref u),some (.ref dp),some (.int own),r6,r7]) ⟨s4,by simpa using w4,u4,_,rfl⟩ (fun k σ H4 _ z=>SqL.of (z.1 _ _ hd)) ?_ ?_
      · rintro k y σ H5 hy ⟨s5,w5,u5,r6',rfl⟩
        have hk:k < ls[i].length:=by
          have:=(List.getElem?_eq_some_iff.mp hy).1
          simpa using this
        have ey:y=nV ls[i][k]:=by
          rw [List.getElem?_map,List.getElem?_eq_getElem hk] at hy
          simpa using hy.symm
        subst ey
        refine w_name ?_
        refine w_var rfl (w_var rfl (w_var rfl ⟨w,_,rfl,DPut.k (k:=Sum.inl ((ls[i][k]:Nat):Int)) w5 ?_,s5.put hw,?_,by rw [upd_ne (Ne.symm wu)]; exact u5,_,rfl⟩))
        · unfold wkv; rw [List.length_map,List.length_append,List.length_map,List.length_take]; exact Nat.lt_of_le_of_lt (show _≤8 by omega) (by decide)
        · rw [upd_same,putK_new _ (kn (·.2.1) k hk _),List.take_add_one,List.getElem?_eq_getElem hk,Option.toList_some,List.map_append,← List.append_assoc,wkv_app (·.2.1) (st ++ _) _]; rfl
      · rintro σ H5 ⟨s5,w5,u5,r6',rfl⟩
        rw [List.length_map,List.take_length] at w5
        have es:stepW gap st ls[i]=st ++ ls[i].map fun d=>(d,own,wtW gap d own st 1):=by unfold stepW; rw [eo]
        rw [es] at so' ⊢
        exact ⟨s5,w5,u5,by rw [show 1 + 7 * (i + 1)=1 + 7 * i + 7 by omega]; exact so',_,_,_,_,rfl⟩
  · rintro σ H3 ⟨s3,w3,u3,so,r4,r5,r6,r7,rfl⟩
    try dsimp only
    have ek:ls.take lrs.length=ls:=List.take_of_length_le (by omega)
    rw [ek] at w3 u3 so
    have dy:(runW gap ls []).map (·.1)=ls.flatten:=by rw [days_run]; rfl
    generalize est:runW gap ls []=st at w3 u3 so dy q
    have pmd:(st.map (·.1)).Perm (List.range n):=by rw [dy]; exact pm
    have sl:st.length=n:=by have:=pmd.length_eq; simpa using this
    refine w_seq (w_asg (w_cb (w_cons (w_var rfl (w_nil (w_sortedD w3 (wkv_keys _ st) (by rw [List.length_map]; omega) fun ns' pn sn dp hdp=>w_name ?_))))))
    have en:ns'=(List.range n).map fun (d:Nat)=>(d:Int):=by
      refine sorted_eq (pn.trans ?_) sn (List.pairwise_map.mpr (List.Pairwise.imp (fun h=>by omega) List.pairwise_lt_range))
      have:=pmd.map fun (d:Nat)=>(d:Int)
      rw [List.map_map] at this
      exact this
    have s4:=s3.laidT (o:=.lst (ns'.map V.int)) hdp
    have z4:=Same.laid (o:=.lst (ns'.map V.int)) hdp
    have e4:=upd_same (H:=H3) (a:=dp) (o:=.lst (ns'.map V.int))
    have w4:=z4 _ _ w3
    have u4:=z4 _ _ u3
    generalize upd H3 dp (.lst (ns'.map V.int))=H4 at s4 e4 w4 u4 ⊢
    have ex:ns'.map V.int=(List.range n).map nV:=by rw [en,List.map_map]; rfl
    rw [ex] at e4
    try dsimp only
    have find:∀ (f:Wt→Int) d,d < n→valV (wkv f st) (Sum.inl ((d:Nat):Int))=some (.int (wOf f st d)):=fun f d hd=>by
      have h1:d∈st.map (·.1):=pmd.mem_iff.mpr (List.mem_range.mpr hd)
      obtain ⟨b,hb,eb⟩:=List.mem_map.mp h1
      have h2:=wkv_val f so.nd b hb
      rw [eb] at h2
      rw [h2]
      have h3:st.find? (fun a=>a.1 == d)=some b:=by
        cases ef:st.find? (fun a=>a.1 == d) with
        | none=>exact absurd (List.find?_eq_none.mp ef b hb) (by simp [eb])
        | some c =>
          have hc:=List.mem_of_find?_eq_some ef
          have ec:c.1=d:=by simpa using List.find?_some ef
          have h4:=wkv_val f so.nd c hc
          have h5:=wkv_val (fun a=>a.2.1) so.nd c hc
          obtain ⟨i1,hi1,r1⟩:=List.mem_iff_getElem.mp hc
          obtain ⟨i2,hi2,r2⟩:=List.mem_iff_getElem.mp hb
          rcases Nat.lt_trichotomy i1 i2 with z | z | z
          · have:=List.pairwise_iff_getElem.mp so.nd i1 i2 (by simpa using hi1) (by simpa using hi2) z
            simp [r1,r2,ec,eb] at this
          · subst z; rw [← r1,← r2]
          · have:=List.pairwise_iff_getElem.mp so.nd i2 i1 (by simpa using hi2) (by simpa using hi1) z
            simp [r1,r2,ec,eb] at this
      unfold wOf
      rw [h3]; rfl
    refine w_ret (w_tup (w_cons (w_c (w_cons (w_comp (w_seq0 (w_var rfl ⟨_,rfl,.inl ⟨⟨_,SqL.of e4⟩,fun D hD=>?_⟩⟩)))))))
    refine comp_seqP (K:=K) (a:=dp) (xs:=(List.range n).map nV) (σr:=[some (.ref w)]) (.inr ⟨rfl,e4⟩) D (fun i v H=>v=.int (wOf (·.2.1) st i)) (fun _ _ _ _ t z=>z) (by simp; omega) hD ⟨none,rfl⟩ (fun i x H5 R hx s5 kk=>?_) fun zs H5 hz hall s5 hD5=>?_
    · have hi:i < n:=by have:=(List.getElem?_eq_some_iff.mp hx).1; simpa using this
      have ex:x=nV i:=by rw [List.getElem?_map,List.getElem?_range hi] at hx; simpa using hx.symm
      subst ex
      exact w_dget (w_var rfl (w_var rfl ⟨w,_,rfl,find (·.2.1) i hi ▸ DGet.k (k:=Sum.inl ((i:Nat):Int)) (s5 _ _ w4),kk _ _ (Same.refl _) rfl⟩))
    refine w_cons (w_comp (w_seq0 (w_var rfl ⟨_,rfl,.inl ⟨⟨_,SqL.of (s5 _ _ e4)⟩,fun F hF=>?_⟩⟩)))
    refine comp_seqP (K:=K) (a:=dp) (xs:=(List.range n).map nV) (σr:=[some (.ref u)]) (.inr ⟨rfl,s5 _ _ e4⟩) F (fun i v H=>v=.int (wOf (·.2.2) st i)) (fun _ _ _ _ t z=>z) (by simp; omega) hF ⟨none,rfl⟩ (fun i x H6 R hx s6 kk=>?_) fun ys H6 hy hall2 s6 hF6=>?_
    · have hi:i < n:=by have:=(List.getElem?_eq_some_iff.mp hx).1; simpa using this
      have ex:x=nV i:=by rw [List.getElem?_map,List.getElem?_range hi] at hx; simpa using hx.symm
      subst ex
      exact w_dget (w_var rfl (w_var rfl ⟨u,_,rfl,find (·.2.2) i hi ▸ DGet.k (k:=Sum.inl ((i:Nat):Int)) (s6 _ _ (s5 _ _ u4)),kk _ _ (Same.refl _) rfl⟩))
    have full:∀ (f:Wt→Int) (xs:List V),xs.length=((List.range n).map nV).length→(∀ (i:Nat) v,xs[i]?=some v→v=.int (wOf f st i))→xs=(List.range n).map fun d=>V.int (wOf f st d):=fun f xs hl ha=>by
      apply List.ext_getElem?
      intro j
      have hl':xs.length=n:=by rw [hl]; simp
      rcases Nat.lt_or_ge j n with z | z
      · have h1:xs[j]?=some (xs[j]'(by omega)):=List.getElem?_eq_getElem (by omega)
        rw [h1,ha j _ h1,List.getElem?_map,List.getElem?_range z]; rfl
      · rw [List.getElem?_eq_none (by omega),List.getElem?_eq_none (by simp; omega)]
    have DF:D≠F:=fun z=>by rw [← z,hD5] at hF; cases hF
    refine w_nil ⟨by show 3≤sizeLine; decide,fun t ht=>q _ _ (((s4.trans s5).trans s6).laidT ht) ?_⟩
    have zt:=Same.laid (o:=.tup [.str "taste",.ref D,.ref F]) ht
    refine ⟨t,D,F,rfl,upd_same,s4.free hD,(s4.trans s5).free hF,DF,?_,?_⟩
    · rw [← full (·.2.1) zs hz hall]; exact zt _ _ (s6 _ _ hD5)
    · rw [← full (·.2.2) ys hy hall2]; exact zt _ _ hF6
theorem rd_gaps_from {K:PySem.W.Frag} {mg:Str→Option Value} {a b c:V} {H:Hp} {Q:VK} {E:XK} (h:sb_gaps_from K mg a b c H Q E):tb_gaps_from K mg (Rt Q) [some a,some b,some c,none] H:=by
  obtain ⟨B,m,n,d,t,x,y,r,g,m8,rfl,hd,rfl,ht,hx,hy,q⟩:=h
  obtain ⟨bp,xs,rfl,hb,hl,_⟩:=book_day r
  have gm:=g.m8
  have id':InB B (d:Int):=⟨by omega,by omega⟩
  have c0:=cost_bd g hd hd
  unfold tb_gaps_from
  refine w_seq (w_asg (w_op (w_op (w_var rfl (w_c (w_ixT (v:=.int x) (SqT.of ht) rfl (w_call (w_cons (w_var rfl (w_cons (w_var rfl (w_nil ⟨_,_,rfl,B,m,n,(d:Int),r,g,rfl,fun _ H1 s1=>?_,fun z=>absurd id' z⟩))))))))))))
  simp only [Int.toNat_natCast]
  refine w_mulI (mulok_s hx c0.1 c0.2) (w_name ?_)
  try dsimp only
  refine w_ret (w_comp (w_rng1 (w_cons (w_cb (w_cons (w_var rfl (w_nil (w_lenT (SqT.of (s1 _ _ hb)) (w_nil ⟨_,rfl,(rng_ok (by omega)).1,(rng_ok (by omega)).2,fun D hD=>?_⟩)))))))))
  refine comp_rangeP (n:=xs.length) D (fun j v _=>v=.int (gpF B x y d j)) (fun _ _ _ _ _ e=>e) (by omega) hD ⟨_,rfl⟩ (fun j H3 R hj s3 k=>?_) fun ys H3 hl3 hy3 s3 h3=>q D H3 (s1.trans s3) (s1.free hD) ?_
  · have hj':j < B.length:=by omega
    have ij:InB B (j:Int):=⟨by omega,by omega⟩
    have c1:=cost_bd g hd hj'
    have s13:=s1.trans s3
    refine w_op (w_op (w_op (w_var rfl (w_c (w_ixT (v:=.int y) (SqT.of (s13 _ _ ht)) rfl (w_call (w_cons (w_var rfl (w_cons (w_var rfl (w_cons (w_var rfl (w_nil ⟨_,_,_,rfl,B,m,n,(d:Int),(j:Int),Rep.mono s13 _ _ r,g,rfl,rfl,fun _ _ H4 s4=>?_,fun z=>absurd ⟨id',ij⟩ z⟩)))))))))))))
    simp only [Int.toNat_natCast]
    exact w_mulI (mulok_s hy c1.1 c1.2) (w_var rfl (w_subI (k _ _ s4 rfl)))
  · rw [h3,ints_eq (f:=fun j=>gpF B x y d j) hl3 hy3,hl]
theorem rd_gaps_of {K:PySem.W.Frag} {mg:Str→Option Value} {a b:V} {H:Hp} {Q:VK} {E:XK} (h:sb_gaps_of K mg a b H Q E):tb_gaps_of K mg (Rt Q) [some a,some b] H:=by
  obtain ⟨B,m,n,t,x,y,r,g,m8,rfl,ht,hx,hy,q⟩:=h
  obtain ⟨bp,xs,rfl,hb,hl,_⟩:=book_day r
  have gm:=g.m8
  unfold tb_gaps_of
  refine w_ret (w_comp (w_rng1 (w_cons (w_cb (w_cons (w_var rfl (w_nil (w_lenT (SqT.of hb) (w_nil ⟨_,rfl,(rng_ok (by omega)).1,(rng_ok (by omega)).2,fun D hD=>?_⟩)))))))))
  refine comp_rangeL (n:=xs.length) D (fun i=>(List.range B.length).map fun j=>gpF B x y i j) (by omega) hD ⟨_,rfl⟩ (fun i H3 R hi s3 k=>?_) fun rs H3 hl3 hr3 s3 h3=>q _ H3 s3 ⟨D,rs,rfl,h3,by omega,fun i hi=>?_⟩
  · exact w_call (w_cons (w_var rfl (w_cons (w_var rfl (w_cons (w_var rfl (w_nil ⟨_,_,_,rfl,B,m,n,i,t,x,y,Rep.mono s3 _ _ r,g,m8,rfl,by omega,rfl,s3 _ _ ht,hx,hy,fun q' H4 s4 f4 h4=>k q' H4 f4 s4 h4⟩)))))))
  · have hi':i < rs.length:=by omega
    obtain ⟨p,e,hp⟩:=hr3 i rs[i] (by simp [hi'])
    refine ⟨p,by rw [List.getElem?_eq_getElem hi',e],?_⟩
    rw [hp,List.map_map]; rfl
theorem rd_ring_in {K:PySem.W.Frag} {a:V} {H:Hp} {Q:VK} {E:XK} (h:sb_ring_in K a H Q E):tb_ring_in K (Rt Q) [some a,none,none] H:=by
  obtain ⟨M,mr,ML,sq,q⟩:=h
  unfold tb_ring_in
  refine w_seq (w_for (w_seq0 (w_call (w_cons (w_var rfl (w_nil ⟨_,rfl,M,mr,ML,sq,fun l rs H3 s3 hl sr=>?_⟩))))))
  refine ⟨l,rfl,.inl ⟨⟨_,SqL.of hl⟩,for_list (K:=K) (a:=l) (fun i σ H4=>Same H3 H4∧rngF M=((stepsF M).drop i).findSome? (fun s=>if inK (chainsF M s.2) s.1=true then some (chOf (chainsF M s.2) s.1) else none)∧∃ r5 r6,σ=[some a,r5,r6]) ⟨fun _ _ z=>z,rfl,_,_,rfl⟩ (fun i σ H4 _ ⟨e,_⟩=>SqL.of (e _ _ hl)) ?_ ?_⟩⟩
  · rintro i e σ H4 he ⟨s4,hf,r5,r6,rfl⟩
    obtain ⟨s,hs⟩:∃ s,(stepsF M)[i]?=some s:=by
      have hi:i < rs.length:=by
        rcases Nat.lt_or_ge i rs.length with z | z
        · exact z
        · rw [List.getElem?_eq_none z] at he; cases he
      rw [sr.1] at hi
      exact ⟨_,List.getElem?_eq_getElem hi⟩
    obtain ⟨t,e1,e2⟩:=sr.2 i s hs
    rw [e1] at he
    have he':V.ref t=e:=by simpa using he
    subst he'
    obtain ⟨_,row,ar,ab⟩:=all_mem _ 0 s (List.mem_of_getElem? hs)
    have s1n:s.1 < M.length:=by
      rcases Nat.lt_or_ge s.1 M.length with z | z
      · exact z
      · rw [List.getElem?_eq_none (by omega)] at ar; cases ar
    have s2n:s.2 < M.length:=by
      have rl:=sq row (List.mem_of_getElem? ar)
      rcases Nat.lt_or_ge s.2 M.length with z | z
      · exact z
      · rw [List.getElem?_eq_none (by omega)] at ab; cases ab
    rw [seq_drop hs,List.findSome?_cons] at hf
    have ht:=s4 _ _ e2
    refine w_name (w_seq (w_asg (w_call (w_cons (w_var rfl (w_cons (w_op (w_var rfl (w_c (w_ixT (v:=nV s.2) (SqT.of ht) rfl ?_))))))))))
    refine w_nil ⟨_,_,rfl,M,s.2,mrep_same (s3.trans s4) mr,ML,sq,rfl,s2n,fun d2 wa2 kvs2 H5 s5 hd2 dr2 gs2=>w_name ?_⟩
    try dsimp only
    refine w_ifS (w_tB (w_din (w_op (w_var rfl (w_c (w_ixT (v:=nV s.1) (SqT.of (s5 _ _ ht)) rfl (w_var rfl ⟨d2,_,rfl,DGet.k (k:=Sum.inl (s.1:Int)) hd2,w_bl ?_⟩)))))))
    rcases DRep.get (o:=s.1) dr2 with ⟨n1,ev1⟩ | ⟨y1,p1,ev1,_,hp1⟩
    · rw [ev1]
      refine iteF (w_next ⟨s4.trans s5,?_,_,_,rfl⟩)
      rw [hf,if_neg (by rw [n1]; decide)]
    · rw [ev1]
      rw [if_pos y1] at hf
      refine iteT (w_ret (w_dget (w_var rfl (w_op (w_var rfl (w_c (w_ixT (v:=nV s.1) (SqT.of (s5 _ _ ht)) rfl ⟨d2,_,rfl,ev1 ▸ DGet.k (k:=Sum.inl (s.1:Int)) hd2,?_⟩)))))))
      exact q _ _ ((s3.trans s4).trans s5) (.inr ⟨_,p1,hf,rfl,hp1⟩)
  · rintro σ H4 ⟨s4,hf,r5,r6,rfl⟩
    rw [sr.1,List.drop_length] at hf
    try dsimp only
    exact w_ret (w_c (q _ _ (s3.trans s4) (.inl ⟨hf,rfl⟩)))
theorem rd_taste_of {K:PySem.W.Frag} {mg:Str→Option Value} {a b:V} {H:Hp} {Q:VK} {E:XK} (h:sb_taste_of K mg a b H Q E):tb_taste_of K mg (Rt Q) [some a,some b,none,none,none] H:=by
  obtain ⟨B,m,n,x,y,r,g,m8,sv,hx,hy,q⟩:=h
  have gm:=g.m8
  have n8:B.length≤8:=by omega
  have gok:=gp_bd g hx hy
  unfold tb_taste_of
  refine w_seq (w_asg (w_call (w_cons (w_var rfl (w_cons (w_ifE (w_test (w_op (w_var rfl (w_c (w_isN (w_bl ?_))))))))))))
  have go:∀ {v:V} {H1:Hp} (t:Addr),Same H H1→v=.ref t→H1 t=some (.tup [.int x,.int y])→tNil [some a,some b,none,none,none] H1 fun vs H2=>sp_gaps_of K mg (a :: v :: vs) H2 (fun u H3=>tSeq (tAsg (tCall (sp_cut_marks_of K) [] E0 (tCons (tVar 2) tNil)) (gName 3))
    (tSeq (tAsg (tCall (sp_ring_in K) [] E0 (tCons (tVar 3) tNil)) (gName 4))
    (tSeq (tIfS (tTest (tOp rIsNotU (tVar 4) (tC .non))) (tRet (tTup (tCons (tC (.str "ring")) (tCons (tVar 4) tNil)))) tNext)
    (tRet (tCall (sp_taste_by K) [] E0 (tCons (tVar 2) (tCons (tCall (sp_levels_of K) [] E0 (tCons (tVar 3) tNil)) tNil)))))) (Rt Q) [some a,some b,some u,none,none] H3) E0:=by
    intro v H1 t s1 hv ht
    subst hv
    refine w_nil ⟨_,_,rfl,B,m,n,t,x,y,Rep.mono s1 _ _ r,g,by omega,rfl,ht,hx,hy,fun gv H2 s2 gr=>?_⟩
    refine w_seq (w_asg (w_call (w_cons (w_var rfl (w_nil ⟨_,rfl,gpF B x y,B.length,gr,n8,fun mv H3 s3 mr=>w_name ?_⟩)))))
    try dsimp only
    have ML:(cmM (gpF B x y) B.length).length≤8:=by rw [cm_len]; exact n8
    refine w_seq (w_asg (w_call (w_cons (w_var rfl (w_nil ⟨_,rfl,cmM (gpF B x y) B.length,mr,ML,cm_sq _ _,fun rv H4 s4 hr=>w_name ?_⟩)))))
    try dsimp only
    have s14:=((s1.trans s2).trans s3).trans s4
    rcases hr with ⟨no,rfl⟩ | ⟨c,p,yes,rfl,hp⟩
    · refine w_seq (w_ifS (w_test (w_op (w_var rfl (w_c (w_isnN (w_bl (iteNF rfl (w_next ?_)))))))))
      try dsimp only
      refine w_ret (w_call (w_cons (w_var rfl (w_cons (w_call (w_cons (w_var rfl (w_nil ⟨_,rfl,cmM (gpF B x y) B.length,mrep_same s4 mr,ML,cm_sq _ _,fun lv ks H5 s5 kd km lr=>w_nil ?_⟩))))))))
      rw [cm_len] at km lr
      have hb:∀ d,d < B.length→hiF (cmM (gpF B x y) B.length) d≤8:=fun d hd=>hi_le n8 d hd
      have ek:ks=ksF (hiF (cmM (gpF B x y) B.length)) B.length:=desc_eq kd (ks_down _ _) fun k=>(km k).trans (ks_mem hb k).symm
      subst ek
      have hk:∀ d,d < B.length→hiF (cmM (gpF B x y) B.length) d∈ksF (hiF (cmM (gpF B x y) B.length)) B.length:=fun d hd=>(ks_mem hb _).mpr ⟨d,hd,rfl⟩
      refine ⟨_,_,rfl,gpF B x y,B.length,_,grep_same ((s3.trans s4).trans s5) gr,gok,n8,lr,lv_lt,lev_perm (ks_down _ _) hk,by unfold levelsF; rw [List.length_map]; exact ks_len _ _,lv_pos (ks_down _ _),fun w H6 s6 ts=>?_⟩
      refine q w H6 ((s14.trans s5).trans s6) ?_
      have et:tasA (gpF B x y) B.length=.inr (tasteW (gpF B x y) B.length):=by unfold tasA; rw [no]
      rw [et]
      obtain ⟨t',p1,p2,e,h1,a1,a2,b1,h2,h3⟩:=ts
      exact ⟨t',p1,p2,e,h1,(s14.trans s5).free a1,(s14.trans s5).free a2,b1,h2,h3⟩
    · refine w_seq (w_ifS (w_test (w_op (w_var rfl (w_c (w_isnN (w_bl (iteNT (fun z=>(by cases z)) ?_))))))))
      refine w_ret (w_tup (w_cons (w_c (w_cons (w_var rfl (w_nil ⟨by show 2≤sizeLine; decide,fun t' ht'=>?_⟩))))))
      refine q _ _ (s14.laidT ht') ?_
      have et:tasA (gpF B x y) B.length=.inl c:=by unfold tasA; rw [yes]
      rw [et]
      exact ⟨t',p,rfl,upd_same,Same.laid ht' _ _ hp⟩
  rcases sv with ⟨rfl,rfl,rfl⟩ | ⟨t,rfl,ht⟩
  · refine iteDT rfl (w_tup (w_cons (w_c (w_cons (w_c (w_nil ⟨by show 2≤sizeLine; decide,fun t ht=>?_⟩))))))
    exact go t (Same.laid ht) rfl upd_same
  · refine iteDF (fun z=>(by cases z)) (w_var rfl ?_)
    exact go t (Same.refl _) rfl ht
theorem rd__law_wide {K:PySem.W.Frag} {a b c:V} {H:Hp} {Q:VK} {E:XK} (h:sb__law_wide K a b c H Q E):tb__law_wide K (Rt Q) [some a,some b,some c] H:=by
  obtain ⟨t,dl,f,ds,st,m,rfl,ht,hd,dw,rfl,rfl,m1,m8,l1,l2,l3,q⟩:=h
  have up:∀ {m k:Nat} {B:List (List Int×List Int)},m≤8→GoodBook m k B→GoodBook 8 k B:=fun hm g=>⟨g.n1,g.n6,g.m1,Nat.le_trans g.m8 hm,g.dy⟩
  have big:tRet (tCall (sp__law_book K) [] E0 (tCons (tVar 0) (tCons (tVar 1) (tCons (tVar 2) (tCons (tC (.int 6)) tNil))))) (Rt Q) [some (.ref t),some (.int st),some (.int m)] H:=by
    exact w_ret (w_call (w_cons (w_var rfl (w_cons (w_var rfl (w_cons (w_var rfl (w_cons (w_c (w_nil ⟨_,_,_,_,rfl,t,dl,f,ds,st,m,6,rfl,ht,hd,dw,rfl,rfl,rfl,m1,m8,by decide,by decide,by omega,l3,fun v B k H' s r g _=>q v B k H' s r (up m8 g)⟩))))))))))
  unfold tb__law_wide
  refine w_seq (w_ifS (w_or (w_test (w_op (w_op (w_var rfl (w_c (w_ixT (v:=.int f) (SqT.of ht) rfl (w_c (w_eqI (w_bl (iteD (fun e=>iteT big) fun e=>?_))))))))))))
  refine w_test (w_op (w_op (w_op (w_op (w_op (w_var rfl (w_c (w_ixT (v:=.ref dl) (SqT.of ht) rfl (w_var rfl (w_ixL (SqL.of hd) (ixi (by omega)) (w_c (w_divI (by decide) (by decide) (w_c (w_modI (by decide) (w_c (w_eqI (w_bl (iteD (fun e=>big) fun e=>w_next ?_))))))))))))))))))
  try dsimp only
  exact w_ret (w_call (w_cons (w_var rfl (w_cons (w_var rfl (w_cons (w_c (w_cons (w_c (w_nil ⟨_,_,_,_,rfl,t,dl,f,ds,st,6,4,rfl,ht,hd,dw,rfl,rfl,rfl,by decide,by decide,by decide,by decide,by omega,l3,fun v B k H' s r g _=>q v B k H' s r (up (by decide) g)⟩))))))))))
theorem bt_set:bootBuiltins "set"=some (.type "set"):=by decide +kernel
theorem kit_list {K:PySem.W.Frag}:PySem.W.kitOne K (.type "list") (.type "list")=some true:=by kernel_rfl
theorem rd__law_days {K:PySem.W.Frag} {a b:V} {H:Hp} {Q:VK} {E:XK} (h:sb__law_days K a b H Q E):tb__law_days K (Rt Q) [some a,some b,none] H:=by
  obtain ⟨p,ns,n,rfl,hp,nd,hl,rfl,hr,q⟩:=h
  unfold tb__law_days
  refine w_seq (w_ifS (w_or (w_not (w_tru (w_cb (w_cons (w_var rfl (w_cons (w_c (w_nil ⟨_,"list",_,true,rfl,.lst hp,kit_list,w_trub (iteF ?_)⟩))))))))))
  refine w_test (w_op (w_cb (w_cons (w_var rfl (w_nil (w_lenL (SqL.of hp) ?_))))))
  refine w_cb (w_cons (w_cb (w_cons (w_var rfl (w_nil ⟨p,ns,rfl,SqL.of hp,nd,by omega,fun t S ht=>w_nil ⟨t,S,ns.length,rfl,upd_same,by omega,?_⟩⟩)))))
  refine w_neI (w_bl (iteNF (by rw [List.length_map]) (w_next ?_)))
  have s1:=Same.laid (o:=.set S ns.length) ht
  generalize upd H t (.set S ns.length)=H1 at s1 ⊢
  refine w_seq (w_for (w_seq0 (w_var rfl ⟨p,rfl,.inl ⟨⟨_,SqL.of (s1 _ _ hp)⟩,for_list (K:=K) (a:=p) (fun _ σ H2=>Same H H2∧∃ r2,σ=[some (.ref p),some (.int (n:Nat)),r2]) ⟨s1,_,rfl⟩ (fun _ σ H2 _ ⟨e,_⟩=>SqL.of (e _ _ hp)) ?_ ?_⟩⟩)))
  · rintro i e σ H2 he ⟨s2,r2,rfl⟩
    obtain ⟨z,hz,e'⟩:=List.mem_map.mp (List.mem_of_getElem? he)
    subst e'
    obtain ⟨z0,z1⟩:=hr z hz
    refine w_name (w_ifS (w_or (w_not (w_tru (w_call (w_cons (w_var rfl (w_nil ⟨_,rfl,_,true,.int _,.int,w_trub (iteF ?_)⟩))))))))
    exact w_not (w_test (w_chain (w_c (w_var rfl (w_leI ⟨_,rfl,iteDT z0 (w_var rfl (w_ltI (w_bl (iteNF z1 (w_next ⟨s2,_,rfl⟩)))))⟩)))))
  rintro σ H2 ⟨s2,r2,rfl⟩
  show tRet (tC (.bl true)) (Rt Q) [some (.ref p),some (.int (n:Nat)),r2] H2
  exact w_ret (w_c (q _ s2))
theorem rd__law_ints {K:PySem.W.Frag} {a b:V} {H:Hp} {Q:VK} {E:XK} (h:sb__law_ints K a b H Q E):tb__law_ints K (Rt Q) [some a,some b] H:=by
  obtain ⟨p,ns,rfl,hp,hn,rfl,q⟩:=h
  unfold tb__law_ints
  refine w_ret (w_andV (w_cb (w_cons (w_var rfl (w_cons (w_c (w_nil ⟨_,"list",_,true,rfl,.lst hp,kit_list,true,rfl,iteT ?_⟩)))))))
  refine w_andV (w_op (w_cb (w_cons (w_var rfl (w_nil (w_lenL (SqL.of hp) (w_var rfl (w_eqI ⟨_,rfl,iteDT (by rw [List.length_map]) ?_⟩))))))))
  refine w_op (w_cb (w_cons (w_comp (w_seq0 (w_var rfl ⟨_,rfl,.inl ⟨⟨_,SqL.of hp⟩,fun D hD=>?_⟩⟩)))))
  refine comp_seq D (ns.map V.int) (fun i ys σ2 H2=>ys.length=i∧Same H H2∧∃ r0,σ2=[r0]) (by rw [List.length_map]; omega) (fun i ys σ H h=>Nat.le_of_eq h.1) (fun i ys σ2 H2 h _=>itl_of (SqL.of (h.2.1 _ _ hp)) i) ⟨rfl,Same.laid hD,_,rfl⟩ ?_ ?_
  · rintro i x ys σ2 H2 hi ⟨hl,s2,r0,rfl⟩ hD2
    rw [List.getElem?_map] at hi
    obtain ⟨z,hz,rfl⟩:=Option.map_eq_some_iff.mp hi
    refine w_name (w_tru (w_call (w_cons (w_var rfl (w_nil ⟨_,rfl,_,true,TyOf.int _,.int,w_trub (iteT (w_var rfl ⟨hD2,by simp [hl],s2.put hD,_,rfl⟩))⟩)))))
  · rintro ys σ2 H2 ⟨hl,s2,_⟩ hD2
    refine w_nil (w_lenL (SqL.of hD2) (w_var rfl (w_eqI ?_)))
    rw [decide_eq_true (by rw [hl,List.length_map])]
    exact q H2 s2
theorem rd__law_is_ring {K:PySem.W.Frag} {a b c:V} {H:Hp} {Q:VK} {E:XK} (h:sb__law_is_ring K a b c H Q E):tb__law_is_ring K (Rt Q) [some a,some b,some c,none,none,none,none] H:=by
  obtain ⟨B,m,n,t,p,x,y,r,rB,g,m8,rfl,ht,hx,hy,rfl,hp,ro,q⟩:=h
  obtain ⟨bp,xs,rfl,hb,hl,_⟩:=book_day rB
  have gm:=g.m8
  have rl:r.length≤8:=Nat.le_trans (nd_len _ _ ro.nd ro.lt) (by omega)
  have r2:=ro.two
  have rp:0 < r.length:=by omega
  have lm:(r.map nV).length=r.length:=List.length_map ..
  have hp':H p=some (.lst ((cI r).map V.int)):=by rw [← nv_ints]; exact hp
  have nd':(cI r).Nodup:=List.Pairwise.map _ (fun a b (hab:a≠b)=>by intro w; exact hab (by omega)) ro.nd
  have mem:∀ i,i < r.length→r.getD i 0 < B.length:=fun i hi=>ro.lt _ (by rw [List.getD,List.getElem?_eq_getElem hi]; exact List.getElem_mem _)
  unfold tb__law_is_ring
  refine w_seq (w_ifS (w_or (w_not (w_tru (w_call (w_cons (w_var rfl (w_cons (w_cb (w_cons (w_var rfl (w_nil (w_lenT (SqT.of hb) (w_nil ⟨_,_,rfl,p,cI r,xs.length,rfl,hp',nd',by rw [List.length_map]; omega,rfl,?_,fun H1 s1=>w_trub (iteF ?_)⟩))))))))))))))
  · intro z hz
    obtain ⟨w,hw,rfl⟩:=List.mem_map.mp hz
    have:=ro.lt w hw
    omega
  have hp1:=s1 _ _ hp
  refine w_test (w_op (w_cb (w_cons (w_var rfl (w_nil (w_lenL (SqL.of hp1) (w_c (w_ltI (w_bl (iteDF (by rw [lm]; omega) (w_next ?_)))))))))))
  try dsimp only
  refine w_seq (w_asg (w_c (w_name ?_)))
  try dsimp only
  refine w_seq (w_for (w_rng1 (w_cons (w_cb (w_cons (w_var rfl (w_nil (w_lenL (SqL.of hp1) (w_nil ⟨_,rfl,(rng_ok (by omega)).1,(rng_ok (by omega)).2,?_⟩)))))))))
  refine for_range0 (n:=(r.map nV).length) (fun i σ H3=>Same H H3∧∃ bb r4 r5 r6,(i=r.length→bb=true)∧σ=[some (.ref bp),some (.ref t),some (.ref p),some (.bl bb),r4,r5,r6]) ⟨s1,false,_,_,_,fun z=>by omega,rfl⟩ ?_ ?_
  · rintro i σ H3 hi ⟨s3,bb,r4,r5,r6,hbb,rfl⟩
    have hi':i < r.length:=by omega
    have hm:=Nat.mod_lt (i + 1) rp
    have mi:=mem i hi'
    have mj:=mem ((i + 1) % r.length) hm
    have hp3:=s3 _ _ hp
    have ri:(r.map nV)[i]?=some (nV (r.getD i 0)):=by
      rw [List.getElem?_map,List.getElem?_eq_getElem hi',List.getD,List.getElem?_eq_getElem hi']; rfl
    have rj:(r.map nV)[(i + 1) % r.length]?=some (nV (r.getD ((i + 1) % r.length) 0)):=by
      rw [List.getElem?_map,List.getElem?_eq_getElem hm,List.getD,List.getElem?_eq_getElem hm]; rfl
    have em:((i:Int) + 1) % ((r.map nV).length:Int)=(((i + 1) % r.length:Nat):Int):=by rw [lm,Int.natCast_emod]; rfl
    have le:=ro.le i hi'
    have be:i + 1=r.length→gpF B x y (r.getD i 0) (r.getD ((i + 1) % r.length) 0) < 0:=fun e=>by
      have h:=ro.be
      rw [e,Nat.mod_self,show i=r.length - 1 by omega]
      exact h
    generalize r.getD i 0=d at ri mi le be
    generalize r.getD ((i + 1) % r.length) 0=o at rj mj le be
    have id':InB B (d:Int):=⟨by omega,by omega⟩
    have io:InB B (o:Int):=⟨by omega,by omega⟩
    have c0:=cost_bd g mi mi
    have c1:=cost_bd g mi mj
    refine w_name (w_seq (w_asg (w_op (w_var rfl (w_var rfl (w_ixL (SqL.of hp3) (atI_nat ri) (w_name ?_)))))))
    try dsimp only
    refine w_seq (w_asg (w_op (w_op (w_op (w_var rfl (w_c (w_ixT (v:=.int y) (SqT.of (s3 _ _ ht)) rfl (w_call (w_cons (w_var rfl (w_cons (w_var rfl (w_cons (w_op (w_var rfl (w_op (w_op (w_var rfl (w_c (w_addI (w_cb (w_cons (w_var rfl (w_nil (w_lenL (SqL.of hp3) (w_modI (by rw [lm]; omega) ?_))))))))))))))))))))))))))
    rw [em]
    refine w_ixL (SqL.of hp3) (atI_nat rj) (w_nil ⟨_,_,_,rfl,B,m,n,(d:Int),(o:Int),Rep.mono s3 _ _ rB,g,rfl,rfl,id',io,fun H4 s4=>?_⟩)
    simp only [Int.toNat_natCast]
    refine w_mulI (mulok_s hy c1.1 c1.2) ?_
    refine w_op (w_op (w_var rfl (w_c (w_ixT (v:=.int x) (SqT.of (s4 _ _ (s3 _ _ ht))) rfl (w_call (w_cons (w_var rfl (w_cons (w_var rfl (w_cons (w_var rfl (w_nil ⟨_,_,_,rfl,B,m,n,(d:Int),(d:Int),Rep.mono (s3.trans s4) _ _ rB,g,rfl,rfl,id',id',fun H5 s5=>?_⟩))))))))))))
    simp only [Int.toNat_natCast]
    refine w_mulI (mulok_s hx c0.1 c0.2) (w_subI (w_name ?_))
    have e:y * costF B d o - x * costF B d d=gpF B x y d o:=rfl
    rw [e]
    try dsimp only
    refine w_seq (w_ifS (w_test (w_op (w_var rfl (w_c (w_gtI (w_bl (iteDF (fun z=>by omega) (w_next ?_)))))))))
    try dsimp only
    refine w_asg (w_orV (w_var rfl ⟨bb,rfl,?_⟩))
    cases bb with
    | true=>exact iteT (w_name ⟨(s3.trans s4).trans s5,true,_,_,_,fun _=>rfl,rfl⟩)
    | false=>exact iteF (w_op (w_var rfl (w_c (w_ltI (w_name ⟨(s3.trans s4).trans s5,_,_,_,_,fun z=>decide_eq_true (be z),rfl⟩)))))
  · rintro σ H3 ⟨s3,bb,r4,r5,r6,hbb,rfl⟩
    try dsimp only
    have e:bb=true:=hbb lm
    subst e
    exact w_ret (w_var rfl (q H3 s3))
theorem rd__law_is_taste {K:PySem.W.Frag} {a b c d:V} {H:Hp} {Q:VK} {E:XK} (h:sb__law_is_taste K a b c d H Q E):tb__law_is_taste K (Rt Q) [some a,some b,some c,some d,none,none,none] H:=by
  obtain ⟨B,m,n,t,p1,p2,x,y,st,rB,g,m8,rfl,ht,hx,hy,rfl,h1,rfl,h2,ok,q⟩:=h
  obtain ⟨bp,xs,rfl,hb,hl,_⟩:=book_day rB
  have gm:=g.m8
  have m1:=g.m1
  have gok:=gp_bd g hx hy
  have ge:∀ (f:Nat→Int) i,i < B.length→((List.range B.length).map f).getD i 0=f i:=fun f i hi=>by simp [hi]
  have ll:∀ f:Nat→Int,((List.range B.length).map f).length=B.length:=fun f=>by simp
  unfold tb__law_is_taste
  refine w_seq (w_ifS (w_or (w_not (w_tru (w_call (w_cons (w_var rfl (w_cons (w_cb (w_cons (w_var rfl (w_nil (w_lenT (SqT.of hb) (w_nil ⟨_,_,rfl,p1,_,rfl,h1,by rw [ll]; omega,by rw [ll,hl],fun H1 s1=>w_trub (iteF ?_)⟩))))))))))))))
  refine w_or (w_not (w_tru (w_call (w_cons (w_var rfl (w_cons (w_cb (w_cons (w_var rfl (w_nil (w_lenT (SqT.of (s1 _ _ hb)) (w_nil ⟨_,_,rfl,p2,_,rfl,s1 _ _ h2,by rw [ll]; omega,by rw [ll,hl],fun H2 s2=>w_trub (iteF ?_)⟩))))))))))))
  have s12:=s1.trans s2
  refine w_test (w_op (w_cb (w_cons (w_var rfl (w_nil ⟨p2,_,rfl,.inl (SqL.of (s12 _ _ h2)),fun z=>?_,fun mm hm _=>w_c (w_ltI (w_bl (iteDF ?_ (w_next ?_))))⟩)))))
  · have:=congrArg List.length z
    rw [ll] at this
    exact absurd (show B.length=0 from this) (by omega)
  · obtain ⟨d,hd,rfl⟩:=List.mem_map.mp hm
    have:=ok.w1 d (List.mem_range.mp hd)
    omega
  try dsimp only
  refine w_seq (w_for (w_rng1 (w_cons (w_cb (w_cons (w_var rfl (w_nil (w_lenT (SqT.of (s12 _ _ hb)) (w_nil ⟨_,rfl,(rng_ok (by omega)).1,(rng_ok (by omega)).2,?_⟩)))))))))
  refine for_range0 (n:=xs.length) (fun _ σ H3=>Same H H3∧∃ r4 r5 r6,σ=[some (.ref bp),some (.ref t),some (.ref p1),some (.ref p2),r4,r5,r6]) ⟨s12,_,_,_,rfl⟩ ?_ ?_
  · rintro i σ H3 hi ⟨s3,r4,r5,r6,rfl⟩
    refine w_name (w_for (w_rng1 (w_cons (w_cb (w_cons (w_var rfl (w_nil (w_lenT (SqT.of (s3 _ _ hb)) (w_nil ⟨_,rfl,(rng_ok (by omega)).1,(rng_ok (by omega)).2,?_⟩)))))))))
    refine for_range0 (n:=xs.length) (fun _ σ H4=>Same H H4∧∃ r5 r6,σ=[some (.ref bp),some (.ref t),some (.ref p1),some (.ref p2),some (.int (i:Nat)),r5,r6]) ⟨s3,_,_,rfl⟩ ?_ ?_
    · rintro j σ H4 hj ⟨s4,r5,r6,rfl⟩
      have hi':i < B.length:=by omega
      have hj':j < B.length:=by omega
      have id':InB B (i:Int):=⟨by omega,by omega⟩
      have io:InB B (j:Int):=⟨by omega,by omega⟩
      have c0:=cost_bd g hi' hi'
      have c1:=cost_bd g hi' hj'
      refine w_name (w_seq (w_asg (w_op (w_op (w_op (w_var rfl (w_c (w_ixT (v:=.int y) (SqT.of (s4 _ _ ht)) rfl (w_call (w_cons (w_var rfl (w_cons (w_var rfl (w_cons (w_var rfl (w_nil ⟨_,_,_,rfl,B,m,n,(i:Int),(j:Int),Rep.mono s4 _ _ rB,g,rfl,rfl,id',io,fun H5 s5=>?_⟩))))))))))))))))
      simp only [Int.toNat_natCast]
      refine w_mulI (mulok_s hy c1.1 c1.2) ?_
      refine w_op (w_op (w_var rfl (w_c (w_ixT (v:=.int x) (SqT.of (s5 _ _ (s4 _ _ ht))) rfl (w_call (w_cons (w_var rfl (w_cons (w_var rfl (w_cons (w_var rfl (w_nil ⟨_,_,_,rfl,B,m,n,(i:Int),(i:Int),Rep.mono (s4.trans s5) _ _ rB,g,rfl,rfl,id',id',fun H6 s6=>?_⟩))))))))))))
      simp only [Int.toNat_natCast]
      refine w_mulI (mulok_s hx c0.1 c0.2) (w_subI (w_name ?_))
      have e:y * costF B i j - x * costF B i i=gpF B x y i j:=rfl
      rw [e]
      have s6':=(s4.trans s5).trans s6
      have k1:=s6' _ _ h1
      have k2:=s6' _ _ h2
      try dsimp only
      refine w_ifS (w_and (w_test (w_op (w_var rfl (w_var rfl (w_neI (w_bl (iteN (fun ne=>?_) fun eq=>iteF (w_next ⟨s6',_,_,rfl⟩)))))))))
      refine w_test (w_op (w_op (w_var rfl (w_var rfl (w_ixL (SqL.of k1) (ixi (by rw [ll]; omega)) (w_op (w_op (w_var rfl (w_var rfl (w_ixL (SqL.of k1) (ixi (by rw [ll]; omega)) ?_))))))))))
      refine w_op (w_op (w_var rfl (w_var rfl (w_ixL (SqL.of k2) (ixi (by rw [ll]; omega)) (w_var rfl ?_)))))
      rw [ge _ i hi',ge _ i hi',ge _ j hj']
      refine w_mulI (BdI.mul (by decide) (by decide) (ok.bw i hi') (gok i j hi' hj')) (w_addI (w_gtI (w_bl (iteDF ?_ (w_next ⟨s6',_,_,rfl⟩)))))
      have:=ok.ok i j hi' hj' (fun z=>ne (by rw [z]))
      omega
    · rintro σ H4 ⟨s4,r5,r6,rfl⟩
      exact ⟨s4,_,_,_,rfl⟩
  · rintro σ H3 ⟨s3,r4,r5,r6,rfl⟩
    try dsimp only
    exact w_ret (w_c (q H3 s3))
theorem map_int (n:Nat) (f:Nat→Int):((List.range n).map fun d=>V.int (f d))=((List.range n).map f).map V.int:=by rw [List.map_map]; rfl
theorem rd__law_kind_of {K:PySem.W.Frag} {a b c:V} {H:Hp} {Q:VK} {E:XK} (h:sb__law_kind_of K a b c H Q E):tb__law_kind_of K (Rt Q) [some a,some b,some c] H:=by
  obtain ⟨B,m,n,t,x,y,o,H0,rB,g,m8,rfl,ht,hx,hy,ta,ao,q⟩:=h
  unfold tb__law_kind_of
  cases o with
  | inl r =>
    obtain ⟨tp,p,rfl,htp,hp⟩:=ta
    refine w_seq (w_ifS (w_or (w_not (w_tru (w_cb (w_cons (w_var rfl (w_cons (w_c (w_nil ⟨_,"tuple",_,true,rfl,TyOf.tup htp,kit_tup,w_trub (iteF ?_)⟩))))))))))
    refine w_test (w_op (w_cb (w_cons (w_var rfl (w_nil (w_lenT (SqT.of htp) (w_c (w_ltI (w_bl (iteDF (by show ¬ ((2:Int) < 2); decide) (w_next ?_)))))))))))
    try dsimp only
    refine w_seq (w_ifS (w_and (w_test (w_op (w_op (w_var rfl (w_c (w_ixT (v:=.str "ring") (SqT.of htp) rfl (w_c (w_eqS (w_bl (iteDF (by decide +kernel) (iteF (w_next ?_))))))))))))))
    try dsimp only
    refine w_seq (w_ifS (w_and (w_test (w_op (w_op (w_var rfl (w_c (w_ixT (v:=.str "ring") (SqT.of htp) rfl (w_c (w_eqS (w_bl (iteDT rfl ?_))))))))))))
    refine w_and (w_test (w_op (w_cb (w_cons (w_var rfl (w_nil (w_lenT (SqT.of htp) (w_c (w_eqI (w_bl (iteDT rfl ?_)))))))))))
    exact w_tru (w_call (w_cons (w_var rfl (w_cons (w_var rfl (w_cons (w_op (w_var rfl (w_c (w_ixT (v:=.ref p) (SqT.of htp) rfl (w_nil ⟨_,_,_,rfl,B,m,n,t,p,x,y,r,rB,g,m8,rfl,ht,hx,hy,rfl,hp,ao,fun H1 s1=>w_trub (iteT (w_ret (w_c (q H1 s1))))⟩)))))))))))
  | inr st =>
    obtain ⟨tp,p1,p2,rfl,htp,_,_,_,h1,h2⟩:=ta
    rw [map_int] at h1 h2
    refine w_seq (w_ifS (w_or (w_not (w_tru (w_cb (w_cons (w_var rfl (w_cons (w_c (w_nil ⟨_,"tuple",_,true,rfl,TyOf.tup htp,kit_tup,w_trub (iteF ?_)⟩))))))))))
    refine w_test (w_op (w_cb (w_cons (w_var rfl (w_nil (w_lenT (SqT.of htp) (w_c (w_ltI (w_bl (iteDF (by show ¬ ((3:Int) < 2); decide) (w_next ?_)))))))))))
    try dsimp only
    refine w_seq (w_ifS (w_and (w_test (w_op (w_op (w_var rfl (w_c (w_ixT (v:=.str "taste") (SqT.of htp) rfl (w_c (w_eqS (w_bl (iteDT rfl ?_))))))))))))
    refine w_and (w_test (w_op (w_cb (w_cons (w_var rfl (w_nil (w_lenT (SqT.of htp) (w_c (w_eqI (w_bl (iteDT rfl ?_)))))))))))
    exact w_tru (w_call (w_cons (w_var rfl (w_cons (w_var rfl (w_cons (w_op (w_var rfl (w_c (w_ixT (v:=.ref p1) (SqT.of htp) rfl (w_cons (w_op (w_var rfl (w_c (w_ixT (v:=.ref p2) (SqT.of htp) rfl (w_nil ⟨_,_,_,_,rfl,B,m,n,t,p1,p2,x,y,st,rB,g,m8,rfl,ht,hx,hy,rfl,h1,rfl,h2,ao,fun H1 s1=>w_trub (iteT (w_ret (w_c (q H1 s1))))⟩))))))))))))))))
end LB.TS
namespace L2
open PySem PySem.Spec PyProof.Rows
structure FunD (K:PySem.W.Frag) (x qual:Str) (st:Stmt) (f:Addr) (fd:FuncData) (T:Addr):Prop where
  ex:∃ (oc:Value) (od:Option Addr) (kV doc pm:Value) (an:Option Addr) (cdv ct:Value) (osl:Array (Option Value)),
    fd=PySem.W.fnOf x qual (defArgs st) (defBody st) (defScope st) (.ref T) kV doc pm an cdv ct∧K.lookup f=some ⟨oc,od,.func fd,osl⟩∧PySem.W.codeIn K cdv qual=true
  tup:∃ (oc:Value) (od:Option Addr) (n:Nat) (osl:Array (Option Value)),K.lookup T=some ⟨oc,od,.seq #[Value.none] n,osl⟩
  kp:PySem.W.keepIn K (.ref f)=true
def DfD (K:PySem.W.Frag) (mg:Str→Option Value) (x:Str) (st:Stmt):Prop:=∃ f fd T,FunD K x x st f fd T∧mg x=some (.ref f)
theorem dfd_mk {K:PySem.W.Frag} {mg:Str→Option Value} {h:Heap} {x:Str} {st:Stmt} {f T:Addr} {oc oc':Value} {od od' an:Option Addr} {n:Nat} {osl osl':Array (Option Value)} {kV doc pm cdv ct:Value} (X:K.In h) (G:h.Ns mainGlobals mg)
    (a:PySem.W.nsIn K mainGlobals x=some (some (.ref f))) (l:K.lookup f=some ⟨oc,od,.func (PySem.W.fnOf x x (defArgs st) (defBody st) (defScope st) (.ref T) kV doc pm an cdv ct),osl⟩)
    (t:K.lookup T=some ⟨oc',od',.seq #[Value.none] n,osl'⟩)
    (c:PySem.W.codeIn K cdv x=true) (k:PySem.W.keepIn K (.ref f)=true):DfD K mg x st:=⟨f,_,T,⟨⟨oc,od,kV,doc,pm,an,cdv,ct,osl,rfl,l,c⟩,⟨oc',od',n,osl',t⟩,k⟩,PySem.W.mg_of X G a⟩
def FnD (P:Program) (w:World) (K:PySem.W.Frag) (mg:Str→Option Value) (base:Heap) (CX:CXT) (x:Str) (k:Nat) (ps:List Str) (sp:Sp):Prop :=
  ∃ f fd,FnOk P w K mg base CX k f fd ps sp∧mg x=some (.ref f)∧PySem.W.keepIn K (.ref f)=true∧Binds K fd ps []∧Binds K fd ps [Value.none]
section
variable {P:Program} {w:World} {K:PySem.W.Frag} {mg:Str→Option Value} {base:Heap}
theorem FunD.ok {x qual:Str} {st:Stmt} {f T:Addr} {fd:FuncData} {N ps:List Str} {k:Nat} {sp:Sp} (F:FunD K x qual st f fd T) (S:FnScope N ps (defScope st)) (len:∀ vs H Q E,sp vs H Q E→vs.length=ps.length)
    (hbody:∀ (cdv:Value) (A:Around) (outer:List Env) (s:Shared) (H:Hp) (vs:List V) (Q:VK) (E:XK),Room k (A.deeper (envOfC qual (defScope st) s.heap.objs.size f cdv))→sp vs H Q E →
      ∃ t,PSs (cxOf CX0 P w K mg base N qual (defScope st) f cdv A outer s H E).nox (defBody st) t∧t { nx:=fun _ H'=>Q .non H',rt:=Q } (start N vs) H):FnOk P w K mg base CX0 (k + 1) f fd ps sp:=by
  obtain ⟨oc,od,kV,doc,pm,an,cdv,ct,osl,rfl,lk,hcd⟩:=F.ex
  refine fn_of lk hcd S len fun A outer s H vs Q E hr hsp=>?_
  obtain ⟨t,h,q⟩:=hbody cdv A outer s H vs Q E hr hsp
  exact ⟨t,h.nox,q⟩
theorem DfD.to {CX:CXT} {x p1 p2:Str} {st:Stmt} {k:Nat} {sp:Sp} (D:DfD K mg x st) (h:∀ {f T:Addr} {fd:FuncData},FunD K x x st f fd T→FnOk P w K mg base CX k f fd [p1,p2] sp)
    (h2:∀ (T:Addr) (kV doc pm:Value) (an:Option Addr) (cdv ct u v:Value),∃ k,bindArgs (PySem.W.fnOf x x (defArgs st) (defBody st) (defScope st) (.ref T) kV doc pm an cdv ct) ⟨[u,v],[]⟩=seqItems? (.ref T) >>= k∧k (some #[Value.none])=pure [(p1,u),(p2,v)])
    (h1:∀ (T:Addr) (kV doc pm:Value) (an:Option Addr) (cdv ct u:Value),∃ k,bindArgs (PySem.W.fnOf x x (defArgs st) (defBody st) (defScope st) (.ref T) kV doc pm an cdv ct) ⟨[u],[]⟩=seqItems? (.ref T) >>= k∧k (some #[Value.none])=pure [(p1,u),(p2,Value.none)]) :
    FnD P w K mg base CX x k [p1,p2] sp:=by
  obtain ⟨f,fd,T,F,hm⟩:=D
  have ok:=h F
  obtain ⟨oc',od',n,osl',ht⟩:=F.tup
  obtain ⟨oc,od,kV,doc,pm,an,cdv,ct,osl,rfl,lk,hcd⟩:=F.ex
  refine ⟨f,_,ok,hm,F.kp,fun s us X hl=>?_,fun s us X hl=>?_⟩
  · rw [List.append_nil] at hl ⊢
    match us,hl with
    | [u,v],_ =>
      obtain ⟨k,e1,e2⟩:=h2 T kV doc pm an cdv ct u v
      exact BindsTo.of_defaults (k:=k) rfl (X _ _ ht) rfl e1 e2
  · have h1':us.length=1:=by simpa using hl
    obtain ⟨u,rfl⟩:=List.length_eq_one_iff.mp h1'
    obtain ⟨k,e1,e2⟩:=h1 T kV doc pm an cdv ct u
    exact BindsTo.of_defaults (k:=k) rfl (X _ _ ht) rfl e1 e2
end
section
variable {X:Cx} {e:Expr} {es:List Expr} {t:TA} {p pos:Pos} {x:Str} {k:Nat} {ps:List Str} {sp:Sp} {CX:CXT} {E:XK}
theorem fb_fnD (G:FnD X.prog X.w X.K X.mg X.base CX x k ps sp) (hr:Room k X.A) (hg:Gl X x) (hx:Passes CX X E) (ha:PB X (e :: es) t)
    (hdb:(x == ("__debug__":Str))=false:=by decide) (he:isStar e=false:=by rfl) (hpl:es.all (fun e=>!isStar e)=true:=by rfl):PE X (.Call (.Name x p) (e :: es) [] pos) (tCall sp [.non] E t):=by
  obtain ⟨f,fd,F,hm,hk,_,hb⟩:=G
  exact pe_call F hr hg hm hk hb (.cons rfl .nil) hx ha.ok hdb (star_cons he) (star_any hpl)
end
theorem w_callD {sp:Sp} {E:XK} {t:TA} {σ:St} {H:Hp} {Q:VK} (h:t σ H fun vs H1=>sp (vs ++ [V.non]) H1 Q E):tCall sp [.non] E t σ H Q:=h
end L2
namespace HT
open PySem PyProof.Rows
theorem ints_at {vs:List Value} {ns:List Int} (h:IntsAre vs ns):∀ (i:Nat) (n:Int),ns[i]?=some n→∃ t,vs[i]?=some (.int n t):=by
  induction h with
  | nil=>intro i n e; simp at e
  | cons a t h ih =>
    intro i n e
    cases i with
    | zero =>
      have:a=n:=by simpa using e
      subst this
      exact ⟨t,rfl⟩
    | succ i=>exact ih i n (by simpa using e)
section
open PySem.SeqAt
open PySem.AutoSeq1 (wpAny_loadPart')
open PySem.MeetsSeq PySem.MeetsSeq2 PySem.MeetsSeq3
theorem lt_loop (l b:Addr) (items items2:Array Value) (n n2:Nat) (dd dd2:Option Addr) (sl sl2:Array (Option Value)) (ns ms:List Int) (hi:IntsAre items.toList ns) (hj:IntsAre items2.toList ms) (hsz:ns.length=ms.length) (k:Nat) :
    ∀ i:Nat,ns.length - i=k→Meets (Builtin.«list.__eq__.loop» ⟨[.ref l,.ref b,rawInt i,rawInt 0],[]⟩)
      (fun A R s=>s.heap.get? l=some { cls:=.type "list",dict:=dd,data:=.seq items n,slots:=sl }∧s.heap.get? b=some { cls:=.type "list",dict:=dd2,data:=.seq items2 n2,slots:=sl2 } ∧
        R (.ok (.ret (.bool (lexLt (ns.drop i) (ms.drop i))))) s):=by
  have z1:items.size=ns.length:=by rw [← hi.length]; simp
  have z2:items2.size=ms.length:=by rw [← hj.length]; simp
  induction k with
  | zero =>
    intro i hk prog w A R s h
    obtain ⟨hp,g,d,tk,os⟩:=s; obtain ⟨hl,hb,h⟩:=h
    wp_walk using wpAny_loadPart' hl,wpAny_loadPart' hb
    have hi1:items[((i:Nat):Int).toNat]?=none:=by simp; omega
    have hi2:items2[((i:Nat):Int).toNat]?=none:=by simp; omega
    rw [List.drop_eq_nil_of_le (by omega),List.drop_eq_nil_of_le (by omega),lexLt_nil_nil] at h
    rw [hi1,hi2]
    wp_walk using wpAny_loadPart' hl,wpAny_loadPart' hb
    show R (.ok (.ret (.bool (decide (items.size < items2.size))))) _
    rw [decide_eq_false (by omega)]
    exact h
  | succ k ih =>
    intro i hk prog w A R s h
    obtain ⟨hp,g,d,tk,os⟩:=s; obtain ⟨hl,hb,h⟩:=h
    wp_walk using wpAny_loadPart' hl,wpAny_loadPart' hb
    have hlt:i < ns.length:=by omega
    have hlt2:i < ms.length:=by omega
    obtain ⟨t,ht⟩:=ints_at hi i ns[i] (List.getElem?_eq_getElem hlt)
    obtain ⟨u,hu⟩:=ints_at hj i ms[i] (List.getElem?_eq_getElem hlt2)
    have hi1:items[((i:Nat):Int).toNat]?=some (.int ns[i] t):=by rw [Int.toNat_natCast,← ht]; simp
    have hi2:items2[((i:Nat):Int).toNat]?=some (.int ms[i] u):=by rw [Int.toNat_natCast,← hu]; simp
    have hc:((i:Int) + 1)=((i + 1:Nat):Int):=by push_cast; rfl
    rw [List.drop_eq_getElem_cons hlt,List.drop_eq_getElem_cons hlt2,lexLt_cons] at h
    rw [hi1,hi2]
    obtain ⟨e,he,hiff⟩:=eqAt_int A.in1 ⟨hp,g,d,tk,os⟩ ns[i] t ms[i] u
    refine wpAny_bind (he prog w _ _ ?_)
    cases e with
    | true =>
      rw [if_pos (hiff.mp rfl)] at h
      wp_walk
      rw [hc]
      exact ⟨plainId_quiet plain_eq_loop _,codeAny_builtin entry_eq_loop (by
        rw [Around.under_plainId plain_eq_loop _]
        exact ih (i + 1) (by omega) prog w A R _ ⟨hl,hb,h⟩)⟩
    | false =>
      rw [if_neg (fun q=>absurd (hiff.mpr q) Bool.false_ne_true)] at h
      wp_walk using wpAny_loadPart' hl,wpAny_loadPart' hb
      rw [hi1,hi2]
      have hri:=rcLt_int A.in1 ⟨hp,g,d,tk,os⟩ ns[i] t ms[i] u prog w
      wp_walk using hri
      exact h
theorem list_lt_ints (l b:Addr) (items items2:Array Value) (n n2:Nat) (dd dd2:Option Addr) (sl sl2:Array (Option Value)) (ns ms:List Int) (hi:IntsAre items.toList ns) (hj:IntsAre items2.toList ms) (hsz:ns.length=ms.length) :
    Meets (Builtin.«list.__lt__» ⟨[.ref l,.ref b],[]⟩)
      (fun A R s=>s.heap.get? l=some { cls:=.type "list",dict:=dd,data:=.seq items n,slots:=sl }∧s.heap.get? b=some { cls:=.type "list",dict:=dd2,data:=.seq items2 n2,slots:=sl2 } ∧
        R (.ok (.ret (.bool (lexLt ns ms)))) s):=by
  intro prog w A R s h
  obtain ⟨hp,g,d,tk,os⟩:=s; obtain ⟨hl,hb,h⟩:=h
  have f3:=AutoSeq1.sub_list_list
  wp_walk using wpAny_loadPart' hl,wpAny_loadPart' hb
  exact ⟨plainId_quiet plain_eq_loop _,codeAny_builtin entry_eq_loop (by
    rw [Around.under_plainId plain_eq_loop _]
    exact lt_loop l b items items2 n n2 dd dd2 sl sl2 ns ms hi hj hsz _ 0 rfl prog w A R _ ⟨hl,hb,h⟩)⟩
end
section
variable {prog:Program} {w:World} {A:Around} {E:Value→Shared→Prop} {s:Shared}
theorem lt_lstInts {l b:Addr} {items items2:Array Value} {ns ms:List Int} {Q:Value→Shared→Prop} (hl:PlainL s.heap l items) (hb:PlainL s.heap b items2) (hi:IntsAre items.toList ns) (hj:IntsAre items2.toList ms) (hsz:ns.length=ms.length)
    (hu:A.units < cLine) (h:Q (.bool (lexLt ns ms)) s):wpAny (model prog w) A (compareOp .Lt (.ref l) (.ref b)) Q E s:=by
  obtain ⟨⟨cls,dd,data,sl⟩,n,ho,hc,_,hd⟩:=id hl
  obtain ⟨⟨cls2,dd2,data2,sl2⟩,n2,ho2,hc2,_,hd2⟩:=id hb
  simp only at hc hd hc2 hd2
  subst hc hd hc2 hd2
  exact richCompare_meets_room (op:=.Lt) ⟨_,ho,rfl⟩ ⟨_,ho2,rfl⟩ PySem.F.slot_list_lt PySem.F.entry_list_lt (PySem.F.args_list_lt_2 _ _) (list_lt_ints l b items items2 n n2 dd dd2 sl sl2 ns ms hi hj hsz)
    ⟨ho,ho2,show Value.bool (lexLt ns ms)≠Value.notImplemented∧Q (.bool (lexLt ns ms)) s from ⟨(fun x=>nomatch x),h⟩⟩ hu
end
end HT
namespace L2
open PySem PySem.Spec PyProof.Rows
section
variable {X:Cx}
def rLtL (K:PySem.W.Frag):R2:=fun x y H Q=>∃ a b ns ms,x=.ref a∧y=.ref b∧SqL K H a (ns.map V.int)∧SqL K H b (ms.map V.int)∧ns.length=ms.length∧Q (.bl (HT.lexLt ns ms)) H
theorem op_ltL (hu:X.A.units < cLine):OpR X (compareOp .Lt) (rLtL X.K):=by
  intro pins s σ H x y v u Q I rx ry h
  obtain ⟨a,b,ns,ms,rfl,rfl,ha,hb,hz,q⟩:=h
  cases rx
  cases ry
  obtain ⟨its,r1,p1,_⟩:=I.list ha
  obtain ⟨its2,r2,p2,_⟩:=I.list hb
  have i1:IntsAre its.toArray.toList ns:=intsAre_of r1
  have i2:IntsAre its2.toArray.toList ms:=intsAre_of r2
  exact HT.lt_lstInts p1 p2 i1 i2 hz hu ⟨.bl (HT.lexLt ns ms),H,I,rfl,q⟩
abbrev rLtW (K:PySem.W.Frag):R2:=fun x y H Q=>rLtU x y H Q∨rLtL K x y H Q
theorem op_ltW (hu:X.A.units < cLine):OpR X (compareOp .Lt) (rLtW X.K):=OpR.or op_lt (op_ltL hu)
def ipAddU (K:PySem.W.Frag):TIp:=ipI fun i j=>i + j
theorem ip_addU:PIp X .Add (ipAddU X.K):=ip_add
end
end L2
namespace K62
open PySem L2 LB LB.TS
def firstF (l:List Nat):Nat:=match l.getLast? with
  | some y=>y + 1
  | none=>0
def moreF (n:Nat) (l:List Nat):List (List Nat):=(List.range (n - firstF l)).map fun d=>l ++ [firstF l + d]
def longerF (n:Nat) (ls:List (List Nat)):List (List Nat):=(ls.map (moreF n)).flatten
def lvF (n:Nat):Nat→List (List Nat)
  | 0=>[[]]
  | k + 1=>longerF n (lvF n k)
def prefF (n k:Nat):List (List Nat):=((List.range k).map (lvF n)).flatten
def RL (n:Nat):List (List Nat):=prefF n (n + 1)
theorem lv_dec:∀ n,n < 9→∀ k,k < 10→(k≤n→0 < (lvF n k).length)∧(lvF n k).length≤70∧(prefF n k).length≤256∧(k=n + 1→(lvF n k).length=0):=by decide +kernel
theorem pref_succ (n k:Nat):prefF n (k + 1)=prefF n k ++ lvF n k:=by unfold prefF; rw [List.range_succ,List.map_append,List.flatten_append]; simp
structure Rise (n:Nat) (l:List Nat):Prop where
  up:l.Pairwise (· < ·)
  lt:∀ x∈l,x < n
theorem Rise.nd {n:Nat} {l:List Nat} (h:Rise n l):l.Nodup:=h.up.imp fun z=>Nat.ne_of_lt z
theorem first_gt {n:Nat} {l:List Nat} (h:Rise n l):∀ x∈l,x < firstF l:=fun x hx=>by
  unfold firstF
  cases e:l.getLast? with
  | none=>rw [List.getLast?_eq_none_iff] at e; subst e; cases hx
  | some y =>
    show x < y + 1
    rw [List.getLast?_eq_some_iff] at e
    obtain ⟨r,rfl⟩:=e
    rcases List.mem_append.mp hx with z | z
    · have:=(List.pairwise_append.mp h.up).2.2 x z y (by simp)
      omega
    · have:x=y:=by simpa using z
      omega
theorem more_mem {n:Nat} {l m:List Nat}:m∈moreF n l↔∃ d,firstF l≤d∧d < n∧m=l ++ [d]:=by
  unfold moreF
  rw [List.mem_map]
  constructor
  · rintro ⟨d,hd,rfl⟩
    have:=List.mem_range.mp hd
    exact ⟨firstF l + d,by omega,by omega,rfl⟩
  · rintro ⟨d,h1,h2,rfl⟩
    exact ⟨d - firstF l,List.mem_range.mpr (by omega),by rw [show firstF l + (d - firstF l)=d by omega]⟩
theorem longer_mem {n:Nat} {ls:List (List Nat)} {m:List Nat}:m∈longerF n ls↔∃ l∈ls,m∈moreF n l:=by
  unfold longerF
  rw [List.mem_flatten]
  constructor
  · rintro ⟨a,ha,hm⟩
    obtain ⟨l,hl,rfl⟩:=List.mem_map.mp ha
    exact ⟨l,hl,hm⟩
  · rintro ⟨l,hl,hm⟩
    exact ⟨_,List.mem_map.mpr ⟨l,hl,rfl⟩,hm⟩
theorem lv_rise {n:Nat}:∀ (k:Nat) (l:List Nat),l∈lvF n k→Rise n l∧l.length=k
  | 0,l,h=>by
    have:l=[]:=by simpa [lvF] using h
    subst this
    exact ⟨⟨List.Pairwise.nil,fun x hx=>by cases hx⟩,rfl⟩
  | k + 1,l,h=>by
    obtain ⟨m,hm,hl⟩:=longer_mem.mp h
    obtain ⟨d,d1,d2,rfl⟩:=more_mem.mp hl
    obtain ⟨r,len⟩:=lv_rise k m hm
    refine ⟨⟨List.pairwise_append.mpr ⟨r.up,by simp,fun x hx y hy=>?_⟩,fun x hx=>?_⟩,by rw [List.length_append,len]; rfl⟩
    · have:y=d:=by simpa using hy
      have:=first_gt r x hx
      omega
    · rcases List.mem_append.mp hx with z | z
      · exact r.lt x z
      · have:x=d:=by simpa using z
        omega
theorem lv_all {n:Nat}:∀ (k:Nat) (l:List Nat),l.length=k→Rise n l→l∈lvF n k
  | 0,l,h,_=>by
    have:l=[]:=List.length_eq_zero_iff.mp h
    subst this
    simp [lvF]
  | k + 1,l,h,r=>by
    have ne:l≠[]:=fun z=>by rw [z] at h; simp at h
    have el:l=l.dropLast ++ [l.getLast ne]:=(List.dropLast_concat_getLast ne).symm
    generalize l.dropLast=m at el
    generalize l.getLast ne=d at el
    subst el
    have up:=List.pairwise_append.mp r.up
    have rm:Rise n m:=⟨up.1,fun x hx=>r.lt x (by simp [hx])⟩
    refine longer_mem.mpr ⟨m,lv_all k m (by simpa using h) rm,more_mem.mpr ⟨d,?_,r.lt d (by simp),rfl⟩⟩
    unfold firstF
    cases e:m.getLast? with
    | none=>exact Nat.zero_le _
    | some y =>
      show y + 1≤d
      rw [List.getLast?_eq_some_iff] at e
      obtain ⟨q,rfl⟩:=e
      exact up.2.2 y (by simp) d (by simp)
theorem rl_mem {n:Nat} {l:List Nat}:l∈RL n↔Rise n l:=by
  unfold RL prefF
  rw [List.mem_flatten]
  constructor
  · rintro ⟨a,ha,hl⟩
    obtain ⟨k,_,rfl⟩:=List.mem_map.mp ha
    exact (lv_rise k l hl).1
  · intro r
    have:=nd_len n l r.nd r.lt
    exact ⟨_,List.mem_map.mpr ⟨l.length,List.mem_range.mpr (by omega),rfl⟩,lv_all _ l rfl r⟩
def othF (n:Nat) (ds:List Nat):List Nat:=(List.range n).filter fun i=>!(ds.contains i)
theorem fil_rise (n:Nat) (p:Nat→Bool):Rise n ((List.range n).filter p):=⟨List.Pairwise.sublist List.filter_sublist List.pairwise_lt_range,fun x hx=>List.mem_range.mp (List.mem_filter.mp hx).1⟩
theorem rise_eq {n:Nat} {l:List Nat} (r:Rise n l):(List.range n).filter (fun i=>l.contains i)=l:=by
  have r2:=fil_rise n fun i=>l.contains i
  have key:∀ (a b:List Nat),a.Pairwise (· < ·)→b.Pairwise (· < ·)→(∀ k,k∈a↔k∈b)→a=b:=fun a b ha hb h=>by
    have:=desc_eq (a:=a.reverse) (b:=b.reverse) (List.pairwise_reverse.mpr ha) (List.pairwise_reverse.mpr hb) (fun k=>by rw [List.mem_reverse,List.mem_reverse]; exact h k)
    exact List.reverse_inj.mp this
  refine key _ _ r2.up r.up fun k=>?_
  rw [List.mem_filter]
  constructor
  · rintro ⟨_,h⟩
    simpa using h
  · intro h
    exact ⟨List.mem_range.mpr (r.lt k h),by simpa using h⟩
theorem oth_fil (n:Nat) (p:Nat→Bool):othF n ((List.range n).filter p)=(List.range n).filter fun i=>!(p i):=by
  unfold othF
  apply List.filter_congr
  intro i hi
  congr 1
  rw [Bool.eq_iff_iff]
  simp only [List.contains_iff_mem,List.mem_filter]
  exact ⟨fun h=>h.2,fun h=>⟨hi,h⟩⟩
def subM (B:List (List Int×List Int)) (ds:List Nat):List (List Int):=ds.map fun i=>ds.map fun j=>onceF B i j
def expF (B:List (List Int×List Int)) (ds:List Nat):Bool:=(rngF (subM B ds)).isNone
def subB (B:List (List Int×List Int)) (ds:List Nat):List (List Int×List Int):=ds.map fun i=>B.getD i ([],[])
def askF (B:List (List Int×List Int)) (ds:List Nat):Str:=if expF B ds=true then "taste" else "ring"
theorem sub_get {B:List (List Int×List Int)} {ds:List Nat} {i:Nat} (hi:i < ds.length):(subB B ds).getD i ([],[])=B.getD (ds.getD i 0) ([],[]):=by
  unfold subB
  simp [hi]
theorem sub_cost {B:List (List Int×List Int)} {ds:List Nat} {i j:Nat} (hi:i < ds.length) (hj:j < ds.length):costF (subB B ds) i j=costF B (ds.getD i 0) (ds.getD j 0):=by
  unfold costF
  rw [sub_get hi,sub_get hj]
theorem sub_marks {B:List (List Int×List Int)} {ds:List Nat}:cmM (gpF (subB B ds) 1 1) (subB B ds).length=subM B ds:=by
  have lb:(subB B ds).length=ds.length:=by unfold subB; simp
  rw [lb]
  unfold cmM subM cmR
  apply List.ext_getElem?
  intro i
  rcases Nat.lt_or_ge i ds.length with hi | hi
  · rw [List.getElem?_map,List.getElem?_range hi,List.getElem?_map,List.getElem?_eq_getElem hi]
    show some _=some _
    congr 1
    apply List.ext_getElem?
    intro j
    rcases Nat.lt_or_ge j ds.length with hj | hj
    · rw [List.getElem?_map,List.getElem?_range hj,List.getElem?_map,List.getElem?_eq_getElem hj]
      show some _=some _
      congr 1
      have ei:ds.getD i 0=ds[i]:=by simp [hi]
      have ej:ds.getD j 0=ds[j]:=by simp [hj]
      show cmF (gpF (subB B ds) 1 1) i j=onceF B ds[i] ds[j]
      unfold cmF onceF
      by_cases z:i=j
      · subst z
        rw [if_pos rfl,Int.sub_self]; rfl
      · rw [if_neg z]
        unfold gpF
        rw [Int.one_mul,Int.one_mul,sub_cost hi hj,sub_cost hi hi,ei,ej]
    · rw [List.getElem?_eq_none (by simp; omega),List.getElem?_eq_none (by simp; omega)]
  · rw [List.getElem?_eq_none (by simp; omega),List.getElem?_eq_none (by simp; omega)]
theorem ask_kd {B:List (List Int×List Int)} {ds:List Nat}:kdM (tasA (gpF (subB B ds) 1 1) (subB B ds).length)=askF B ds:=by
  unfold tasA askF expF
  rw [sub_marks]
  cases rngF (subM B ds) <;> rfl
theorem good_sub {m n:Nat} {B:List (List Int×List Int)} (g:GoodBook m n B) {ds:List Nat} (r:Rise B.length ds) (ne:ds≠[]):GoodBook m n (subB B ds):=by
  have lb:(subB B ds).length=ds.length:=by unfold subB; simp
  have:=nd_len _ _ r.nd r.lt
  have:=g.m8
  have:0 < ds.length:=List.length_pos_iff.mpr ne
  refine ⟨g.n1,g.n6,by omega,by omega,fun d hd=>?_⟩
  obtain ⟨i,hi,rfl⟩:=List.mem_map.mp hd
  exact getD_day g.dy (r.lt i hi)
def lexN:List Nat→List Nat→Bool
  | [],[]=>false
  | [],_ :: _=>true
  | _ :: _,[]=>false
  | x :: xs,y :: ys=>if Nat.beq x y=true then lexN xs ys else Nat.blt x y
def bfN (a b:List Nat):Bool:=Nat.blt a.length b.length || (Nat.beq a.length b.length && lexN a b)
def allBf (x:List Nat):List (List Nat)→Bool
  | []=>true
  | y :: ys=>bfN x y && allBf x ys
def pwBf:List (List Nat)→Bool
  | []=>true
  | x :: xs=>allBf x xs && pwBf xs
theorem rl_dec:∀ n,n < 9→pwBf (RL n)=true:=by decide +kernel
theorem allBf_mem {x:List Nat}:∀ {ys:List (List Nat)},allBf x ys=true→∀ y∈ys,bfN x y=true
  | [],_,y,hy=>by cases hy
  | z :: zs,h,y,hy=>by
    simp only [allBf,Bool.and_eq_true] at h
    rcases List.mem_cons.mp hy with rfl | hy
    · exact h.1
    · exact allBf_mem h.2 y hy
theorem pwBf_app {y:List Nat}:∀ {as bs:List (List Nat)},pwBf (as ++ y :: bs)=true→∀ x∈bs,bfN y x=true
  | [],bs,h,x,hx=>by
    simp only [List.nil_append,pwBf,Bool.and_eq_true] at h
    exact allBf_mem h.1 x hx
  | a :: as,bs,h,x,hx=>by
    simp only [List.cons_append,pwBf,Bool.and_eq_true] at h
    exact pwBf_app h.2 x hx
theorem lexN_asymm:∀ {a b:List Nat},lexN a b=true→lexN b a=true→False
  | [],[],h,_=>by cases h
  | [],_ :: _,_,h=>by cases h
  | _ :: _,[],h,_=>by cases h
  | x :: xs,y :: ys,h1,h2=>by
    simp only [lexN] at h1 h2
    by_cases e:x=y
    · subst e
      rw [if_pos (Nat.beq_refl x)] at h1 h2
      exact lexN_asymm h1 h2
    · rw [if_neg (fun z=>e (Nat.eq_of_beq_eq_true z))] at h1
      rw [if_neg (fun z=>e (Nat.eq_of_beq_eq_true z).symm)] at h2
      have:=Nat.blt_eq.mp h1
      have:=Nat.blt_eq.mp h2
      omega
theorem bfN_iff {a b:List Nat}:bfN a b=true↔a.length < b.length∨(a.length=b.length∧lexN a b=true):=by
  unfold bfN
  rw [Bool.or_eq_true,Bool.and_eq_true,Nat.blt_eq,Nat.beq_eq]
theorem bfN_asymm {a b:List Nat} (h1:bfN a b=true) (h2:bfN b a=true):False:=by
  rcases bfN_iff.mp h1 with x | x <;> rcases bfN_iff.mp h2 with y | y
  · omega
  · omega
  · omega
  · exact lexN_asymm x.2 y.2
theorem lex_nats:∀ (a b:List Nat),HT.lexLt (cI a) (cI b)=lexN a b
  | [],[]=>rfl
  | [],_ :: _=>rfl
  | _ :: _,[]=>rfl
  | x :: xs,y :: ys=>by
    show HT.lexLt ((x:Int) :: cI xs) ((y:Int) :: cI ys)=lexN (x :: xs) (y :: ys)
    rw [HT.lexLt_cons,lex_nats xs ys]
    simp only [lexN]
    by_cases e:x=y
    · subst e
      rw [if_pos rfl,if_pos (Nat.beq_refl x)]
    · rw [if_neg (by omega),if_neg (fun z=>e (Nat.eq_of_beq_eq_true z))]
      rw [Bool.eq_iff_iff,decide_eq_true_iff,Nat.blt_eq]
      omega
def fwT (B:List (List Int×List Int)) (ds:List Nat):Bool:=expF B (othF B.length ds)
def fwF (B:List (List Int×List Int)):Option (List Nat):=(RL B.length).find? (fwT B)
theorem exp_one (B:List (List Int×List Int)) (d:Nat):expF B [d]=true:=by
  have e:onceF B d d=1:=by unfold onceF; rw [Int.sub_self]; rfl
  unfold expF subM
  rw [List.map_singleton,List.map_singleton,e]
  decide +kernel
theorem fil_one:∀ n,n < 9→1≤n→(List.range n).filter (fun i=>!(decide (i≠0)))=[0]∧((List.range n).filter (fun i=>decide (i≠0))).length < n:=by decide +kernel
theorem fw_mem {B:List (List Int×List Int)} (h1:1≤B.length) (h8:B.length≤8):fwT B ((List.range B.length).filter fun i=>decide (i≠0))=true:=by
  unfold fwT
  rw [oth_fil,(fil_one _ (by omega) h1).1]
  exact exp_one B 0
theorem fw_some {B:List (List Int×List Int)} (h1:1≤B.length) (h8:B.length≤8):∃ ds,fwF B=some ds:=by
  cases e:fwF B with
  | some ds=>exact ⟨ds,rfl⟩
  | none =>
    have:=List.find?_eq_none.mp e _ (rl_mem.mpr (fil_rise B.length fun i=>decide (i≠0)))
    exact absurd (fw_mem h1 h8) this
theorem fw_ok {B:List (List Int×List Int)} {ds:List Nat} (h:fwF B=some ds) (h1:1≤B.length) (h8:B.length≤8):Rise B.length ds∧expF B (othF B.length ds)=true∧ds.length < B.length∧∀ x,Rise B.length x→bfN x ds=true→expF B (othF B.length x)=false:=by
  have hm:=rl_mem.mp (List.mem_of_find?_eq_some h)
  have ht:=List.find?_some h
  obtain ⟨_,as,bs,e,no⟩:=List.find?_eq_some_iff_append.mp h
  have pw:=rl_dec B.length (by omega)
  rw [e] at pw
  have key:∀ x,Rise B.length x→bfN x ds=true→fwT B x=false:=fun x rx bx=>by
    have hx:=rl_mem.mpr rx
    rw [e] at hx
    rcases List.mem_append.mp hx with z | z
    · simpa using no x z
    · rcases List.mem_cons.mp z with rfl | z
      · exact (bfN_asymm bx bx).elim
      · exact (bfN_asymm bx (pwBf_app pw x z)).elim
  refine ⟨hm,ht,?_,key⟩
  obtain ⟨f1,f2⟩:=fil_one _ (by omega:B.length < 9) h1
  rcases Nat.lt_or_ge ds.length B.length with z | z
  · exact z
  · have:=key _ (fil_rise B.length fun i=>decide (i≠0)) (bfN_iff.mpr (.inl (by omega)))
    rw [fw_mem h1 h8] at this
    cases this
theorem oth_ne {n:Nat} {l:List Nat} (r:Rise n l) (h:l.length < n):othF n l≠[]:=fun e=>by
  have e1:=rise_eq r
  have e2:(List.range n).filter (fun i=>l.contains i)=List.range n:=List.filter_eq_self.mpr fun i hi=>by
    cases c:l.contains i with
    | true=>rfl
    | false =>
      have:i∈othF n l:=List.mem_filter.mpr ⟨hi,by rw [c]; rfl⟩
      rw [e] at this; cases this
  rw [e2] at e1
  rw [← e1,List.length_range] at h
  omega
theorem bf_len {a b:List Nat} {n:Nat} (h:bfN a b=true) (hb:b.length < n):a.length < n:=by
  rcases bfN_iff.mp h with z | z <;> omega
theorem sorted_rise {n:Nat} {es:List Nat} {ns':List Int} (nd:es.Nodup) (lt:∀ x∈es,x < n) (pm:ns'.Perm (cI es)) (so:ns'.Pairwise (·≤·)):∃ ds,ns'=cI ds∧Rise n ds:=by
  have mem:∀ x∈ns',∃ d∈es,((d:Nat):Int)=x:=fun x hx=>List.mem_map.mp (pm.mem_iff.mp hx)
  have e:ns'=cI (ns'.map Int.toNat):=by
    show ns'=(ns'.map Int.toNat).map fun (k:Nat)=>(k:Int)
    rw [List.map_map]
    conv=>lhs; rw [← List.map_id ns']
    apply List.map_congr_left
    intro x hx
    obtain ⟨d,_,rfl⟩:=mem x hx
    rfl
  have nd1:(cI es).Nodup:=List.Pairwise.map _ (fun a b (hab:a≠b)=>by intro w; exact hab (by omega)) nd
  have nd2:ns'.Nodup:=pm.nodup_iff.mpr nd1
  have up:ns'.Pairwise (· < ·):=(List.Pairwise.and so nd2).imp fun {a b} z=>by omega
  refine ⟨ns'.map Int.toNat,e,?_,fun x hx=>?_⟩
  · rw [e] at up
    exact (List.pairwise_map.mp up).imp fun {a b} z=>by omega
  · obtain ⟨y,hy,rfl⟩:=List.mem_map.mp hx
    obtain ⟨d,hd,rfl⟩:=mem y hy
    exact lt d hd
def RowsN (H0 H:Hp) (L:Addr) (zs:List V) (ls:List (List Nat)):Prop:=zs.length=ls.length∧∀ (i:Nat) l,ls[i]?=some l→∃ q,zs[i]?=some (.ref q)∧H0 q=none∧q≠L∧H q=some (.lst (l.map nV))
def LvNew (H0 H:Hp) (v:V) (ls:List (List Nat)):Prop:=∃ p rs,v=.ref p∧H0 p=none∧H p=some (.lst rs)∧RowsN H0 H p rs ls
def sb_other_days (K:PySem.W.Frag) (a b:V) (H:Hp) (Q:VK) (E:XK):Prop:=∃ (p l:Addr) (xs:List V) (ds:List Nat),a=.ref p∧b=.ref l∧H p=some (.tup xs)∧xs.length≤100∧H l=some (.lst (ds.map nV)) ∧
  ∀ t H',Same H H'→H' t=some (.lst ((othF xs.length ds).map nV))→Q (.ref t) H'
def sp_other_days (K:PySem.W.Frag):Sp:=sp2 (sb_other_days K)
def sb_longer_lists (K:PySem.W.Frag) (a b:V) (H:Hp) (Q:VK) (E:XK):Prop:=∃ (ls:List (List Nat)) (n:Nat) (p:Addr) (rs:List V),a=.ref p∧H p=some (.lst rs)∧rs.length=ls.length∧(∀ (i:Nat) l,ls[i]?=some l→∃ q,rs[i]?=some (.ref q)∧H q=some (.lst (l.map nV)))∧b=.int (n:Nat)∧n≤8∧(∀ l∈ls,Rise n l)∧ls.length≤70∧(longerF n ls).length≤70 ∧
  ∀ v H',Same H H'→LvNew H H' v (longerF n ls)→Q v H'
def sp_longer_lists (K:PySem.W.Frag):Sp:=sp2 (sb_longer_lists K)
def sb_rising_lists (K:PySem.W.Frag) (a:V) (H:Hp) (Q:VK) (E:XK):Prop:=∃ n:Nat,a=.int (n:Nat)∧n≤8∧∀ v H',Same H H'→LvNew H H' v (RL n)→Q v H'
def sp_rising_lists (K:PySem.W.Frag):Sp:=sp1 (sb_rising_lists K)
def sb_marks_among (K:PySem.W.Frag) (a b c:V) (H:Hp) (Q:VK) (E:XK):Prop:=∃ (B:List (List Int×List Int)) (i:Nat) (ds:List Nat) (q:Addr),MRep H a (marksF B)∧b=.int (i:Nat)∧i < B.length∧c=.ref q∧H q=some (.lst (ds.map nV))∧(∀ x∈ds,x < B.length)∧ds.length≤8 ∧
  ∀ p H',H p=none→Same H H'→H' p=some (.lst ((ds.map fun j=>onceF B i j).map V.int))→Q (.ref p) H'
def sp_marks_among (K:PySem.W.Frag):Sp:=sp3 (sb_marks_among K)
def sb_is_explained (K:PySem.W.Frag) (a b:V) (H:Hp) (Q:VK) (E:XK):Prop:=∃ (B:List (List Int×List Int)) (ds:List Nat) (q:Addr),MRep H a (marksF B)∧B.length≤8∧b=.ref q∧H q=some (.lst (ds.map nV))∧Rise B.length ds∧∀ H',Same H H'→Q (.bl (expF B ds)) H'
def sp_is_explained (K:PySem.W.Frag):Sp:=sp2 (sb_is_explained K)
def sb__law_left (K:PySem.W.Frag) (a b:V) (H:Hp) (Q:VK) (E:XK):Prop:=∃ (B:List (List Int×List Int)) (m n:Nat) (q:Addr) (ds:List Nat),Rep H a (bookD B)∧GoodBook m n B∧m≤8∧b=.ref q∧H q=some (.lst (ds.map nV))∧∀ v H',Same H H'→Rep H' v (bookD (subB B (othF B.length ds)))→Q v H'
def sp__law_left (K:PySem.W.Frag):Sp:=sp2 (sb__law_left K)
def sb_fewest (K:PySem.W.Frag) (mg:Str→Option Value) (a:V) (H:Hp) (Q:VK) (E:XK):Prop:=∃ (B:List (List Int×List Int)) (m n:Nat),Rep H a (bookD B)∧GoodBook m n B∧m≤8 ∧
  ∀ ds p H',Same H H'→fwF B=some ds→H p=none→H' p=some (.lst (ds.map nV))→Q (.ref p) H'
def sp_fewest (K:PySem.W.Frag) (mg:Str→Option Value):Sp:=sp1 (sb_fewest K mg)
def sb__law_asked (K:PySem.W.Frag) (mg:Str→Option Value) (a b:V) (H:Hp) (Q:VK) (E:XK):Prop:=∃ (B:List (List Int×List Int)) (m n:Nat) (q:Addr) (ds:List Nat),Rep H a (bookD B)∧GoodBook m n B∧m≤8∧b=.ref q∧H q=some (.lst (ds.map nV))∧othF B.length ds≠[]∧∀ H',Same H H'→Q (.str (askF B (othF B.length ds))) H'
def sp__law_asked (K:PySem.W.Frag) (mg:Str→Option Value):Sp:=sp2 (sb__law_asked K mg)
def sb__law_drawn (K:PySem.W.Frag) (a b c:V) (H:Hp) (Q:VK) (E:XK):Prop:=∃ (x:Int) (n j:Nat),a=.int x∧b=.int (n:Nat)∧c=.int (j:Nat)∧1≤n∧n≤8∧j≤8 ∧
  ∀ ds p H',Same H H'→Rise n ds→H' p=some (.lst (ds.map nV))→Q (.ref p) H'
def sp__law_drawn (K:PySem.W.Frag):Sp:=sp3 (sb__law_drawn K)
def sp_law (K:PySem.W.Frag) (mg:Str→Option Value):Sp:=sp1 (sb_top K)
abbrev sp__law_book (K:PySem.W.Frag):Sp:=LB.TS.sp__law_book K
abbrev sb__law_book (K:PySem.W.Frag) (a b c d:V) (H:Hp) (Q:VK) (E:XK):Prop:=LB.TS.sb__law_book K a b c d H Q E
abbrev tb__law_book (K:PySem.W.Frag):TS:=LB.TS.tb__law_book K
theorem rd__law_book {K:PySem.W.Frag} {a b c d:V} {H:Hp} {Q:VK} {E:XK} (h:LB.TS.sb__law_book K a b c d H Q E):tb__law_book K (Rt Q) [some a,some b,some c,some d,none,none,none,none,none,none,none,none,none] H:=LB.TS.rd__law_book h
def tb_other_days (K:PySem.W.Frag):TS :=
  (tRet (tComp [none,some 1] (iRng1 (tCons (tCB (rLenU K) (tCons (tVar 0) tNil)) tNil)) (gName 0) (tTest (tOp (rNotInU K) (tVar 0) (tVar 1))) (tVar 0)))
def tb_longer_lists (K:PySem.W.Frag):TS :=
  (tSeq (tAsg (tLst tNil) (gName 2))
    (tSeq (tFor (iSeq K (tVar 0)) (gName 3) (tSeq (tAsg (tIf (tTest (tOp rGtU (tCB (rLenU K) (tCons (tVar 3) tNil)) (tC (.int 0)))) (tOp (rAddU K) (tOp (rIx K) (tVar 3) (tUn rNegU (tC (.int 1)))) (tC (.int 1))) (tC (.int 0))) (gName 4))
    (tFor (iRng2 (tCons (tVar 4) (tCons (tVar 1) tNil))) (gName 5) (tDrop (tBM K "list" rAppend (tVar 2) (tCons (tOp (rAddU K) (tVar 3) (tLst (tCons (tVar 5) tNil))) tNil))))))
    (tRet (tVar 2))))
def tb_rising_lists (K:PySem.W.Frag):TS :=
  (tSeq (tAsg (tLst tNil) (gName 1))
    (tSeq (tAsg (tLst (tCons (tLst tNil) tNil)) (gName 2))
    (tSeq (tWhile (tTest (tOp rGtU (tCB (rLenU K) (tCons (tVar 2) tNil)) (tC (.int 0)))) (tSeq (tDrop (tBM K "list" rExtend (tVar 1) (tCons (tVar 2) tNil)))
    (tAsg (tCall (sp_longer_lists K) [] E0 (tCons (tVar 2) (tCons (tVar 0) tNil))) (gName 2))))
    (tRet (tVar 1)))))
def tb_marks_among (K:PySem.W.Frag):TS :=
  (tRet (tComp [none,some 0,some 1] (iSeq K (tVar 2)) (gName 0) tYes (tOp (rIx K) (tOp (rIx K) (tVar 1) (tVar 2)) (tVar 0))))
def tb_is_explained (K:PySem.W.Frag):TS :=
  (tRet (tOp rIsU (tCall (sp_ring_in K) [] E0 (tCons (tComp [none,some 0,some 1] (iSeq K (tVar 1)) (gName 0) tYes (tCall (sp_marks_among K) [] E0 (tCons (tVar 1) (tCons (tVar 0) (tCons (tVar 2) tNil))))) tNil)) (tC .non)))
def tb_fewest (K:PySem.W.Frag) (mg:Str→Option Value):TS :=
  (tSeq (tAsg (tCall (sp_marks_of K mg) [] E0 (tCons (tVar 0) tNil)) (gName 1))
    (tSeq (tAsg (tCall (sp_rising_lists K) [] E0 (tCons (tCB (rLenU K) (tCons (tVar 0) tNil)) tNil)) (gName 2))
    (tSeq (tAsg (tC (.int 0)) (gName 3))
    (tSeq (tWhile (tNot (tTru K (tCall (sp_is_explained K) [] E0 (tCons (tVar 1) (tCons (tCall (sp_other_days K) [] E0 (tCons (tVar 0) (tCons (tOp (rIx K) (tVar 2) (tVar 3)) tNil))) tNil))))) (tAug 3 (tC (.int 1)) (ipAddU K)))
    (tRet (tOp (rIx K) (tVar 2) (tVar 3)))))))
def tb__law_left (K:PySem.W.Frag):TS :=
  (tRet (tCB (rTy_tuple K) (tCons (tComp [none,some 0,some 1] (iRng1 (tCons (tCB (rLenU K) (tCons (tVar 0) tNil)) tNil)) (gName 0) (tTest (tOp (rNotInU K) (tVar 0) (tVar 2))) (tOp (rIx K) (tVar 1) (tVar 0))) tNil)))
def tb__law_asked (K:PySem.W.Frag) (mg:Str→Option Value):TS :=
  (tSeq (tAsg (tCall (sp__law_left K) [] E0 (tCons (tVar 0) (tCons (tVar 1) tNil))) (gName 2))
    (tRet (tCall (sp__law_kind_of K) [] E0 (tCons (tCall (sp_taste_of K mg) [.non] E0 (tCons (tVar 2) tNil)) (tCons (tVar 2) (tCons (tTup (tCons (tC (.int 1)) (tCons (tC (.int 1)) tNil))) tNil))))))
def tb__law_drawn (K:PySem.W.Frag):TS :=
  (tSeq (tAsg (tLst tNil) (gName 3))
    (tSeq (tFor (iRng1 (tCons (tVar 2) tNil)) (gName 4) (tSeq (tAsg (tOp rModU (tOp rShrU (tVar 0) (tOp (rMulU K) (tC (.int 11)) (tVar 4))) (tVar 1)) (gName 5))
    (tIfS (tTest (tOp (rNotInU K) (tVar 5) (tVar 3))) (tDrop (tBM K "list" rAppend (tVar 3) (tCons (tVar 5) tNil))) tNext)))
    (tRet (tCB (rSortedL K) (tCons (tVar 3) tNil)))))
def tb_law (K:PySem.W.Frag) (mg:Str→Option Value):TS :=
  (tSeq (tAsg (tCall (sp__law_draws K) [] E0 (tCons (tVar 0) (tCons (tC (.int 100)) tNil))) (gName 1))
    (tSeq (tAsg (tCall (sp__law_wide K) [] E0 (tCons (tVar 1) (tCons (tC (.int 1)) (tCons (tC (.int 7)) tNil)))) (gName 2))
    (tSeq (tAsg (tCall (sp_fewest K mg) [] E0 (tCons (tVar 2) tNil)) (gName 3))
    (tSeq (tIfS (tOr (tNot (tTru K (tCall (sp__law_days K) [] E0 (tCons (tVar 3) (tCons (tCB (rLenU K) (tCons (tVar 2) tNil)) tNil))))) (tOr (tTest (tOp (rNeU K) (tVar 3) (tCB (rSortedL K) (tCons (tVar 3) tNil)))) (tTest (tOp rGeU (tCB (rLenU K) (tCons (tVar 3) tNil)) (tCB (rLenU K) (tCons (tVar 2) tNil)))))) (tRet (tC (.bl false))) tNext)
    (tSeq (tIfS (tTest (tOp (rNeU K) (tCall (sp__law_asked K mg) [] E0 (tCons (tVar 2) (tCons (tVar 3) tNil))) (tC (.str "taste")))) (tRet (tC (.bl false))) tNext)
    (tSeq (tAsg (tCB (rTy_list K) (tCons (tVar 3) tNil)) (gName 4))
    (tSeq (tFor (iSeq K (tLst (tCons (tCall (sp__law_drawn K) [] E0 (tCons (tOp (rIx K) (tOp (rIx K) (tVar 1) (tC (.int 1))) (tC (.int 0))) (tCons (tCB (rLenU K) (tCons (tVar 2) tNil)) (tCons (tCB (rLenU K) (tCons (tVar 4) tNil)) tNil)))) (tCons (tLst tNil) tNil)))) (gName 5) (tIfS (tOr (tTest (tOp (rLtW K) (tCB (rLenU K) (tCons (tVar 5) tNil)) (tCB (rLenU K) (tCons (tVar 4) tNil)))) (tAnd (tTest (tOp (rEqU K) (tCB (rLenU K) (tCons (tVar 5) tNil)) (tCB (rLenU K) (tCons (tVar 4) tNil)))) (tTest (tOp (rLtW K) (tVar 5) (tVar 4))))) (tIfS (tTest (tOp (rNeU K) (tCall (sp__law_asked K mg) [] E0 (tCons (tVar 2) (tCons (tVar 5) tNil))) (tC (.str "ring")))) (tRet (tC (.bl false))) tNext) tNext))
    (tSeq (tDrop (tBM K "list" rAppend (tVar 3) (tCons (tUn rNegU (tC (.int 1))) tNil)))
    (tRet (tOp (rEqU K) (tCall (sp_fewest K mg) [] E0 (tCons (tVar 2) tNil)) (tVar 4)))))))))))
def top (i:Nat):Stmt:=PySem.Challenge.pw_tastesbook_k62_whole_fewest.main.body.getD i (.Pass ⟨0,0,0,0⟩)
structure Md (K:PySem.W.Frag) (mg:Str→Option Value):Prop where
  b_bool:mg "bool"=none
  b_enumerate:mg "enumerate"=none
  b_int:mg "int"=none
  b_isinstance:mg "isinstance"=none
  b_len:mg "len"=none
  b_list:mg "list"=none
  b_max:mg "max"=none
  b_min:mg "min"=none
  b_range:mg "range"=none
  b_reversed:mg "reversed"=none
  b_set:mg "set"=none
  b_sorted:mg "sorted"=none
  b_sum:mg "sum"=none
  b_tuple:mg "tuple"=none
  b_zip:mg "zip"=none
  c_AS_GOOD:∃ t,mg "AS_GOOD"=some (.int 1 t)
  c_BETTER:∃ t,mg "BETTER"=some (.int 2 t)
  c_NEITHER:∃ t,mg "NEITHER"=some (.int 0 t)
  x_NoDay:ExC K mg "NoDay" (clsA mg "NoDay")
  s_NoDay_NoDay:PySem.W.mroIn K (clsA mg "NoDay") (.ref (clsA mg "NoDay"))=some true
  v_NoDay:PySem.W.kitOne K (.ref (clsA mg "NoDay")) (.type "ValueError")=some true
theorem md_mk {K:PySem.W.Frag} {mg:Str→Option Value} {h:Heap} {c_NoDay:Addr} {t_AS_GOOD t_BETTER t_NEITHER:Tok} (X:K.In h) (G:h.Ns mainGlobals mg) (n_NoDay:PySem.W.nsIn K mainGlobals "NoDay"=some (some (.ref c_NoDay))) (q_NoDay:PySem.W.excIn K c_NoDay bmV "ValueError.__new__"=true) (s_NoDay_NoDay:PySem.W.mroIn K c_NoDay (.ref c_NoDay)=some true) (v_NoDay:PySem.W.kitOne K (.ref c_NoDay) (.type "ValueError")=some true) (z_bool:PySem.W.nsIn K mainGlobals "bool"=some none) (z_enumerate:PySem.W.nsIn K mainGlobals "enumerate"=some none) (z_int:PySem.W.nsIn K mainGlobals "int"=some none) (z_isinstance:PySem.W.nsIn K mainGlobals "isinstance"=some none) (z_len:PySem.W.nsIn K mainGlobals "len"=some none) (z_list:PySem.W.nsIn K mainGlobals "list"=some none) (z_max:PySem.W.nsIn K mainGlobals "max"=some none) (z_min:PySem.W.nsIn K mainGlobals "min"=some none) (z_range:PySem.W.nsIn K mainGlobals "range"=some none) (z_reversed:PySem.W.nsIn K mainGlobals "reversed"=some none) (z_set:PySem.W.nsIn K mainGlobals "set"=some none) (z_sorted:PySem.W.nsIn K mainGlobals "sorted"=some none) (z_sum:PySem.W.nsIn K mainGlobals "sum"=some none) (z_tuple:PySem.W.nsIn K mainGlobals "tuple"=some none) (z_zip:PySem.W.nsIn K mainGlobals "zip"=some none) (y_AS_GOOD:PySem.W.nsIn K mainGlobals "AS_GOOD"=some (some (.int 1 t_AS_GOOD))) (y_BETTER:PySem.W.nsIn K mainGlobals "BETTER"=some (some (.int 2 t_BETTER))) (y_NEITHER:PySem.W.nsIn K mainGlobals "NEITHER"=some (some (.int 0 t_NEITHER))):Md K mg:=by
  have e_NoDay:clsA mg "NoDay"=c_NoDay:=by unfold clsA; rw [PySem.W.mg_of X G n_NoDay]
  exact ⟨PySem.W.mg_none_of X G z_bool,PySem.W.mg_none_of X G z_enumerate,PySem.W.mg_none_of X G z_int,PySem.W.mg_none_of X G z_isinstance,PySem.W.mg_none_of X G z_len,PySem.W.mg_none_of X G z_list,PySem.W.mg_none_of X G z_max,PySem.W.mg_none_of X G z_min,PySem.W.mg_none_of X G z_range,PySem.W.mg_none_of X G z_reversed,PySem.W.mg_none_of X G z_set,PySem.W.mg_none_of X G z_sorted,PySem.W.mg_none_of X G z_sum,PySem.W.mg_none_of X G z_tuple,PySem.W.mg_none_of X G z_zip,⟨_,PySem.W.mg_of X G y_AS_GOOD⟩,⟨_,PySem.W.mg_of X G y_BETTER⟩,⟨_,PySem.W.mg_of X G y_NEITHER⟩,e_NoDay ▸ ⟨PySem.W.mg_of X G n_NoDay,q_NoDay⟩,by rw [e_NoDay]; exact s_NoDay_NoDay,by rw [e_NoDay]; exact v_NoDay⟩
theorem rd_check_day {K:PySem.W.Frag} {mg:Str→Option Value} (M:Md K mg) {a b:V} {H:Hp} {Q:VK} {E:XK} (h:sb_check_day K mg a b H Q E):tb_check_day K mg E (Rt Q) [some a,some b] H:=LB.rd_check_day h
theorem rd_cost {K:PySem.W.Frag} {mg:Str→Option Value} (M:Md K mg) {a b c:V} {H:Hp} {Q:VK} {E:XK} (h:sb_cost K mg a b c H Q E):tb_cost K mg E (Rt Q) [some a,some b,some c] H:=LB.rd_cost h
theorem rd_purse {K:PySem.W.Frag} {mg:Str→Option Value} (M:Md K mg) {a b:V} {H:Hp} {Q:VK} {E:XK} (h:sb_purse K mg a b H Q E):tb_purse K mg E (Rt Q) [some a,some b] H:=LB.rd_purse h
theorem rd_at_once {K:PySem.W.Frag} {mg:Str→Option Value} (M:Md K mg) {a b c:V} {H:Hp} {Q:VK} {E:XK} (h:sb_at_once K mg a b c H Q E):tb_at_once K mg E (Rt Q) [some a,some b,some c] H:=LB.rd_at_once h
theorem rd_marks_from {K:PySem.W.Frag} {mg:Str→Option Value} (M:Md K mg) {a b:V} {H:Hp} {Q:VK} {E:XK} (h:sb_marks_from K mg a b H Q E):tb_marks_from K mg (Rt Q) [some a,some b] H:=LB.rd_marks_from h
theorem rd_marks_of {K:PySem.W.Frag} {mg:Str→Option Value} (M:Md K mg) {a:V} {H:Hp} {Q:VK} {E:XK} (h:sb_marks_of K mg a H Q E):tb_marks_of K mg (Rt Q) [some a] H:=LB.rd_marks_of h
theorem rd_gaps_from {K:PySem.W.Frag} {mg:Str→Option Value} (M:Md K mg) {a b c:V} {H:Hp} {Q:VK} {E:XK} (h:sb_gaps_from K mg a b c H Q E):tb_gaps_from K mg (Rt Q) [some a,some b,some c,none] H:=LB.TS.rd_gaps_from h
theorem rd_gaps_of {K:PySem.W.Frag} {mg:Str→Option Value} (M:Md K mg) {a b:V} {H:Hp} {Q:VK} {E:XK} (h:sb_gaps_of K mg a b H Q E):tb_gaps_of K mg (Rt Q) [some a,some b] H:=LB.TS.rd_gaps_of h
theorem rd_taste_of {K:PySem.W.Frag} {mg:Str→Option Value} (M:Md K mg) {a b:V} {H:Hp} {Q:VK} {E:XK} (h:sb_taste_of K mg a b H Q E):tb_taste_of K mg (Rt Q) [some a,some b,none,none,none] H:=LB.TS.rd_taste_of h
theorem comp_seqL {K:PySem.W.Frag} {a:Addr} {xs:List V} {l:List (Option Nat)} {te:TE} {σ σr:St} {H1:Hp} {Q:Hp→Prop} (ha:H1 a=some (.lst xs)) (D:Addr) (f:Nat→List Int) (hn:xs.length≤1000) (hD:H1 D=none) (hini:∃ r0,iniOf l σ=r0 :: σr)
    (hs:∀ i x H (R:VK),xs[i]?=some x→Same H1 H→(∀ p H4,H p=none→Same H H4→H4 p=some (.lst ((f i).map V.int))→R (.ref p) H4)→te (some x :: σr) H R)
    (hd:∀ rs H,rs.length=xs.length→(∀ i r,rs[i]?=some r→∃ p,r=.ref p∧H p=some (.lst ((f i).map V.int)))→Same H1 H→H D=some (.lst rs)→Q H) :
    ∃ W:CompW,(∃ m,W 0 m [] (iniOf l σ) (upd H1 D (.lst [])))∧compStep (Itl K a) (gName 0) tYes te D W Q:=by
  obtain ⟨r0,hini⟩:=hini
  refine comp_seq D xs (fun i ys σ2 H=>ys.length=i∧(∀ (j:Nat) v,ys[j]?=some v→∃ p,v=.ref p∧p≠D∧H p=some (.lst ((f j).map V.int)))∧Same H1 H∧∃ r0,σ2=r0 :: σr) hn (fun i ys σ H h=>Nat.le_of_eq h.1) ?_ ⟨rfl,fun j v e=>by simp at e,Same.laid hD,r0,hini⟩ ?_ ?_
  · rintro i ys σ2 H ⟨_,_,hs1,_⟩ _
    exact itl_of (SqL.of (hs1 _ _ ha)) i
  · rintro i x ys σ2 H hi ⟨hl,hp,hs1,r1,rfl⟩ hH
    refine w_name (w_yes (iteT ?_))
    refine hs i x H _ hi hs1 fun p H4 hp0 h4 hv=>?_
    have hD4:H4 D=some (.lst ys):=h4 _ _ hH
    have pD:p≠D:=fun z=>by subst z; rw [hH] at hp0; cases hp0
    refine ⟨hD4,by simp [hl],fun j u e=>?_,(hs1.trans h4).put hD,some x,rfl⟩
    by_cases hj:j < ys.length
    · rw [List.getElem?_append_left hj] at e
      obtain ⟨p',e1,e2,e3⟩:=hp j u e
      exact ⟨p',e1,e2,by rw [upd_ne e2]; exact h4 _ _ e3⟩
    · rw [List.getElem?_append_right (by omega)] at e
      have hj2:j - ys.length=0:=by
        by_cases z:j - ys.length=0
        · exact z
        · rw [List.getElem?_eq_none (by simp; omega)] at e; cases e
      rw [hj2] at e
      have e':V.ref p=u:=by simpa using e
      have ej:j=i:=by omega
      rw [← e',ej]
      exact ⟨p,rfl,pD,by rw [upd_ne pD]; exact hv⟩
  · rintro ys σ2 H ⟨hl,hp,hs1,_⟩ hH
    exact hd ys H hl (fun i r e=>by obtain ⟨p,e1,_,e3⟩:=hp i r e; exact ⟨p,e1,e3⟩) hs1 hH
theorem in_nats (x:Nat) (ds:List Nat):inV (nV x) (ds.map nV)=ds.contains x:=by
  unfold inV
  induction ds with
  | nil=>rfl
  | cons n ns ih =>
    rw [List.map_cons,List.any_cons,ih,List.contains_cons]
    congr 1
    show (((n:Nat):Int) == ((x:Nat):Int))=(x == n)
    rw [Bool.eq_iff_iff,beq_iff_eq,beq_iff_eq]
    omega
theorem flat_nats (ds:List Nat):(ds.map nV).all flatV=true:=by
  rw [List.all_eq_true]
  intro v hv
  obtain ⟨d,_,rfl⟩:=List.mem_map.mp hv
  rfl
theorem w_rng2 {ta:TA} {σ:St} {H:Hp} {R:It→Hp→Prop} (h:ta σ H fun vs H1=>∃ i j:Int,vs=[.int i,.int j]∧(-(2 ^ 62)≤i∧i < 2 ^ 62∧-(2 ^ 62)≤j∧j < 2 ^ 62)∧R (Itr i (j - i).toNat) H1):iRng2 ta σ H R:=h
theorem rd_other_days {K:PySem.W.Frag} {a b:V} {H:Hp} {Q:VK} {E:XK} (h:sb_other_days K a b H Q E):tb_other_days K (Rt Q) [some a,some b] H:=by
  obtain ⟨p,l,xs,ds,rfl,rfl,hp,hx,hl,q⟩:=h
  unfold tb_other_days
  refine w_ret (w_comp (w_rng1 (w_cons (w_cb (w_cons (w_var rfl (w_nil (w_lenT (SqT.of hp) (w_nil ⟨_,rfl,(rng_ok (by omega)).1,(rng_ok (by omega)).2,fun D hD=>?_⟩)))))))))
  refine comp_rangeF D (fun i=>!(ds.contains i)) nV (by omega) hD ⟨_,rfl⟩ (fun i H3 R hi s3 k=>?_) (fun i H3 R hi _ s3 k=>?_) fun H3 s3 h3=>q D H3 s3 h3
  · refine w_test (w_op (w_var rfl (w_var rfl ⟨l,_,rfl,.inl (SqL.of (s3 _ _ hl)),rfl,flat_nats ds,w_bl ?_⟩)))
    rw [if_pos rfl,in_nats]; exact k
  · exact w_var rfl k
theorem rows_step {H0 H H':Hp} {L t:Addr} {zs:List V} {ls:List (List Nat)} {m:List Nat} (h:RowsN H0 H L zs ls) (s:Same H H') (t0:H0 t=none) (tL:t≠L) (ht:H' t=some (.lst (m.map nV))):RowsN H0 (upd H' L (.lst (zs ++ [.ref t]))) L (zs ++ [.ref t]) (ls ++ [m]):=by
  refine ⟨by rw [List.length_append,List.length_append,h.1]; rfl,fun i l e=>?_⟩
  by_cases hi:i < ls.length
  · rw [List.getElem?_append_left hi] at e
    obtain ⟨q,e1,e2,e3,e4⟩:=h.2 i l e
    exact ⟨q,by rw [List.getElem?_append_left (by rw [h.1]; exact hi)]; exact e1,e2,e3,by rw [upd_ne e3]; exact s _ _ e4⟩
  · rw [List.getElem?_append_right (by omega)] at e
    have hz:i - ls.length=0:=by
      by_cases z:i - ls.length=0
      · exact z
      · rw [List.getElem?_eq_none (by simp; omega)] at e; cases e
    rw [hz] at e
    have e':m=l:=by simpa using e
    subst e'
    refine ⟨t,?_,t0,tL,by rw [upd_ne tL]; exact ht⟩
    rw [List.getElem?_append_right (by rw [h.1]; omega),h.1,hz]; rfl
theorem longer_take {n:Nat} {ls:List (List Nat)} {i:Nat} (hi:i < ls.length):longerF n (ls.take (i + 1))=longerF n (ls.take i) ++ moreF n ls[i]:=by
  unfold longerF
  rw [List.take_add_one,List.getElem?_eq_getElem hi,Option.toList_some,List.map_append,List.flatten_append]
  simp
theorem longer_le {n:Nat} (ls:List (List Nat)) (i:Nat):(longerF n (ls.take i)).length≤(longerF n ls).length:=by
  have h:=List.take_append_drop i ls
  have e:(longerF n ls).length=(longerF n (ls.take i)).length + (longerF n (ls.drop i)).length:=by
    rw [← List.length_append]
    congr 1
    unfold longerF
    rw [← List.flatten_append,← List.map_append,h]
  omega
theorem rd_longer_lists {K:PySem.W.Frag} {a b:V} {H:Hp} {Q:VK} {E:XK} (h:sb_longer_lists K a b H Q E):tb_longer_lists K (Rt Q) [some a,some b,none,none,none,none] H:=by
  obtain ⟨ls,n,p,rs,rfl,hp,lr,rows,rfl,n8,ri,l70,g70,q⟩:=h
  unfold tb_longer_lists
  refine w_seq (w_asg (w_lst (w_nil ⟨Nat.zero_le _,fun L hL=>w_name ?_⟩)))
  have s1:=Same.laid (o:=.lst []) hL
  have e1:=upd_same (H:=H) (a:=L) (o:=.lst [])
  generalize upd H L (.lst [])=H1 at s1 e1 ⊢
  try dsimp only
  refine w_seq (w_for (w_seq0 (w_var rfl ⟨p,rfl,.inl ⟨⟨_,SqL.of (s1 _ _ hp)⟩,?_⟩⟩)))
  refine for_list (K:=K) (a:=p) (xs:=rs) (fun i σ H3=>Same H H3∧∃ zs r3 r4 r5,H3 L=some (.lst zs)∧RowsN H H3 L zs (longerF n (ls.take i))∧σ=[some (.ref p),some (.int (n:Nat)),some (.ref L),r3,r4,r5]) ⟨s1,[],_,_,_,e1,⟨rfl,fun i l e=>by simp [longerF] at e⟩,rfl⟩ (fun i σ H3 _ z=>SqL.of (z.1 _ _ hp)) ?_ ?_
  · rintro i x σ H3 hx ⟨s3,zs,r3,r4,r5,hz,rz,rfl⟩
    have hi:i < ls.length:=by
      have:=(List.getElem?_eq_some_iff.mp hx).1
      omega
    obtain ⟨qa,eq,hq⟩:=rows i ls[i] (List.getElem?_eq_getElem hi)
    rw [hx] at eq
    cases eq
    have hr:=ri _ (List.getElem_mem hi)
    have lt70:=longer_le (n:=n) ls (i + 1)
    rw [longer_take hi,List.length_append] at lt70
    rw [longer_take hi]
    generalize ls[i]=l at hq hr lt70 ⊢
    have ll:=nd_len _ _ hr.nd hr.lt
    have hq3:=s3 _ _ hq
    refine w_name ?_
    refine w_seqI (fun σ' H'=>σ'=[some (.ref p),some (.int (n:Nat)),some (.ref L),some (.ref qa),some (.int (firstF l:Nat)),r5]∧H'=H3) (fun R kk=>?_) ?_
    · refine w_asg (w_ifE (w_test (w_op (w_cb (w_cons (w_var rfl (w_nil (w_lenL (SqL.of hq3) (w_c (w_gtI (w_bl (iteD (fun gt=>?_) fun le=>?_))))))))))))
      · rw [List.length_map] at gt
        have ne:l≠[]:=fun z=>by rw [z] at gt; simp at gt
        have el:l.getLast?=some (l.getLast ne):=List.getLast?_eq_some_getLast ne
        have ef:firstF l=l.getLast ne + 1:=by unfold firstF; rw [el]
        have al:atI (l.map nV) (-1)=some (nV (l.getLast ne)):=by
          unfold atI ixN
          rw [if_neg (by decide),if_pos (by rw [List.length_map]; omega)]
          show (l.map nV)[(-1 + ((l.map nV).length:Int)).toNat]?=_
          rw [List.length_map,show (-1 + (l.length:Int)).toNat=l.length - 1 by omega,List.getElem?_map,← List.getLast?_eq_getElem?,el]; rfl
        refine w_op (w_op (w_var rfl (w_un (w_c (w_negI (w_ixL (SqL.of hq3) al (w_c (w_addI (w_name ?_)))))))))
        have e:((l.getLast ne:Nat):Int) + 1=((firstF l:Nat):Int):=by rw [ef]; omega
        rw [e]
        exact kk _ _ ⟨rfl,rfl⟩
      · rw [List.length_map] at le
        have:l=[]:=List.length_eq_zero_iff.mp (by omega)
        subst this
        exact w_c (w_name (kk _ _ ⟨rfl,rfl⟩))
    rintro σ' H' ⟨rfl,rfl⟩
    try dsimp only
    have fb:firstF l≤9:=by
      unfold firstF
      cases e:l.getLast? with
      | none=>exact Nat.zero_le _
      | some y =>
        have:=hr.lt y (List.mem_of_getLast? e)
        show y + 1≤9
        omega
    refine w_for (w_rng2 (w_cons (w_var rfl (w_cons (w_var rfl (w_nil ⟨_,_,rfl,⟨by omega,by omega,by omega,by omega⟩,?_⟩))))))
    have en:(((n:Nat):Int) - ((firstF l:Nat):Int)).toNat=n - firstF l:=by omega
    rw [en]
    refine for_range (lo:=((firstF l:Nat):Int)) (n:=n - firstF l) (fun k σ H4=>Same H H4∧∃ zs r5,H4 L=some (.lst zs)∧RowsN H H4 L zs (longerF n (ls.take i) ++ (List.range k).map fun d=>l ++ [firstF l + d])∧σ=[some (.ref p),some (.int (n:Nat)),some (.ref L),some (.ref qa),some (.int (firstF l:Nat)),r5]) ⟨s3,zs,_,hz,by simpa using rz,rfl⟩ ?_ ?_
    · rintro k σ H4 hk ⟨s4,zs,r5,hz,rz,rfl⟩
      have zl:=rz.1
      rw [List.length_append,List.length_map,List.length_range] at zl
      have ml:(moreF n l).length=n - firstF l:=by unfold moreF; simp
      refine w_name (w_drop (w_bm (w_var rfl ⟨tyV_lst hz,w_cons (w_op (w_var rfl (w_lst (w_cons (w_var rfl (w_nil ⟨by show 1≤sizeLine; decide,fun u hu=>?_⟩))))))⟩)))
      have su:=Same.laid (o:=.lst [.int (((firstF l:Nat):Int) + (k:Nat))]) hu
      refine .inr (.inr (.inr ⟨qa,u,_,_,rfl,rfl,su _ _ (s4 _ _ hq),upd_same,small9 (by rw [List.length_map]; show l.length + 1≤_; omega),fun t ht=>?_⟩))
      have st:=Same.laid (o:=.lst (l.map nV ++ [.int (((firstF l:Nat):Int) + (k:Nat))])) ht
      have et:=upd_same (H:=upd H4 u (.lst [.int (((firstF l:Nat):Int) + (k:Nat))])) (a:=t) (o:=.lst (l.map nV ++ [.int (((firstF l:Nat):Int) + (k:Nat))]))
      have t0:H t=none:=s4.free (su.free ht)
      have sut:=su.trans st
      have tL:t≠L:=fun z=>by rw [z,su _ _ hz] at ht; cases ht
      generalize upd (upd H4 u _) t _=H5 at et sut ⊢
      have ev:l.map nV ++ [V.int (((firstF l:Nat):Int) + (k:Nat))]=(l ++ [firstF l + k]).map nV:=by rw [List.map_append]; congr 1
      rw [ev] at et
      refine w_nil (w_append (sut _ _ hz) (small1000 (by omega)) ?_)
      refine ⟨(s4.trans sut).put hL,_,_,upd_same,?_,rfl⟩
      rw [List.range_succ,List.map_append,← List.append_assoc]
      exact rows_step rz sut t0 tL et
    · rintro σ H4 ⟨s4,zs,r5,hz,rz,rfl⟩
      exact ⟨s4,zs,_,_,_,hz,rz,rfl⟩
  · rintro σ H3 ⟨s3,zs,r3,r4,r5,hz,rz,rfl⟩
    try dsimp only
    rw [lr,List.take_length] at rz
    exact w_ret (w_var rfl (q _ H3 s3 ⟨L,zs,rfl,hL,hz,rz⟩))
theorem rows_app {H0 H H':Hp} {T L:Addr} {zs rs:List V} {ls ms:List (List Nat)} (h:RowsN H0 H T zs ls) (g:RowsN H0 H L rs ms) (gT:∀ (i:Nat) q,rs[i]?=some (.ref q)→q≠T):RowsN H0 (upd H T (.lst (zs ++ rs))) T (zs ++ rs) (ls ++ ms):=by
  refine ⟨by rw [List.length_append,List.length_append,h.1,g.1],fun i l e=>?_⟩
  by_cases hi:i < ls.length
  · rw [List.getElem?_append_left hi] at e
    obtain ⟨q,e1,e2,e3,e4⟩:=h.2 i l e
    exact ⟨q,by rw [List.getElem?_append_left (by rw [h.1]; exact hi)]; exact e1,e2,e3,by rw [upd_ne e3]; exact e4⟩
  · rw [List.getElem?_append_right (by omega)] at e
    obtain ⟨q,e1,e2,e3,e4⟩:=g.2 _ l e
    have qT:=gT _ q e1
    exact ⟨q,by rw [List.getElem?_append_right (by rw [h.1]; omega),h.1]; exact e1,e2,qT,by rw [upd_ne qT]; exact e4⟩
theorem rd_rising_lists {K:PySem.W.Frag} {a:V} {H:Hp} {Q:VK} {E:XK} (h:sb_rising_lists K a H Q E):tb_rising_lists K (Rt Q) [some a,none,none] H:=by
  obtain ⟨n,rfl,n8,q⟩:=h
  have dec:=lv_dec n (by omega)
  unfold tb_rising_lists
  refine w_seq (w_asg (w_lst (w_nil ⟨Nat.zero_le _,fun T hT=>w_name ?_⟩)))
  have s1:=Same.laid (o:=.lst []) hT
  have e1:=upd_same (H:=H) (a:=T) (o:=.lst [])
  generalize upd H T (.lst [])=H1 at s1 e1 ⊢
  try dsimp only
  refine w_seq (w_asg (w_lst (w_cons (w_lst (w_nil ⟨Nat.zero_le _,fun e he=>w_nil ⟨by show 1≤sizeLine; decide,fun L hL=>w_name ?_⟩⟩)))))
  have se:=Same.laid (o:=.lst []) he
  have sL:=Same.laid (o:=.lst [.ref e]) hL
  have s2:=se.trans sL
  have ee:=sL _ _ (upd_same (H:=H1) (a:=e) (o:=.lst []))
  have eL:=upd_same (H:=upd H1 e (.lst [])) (a:=L) (o:=.lst [.ref e])
  have e0:H1 e=none:=he
  have L0:H1 L=none:=se.free hL
  have neL:e≠L:=fun z=>by rw [← z,upd_same] at hL; cases hL
  generalize upd (upd H1 e (.lst [])) L (.lst [.ref e])=H2 at s2 ee eL ⊢
  have eT:e≠T:=fun z=>by rw [z,e1] at e0; cases e0
  have LT:L≠T:=fun z=>by rw [z,e1] at L0; cases L0
  try dsimp only
  refine w_seq (w_while (fun m σ H3=>∃ (k:Nat) (zs rs:List V) (L:Addr),m=n + 1 - k∧k≤n + 1∧Same H H3∧H3 T=some (.lst zs)∧RowsN H H3 T zs (prefF n k)∧L≠T∧H3 L=some (.lst rs)∧RowsN H H3 L rs (lvF n k)∧(∀ (i:Nat) q,rs[i]?=some (.ref q)→q≠T)∧σ=[some (.int (n:Nat)),some (.ref T),some (.ref L)]) (m:=n + 1) ⟨0,[],[.ref e],L,rfl,Nat.zero_le _,s1.trans s2,s2 _ _ e1,⟨rfl,fun i l z=>by simp [prefF] at z⟩,LT,eL,⟨rfl,fun i l z=>?_⟩,fun i q z=>?_,rfl⟩ ?_)
  · cases i with
    | zero =>
      have:l=[]:=by simpa [lvF] using z.symm
      subst this
      exact ⟨e,rfl,s1.free e0,neL,ee⟩
    | succ i=>simp [lvF] at z
  · cases i with
    | zero =>
      have:e=q:=by simpa using z
      subst this
      exact eT
    | succ i=>simp at z
  clear eL ee eT LT neL e0 L0 hL he sL se
  rintro m σ H3 ⟨k,zs,rs,L,rfl,kn,s3,hT3,rT,LT,hL3,rL,qT,rfl⟩
  obtain ⟨d1,d2,d3,d4⟩:=dec k (by omega)
  have lr:=rL.1
  refine w_test (w_op (w_cb (w_cons (w_var rfl (w_nil (w_lenL (SqL.of hL3) (w_c (w_gtI (w_bl (iteD (fun gt=>?_) fun le=>?_))))))))))
  · have kn':k≤n:=by
      rcases (by omega:k≤n∨k=n + 1) with z | z
      · exact z
      · have:=d4 z
        omega
    obtain ⟨c1,c2,c3,c4⟩:=dec (k + 1) (by omega)
    refine ⟨fun σ' H'=>∃ m',m' < n + 1 - k∧∃ (k:Nat) (zs rs:List V) (L:Addr),m'=n + 1 - k∧k≤n + 1∧Same H H'∧H' T=some (.lst zs)∧RowsN H H' T zs (prefF n k)∧L≠T∧H' L=some (.lst rs)∧RowsN H H' L rs (lvF n k)∧(∀ (i:Nat) q,rs[i]?=some (.ref q)→q≠T)∧σ'=[some (.int (n:Nat)),some (.ref T),some (.ref L)],fun _ _ z=>z,?_⟩
    have zl:=rT.1
    refine w_seq (w_drop (w_bm (w_var rfl ⟨tyV_lst hT3,w_cons (w_var rfl (w_nil ⟨T,L,zs,rs,rfl,rfl,hT3,hL3,Nat.le_of_lt (small1000 (by omega)),?_⟩))⟩)))
    have r4:=rows_app (H':=H3) rT rL qT
    rw [← pref_succ] at r4
    have h4:=upd_same (H:=H3) (a:=T) (o:=.lst (zs ++ rs))
    have s4:=s3.put (o:=.lst (zs ++ rs)) hT
    have hL4:upd H3 T (.lst (zs ++ rs)) L=some (.lst rs):=by rw [upd_ne LT]; exact hL3
    have rows4:∀ (i:Nat) l,(lvF n k)[i]?=some l→∃ q,rs[i]?=some (.ref q)∧upd H3 T (.lst (zs ++ rs)) q=some (.lst (l.map nV)):=fun i l e=>by
      obtain ⟨q,e1,_,_,e4⟩:=rL.2 i l e
      exact ⟨q,e1,by rw [upd_ne (qT i q e1)]; exact e4⟩
    generalize upd H3 T (.lst (zs ++ rs))=H4 at r4 h4 s4 hL4 rows4 ⊢
    try dsimp only
    refine w_asg (w_call (w_cons (w_var rfl (w_cons (w_var rfl (w_nil ⟨_,_,rfl,lvF n k,n,L,rs,rfl,hL4,lr,rows4,rfl,n8,fun l hl=>(lv_rise k l hl).1,d2,c2,fun v H5 s5 lv=>w_name ?_⟩))))))
    obtain ⟨L',rs',rfl,p0,hL5,rr⟩:=lv
    have T0:∀ q,H4 q=none→q≠T:=fun q hq z=>by rw [z,h4] at hq; cases hq
    refine ⟨n + 1 - (k + 1),by omega,k + 1,zs ++ rs,rs',L',rfl,by omega,s4.trans s5,s5 _ _ h4,⟨r4.1,fun i l e=>?_⟩,T0 _ p0,hL5,⟨rr.1,fun i l e=>?_⟩,fun i q e=>?_,rfl⟩
    · obtain ⟨q,e1,e2,e3,e4⟩:=r4.2 i l e
      exact ⟨q,e1,e2,e3,s5 _ _ e4⟩
    · obtain ⟨q,e1,e2,e3,e4⟩:=rr.2 i l e
      exact ⟨q,e1,s4.free e2,e3,e4⟩
    · have hi:i < rs'.length:=(List.getElem?_eq_some_iff.mp e).1
      obtain ⟨q',e1,e2,e3,e4⟩:=rr.2 i _ (List.getElem?_eq_getElem (show i < (longerF n (lvF n k)).length by rw [← rr.1]; exact hi))
      rw [e] at e1
      cases e1
      exact T0 _ e2
  · have ek:k=n + 1:=by
      rcases (by omega:k≤n∨k=n + 1) with z | z
      · have:=d1 z
        omega
      · exact z
    subst ek
    try dsimp only
    exact w_ret (w_var rfl (q _ H3 s3 ⟨T,zs,rfl,hT,hT3,rT⟩))
theorem rd_marks_among {K:PySem.W.Frag} {a b c:V} {H:Hp} {Q:VK} {E:XK} (h:sb_marks_among K a b c H Q E):tb_marks_among K (Rt Q) [some a,some b,some c] H:=by
  obtain ⟨B,i,ds,q,mr,rfl,hi,rfl,hq,dl,d8,k⟩:=h
  obtain ⟨m,rs,rfl,hm,lr,row⟩:=mr
  rw [marks_len] at lr row
  obtain ⟨p,hp,hrow⟩:=row i hi
  have lrow:((marksF B).getD i []).length=B.length:=by rw [← marks_len B]; exact marks_sq B _ (by rw [List.getD,List.getElem?_eq_getElem (by rw [marks_len]; exact hi)]; exact List.getElem_mem _)
  unfold tb_marks_among
  refine w_ret (w_comp (w_seq0 (w_var rfl ⟨q,rfl,.inl ⟨⟨_,SqL.of hq⟩,fun D hD=>?_⟩⟩)))
  refine comp_seqP (K:=K) (a:=q) (xs:=ds.map nV) (σr:=[some (.ref m),some (.int (i:Nat))]) (.inr ⟨rfl,hq⟩) D (fun j v _=>v=.int (onceF B i (ds.getD j 0))) (fun _ _ _ _ _ z=>z) (by rw [List.length_map]; omega) hD ⟨none,rfl⟩ (fun j x H3 R hx s3 kk=>?_) fun ys H3 hy hall s3 h3=>?_
  · rw [List.getElem?_map] at hx
    obtain ⟨d,hd,rfl⟩:=Option.map_eq_some_iff.mp hx
    have dm:=dl d (List.mem_of_getElem? hd)
    have ed:ds.getD j 0=d:=by rw [List.getD,hd]; rfl
    refine w_op (w_op (w_var rfl (w_var rfl (w_ixL (SqL.of (s3 _ _ hm)) (atI_nat hp) (w_var rfl (w_ixL (SqL.of (s3 _ _ hrow)) (ixi (by rw [lrow]; exact dm)) (kk _ _ (Same.refl _) ?_)))))))
    rw [ed]
    exact congrArg V.int (mk_marks hi dm)
  · refine k D H3 hD s3 ?_
    rw [h3,ints_eq (f:=fun j=>onceF B i (ds.getD j 0)) hy hall,List.length_map]
    congr 3
    apply List.ext_getElem?
    intro j
    rcases Nat.lt_or_ge j ds.length with z | z
    · rw [List.getElem?_map,List.getElem?_range z,List.getElem?_map,List.getElem?_eq_getElem z]
      simp [z]
    · rw [List.getElem?_eq_none (by simp; omega),List.getElem?_eq_none (by simp; omega)]
theorem rd_is_explained {K:PySem.W.Frag} {a b:V} {H:Hp} {Q:VK} {E:XK} (h:sb_is_explained K a b H Q E):tb_is_explained K (Rt Q) [some a,some b] H:=by
  obtain ⟨B,ds,q,mr,b8,rfl,hq,r,k⟩:=h
  have d8:ds.length≤8:=Nat.le_trans (nd_len _ _ r.nd r.lt) b8
  unfold tb_is_explained
  refine w_ret (w_op (w_call (w_cons (w_comp (w_seq0 (w_var rfl ⟨q,rfl,.inl ⟨⟨_,SqL.of hq⟩,fun D hD=>?_⟩⟩))))))
  refine comp_seqL (K:=K) (a:=q) (xs:=ds.map nV) (σr:=[some a,some (.ref q)]) hq D (fun i=>ds.map fun j=>onceF B (ds.getD i 0) j) (by rw [List.length_map]; omega) hD ⟨none,rfl⟩ (fun i x H3 R hx s3 kk=>?_) fun rs H3 hl hall s3 h3=>?_
  · rw [List.getElem?_map] at hx
    obtain ⟨d,hd,rfl⟩:=Option.map_eq_some_iff.mp hx
    have ed:ds.getD i 0=d:=by rw [List.getD,hd]; rfl
    rw [ed] at kk
    exact w_call (w_cons (w_var rfl (w_cons (w_var rfl (w_cons (w_var rfl (w_nil ⟨_,_,_,rfl,B,d,ds,q,mrep_same s3 mr,rfl,r.lt d (List.mem_of_getElem? hd),rfl,s3 _ _ hq,r.lt,d8,kk⟩)))))))
  rw [List.length_map] at hl
  have lm:(subM B ds).length=ds.length:=by unfold subM; simp
  refine w_nil ⟨_,rfl,subM B ds,⟨D,rs,rfl,h3,by rw [hl,lm],fun i hi=>?_⟩,by rw [lm]; exact d8,fun row hrow=>?_,fun v H4 s4 hv=>w_c (w_isN ?_)⟩
  · rw [lm] at hi
    have e:rs[i]?=some (rs[i]'(by omega)):=List.getElem?_eq_getElem (by omega)
    obtain ⟨p,e1,e2⟩:=hall i _ e
    refine ⟨p,by rw [e,e1],?_⟩
    rw [e2]
    congr 3
    unfold subM
    simp [hi]
  · obtain ⟨i,_,rfl⟩:=List.mem_map.mp hrow
    rw [lm]; simp
  · have ev:decide (v=.non)=expF B ds:=by
      unfold expF
      rcases hv with ⟨no,rfl⟩ | ⟨c,p,yes,rfl,_⟩
      · rw [no]; rfl
      · rw [yes]; rfl
    rw [ev]
    exact k H4 (s3.trans s4)
theorem rd_fewest {K:PySem.W.Frag} {mg:Str→Option Value} (M:Md K mg) {a:V} {H:Hp} {Q:VK} {E:XK} (h:sb_fewest K mg a H Q E):tb_fewest K mg (Rt Q) [some a,none,none,none] H:=by
  obtain ⟨B,m,n,rB,g,m8,q⟩:=h
  obtain ⟨bp,xs,rfl,hb,hl,_⟩:=book_day rB
  have gm:=g.m8
  obtain ⟨ds0,fw⟩:=fw_some g.m1 (by omega)
  unfold tb_fewest
  refine w_seq (w_asg (w_call (w_cons (w_var rfl (w_nil ⟨_,rfl,B,m,n,rB,g,m8,fun mv H1 s1 mr=>w_name ?_⟩)))))
  try dsimp only
  refine w_seq (w_asg (w_call (w_cons (w_cb (w_cons (w_var rfl (w_nil (w_lenT (SqT.of (s1 _ _ hb)) (w_nil ⟨_,rfl,B.length,by rw [hl],by omega,fun v H2 s2 lv=>w_name ?_⟩)))))))))
  obtain ⟨p,rs,rfl,p0,hp,lr,rows⟩:=lv
  have s12:=s1.trans s2
  try dsimp only
  refine w_seq (w_asg (w_c (w_name ?_)))
  try dsimp only
  refine w_seq (w_while (fun k σ H3=>∃ i:Nat,k=(RL B.length).length - i∧Same H2 H3∧fwF B=((RL B.length).drop i).find? (fwT B)∧σ=[some (.ref bp),some mv,some (.ref p),some (.int (i:Nat))]) (m:=(RL B.length).length) ⟨0,rfl,Same.refl _,rfl,rfl⟩ ?_)
  rintro k σ H3 ⟨i,rfl,s3,hf,rfl⟩
  have hi:i < (RL B.length).length:=by
    rcases Nat.lt_or_ge i (RL B.length).length with z | z
    · exact z
    · rw [List.drop_eq_nil_of_le z,fw] at hf; cases hf
  obtain ⟨qa,eq,q0,_,hq⟩:=rows i _ (List.getElem?_eq_getElem hi)
  rw [List.drop_eq_getElem_cons hi,List.find?_cons] at hf
  generalize (RL B.length)[i]=ds at hq hf
  have mr3:=mrep_same (s2.trans s3) mr
  refine w_not (w_tru (w_call (w_cons (w_var rfl (w_cons (w_call (w_cons (w_var rfl (w_cons (w_op (w_var rfl (w_var rfl (w_ixL (SqL.of (s3 _ _ hp)) (atI_nat eq) (w_nil ⟨_,_,rfl,bp,qa,xs,ds,rfl,rfl,(s12.trans s3) _ _ hb,by omega,s3 _ _ hq,fun t H5 s5 h5=>w_nil ?_⟩))))))))))))))
  rw [hl] at h5
  refine ⟨_,_,rfl,B,othF B.length ds,t,mrep_same s5 mr3,by omega,rfl,h5,fil_rise _ _,fun H6 s6=>w_trub ?_⟩
  have s36:=s5.trans s6
  cases c2:expF B (othF B.length ds) with
  | false =>
    have et:fwT B ds=false:=c2
    rw [et] at hf
    refine iteT ⟨fun σ' H'=>Same H2 H'∧fwF B=((RL B.length).drop (i + 1)).find? (fwT B)∧σ'=[some (.ref bp),some mv,some (.ref p),some (.int ((i + 1:Nat):Int))],fun σ' H' z=>⟨(RL B.length).length - (i + 1),by omega,i + 1,rfl,z.1,z.2.1,z.2.2⟩,?_⟩
    refine ⟨_,rfl,w_c ?_⟩
    exact ⟨_,_,rfl,rfl,s3.trans s36,hf,rfl⟩
  | true =>
    have et:fwT B ds=true:=c2
    rw [et] at hf
    refine iteF ?_
    try dsimp only
    exact w_ret (w_op (w_var rfl (w_var rfl (w_ixL (SqL.of ((s3.trans s36) _ _ hp)) (atI_nat eq) (q ds qa _ (s12.trans (s3.trans s36)) hf (s1.free q0) ((s3.trans s36) _ _ hq))))))
theorem reps_sub {H:Hp} {xs:List V} {B:List (List Int×List Int)} (r:Reps H xs (B.map dayD)) {ds:List Nat} (hd:∀ x∈ds,x < B.length):Reps H (ds.map fun i=>xs.getD i .non) ((subB B ds).map dayD):=by
  have lx:xs.length=B.length:=by rw [r.length,List.length_map]
  refine Reps.of (by unfold subB; simp) fun i x d hx hd'=>?_
  unfold subB at hd'
  rw [List.map_map,List.getElem?_map] at hd'
  rw [List.getElem?_map] at hx
  obtain ⟨k,hk,rfl⟩:=Option.map_eq_some_iff.mp hx
  rw [hk] at hd'
  have hk':=hd k (List.mem_of_getElem? hk)
  have e1:xs[k]?=some (xs.getD k .non):=by rw [List.getD,List.getElem?_eq_getElem (by omega)]; rfl
  obtain ⟨d',e,rep⟩:=r.get e1
  rw [List.getElem?_map,List.getElem?_eq_getElem hk'] at e
  have ed:d'=d:=by
    have a1:dayD B[k]=d':=by simpa using e
    have a2:dayD (B.getD k ([],[]))=d:=by simpa using hd'
    rw [← a1,← a2]
    simp [hk']
  rw [← ed]; exact rep
theorem rd__law_left {K:PySem.W.Frag} {a b:V} {H:Hp} {Q:VK} {E:XK} (h:sb__law_left K a b H Q E):tb__law_left K (Rt Q) [some a,some b] H:=by
  obtain ⟨B,m,n,q,ds,rB,g,m8,rfl,hq,k⟩:=h
  obtain ⟨bp,xs,rfl,hb,rxs⟩:=rep_tup_inv rB
  have hl:xs.length=B.length:=by rw [rxs.length,List.length_map]
  have gm:=g.m8
  unfold tb__law_left
  refine w_ret (w_cb (w_cons (w_comp (w_rng1 (w_cons (w_cb (w_cons (w_var rfl (w_nil (w_lenT (SqT.of hb) (w_nil ⟨_,rfl,(rng_ok (by omega)).1,(rng_ok (by omega)).2,fun D hD=>?_⟩)))))))))))
  refine comp_rangeF D (fun i=>!(ds.contains i)) (fun i=>xs.getD i .non) (by omega) hD ⟨_,rfl⟩ (fun i H3 R hi s3 kk=>?_) (fun i H3 R hi _ s3 kk=>?_) fun H3 s3 h3=>?_
  · refine w_test (w_op (w_var rfl (w_var rfl ⟨q,_,rfl,.inl (SqL.of (s3 _ _ hq)),rfl,flat_nats ds,w_bl ?_⟩)))
    rw [if_pos rfl,in_nats]; exact kk
  · have e1:xs[i]?=some (xs.getD i .non):=by rw [List.getD,List.getElem?_eq_getElem hi]; rfl
    exact w_op (w_var rfl (w_var rfl (w_ixT (SqT.of (s3 _ _ hb)) (atI_nat e1) kk)))
  · refine w_nil (w_tupL (SqL.of h3) fun t ht=>k _ _ (s3.laidT ht) ?_)
    have st:=Same.laid (o:=.tup (((List.range xs.length).filter fun i=>!(ds.contains i)).map fun i=>xs.getD i .non)) ht
    unfold bookD
    refine rep_tup upd_same ?_
    have:=reps_sub (Reps.mono (s3.trans st) _ _ rxs) (ds:=othF B.length ds) (fil_rise _ _).lt
    unfold othF at this ⊢
    rw [hl]
    rw [hl] at this
    exact this
theorem rd__law_asked {K:PySem.W.Frag} {mg:Str→Option Value} (M:Md K mg) {a b:V} {H:Hp} {Q:VK} {E:XK} (h:sb__law_asked K mg a b H Q E):tb__law_asked K mg (Rt Q) [some a,some b,none] H:=by
  obtain ⟨B,m,n,q,ds,rB,g,m8,rfl,hq,ne,k⟩:=h
  have sh1:ShB 1:=by decide
  unfold tb__law_asked
  refine w_seq (w_asg (w_call (w_cons (w_var rfl (w_cons (w_var rfl (w_nil ⟨_,_,rfl,B,m,n,q,ds,rB,g,m8,rfl,hq,fun v H1 s1 r1=>w_name ?_⟩)))))))
  try dsimp only
  have ri:=fil_rise B.length fun i=>!(ds.contains i)
  replace ri:Rise B.length (othF B.length ds):=ri
  generalize othF B.length ds=ks at r1 ri k ne
  have gs:=good_sub g ri ne
  refine w_ret (w_call (w_cons (w_callD (w_cons (w_var rfl (w_nil ⟨_,_,rfl,subB B ks,m,n,1,1,r1,gs,m8,.inl ⟨rfl,rfl,rfl⟩,sh1,sh1,fun w H2 s2 tw=>?_⟩))))))
  refine w_cons (w_var rfl (w_cons (w_tup (w_cons (w_c (w_cons (w_c (w_nil ⟨by show 2≤sizeLine; decide,fun u hu=>w_nil ?_⟩))))))))
  have su:=Same.laid (o:=.tup [.int 1,.int 1]) hu
  have n8:(subB B ks).length≤8:=by have:=gs.m8; omega
  refine ⟨_,_,_,rfl,subB B ks,m,n,u,1,1,_,H1,Rep.mono (s2.trans su) _ _ r1,gs,m8,rfl,upd_same,sh1,sh1,ta_same su tw,tas_ok n8 (gp_bd gs sh1 sh1),fun H3 s3=>?_⟩
  rw [ask_kd]
  exact k H3 (((s1.trans s2).trans su).trans s3)
theorem rd__law_drawn {K:PySem.W.Frag} {a b c:V} {H:Hp} {Q:VK} {E:XK} (h:sb__law_drawn K a b c H Q E):tb__law_drawn K (Rt Q) [some a,some b,some c,none,none,none] H:=by
  obtain ⟨x,n,j,rfl,rfl,rfl,n1,n8,j8,q⟩:=h
  unfold tb__law_drawn
  refine w_seq (w_asg (w_lst (w_nil ⟨Nat.zero_le _,fun L hL=>w_name ?_⟩)))
  have s1:=Same.laid (o:=.lst []) hL
  have e1:=upd_same (H:=H) (a:=L) (o:=.lst [])
  generalize upd H L (.lst [])=H1 at s1 e1 ⊢
  try dsimp only
  refine w_seq (w_for (w_rng1 (w_cons (w_var rfl (w_nil ⟨_,rfl,(rng_ok (by omega)).1,(rng_ok (by omega)).2,for_range0 (fun i σ H2=>∃ (es:List Nat) (r4 r5:Option V),σ=[some (.int x),some (.int (n:Nat)),some (.int (j:Nat)),some (.ref L),r4,r5]∧Same H H2∧H2 L=some (.lst (es.map nV))∧es.Nodup∧(∀ y∈es,y < n)∧es.length≤i) ⟨[],none,none,rfl,s1,e1,List.nodup_nil,fun y hy=>(by cases hy),Nat.zero_le _⟩ ?_ ?_⟩)))))
  · rintro i σ H2 hi ⟨es,r4,r5,rfl,s2,h2,nd,lt,le⟩
    refine w_name (w_seq (w_asg (w_op (w_op (w_var rfl (w_op (w_c (w_var rfl (w_mulI (mulok_big (by decide) (by decide) (by omega) (by omega)) (w_shrI (by omega) (w_var rfl (w_modI (by omega) (w_name ?_)))))))))))))
    have y0:0≤(x.fdiv (2 ^ ((11:Int) * (i:Nat)).toNat)) % ((n:Nat):Int):=Int.emod_nonneg _ (by omega)
    have y1:(x.fdiv (2 ^ ((11:Int) * (i:Nat)).toNat)) % ((n:Nat):Int) < ((n:Nat):Int):=Int.emod_lt_of_pos _ (by omega)
    generalize (x.fdiv (2 ^ ((11:Int) * (i:Nat)).toNat)) % ((n:Nat):Int)=y at y0 y1 ⊢
    obtain ⟨d,rfl⟩:=Int.eq_ofNat_of_zero_le y0
    try dsimp only
    refine w_ifS (w_test (w_op (w_var rfl (w_var rfl ⟨L,_,rfl,.inl (SqL.of h2),rfl,flat_nats es,w_bl ?_⟩))))
    have e0:inV (V.int ((d:Nat):Int)) (es.map nV)=es.contains d:=in_nats d es
    rw [if_pos rfl,e0]
    cases cd:es.contains d with
    | true=>exact iteF (w_next ⟨es,_,_,rfl,s2,h2,nd,lt,by omega⟩)
    | false =>
      have dn:d ∉ es:=fun z=>by rw [List.contains_iff_mem.mpr z] at cd; cases cd
      refine iteT (w_drop (w_bm (w_var rfl ⟨tyV_lst h2,w_cons (w_var rfl (w_nil (w_append h2 (small1000 (by rw [List.length_map]; omega)) ?_)))⟩)))
      refine ⟨es ++ [d],_,_,rfl,s2.put hL,?_,?_,fun y hy=>?_,by rw [List.length_append]; show es.length + 1≤i + 1; omega⟩
      · rw [upd_same,List.map_append]; rfl
      · refine List.nodup_append.mpr ⟨nd,by simp,fun a ha b hb=>?_⟩
        have:b=d:=by simpa using hb
        subst this
        exact fun z=>dn (z ▸ ha)
      · rcases List.mem_append.mp hy with z | z
        · exact lt y z
        · have:y=d:=by simpa using z
          omega
  · rintro σ H2 ⟨es,r4,r5,rfl,s2,h2,nd,lt,le⟩
    try dsimp only
    rw [nv_ints] at h2
    refine w_ret (w_cb (w_cons (w_var rfl (w_nil ⟨L,cI es,rfl,SqL.of h2,by rw [List.length_map]; omega,fun ns' pm so u hu=>?_⟩))))
    obtain ⟨ds,rfl,ri⟩:=sorted_rise nd lt pm so
    refine q ds u _ (s2.trans (Same.laid hu)) ri ?_
    rw [upd_same,nv_ints]
theorem ne_lists {K:PySem.W.Frag} {H:Hp} {Q:VK} {p q:Addr} {ns:List Int} (h1:H p=some (.lst (ns.map V.int))) (h2:H q=some (.lst (ns.map V.int))) (k:Q (.bl false) H):rNeU K (.ref p) (.ref q) H Q:=by
  have l:=lay_ints ns
  have dp:=depth_ints ns
  refine .inr ⟨.list (ns.map .int),.list (ns.map .int),rep_lst h1 (Reps.ints ns),rep_lst h2 (Reps.ints ns),by simpa only [PyData.canLay0] using l,by simpa only [PyData.canLay0] using l,?_,?_⟩
  · simp only [PyData.depth]; omega
  · have e:PyData.eqv (.list (ns.map .int)) (.list (ns.map .int))=true:=by simpa only [PyData.eqv] using eqv_ints ns
    rw [e]; exact k
theorem rd_law {K:PySem.W.Frag} {mg:Str→Option Value} (M:Md K mg) {a:V} {H:Hp} {Q:VK} {E:XK} (h:sb_top K a H Q E):tb_law K mg (Rt Q) [some a,none,none,none,none,none] H:=by
  obtain ⟨l,sc,rfl,hl,hb,hlen,q⟩:=h
  unfold tb_law
  refine w_seq (w_asg (w_call (w_cons (w_var rfl (w_cons (w_c (w_nil ⟨_,_,rfl,l,sc,100,rfl,rfl,hl,hb,hlen,by decide,fun t dl f ds H1 s1 ht hd ld dw=>w_name ?_⟩)))))))
  try dsimp only
  refine w_seq (w_asg (w_call (w_cons (w_var rfl (w_cons (w_c (w_cons (w_c (w_nil ⟨_,_,_,rfl,t,dl,f,ds,1,7,rfl,ht,hd,dw,rfl,rfl,by decide,by decide,by omega,by omega,by omega,fun v B k H2 s2 rB gB=>w_name ?_⟩)))))))))
  try dsimp only
  have B1:=gB.m1
  have B8:=gB.m8
  obtain ⟨bp,xs,rfl,hbp,hxl,_⟩:=book_day rB
  refine w_seq (w_asg (w_call (w_cons (w_var rfl (w_nil ⟨_,rfl,B,8,k,rB,gB,by decide,fun es p H3 s3 yes p0 hp=>w_name ?_⟩)))))
  try dsimp only
  obtain ⟨ri,ex,el,bef⟩:=fw_ok yes gB.m1 B8
  have rB3:=Rep.mono s3 _ _ rB
  have at0:atI (ds.map V.int) 0=some (.int (ds.getD 0 0)):=ixi (i:=0) (by omega)
  have asked:∀ {H5:Hp} {R:VK} {p:Addr} {es:List Nat},Same H3 H5→H5 p=some (.lst (es.map nV))→othF B.length es≠[]→(∀ H6,Same H5 H6→R (.str (askF B (othF B.length es))) H6)→sp__law_asked K mg [.ref bp,.ref p] H5 R E0:=fun s5 hp ne kk =>
    ⟨_,_,rfl,B,8,k,_,_,Rep.mono s5 _ _ rB3,gB,by decide,rfl,hp,ne,kk⟩
  have hpi:H3 p=some (.lst ((cI es).map V.int)):=by rw [← nv_ints]; exact hp
  have nd':(cI es).Nodup:=List.Pairwise.map _ (fun a b (hab:a≠b)=>by intro w; exact hab (by omega)) ri.nd
  refine w_seq (w_ifS (w_or (w_not (w_tru (w_call (w_cons (w_var rfl (w_cons (w_cb (w_cons (w_var rfl (w_nil (w_lenT (SqT.of (s3 _ _ hbp)) (w_nil ⟨_,_,rfl,p,cI es,xs.length,rfl,hpi,nd',by rw [List.length_map]; omega,rfl,?_,fun H5 s5=>w_trub (iteF ?_)⟩))))))))))))))
  · intro z hz
    obtain ⟨w,hw,rfl⟩:=List.mem_map.mp hz
    have:=ri.lt w hw
    omega
  refine w_or (w_test (w_op (w_var rfl (w_cb (w_cons (w_var rfl (w_nil ⟨p,cI es,rfl,SqL.of (s5 _ _ hpi),by rw [List.length_map]; omega,fun ns' pm so u hu=>?_⟩)))))))
  have en:ns'=cI es:=sorted_eq pm so (List.Pairwise.map _ (fun a b (hab:a < b)=>by show ((a:Nat):Int)≤((b:Nat):Int); omega) ri.up)
  rw [en]
  have su:=Same.laid (o:=.lst ((cI es).map V.int)) hu
  refine ne_lists (su _ _ (s5 _ _ hpi)) upd_same (w_bl (iteF ?_))
  generalize upd H5 u _=H6 at su ⊢
  have s36:=s5.trans su
  refine w_test (w_op (w_cb (w_cons (w_var rfl (w_nil (w_lenL (SqL.of (s36 _ _ hp)) (w_cb (w_cons (w_var rfl (w_nil (w_lenT (SqT.of ((s3.trans s36) _ _ hbp)) (w_geI (w_bl (iteD (fun z=>?_) fun _=>w_next ?_))))))))))))))
  · rw [List.length_map] at z; omega
  try dsimp only
  refine w_seq (w_ifS (w_test (w_op (w_call (w_cons (w_var rfl (w_cons (w_var rfl (w_nil (asked s36 (s36 _ _ hp) (oth_ne ri el) fun H7 s7=>w_c (w_neS (w_bl (iteNF ?_ (w_next ?_))))))))))))))
  · unfold askF; rw [ex]; rfl
  have s37:=s36.trans s7
  have hp7:=s37 _ _ hp
  try dsimp only
  refine w_seq (w_asg (w_cb (w_cons (w_var rfl (w_nil ⟨p,_,rfl,.inl (SqL.of hp7),fun c1 hc1=>w_name ?_⟩)))))
  have sc1:=Same.laid (o:=.lst (es.map nV)) hc1
  have ec1:=upd_same (H:=H7) (a:=c1) (o:=.lst (es.map nV))
  have cp:c1≠p:=fun z=>by rw [z,hp7] at hc1; cases hc1
  generalize upd H7 c1 _=H8 at sc1 ec1 ⊢
  have s38:=s37.trans sc1
  have s28:=s3.trans s38
  try dsimp only
  refine w_seq (w_for (w_seq0 (w_lst (w_cons (w_call (w_cons (w_op (w_op (w_var rfl (w_c (w_ixT (v:=.ref dl) (SqT.of ((s2.trans s28) _ _ ht)) rfl (w_c (w_ixL (SqL.of ((s2.trans s28) _ _ hd)) at0 ?_)))))))))))))
  refine w_cons (w_cb (w_cons (w_var rfl (w_nil (w_lenT (SqT.of (s28 _ _ hbp)) (w_cons (w_cb (w_cons (w_var rfl (w_nil (w_lenL (SqL.of ec1) (w_nil ⟨_,_,_,rfl,_,xs.length,(es.map nV).length,rfl,rfl,rfl,by omega,by omega,by rw [List.length_map]; omega,fun fs fa H9 s9 rf hfa=>?_⟩))))))))))))
  rw [hxl] at rf
  refine w_cons (w_lst (w_nil ⟨Nat.zero_le _,fun ea hea=>w_nil ⟨by show 2≤sizeLine; decide,fun la hla=>?_⟩⟩))
  have sea:=Same.laid (o:=.lst []) hea
  have sla:=Same.laid (o:=.lst [.ref fa,.ref ea]) hla
  have ela:=upd_same (H:=upd H9 ea (.lst [])) (a:=la) (o:=.lst [.ref fa,.ref ea])
  have hea':=sla _ _ (upd_same (H:=H9) (a:=ea) (o:=.lst []))
  have s9a:=sea.trans sla
  generalize upd (upd H9 ea (.lst [])) la _=Ha at ela hea' s9a ⊢
  have s3a:=(s38.trans s9).trans s9a
  have hfa':=s9a _ _ hfa
  have hea2:Ha ea=some (.lst (([]:List Nat).map nV)):=hea'
  refine ⟨la,rfl,.inl ⟨⟨_,SqL.of ela⟩,for_list (K:=K) (a:=la) (xs:=[.ref fa,.ref ea]) (fun i σ Hb=>Same Ha Hb∧∃ r5,σ=[some (.ref l),some (.ref t),some (.ref bp),some (.ref p),some (.ref c1),r5]) ⟨Same.refl _,_,rfl⟩ (fun i σ Hb _ z=>SqL.of (z.1 _ _ ela)) ?_ ?_⟩⟩
  · rintro i y σ Hb hy ⟨sb,r5,rfl⟩
    have hy':∃ (gs:List Nat) (ga:Addr),y=.ref ga∧Rise B.length gs∧Ha ga=some (.lst (gs.map nV)):=by
      have:y=.ref fa∨y=.ref ea:=by
        have:=List.mem_of_getElem? hy
        simpa using this
      rcases this with rfl | rfl
      · exact ⟨fs,fa,rfl,rf,hfa'⟩
      · exact ⟨[],ea,rfl,⟨List.Pairwise.nil,fun x hx=>by cases hx⟩,hea2⟩
    obtain ⟨gs,ga,rfl,rg,hga⟩:=hy'
    have hgb:=sb _ _ hga
    have ecb:=(s9.trans (s9a.trans sb)) _ _ ec1
    have s3b:=s3a.trans sb
    have lg:=nd_len _ _ rg.nd rg.lt
    refine w_name (w_ifS (w_or (w_test (w_op (w_cb (w_cons (w_var rfl (w_nil (w_lenL (SqL.of hgb) (w_cb (w_cons (w_var rfl (w_nil (w_lenL (SqL.of ecb) (.inl (w_ltI (w_bl (iteD (fun lt=>?_) fun nlt=>?_))))))))))))))))))
    · rw [List.length_map,List.length_map] at lt
      have bf:bfN gs es=true:=bfN_iff.mpr (.inl (by omega))
      refine iteT (w_ifS (w_test (w_op (w_call (w_cons (w_var rfl (w_cons (w_var rfl (w_nil (asked s3b hgb (oth_ne rg (bf_len bf el)) fun H6 s6=>w_c (w_neS (w_bl (iteNF ?_ (w_next ?_))))))))))))))
      · unfold askF; rw [bef gs rg bf]; rfl
      · exact ⟨sb.trans s6,_,rfl⟩
    · rw [List.length_map,List.length_map] at nlt
      refine w_and (w_test (w_op (w_cb (w_cons (w_var rfl (w_nil (w_lenL (SqL.of hgb) (w_cb (w_cons (w_var rfl (w_nil (w_lenL (SqL.of ecb) (w_eqI (w_bl (iteD (fun eq=>?_) fun ne=>iteF (w_next ⟨sb,_,rfl⟩))))))))))))))))
      rw [List.length_map,List.length_map] at eq
      have hgi:=hgb
      have eci:=ecb
      rw [nv_ints] at hgi eci
      refine w_test (w_op (w_var rfl (w_var rfl (.inr ⟨ga,c1,cI gs,cI es,rfl,rfl,SqL.of hgi,SqL.of eci,by rw [List.length_map,List.length_map]; omega,w_bl ?_⟩))))
      rw [lex_nats]
      cases lx:lexN gs es with
      | false=>exact iteF (w_next ⟨sb,_,rfl⟩)
      | true =>
        have bf:bfN gs es=true:=bfN_iff.mpr (.inr ⟨by omega,lx⟩)
        refine iteT (w_ifS (w_test (w_op (w_call (w_cons (w_var rfl (w_cons (w_var rfl (w_nil (asked s3b hgb (oth_ne rg (bf_len bf el)) fun H6 s6=>w_c (w_neS (w_bl (iteNF ?_ (w_next ?_))))))))))))))
        · unfold askF; rw [bef gs rg bf]; rfl
        · exact ⟨sb.trans s6,_,rfl⟩
  · rintro σ Hb ⟨sb,r5,rfl⟩
    have s3b:=s3a.trans sb
    have hpb:=s3b _ _ hp
    have rBb:=Rep.mono s3b _ _ rB3
    have ecb:=(s9.trans (s9a.trans sb)) _ _ ec1
    try dsimp only
    refine w_seq (w_drop (w_bm (w_var rfl ⟨tyV_lst hpb,w_cons (w_un (w_c (w_negI (w_nil (w_append hpb (small1000 (by rw [List.length_map]; omega)) ?_)))))⟩)))
    have rBc:Rep (upd Hb p (.lst (es.map nV ++ [.int (-1)]))) (.ref bp) (bookD B):=Rep.tu (Tu.put hpb) _ _ (noL_days B) rBb
    have ecc:upd Hb p (.lst (es.map nV ++ [.int (-1)])) c1=some (.lst (es.map nV)):=by rw [upd_ne cp]; exact ecb
    generalize upd Hb p _=Hc at rBc ecc ⊢
    try dsimp only
    refine w_ret (w_op (w_call (w_cons (w_var rfl (w_nil ⟨_,rfl,B,8,k,rBc,gB,by decide,fun es2 p2 Hd sd yes2 _ hp2=>w_var rfl ?_⟩)))))
    rw [yes] at yes2
    cases yes2
    have ecd:=sd _ _ ecc
    rw [nv_ints] at hp2 ecd
    exact eq_lists hp2 ecd (q _)
abbrev BdP (x:Str) (st:Stmt) (ps:List Str):Prop:=∀ (kV doc pm:Value) (an:Option Addr) (cdv ct:Value) (us:List Value),us.length=ps.length→bindArgs (PySem.W.fnOf x x (defArgs st) (defBody st) (defScope st) .none kV doc pm an cdv ct) ⟨us,[]⟩=pure (ps.zip us)
section
variable {P:Program} {w:World} {K:PySem.W.Frag} {mg:Str→Option Value} {base:Heap}
abbrev s_check_day:Stmt:=top 4
abbrev ps_check_day:List Str:=["book","day"]
theorem sc_check_day:FnScope ["book","day"] ps_check_day (defScope s_check_day):=⟨rfl,rfl,rfl,by decide +kernel,rfl,by decide +kernel,by decide +kernel⟩
theorem bd_check_day:BdP "check_day" s_check_day ps_check_day :=
  fun _ _ _ _ _ _ us hl=>match us,hl with | [_,_],_=>rfl
theorem fn_check_day (M:Md K mg) (D:Df K mg "check_day" s_check_day)  : Fn P w K mg base (CXr P w base) "check_day" 1 ps_check_day (sp_check_day K mg):=D.to (fun F =>
  F.okR (k:=0) sc_check_day (fun vs _ _ _ h=>sp2_len h) (fun cdv A outer s H vs Q E hr h=>by
    have hu:=hr.units
    obtain ⟨a0,a1,rfl,h⟩:=h
    refine ⟨tb_check_day K mg E,?_,rd_check_day M h⟩
    refine pss_one ?_
    exact (ps_if (pt_not (pt_chain op_le op_lt pe_int (pv 1) (fb_cB (call_lenU) (by rfl) M.b_len bt_len (pb_c (pv 0) pb_nil)))) (pss_one (fb_raise madeR rfl M.x_NoDay (by rfl) (pb_c pe_str pb_nil))) pss_nil))) bd_check_day
abbrev s_cost_at:Stmt:=top 5
abbrev ps_cost_at:List Str:=["prices","amounts"]
theorem sc_cost_at:FnScope ["prices","amounts"] ps_cost_at (defScope s_cost_at):=⟨rfl,rfl,rfl,by decide +kernel,rfl,by decide +kernel,by decide +kernel⟩
theorem bd_cost_at:BdP "cost_at" s_cost_at ps_cost_at :=
  fun _ _ _ _ _ _ us hl=>match us,hl with | [_,_],_=>rfl
theorem fn_cost_at (M:Md K mg) (D:Df K mg "cost_at" s_cost_at)  : Fn P w K mg base CX0 "cost_at" 1 ps_cost_at (sp_cost_at K):=D.to (fun F =>
  F.ok (k:=0) sc_cost_at (fun vs _ _ _ h=>sp2_len h) (fun cdv A outer s H vs Q E hr h=>by
    have hu:=hr.units
    obtain ⟨a0,a1,rfl,h⟩:=h
    refine ⟨tb_cost_at K,?_,rd_cost_at h⟩
    refine pss_one ?_
    exact (ps_ret (fb_cB (call_sumU rfl) (by rfl) M.b_sum bt_sum (pb_c (pe_comp (N:=["price","amount"]) (l:=[none,none]) rfl ⟨rfl,by decide +kernel,by decide +kernel,by first | decide +kernel | rfl,  True.intro,by decide +kernel⟩ (fb_zip2 (by rfl) M.b_zip (pb_c (pv 0) (pb_c (pv 1) pb_nil))) (fun _ _ _ _ _=>(pg_tup rfl (pgs_cons (pg_name (i:=0) (show List.Nodup (["price","amount"]:List Str) by decide +kernel) rfl (Or.inl rfl)) (pgs_cons (pg_name (i:=1) (show List.Nodup (["price","amount"]:List Str) by decide +kernel) rfl (Or.inl rfl)) pgs_nil)))) (fun _ _ _ _ _=>pif_nil) (fun _ _ _ _ _=>(pe_op op_mulU (pv 0) (pv 1)))) pb_nil))))) bd_cost_at
abbrev s_cost:Stmt:=top 6
abbrev ps_cost:List Str:=["book","day","other"]
theorem sc_cost:FnScope ["book","day","other"] ps_cost (defScope s_cost):=⟨rfl,rfl,rfl,by decide +kernel,rfl,by decide +kernel,by decide +kernel⟩
theorem bd_cost:BdP "cost" s_cost ps_cost :=
  fun _ _ _ _ _ _ us hl=>match us,hl with | [_,_,_],_=>rfl
theorem fn_cost (M:Md K mg) (D:Df K mg "cost" s_cost) (G_check_day:Fn P w K mg base (CXr P w base) "check_day" 1 ps_check_day (sp_check_day K mg)) (G_cost_at:Fn P w K mg base CX0 "cost_at" 1 ps_cost_at (sp_cost_at K)):Fn P w K mg base (CXr P w base) "cost" 2 ps_cost (sp_cost K mg):=D.to (fun F =>
  F.okR (k:=1) sc_cost (fun vs _ _ _ h=>sp3_len h) (fun cdv A outer s H vs Q E hr h=>by
    have hu:=hr.units
    obtain ⟨a0,a1,a2,rfl,h⟩:=h
    refine ⟨tb_cost K mg E,?_,rd_cost M h⟩
    refine pss_cons ?_ (pss_cons ?_ (pss_one ?_))
    · exact (ps_expr (fb_fn G_check_day (hr.mono (by decide)) (by rfl) passR (pb_c (pv 0) (pb_c (pv 1) pb_nil))))
    · exact (ps_expr (fb_fn G_check_day (hr.mono (by decide)) (by rfl) passR (pb_c (pv 0) (pb_c (pv 2) pb_nil))))
    · exact (ps_ret (fb_fn G_cost_at (hr.mono (by decide)) (by rfl) pass0 (pb_c (pe_ix ix_seq (pe_ix ix_seq (pv 0) (pv 1) (fun _ _=>rfl)) pe_int (fun _ _=>rfl)) (pb_c (pe_ix ix_seq (pe_ix ix_seq (pv 0) (pv 2) (fun _ _=>rfl)) pe_int (fun _ _=>rfl)) pb_nil)))))) bd_cost
abbrev s_purse:Stmt:=top 7
abbrev ps_purse:List Str:=["book","day"]
theorem sc_purse:FnScope ["book","day"] ps_purse (defScope s_purse):=⟨rfl,rfl,rfl,by decide +kernel,rfl,by decide +kernel,by decide +kernel⟩
theorem bd_purse:BdP "purse" s_purse ps_purse :=
  fun _ _ _ _ _ _ us hl=>match us,hl with | [_,_],_=>rfl
theorem fn_purse (M:Md K mg) (D:Df K mg "purse" s_purse) (G_cost:Fn P w K mg base (CXr P w base) "cost" 2 ps_cost (sp_cost K mg)):Fn P w K mg base (CXr P w base) "purse" 3 ps_purse (sp_purse K mg):=D.to (fun F =>
  F.okR (k:=2) sc_purse (fun vs _ _ _ h=>sp2_len h) (fun cdv A outer s H vs Q E hr h=>by
    have hu:=hr.units
    obtain ⟨a0,a1,rfl,h⟩:=h
    refine ⟨tb_purse K mg E,?_,rd_purse M h⟩
    refine pss_one ?_
    exact (ps_ret (fb_fn G_cost (hr.mono (by decide)) (by rfl) passR (pb_c (pv 0) (pb_c (pv 1) (pb_c (pv 1) pb_nil))))))) bd_purse
abbrev s_mark_of:Stmt:=top 12
abbrev ps_mark_of:List Str:=["gap"]
theorem sc_mark_of:FnScope ["gap"] ps_mark_of (defScope s_mark_of):=⟨rfl,rfl,rfl,by decide +kernel,rfl,by decide +kernel,by decide +kernel⟩
theorem bd_mark_of:BdP "mark_of" s_mark_of ps_mark_of :=
  fun _ _ _ _ _ _ us hl=>match us,hl with | [_],_=>rfl
theorem fn_mark_of (M:Md K mg) (D:Df K mg "mark_of" s_mark_of)  : Fn P w K mg base CX0 "mark_of" 1 ps_mark_of (sp_mark_of K):=D.to (fun F =>
  F.ok (k:=0) sc_mark_of (fun vs _ _ _ h=>sp1_len h) (fun cdv A outer s H vs Q E hr h=>by
    have hu:=hr.units
    obtain ⟨a0,rfl,h⟩:=h
    refine ⟨tb_mark_of K,?_,rd_mark_of h⟩
    refine pss_cons ?_ (pss_cons ?_ (pss_one ?_))
    · exact (ps_if (pt_cmpR op_lt (pv 0) pe_int (nomark _)) (pss_one (ps_ret (pe_gint M.c_BETTER))) pss_nil)
    · exact (ps_if (pt_cmpR (op_eqU hu) (pv 0) pe_int (nomark _)) (pss_one (ps_ret (pe_gint M.c_AS_GOOD))) pss_nil)
    · exact (ps_ret (pe_gint M.c_NEITHER)))) bd_mark_of
abbrev s_at_once:Stmt:=top 13
abbrev ps_at_once:List Str:=["book","day","other"]
theorem sc_at_once:FnScope ["book","day","other"] ps_at_once (defScope s_at_once):=⟨rfl,rfl,rfl,by decide +kernel,rfl,by decide +kernel,by decide +kernel⟩
theorem bd_at_once:BdP "at_once" s_at_once ps_at_once :=
  fun _ _ _ _ _ _ us hl=>match us,hl with | [_,_,_],_=>rfl
theorem fn_at_once (M:Md K mg) (D:Df K mg "at_once" s_at_once) (G_check_day:Fn P w K mg base (CXr P w base) "check_day" 1 ps_check_day (sp_check_day K mg)) (G_cost:Fn P w K mg base (CXr P w base) "cost" 2 ps_cost (sp_cost K mg)) (G_purse:Fn P w K mg base (CXr P w base) "purse" 3 ps_purse (sp_purse K mg)) (G_mark_of:Fn P w K mg base CX0 "mark_of" 1 ps_mark_of (sp_mark_of K)):Fn P w K mg base (CXr P w base) "at_once" 4 ps_at_once (sp_at_once K mg):=D.to (fun F =>
  F.okR (k:=3) sc_at_once (fun vs _ _ _ h=>sp3_len h) (fun cdv A outer s H vs Q E hr h=>by
    have hu:=hr.units
    obtain ⟨a0,a1,a2,rfl,h⟩:=h
    refine ⟨tb_at_once K mg E,?_,rd_at_once M h⟩
    refine pss_cons ?_ (pss_cons ?_ (pss_one ?_))
    · exact (ps_expr (fb_fn G_check_day (hr.mono (by decide)) (by rfl) passR (pb_c (pv 0) (pb_c (pv 1) pb_nil))))
    · exact (ps_expr (fb_fn G_check_day (hr.mono (by decide)) (by rfl) passR (pb_c (pv 0) (pb_c (pv 2) pb_nil))))
    · exact (ps_ret (fb_fn G_mark_of (hr.mono (by decide)) (by rfl) pass0 (pb_c (pe_op op_subU (fb_fn G_cost (hr.mono (by decide)) (by rfl) passR (pb_c (pv 0) (pb_c (pv 1) (pb_c (pv 2) pb_nil)))) (fb_fn G_purse (hr.mono (by decide)) (by rfl) passR (pb_c (pv 0) (pb_c (pv 1) pb_nil)))) pb_nil))))) bd_at_once
abbrev s_marks_from:Stmt:=top 14
abbrev ps_marks_from:List Str:=["book","day"]
theorem sc_marks_from:FnScope ["book","day"] ps_marks_from (defScope s_marks_from):=⟨rfl,rfl,rfl,by decide +kernel,rfl,by decide +kernel,by decide +kernel⟩
theorem bd_marks_from:BdP "marks_from" s_marks_from ps_marks_from :=
  fun _ _ _ _ _ _ us hl=>match us,hl with | [_,_],_=>rfl
theorem fn_marks_from (M:Md K mg) (D:Df K mg "marks_from" s_marks_from) (G_at_once:Fn P w K mg base (CXr P w base) "at_once" 4 ps_at_once (sp_at_once K mg)):Fn P w K mg base CX0 "marks_from" 5 ps_marks_from (sp_marks_from K mg):=D.to (fun F =>
  F.ok (k:=4) sc_marks_from (fun vs _ _ _ h=>sp2_len h) (fun cdv A outer s H vs Q E hr h=>by
    have hu:=hr.units
    obtain ⟨a0,a1,rfl,h⟩:=h
    refine ⟨tb_marks_from K mg,?_,rd_marks_from M h⟩
    refine pss_one ?_
    exact (ps_ret (pe_comp (N:=["other","book","day"]) (l:=[none,some 0,some 1]) rfl ⟨rfl,by decide +kernel,by decide +kernel,by first | decide +kernel | rfl,⟨⟨rfl,Or.inl rfl,rfl⟩,⟨⟨rfl,Or.inl rfl,rfl⟩,True.intro⟩⟩,by decide +kernel⟩ (fb_range1 (by rfl) M.b_range (pb_c (fb_cB (call_lenU) (by rfl) M.b_len bt_len (pb_c (pv 0) pb_nil)) pb_nil)) (fun _ _ _ _ _=>(pg_name (i:=0) (show List.Nodup (["other","book","day"]:List Str) by decide +kernel) rfl (Or.inl rfl))) (fun _ _ _ _ _=>pif_nil) (fun _ _ _ _ _=>(fb_fn G_at_once (hr.mono (by decide)) (by rfl) passR0 (pb_c (pv 1) (pb_c (pv 2) (pb_c (pv 0) pb_nil))))))))) bd_marks_from
abbrev s_marks_of:Stmt:=top 15
abbrev ps_marks_of:List Str:=["book"]
theorem sc_marks_of:FnScope ["book"] ps_marks_of (defScope s_marks_of):=⟨rfl,rfl,rfl,by decide +kernel,rfl,by decide +kernel,by decide +kernel⟩
theorem bd_marks_of:BdP "marks_of" s_marks_of ps_marks_of :=
  fun _ _ _ _ _ _ us hl=>match us,hl with | [_],_=>rfl
theorem fn_marks_of (M:Md K mg) (D:Df K mg "marks_of" s_marks_of) (G_marks_from:Fn P w K mg base CX0 "marks_from" 5 ps_marks_from (sp_marks_from K mg)):Fn P w K mg base CX0 "marks_of" 6 ps_marks_of (sp_marks_of K mg):=D.to (fun F =>
  F.ok (k:=5) sc_marks_of (fun vs _ _ _ h=>sp1_len h) (fun cdv A outer s H vs Q E hr h=>by
    have hu:=hr.units
    obtain ⟨a0,rfl,h⟩:=h
    refine ⟨tb_marks_of K mg,?_,rd_marks_of M h⟩
    refine pss_one ?_
    exact (ps_ret (pe_comp (N:=["day","book"]) (l:=[none,some 0]) rfl ⟨rfl,by decide +kernel,by decide +kernel,by first | decide +kernel | rfl,⟨⟨rfl,Or.inl rfl,rfl⟩,True.intro⟩,by decide +kernel⟩ (fb_range1 (by rfl) M.b_range (pb_c (fb_cB (call_lenU) (by rfl) M.b_len bt_len (pb_c (pv 0) pb_nil)) pb_nil)) (fun _ _ _ _ _=>(pg_name (i:=0) (show List.Nodup (["day","book"]:List Str) by decide +kernel) rfl (Or.inl rfl))) (fun _ _ _ _ _=>pif_nil) (fun _ _ _ _ _=>(fb_fn G_marks_from (hr.mono (by decide)) (by rfl) pass0 (pb_c (pv 1) (pb_c (pv 0) pb_nil)))))))) bd_marks_of
abbrev s_chains_from:Stmt:=top 16
abbrev ps_chains_from:List Str:=["marks","day"]
theorem sc_chains_from:FnScope ["marks","day","chains","waiting","last","other","mark"] ps_chains_from (defScope s_chains_from):=⟨rfl,rfl,rfl,by decide +kernel,rfl,by decide +kernel,by decide +kernel⟩
theorem bd_chains_from:BdP "chains_from" s_chains_from ps_chains_from :=
  fun _ _ _ _ _ _ us hl=>match us,hl with | [_,_],_=>rfl
theorem fn_chains_from (M:Md K mg) (D:Df K mg "chains_from" s_chains_from)  : Fn P w K mg base CX0 "chains_from" 1 ps_chains_from (sp_chains_from K):=D.to (fun F =>
  F.ok (k:=0) sc_chains_from (fun vs _ _ _ h=>sp2_len h) (fun cdv A outer s H vs Q E hr h=>by
    have hu:=hr.units
    obtain ⟨a0,a1,rfl,h⟩:=h
    refine ⟨tb_chains_from K,?_,rd_chains_from h⟩
    refine pss_cons ?_ (pss_cons ?_ (pss_cons ?_ (pss_one ?_)))
    · exact (ps_set (i:=2) sc_chains_from.nd rfl (Or.inl rfl) (pe_disp (pps_cons (pv 1) (fb_lst (pb_c (pv 1) pb_nil)) pps_nil) rfl rfl (by simp) (by decide)))
    · exact (ps_set (i:=3) sc_chains_from.nd rfl (Or.inl rfl) (fb_lst (pb_c (pv 1) pb_nil)))
    · exact (ps_while PassesOwn.never (pt_cmpR op_gt (fb_cB (call_lenU) (by rfl) M.b_len bt_len (pb_c (pv 3) pb_nil)) pe_int (nomark _)) (pss_cons (ps_set (i:=4) sc_chains_from.nd rfl (Or.inl rfl) (fb_bm1 PySem.F.plainAttrs_list PySem.F.slot_list_pop PySem.F.type_list_pop mt_popAt (pv 3) (pb_c pe_int pb_nil)))
      (pss_one (ps_for PassesOwn.never rfl (fb_enum1 (by rfl) M.b_enumerate (pb_c (pe_ix ix_seq (pv 0) (pv 4) (fun _ _=>rfl)) pb_nil)) (pg_tup rfl (pgs_cons (pg_name (i:=5) sc_chains_from.nd rfl (Or.inl rfl)) (pgs_cons (pg_name (i:=6) sc_chains_from.nd rfl (Or.inl rfl)) pgs_nil))) (pss_one (ps_if (PW.pt (pw_and (pt_cmpR (op_neU hu) (pv 6) (pe_gint M.c_NEITHER) (nomark _)) (pw_and1 (pt_cmp (pc_dnotin (hu1 hu) (pv 5) (pv 2)) (by with_unfolding_all rfl))))) (pss_cons (ps_dput (hu1 hu) (pv 2) (pv 5) (pe_op op_addU (pe_dget (hu1 hu) (pv 2) (pv 4) (fun _ _=>rfl)) (fb_lst (pb_c (pv 5) pb_nil))) rfl)
      (pss_one (ps_expr (fb_bm1 PySem.F.plainAttrs_list PySem.F.slot_list_append PySem.F.type_list_append mt_append (pv 3) (pb_c (pv 5) pb_nil))))) pss_nil))))))
    · exact (ps_ret (pv 2)))) bd_chains_from
abbrev s_better_steps:Stmt:=top 17
abbrev ps_better_steps:List Str:=["marks"]
theorem sc_better_steps:FnScope ["marks","steps","day","row","other","mark"] ps_better_steps (defScope s_better_steps):=⟨rfl,rfl,rfl,by decide +kernel,rfl,by decide +kernel,by decide +kernel⟩
theorem bd_better_steps:BdP "better_steps" s_better_steps ps_better_steps :=
  fun _ _ _ _ _ _ us hl=>match us,hl with | [_],_=>rfl
theorem fn_better_steps (M:Md K mg) (D:Df K mg "better_steps" s_better_steps)  : Fn P w K mg base CX0 "better_steps" 1 ps_better_steps (sp_better_steps K):=D.to (fun F =>
  F.ok (k:=0) sc_better_steps (fun vs _ _ _ h=>sp1_len h) (fun cdv A outer s H vs Q E hr h=>by
    have hu:=hr.units
    obtain ⟨a0,rfl,h⟩:=h
    refine ⟨tb_better_steps K,?_,rd_better_steps h⟩
    refine pss_cons ?_ (pss_cons ?_ (pss_one ?_))
    · exact (ps_set (i:=1) sc_better_steps.nd rfl (Or.inl rfl) (fb_lst pb_nil))
    · exact (ps_for PassesOwn.never rfl (fb_enum1 (by rfl) M.b_enumerate (pb_c (pv 0) pb_nil)) (pg_tup rfl (pgs_cons (pg_name (i:=2) sc_better_steps.nd rfl (Or.inl rfl)) (pgs_cons (pg_name (i:=3) sc_better_steps.nd rfl (Or.inl rfl)) pgs_nil))) (pss_one (ps_for PassesOwn.never rfl (fb_enum1 (by rfl) M.b_enumerate (pb_c (pv 3) pb_nil)) (pg_tup rfl (pgs_cons (pg_name (i:=4) sc_better_steps.nd rfl (Or.inl rfl)) (pgs_cons (pg_name (i:=5) sc_better_steps.nd rfl (Or.inl rfl)) pgs_nil))) (pss_one (ps_if (pt_cmpR (op_eqU hu) (pv 5) (pe_gint M.c_BETTER) (nomark _)) (pss_one (ps_expr (fb_bm1 PySem.F.plainAttrs_list PySem.F.slot_list_append PySem.F.type_list_append mt_append (pv 1) (pb_c (fb_tup (pb_c (pv 2) (pb_c (pv 4) pb_nil))) pb_nil)))) pss_nil)))))
    · exact (ps_ret (pv 1)))) bd_better_steps
abbrev s_ring_in:Stmt:=top 18
abbrev ps_ring_in:List Str:=["marks"]
theorem sc_ring_in:FnScope ["marks","step","back"] ps_ring_in (defScope s_ring_in):=⟨rfl,rfl,rfl,by decide +kernel,rfl,by decide +kernel,by decide +kernel⟩
theorem bd_ring_in:BdP "ring_in" s_ring_in ps_ring_in :=
  fun _ _ _ _ _ _ us hl=>match us,hl with | [_],_=>rfl
theorem fn_ring_in (M:Md K mg) (D:Df K mg "ring_in" s_ring_in) (G_chains_from:Fn P w K mg base CX0 "chains_from" 1 ps_chains_from (sp_chains_from K)) (G_better_steps:Fn P w K mg base CX0 "better_steps" 1 ps_better_steps (sp_better_steps K)):Fn P w K mg base CX0 "ring_in" 2 ps_ring_in (sp_ring_in K):=D.to (fun F =>
  F.ok (k:=1) sc_ring_in (fun vs _ _ _ h=>sp1_len h) (fun cdv A outer s H vs Q E hr h=>by
    have hu:=hr.units
    obtain ⟨a0,rfl,h⟩:=h
    refine ⟨tb_ring_in K,?_,rd_ring_in h⟩
    refine pss_cons ?_ (pss_one ?_)
    · exact (ps_for PassesOwn.never rfl (pi_seq (fb_fn G_better_steps (hr.mono (by decide)) (by rfl) pass0 (pb_c (pv 0) pb_nil))) (pg_name (i:=1) sc_ring_in.nd rfl (Or.inl rfl)) (pss_cons (ps_set (i:=2) sc_ring_in.nd rfl (Or.inl rfl) (fb_fn G_chains_from (hr.mono (by decide)) (by rfl) pass0 (pb_c (pv 0) (pb_c (pe_ix ix_seq (pv 1) pe_int (fun _ _=>rfl)) pb_nil))))
      (pss_one (ps_if (pt_cmp (pc_din (hu1 hu) (pe_ix ix_seq (pv 1) pe_int (fun _ _=>rfl)) (pv 2)) (by with_unfolding_all rfl)) (pss_one (ps_ret (pe_dget (hu1 hu) (pv 2) (pe_ix ix_seq (pv 1) pe_int (fun _ _=>rfl)) (fun _ _=>rfl)))) pss_nil))))
    · exact (ps_ret pe_non))) bd_ring_in
abbrev s_other_days:Stmt:=top 20
abbrev ps_other_days:List Str:=["book","days"]
theorem sc_other_days:FnScope ["book","days"] ps_other_days (defScope s_other_days):=⟨rfl,rfl,rfl,by decide +kernel,rfl,by decide +kernel,by decide +kernel⟩
theorem bd_other_days:BdP "other_days" s_other_days ps_other_days :=
  fun _ _ _ _ _ _ us hl=>match us,hl with | [_,_],_=>rfl
theorem fn_other_days (M:Md K mg) (D:Df K mg "other_days" s_other_days)  : Fn P w K mg base CX0 "other_days" 1 ps_other_days (sp_other_days K):=D.to (fun F =>
  F.ok (k:=0) sc_other_days (fun vs _ _ _ h=>sp2_len h) (fun cdv A outer s H vs Q E hr h=>by
    have hu:=hr.units
    obtain ⟨a0,a1,rfl,h⟩:=h
    refine ⟨tb_other_days K,?_,rd_other_days h⟩
    refine pss_one ?_
    exact (ps_ret (pe_comp (N:=["day","days"]) (l:=[none,some 1]) rfl ⟨rfl,by decide +kernel,by decide +kernel,by first | decide +kernel | rfl,⟨⟨rfl,Or.inl rfl,rfl⟩,True.intro⟩,by decide +kernel⟩ (fb_range1 (by rfl) M.b_range (pb_c (fb_cB (call_lenU) (by rfl) M.b_len bt_len (pb_c (pv 0) pb_nil)) pb_nil)) (fun _ _ _ _ _=>(pg_name (i:=0) (show List.Nodup (["day","days"]:List Str) by decide +kernel) rfl (Or.inl rfl))) (fun _ _ _ _ _=>(pif_one (pt_cmpR op_notInU (pv 0) (pv 1) (by with_unfolding_all rfl)))) (fun _ _ _ _ _=>(pv 0)))))) bd_other_days
abbrev s_longer_lists:Stmt:=top 21
abbrev ps_longer_lists:List Str:=["lists","many"]
theorem sc_longer_lists:FnScope ["lists","many","longer","days","first","day"] ps_longer_lists (defScope s_longer_lists):=⟨rfl,rfl,rfl,by decide +kernel,rfl,by decide +kernel,by decide +kernel⟩
theorem bd_longer_lists:BdP "longer_lists" s_longer_lists ps_longer_lists :=
  fun _ _ _ _ _ _ us hl=>match us,hl with | [_,_],_=>rfl
theorem fn_longer_lists (M:Md K mg) (D:Df K mg "longer_lists" s_longer_lists)  : Fn P w K mg base CX0 "longer_lists" 1 ps_longer_lists (sp_longer_lists K):=D.to (fun F =>
  F.ok (k:=0) sc_longer_lists (fun vs _ _ _ h=>sp2_len h) (fun cdv A outer s H vs Q E hr h=>by
    have hu:=hr.units
    obtain ⟨a0,a1,rfl,h⟩:=h
    refine ⟨tb_longer_lists K,?_,rd_longer_lists h⟩
    refine pss_cons ?_ (pss_cons ?_ (pss_one ?_))
    · exact (ps_set (i:=2) sc_longer_lists.nd rfl (Or.inl rfl) (fb_lst pb_nil))
    · exact (ps_for PassesOwn.never rfl (pi_seq (pv 0)) (pg_name (i:=3) sc_longer_lists.nd rfl (Or.inl rfl)) (pss_cons (ps_set (i:=4) sc_longer_lists.nd rfl (Or.inl rfl) (pe_ifExp (pt_cmpR op_gt (fb_cB (call_lenU) (by rfl) M.b_len bt_len (pb_c (pv 3) pb_nil)) pe_int (nomark _)) (pe_op op_addU (pe_ix ix_seq (pv 3) (pe_un un_neg pe_int) (fun _ _=>rfl)) pe_int) pe_int))
      (pss_one (ps_for PassesOwn.never rfl (fb_range2 (by rfl) M.b_range (pb_c (pv 4) (pb_c (pv 1) pb_nil))) (pg_name (i:=5) sc_longer_lists.nd rfl (Or.inl rfl)) (pss_one (ps_expr (fb_bm1 PySem.F.plainAttrs_list PySem.F.slot_list_append PySem.F.type_list_append mt_append (pv 2) (pb_c (pe_op op_addU (pv 3) (fb_lst (pb_c (pv 5) pb_nil))) pb_nil))))))))
    · exact (ps_ret (pv 2)))) bd_longer_lists
abbrev s_rising_lists:Stmt:=top 22
abbrev ps_rising_lists:List Str:=["many"]
theorem sc_rising_lists:FnScope ["many","told","longest"] ps_rising_lists (defScope s_rising_lists):=⟨rfl,rfl,rfl,by decide +kernel,rfl,by decide +kernel,by decide +kernel⟩
theorem bd_rising_lists:BdP "rising_lists" s_rising_lists ps_rising_lists :=
  fun _ _ _ _ _ _ us hl=>match us,hl with | [_],_=>rfl
theorem fn_rising_lists (M:Md K mg) (D:Df K mg "rising_lists" s_rising_lists) (G_longer_lists:Fn P w K mg base CX0 "longer_lists" 1 ps_longer_lists (sp_longer_lists K)):Fn P w K mg base CX0 "rising_lists" 2 ps_rising_lists (sp_rising_lists K):=D.to (fun F =>
  F.ok (k:=1) sc_rising_lists (fun vs _ _ _ h=>sp1_len h) (fun cdv A outer s H vs Q E hr h=>by
    have hu:=hr.units
    obtain ⟨a0,rfl,h⟩:=h
    refine ⟨tb_rising_lists K,?_,rd_rising_lists h⟩
    refine pss_cons ?_ (pss_cons ?_ (pss_cons ?_ (pss_one ?_)))
    · exact (ps_set (i:=1) sc_rising_lists.nd rfl (Or.inl rfl) (fb_lst pb_nil))
    · exact (ps_set (i:=2) sc_rising_lists.nd rfl (Or.inl rfl) (fb_lst (pb_c (fb_lst pb_nil) pb_nil)))
    · exact (ps_while PassesOwn.never (pt_cmpR op_gt (fb_cB (call_lenU) (by rfl) M.b_len bt_len (pb_c (pv 2) pb_nil)) pe_int (nomark _)) (pss_cons (ps_expr (fb_bm1 PySem.F.plainAttrs_list PySem.F.slot_list_extend PySem.F.type_list_extend mt_extend (pv 1) (pb_c (pv 2) pb_nil)))
      (pss_one (ps_set (i:=2) sc_rising_lists.nd rfl (Or.inl rfl) (fb_fn G_longer_lists (hr.mono (by decide)) (by rfl) pass0 (pb_c (pv 2) (pb_c (pv 0) pb_nil)))))))
    · exact (ps_ret (pv 1)))) bd_rising_lists
abbrev s_marks_among:Stmt:=top 23
abbrev ps_marks_among:List Str:=["marks","day","days"]
theorem sc_marks_among:FnScope ["marks","day","days"] ps_marks_among (defScope s_marks_among):=⟨rfl,rfl,rfl,by decide +kernel,rfl,by decide +kernel,by decide +kernel⟩
theorem bd_marks_among:BdP "marks_among" s_marks_among ps_marks_among :=
  fun _ _ _ _ _ _ us hl=>match us,hl with | [_,_,_],_=>rfl
theorem fn_marks_among (M:Md K mg) (D:Df K mg "marks_among" s_marks_among)  : Fn P w K mg base CX0 "marks_among" 1 ps_marks_among (sp_marks_among K):=D.to (fun F =>
  F.ok (k:=0) sc_marks_among (fun vs _ _ _ h=>sp3_len h) (fun cdv A outer s H vs Q E hr h=>by
    have hu:=hr.units
    obtain ⟨a0,a1,a2,rfl,h⟩:=h
    refine ⟨tb_marks_among K,?_,rd_marks_among h⟩
    refine pss_one ?_
    exact (ps_ret (pe_comp (N:=["other","marks","day"]) (l:=[none,some 0,some 1]) rfl ⟨rfl,by decide +kernel,by decide +kernel,by first | decide +kernel | rfl,⟨⟨rfl,Or.inl rfl,rfl⟩,⟨⟨rfl,Or.inl rfl,rfl⟩,True.intro⟩⟩,by decide +kernel⟩ (pi_seq (pv 2)) (fun _ _ _ _ _=>(pg_name (i:=0) (show List.Nodup (["other","marks","day"]:List Str) by decide +kernel) rfl (Or.inl rfl))) (fun _ _ _ _ _=>pif_nil) (fun _ _ _ _ _=>(pe_ix ix_seq (pe_ix ix_seq (pv 1) (pv 2) (fun _ _=>rfl)) (pv 0) (fun _ _=>rfl))))))) bd_marks_among
abbrev s_is_explained:Stmt:=top 24
abbrev ps_is_explained:List Str:=["marks","days"]
theorem sc_is_explained:FnScope ["marks","days"] ps_is_explained (defScope s_is_explained):=⟨rfl,rfl,rfl,by decide +kernel,rfl,by decide +kernel,by decide +kernel⟩
theorem bd_is_explained:BdP "is_explained" s_is_explained ps_is_explained :=
  fun _ _ _ _ _ _ us hl=>match us,hl with | [_,_],_=>rfl
theorem fn_is_explained (M:Md K mg) (D:Df K mg "is_explained" s_is_explained) (G_ring_in:Fn P w K mg base CX0 "ring_in" 2 ps_ring_in (sp_ring_in K)) (G_marks_among:Fn P w K mg base CX0 "marks_among" 1 ps_marks_among (sp_marks_among K)):Fn P w K mg base CX0 "is_explained" 3 ps_is_explained (sp_is_explained K):=D.to (fun F =>
  F.ok (k:=2) sc_is_explained (fun vs _ _ _ h=>sp2_len h) (fun cdv A outer s H vs Q E hr h=>by
    have hu:=hr.units
    obtain ⟨a0,a1,rfl,h⟩:=h
    refine ⟨tb_is_explained K,?_,rd_is_explained h⟩
    refine pss_one ?_
    exact (ps_ret (pe_cmpR op_isU (fb_fn G_ring_in (hr.mono (by decide)) (by rfl) pass0 (pb_c (pe_comp (N:=["day","marks","days"]) (l:=[none,some 0,some 1]) rfl ⟨rfl,by decide +kernel,by decide +kernel,by first | decide +kernel | rfl,⟨⟨rfl,Or.inl rfl,rfl⟩,⟨⟨rfl,Or.inl rfl,rfl⟩,True.intro⟩⟩,by decide +kernel⟩ (pi_seq (pv 1)) (fun _ _ _ _ _=>(pg_name (i:=0) (show List.Nodup (["day","marks","days"]:List Str) by decide +kernel) rfl (Or.inl rfl))) (fun _ _ _ _ _=>pif_nil) (fun _ _ _ _ _=>(fb_fn G_marks_among (hr.mono (by decide)) (by rfl) pass0 (pb_c (pv 1) (pb_c (pv 0) (pb_c (pv 2) pb_nil)))))) pb_nil)) pe_non (nomark _))))) bd_is_explained
abbrev s_fewest:Stmt:=top 25
abbrev ps_fewest:List Str:=["book"]
theorem sc_fewest:FnScope ["book","marks","lists","place"] ps_fewest (defScope s_fewest):=⟨rfl,rfl,rfl,by decide +kernel,rfl,by decide +kernel,by decide +kernel⟩
theorem bd_fewest:BdP "fewest" s_fewest ps_fewest :=
  fun _ _ _ _ _ _ us hl=>match us,hl with | [_],_=>rfl
theorem fn_fewest (M:Md K mg) (D:Df K mg "fewest" s_fewest) (G_marks_of:Fn P w K mg base CX0 "marks_of" 6 ps_marks_of (sp_marks_of K mg)) (G_other_days:Fn P w K mg base CX0 "other_days" 1 ps_other_days (sp_other_days K)) (G_rising_lists:Fn P w K mg base CX0 "rising_lists" 2 ps_rising_lists (sp_rising_lists K)) (G_is_explained:Fn P w K mg base CX0 "is_explained" 3 ps_is_explained (sp_is_explained K)):Fn P w K mg base CX0 "fewest" 7 ps_fewest (sp_fewest K mg):=D.to (fun F =>
  F.ok (k:=6) sc_fewest (fun vs _ _ _ h=>sp1_len h) (fun cdv A outer s H vs Q E hr h=>by
    have hu:=hr.units
    obtain ⟨a0,rfl,h⟩:=h
    refine ⟨tb_fewest K mg,?_,rd_fewest M h⟩
    refine pss_cons ?_ (pss_cons ?_ (pss_cons ?_ (pss_cons ?_ (pss_one ?_))))
    · exact (ps_set (i:=1) sc_fewest.nd rfl (Or.inl rfl) (fb_fn G_marks_of (hr.mono (by decide)) (by rfl) pass0 (pb_c (pv 0) pb_nil)))
    · exact (ps_set (i:=2) sc_fewest.nd rfl (Or.inl rfl) (fb_fn G_rising_lists (hr.mono (by decide)) (by rfl) pass0 (pb_c (fb_cB (call_lenU) (by rfl) M.b_len bt_len (pb_c (pv 0) pb_nil)) pb_nil)))
    · exact (ps_set (i:=3) sc_fewest.nd rfl (Or.inl rfl) pe_int)
    · exact (ps_while PassesOwn.never (pt_not (pt_tru (fb_fn G_is_explained (hr.mono (by decide)) (by rfl) pass0 (pb_c (pv 1) (pb_c (fb_fn G_other_days (hr.mono (by decide)) (by rfl) pass0 (pb_c (pv 0) (pb_c (pe_ix ix_seq (pv 2) (pv 3) (fun _ _=>rfl)) pb_nil))) pb_nil))) (fun _=>rfl))) (pss_one (ps_aug (i:=3) sc_fewest.nd rfl (Or.inl rfl) pe_int ip_addU)))
    · exact (ps_ret (pe_ix ix_seq (pv 2) (pv 3) (fun _ _=>rfl))))) bd_fewest
abbrev s_gaps_from:Stmt:=top 27
abbrev ps_gaps_from:List Str:=["book","day","share"]
theorem sc_gaps_from:FnScope ["book","day","share","left"] ps_gaps_from (defScope s_gaps_from):=⟨rfl,rfl,rfl,by decide +kernel,rfl,by decide +kernel,by decide +kernel⟩
theorem bd_gaps_from:BdP "gaps_from" s_gaps_from ps_gaps_from :=
  fun _ _ _ _ _ _ us hl=>match us,hl with | [_,_,_],_=>rfl
theorem fn_gaps_from (M:Md K mg) (D:Df K mg "gaps_from" s_gaps_from) (G_cost:Fn P w K mg base (CXr P w base) "cost" 2 ps_cost (sp_cost K mg)) (G_purse:Fn P w K mg base (CXr P w base) "purse" 3 ps_purse (sp_purse K mg)):Fn P w K mg base CX0 "gaps_from" 4 ps_gaps_from (sp_gaps_from K mg):=D.to (fun F =>
  F.ok (k:=3) sc_gaps_from (fun vs _ _ _ h=>sp3_len h) (fun cdv A outer s H vs Q E hr h=>by
    have hu:=hr.units
    obtain ⟨a0,a1,a2,rfl,h⟩:=h
    refine ⟨tb_gaps_from K mg,?_,rd_gaps_from M h⟩
    refine pss_cons ?_ (pss_one ?_)
    · exact (ps_set (i:=3) sc_gaps_from.nd rfl (Or.inr rfl) (pe_op op_mulU (pe_ix ix_seq (pv 2) pe_int (fun _ _=>rfl)) (fb_fn G_purse (hr.mono (by decide)) (by rfl) passR0 (pb_c (pv 0) (pb_c (pv 1) pb_nil)))))
    · exact (ps_ret (pe_comp (N:=["other","share","book","day","left"]) (l:=[none,some 2,some 0,some 1,some 3]) rfl ⟨rfl,by decide +kernel,by decide +kernel,by first | decide +kernel | rfl,⟨⟨rfl,Or.inl rfl,rfl⟩,⟨⟨rfl,Or.inl rfl,rfl⟩,⟨⟨rfl,Or.inl rfl,rfl⟩,⟨⟨rfl,Or.inl rfl,rfl⟩,True.intro⟩⟩⟩⟩,by decide +kernel⟩ (fb_range1 (by rfl) M.b_range (pb_c (fb_cB (call_lenU) (by rfl) M.b_len bt_len (pb_c (pv 0) pb_nil)) pb_nil)) (fun _ _ _ _ _=>(pg_name (i:=0) (show List.Nodup (["other","share","book","day","left"]:List Str) by decide +kernel) rfl (Or.inl rfl))) (fun _ _ _ _ _=>pif_nil) (fun _ _ _ _ _=>(pe_op op_subU (pe_op op_mulU (pe_ix ix_seq (pv 1) pe_int (fun _ _=>rfl)) (fb_fn G_cost (hr.mono (by decide)) (by rfl) passR0 (pb_c (pv 2) (pb_c (pv 3) (pb_c (pv 0) pb_nil))))) (pv 4))))))) bd_gaps_from
abbrev s_gaps_of:Stmt:=top 28
abbrev ps_gaps_of:List Str:=["book","share"]
theorem sc_gaps_of:FnScope ["book","share"] ps_gaps_of (defScope s_gaps_of):=⟨rfl,rfl,rfl,by decide +kernel,rfl,by decide +kernel,by decide +kernel⟩
theorem bd_gaps_of:BdP "gaps_of" s_gaps_of ps_gaps_of :=
  fun _ _ _ _ _ _ us hl=>match us,hl with | [_,_],_=>rfl
theorem fn_gaps_of (M:Md K mg) (D:Df K mg "gaps_of" s_gaps_of) (G_gaps_from:Fn P w K mg base CX0 "gaps_from" 4 ps_gaps_from (sp_gaps_from K mg)):Fn P w K mg base CX0 "gaps_of" 5 ps_gaps_of (sp_gaps_of K mg):=D.to (fun F =>
  F.ok (k:=4) sc_gaps_of (fun vs _ _ _ h=>sp2_len h) (fun cdv A outer s H vs Q E hr h=>by
    have hu:=hr.units
    obtain ⟨a0,a1,rfl,h⟩:=h
    refine ⟨tb_gaps_of K mg,?_,rd_gaps_of M h⟩
    refine pss_one ?_
    exact (ps_ret (pe_comp (N:=["day","book","share"]) (l:=[none,some 0,some 1]) rfl ⟨rfl,by decide +kernel,by decide +kernel,by first | decide +kernel | rfl,⟨⟨rfl,Or.inl rfl,rfl⟩,⟨⟨rfl,Or.inl rfl,rfl⟩,True.intro⟩⟩,by decide +kernel⟩ (fb_range1 (by rfl) M.b_range (pb_c (fb_cB (call_lenU) (by rfl) M.b_len bt_len (pb_c (pv 0) pb_nil)) pb_nil)) (fun _ _ _ _ _=>(pg_name (i:=0) (show List.Nodup (["day","book","share"]:List Str) by decide +kernel) rfl (Or.inl rfl))) (fun _ _ _ _ _=>pif_nil) (fun _ _ _ _ _=>(fb_fn G_gaps_from (hr.mono (by decide)) (by rfl) pass0 (pb_c (pv 1) (pb_c (pv 0) (pb_c (pv 2) pb_nil))))))))) bd_gaps_of
abbrev s_cut_mark:Stmt:=top 29
abbrev ps_cut_mark:List Str:=["gaps","day","other"]
theorem sc_cut_mark:FnScope ["gaps","day","other"] ps_cut_mark (defScope s_cut_mark):=⟨rfl,rfl,rfl,by decide +kernel,rfl,by decide +kernel,by decide +kernel⟩
theorem bd_cut_mark:BdP "cut_mark" s_cut_mark ps_cut_mark :=
  fun _ _ _ _ _ _ us hl=>match us,hl with | [_,_,_],_=>rfl
theorem fn_cut_mark (M:Md K mg) (D:Df K mg "cut_mark" s_cut_mark) (G_mark_of:Fn P w K mg base CX0 "mark_of" 1 ps_mark_of (sp_mark_of K)):Fn P w K mg base CX0 "cut_mark" 2 ps_cut_mark (sp_cut_mark K):=D.to (fun F =>
  F.ok (k:=1) sc_cut_mark (fun vs _ _ _ h=>sp3_len h) (fun cdv A outer s H vs Q E hr h=>by
    have hu:=hr.units
    obtain ⟨a0,a1,a2,rfl,h⟩:=h
    refine ⟨tb_cut_mark K,?_,rd_cut_mark h⟩
    refine pss_cons ?_ (pss_one ?_)
    · exact (ps_if (pt_cmpR (op_eqU hu) (pv 1) (pv 2) (nomark _)) (pss_one (ps_ret (pe_gint M.c_AS_GOOD))) pss_nil)
    · exact (ps_ret (fb_fn G_mark_of (hr.mono (by decide)) (by rfl) pass0 (pb_c (pe_ix ix_seq (pe_ix ix_seq (pv 0) (pv 1) (fun _ _=>rfl)) (pv 2) (fun _ _=>rfl)) pb_nil))))) bd_cut_mark
abbrev s_cut_marks_from:Stmt:=top 30
abbrev ps_cut_marks_from:List Str:=["gaps","day"]
theorem sc_cut_marks_from:FnScope ["gaps","day"] ps_cut_marks_from (defScope s_cut_marks_from):=⟨rfl,rfl,rfl,by decide +kernel,rfl,by decide +kernel,by decide +kernel⟩
theorem bd_cut_marks_from:BdP "cut_marks_from" s_cut_marks_from ps_cut_marks_from :=
  fun _ _ _ _ _ _ us hl=>match us,hl with | [_,_],_=>rfl
theorem fn_cut_marks_from (M:Md K mg) (D:Df K mg "cut_marks_from" s_cut_marks_from) (G_cut_mark:Fn P w K mg base CX0 "cut_mark" 2 ps_cut_mark (sp_cut_mark K)):Fn P w K mg base CX0 "cut_marks_from" 3 ps_cut_marks_from (sp_cut_marks_from K):=D.to (fun F =>
  F.ok (k:=2) sc_cut_marks_from (fun vs _ _ _ h=>sp2_len h) (fun cdv A outer s H vs Q E hr h=>by
    have hu:=hr.units
    obtain ⟨a0,a1,rfl,h⟩:=h
    refine ⟨tb_cut_marks_from K,?_,rd_cut_marks_from h⟩
    refine pss_one ?_
    exact (ps_ret (pe_comp (N:=["other","gaps","day"]) (l:=[none,some 0,some 1]) rfl ⟨rfl,by decide +kernel,by decide +kernel,by first | decide +kernel | rfl,⟨⟨rfl,Or.inl rfl,rfl⟩,⟨⟨rfl,Or.inl rfl,rfl⟩,True.intro⟩⟩,by decide +kernel⟩ (fb_range1 (by rfl) M.b_range (pb_c (fb_cB (call_lenU) (by rfl) M.b_len bt_len (pb_c (pv 0) pb_nil)) pb_nil)) (fun _ _ _ _ _=>(pg_name (i:=0) (show List.Nodup (["other","gaps","day"]:List Str) by decide +kernel) rfl (Or.inl rfl))) (fun _ _ _ _ _=>pif_nil) (fun _ _ _ _ _=>(fb_fn G_cut_mark (hr.mono (by decide)) (by rfl) pass0 (pb_c (pv 1) (pb_c (pv 2) (pb_c (pv 0) pb_nil))))))))) bd_cut_marks_from
abbrev s_cut_marks_of:Stmt:=top 31
abbrev ps_cut_marks_of:List Str:=["gaps"]
theorem sc_cut_marks_of:FnScope ["gaps"] ps_cut_marks_of (defScope s_cut_marks_of):=⟨rfl,rfl,rfl,by decide +kernel,rfl,by decide +kernel,by decide +kernel⟩
theorem bd_cut_marks_of:BdP "cut_marks_of" s_cut_marks_of ps_cut_marks_of :=
  fun _ _ _ _ _ _ us hl=>match us,hl with | [_],_=>rfl
theorem fn_cut_marks_of (M:Md K mg) (D:Df K mg "cut_marks_of" s_cut_marks_of) (G_cut_marks_from:Fn P w K mg base CX0 "cut_marks_from" 3 ps_cut_marks_from (sp_cut_marks_from K)):Fn P w K mg base CX0 "cut_marks_of" 4 ps_cut_marks_of (sp_cut_marks_of K):=D.to (fun F =>
  F.ok (k:=3) sc_cut_marks_of (fun vs _ _ _ h=>sp1_len h) (fun cdv A outer s H vs Q E hr h=>by
    have hu:=hr.units
    obtain ⟨a0,rfl,h⟩:=h
    refine ⟨tb_cut_marks_of K,?_,rd_cut_marks_of h⟩
    refine pss_one ?_
    exact (ps_ret (pe_comp (N:=["day","gaps"]) (l:=[none,some 0]) rfl ⟨rfl,by decide +kernel,by decide +kernel,by first | decide +kernel | rfl,⟨⟨rfl,Or.inl rfl,rfl⟩,True.intro⟩,by decide +kernel⟩ (fb_range1 (by rfl) M.b_range (pb_c (fb_cB (call_lenU) (by rfl) M.b_len bt_len (pb_c (pv 0) pb_nil)) pb_nil)) (fun _ _ _ _ _=>(pg_name (i:=0) (show List.Nodup (["day","gaps"]:List Str) by decide +kernel) rfl (Or.inl rfl))) (fun _ _ _ _ _=>pif_nil) (fun _ _ _ _ _=>(fb_fn G_cut_marks_from (hr.mono (by decide)) (by rfl) pass0 (pb_c (pv 1) (pb_c (pv 0) pb_nil)))))))) bd_cut_marks_of
abbrev s_levels_of:Stmt:=top 32
abbrev ps_levels_of:List Str:=["marks"]
theorem sc_levels_of:FnScope ["marks","heights","levels","height"] ps_levels_of (defScope s_levels_of):=⟨rfl,rfl,rfl,by decide +kernel,rfl,by decide +kernel,by decide +kernel⟩
theorem bd_levels_of:BdP "levels_of" s_levels_of ps_levels_of :=
  fun _ _ _ _ _ _ us hl=>match us,hl with | [_],_=>rfl
theorem fn_levels_of (M:Md K mg) (D:Df K mg "levels_of" s_levels_of) (G_chains_from:Fn P w K mg base CX0 "chains_from" 1 ps_chains_from (sp_chains_from K)):Fn P w K mg base CX0 "levels_of" 2 ps_levels_of (sp_levels_of K):=D.to (fun F =>
  F.ok (k:=1) sc_levels_of (fun vs _ _ _ h=>sp1_len h) (fun cdv A outer s H vs Q E hr h=>by
    have hu:=hr.units
    obtain ⟨a0,rfl,h⟩:=h
    refine ⟨tb_levels_of K,?_,rd_levels_of h⟩
    refine pss_cons ?_ (pss_cons ?_ (pss_cons ?_ (pss_one ?_)))
    · exact (ps_setComp (N:=["day","marks"]) (l:=[none,some 0]) (i:=1) rfl sc_levels_of.nd rfl rfl ⟨rfl,by decide +kernel,by decide +kernel,by first | decide +kernel | rfl,⟨⟨rfl,Or.inl rfl,rfl⟩,True.intro⟩,by decide +kernel⟩ (fb_range1 (by rfl) M.b_range (pb_c (fb_cB (call_lenU) (by rfl) M.b_len bt_len (pb_c (pv 0) pb_nil)) pb_nil)) (fun _ _ _ _ _=>(pg_name (i:=0) (show List.Nodup (["day","marks"]:List Str) by decide +kernel) rfl (Or.inl rfl))) (fun _ _ _ _ _=>pif_nil) (fun _ _ _ _ _=>(fb_cB call_lenD (by rfl) M.b_len bt_len (pb_c (fb_fn G_chains_from (hr.mono (by decide)) (by rfl) pass0 (pb_c (pv 1) (pb_c (pv 0) pb_nil))) pb_nil))))
    · exact (ps_set (i:=2) sc_levels_of.nd rfl (Or.inl rfl) (fb_lst pb_nil))
    · exact (ps_for PassesOwn.never rfl (fb_rev (by rfl) M.b_reversed (pb_c (fb_sortset rfl (by rfl) M.b_sorted (by rfl) M.b_set (pv 1)) pb_nil)) (pg_name (i:=3) sc_levels_of.nd rfl (Or.inr rfl)) (pss_one (ps_expr (fb_bm1 PySem.F.plainAttrs_list PySem.F.slot_list_append PySem.F.type_list_append mt_append (pv 2) (pb_c (pe_comp (N:=["day","own","height"]) (l:=[none,none,some 3]) rfl ⟨rfl,by decide +kernel,by decide +kernel,by first | decide +kernel | rfl,⟨⟨rfl,Or.inl rfl,rfl⟩,True.intro⟩,by decide +kernel⟩ (fb_enum1 (by rfl) M.b_enumerate (pb_c (pv 1) pb_nil)) (fun _ _ _ _ _=>(pg_tup rfl (pgs_cons (pg_name (i:=0) (show List.Nodup (["day","own","height"]:List Str) by decide +kernel) rfl (Or.inl rfl)) (pgs_cons (pg_name (i:=1) (show List.Nodup (["day","own","height"]:List Str) by decide +kernel) rfl (Or.inl rfl)) pgs_nil)))) (fun _ _ _ _ _=>(pif_one (pt_cmpR (op_eqU hu) (pv 1) (pv 2) (nomark _)))) (fun _ _ _ _ _=>(pv 0))) pb_nil)))))
    · exact (ps_ret (pv 2)))) bd_levels_of
abbrev s_worth_below:Stmt:=top 33
abbrev ps_worth_below:List Str:=["gaps","worths","weights","level"]
theorem sc_worth_below:FnScope ["gaps","worths","weights","level","most","above","day"] ps_worth_below (defScope s_worth_below):=⟨rfl,rfl,rfl,by decide +kernel,rfl,by decide +kernel,by decide +kernel⟩
theorem bd_worth_below:BdP "worth_below" s_worth_below ps_worth_below :=
  fun _ _ _ _ _ _ us hl=>match us,hl with | [_,_,_,_],_=>rfl
theorem fn_worth_below (M:Md K mg) (D:Df K mg "worth_below" s_worth_below)  : Fn P w K mg base CX0 "worth_below" 1 ps_worth_below (sp_worth_below K):=D.to (fun F =>
  F.ok (k:=0) sc_worth_below (fun vs _ _ _ h=>sp4_len h) (fun cdv A outer s H vs Q E hr h=>by
    have hu:=hr.units
    obtain ⟨a0,a1,a2,a3,rfl,h⟩:=h
    refine ⟨tb_worth_below K,?_,rd_worth_below h⟩
    refine pss_cons ?_ (pss_cons ?_ (pss_one ?_))
    · exact (ps_set (i:=4) sc_worth_below.nd rfl (Or.inl rfl) pe_int)
    · exact (ps_forD (ps_for PassesOwn.never rfl (pi_dict (pv 1)) (pg_name (i:=5) sc_worth_below.nd rfl (Or.inl rfl)) (pss_one (ps_for PassesOwn.never rfl (pi_seq (pv 3)) (pg_name (i:=6) sc_worth_below.nd rfl (Or.inl rfl)) (pss_one (ps_set (i:=4) sc_worth_below.nd rfl (Or.inl rfl) (fb_cB (call_min2 rfl) (by rfl) M.b_min bt_min (pb_c (pv 4) (pb_c (pe_op op_addU (pe_dget (hu1 hu) (pv 1) (pv 5) (fun _ _=>rfl)) (pe_op op_mulU (pe_dget (hu1 hu) (pv 2) (pv 5) (fun _ _=>rfl)) (pe_ix ix_seq (pe_ix ix_seq (pv 0) (pv 5) (fun _ _=>rfl)) (pv 6) (fun _ _=>rfl)))) pb_nil)))))))))
    · exact (ps_ret (pv 4)))) bd_worth_below
abbrev s_weight_below:Stmt:=top 34
abbrev ps_weight_below:List Str:=["gaps","worths","day","own"]
theorem sc_weight_below:FnScope ["gaps","worths","day","own","weight","above"] ps_weight_below (defScope s_weight_below):=⟨rfl,rfl,rfl,by decide +kernel,rfl,by decide +kernel,by decide +kernel⟩
theorem bd_weight_below:BdP "weight_below" s_weight_below ps_weight_below :=
  fun _ _ _ _ _ _ us hl=>match us,hl with | [_,_,_,_],_=>rfl
theorem fn_weight_below (M:Md K mg) (D:Df K mg "weight_below" s_weight_below)  : Fn P w K mg base CX0 "weight_below" 1 ps_weight_below (sp_weight_below K):=D.to (fun F =>
  F.ok (k:=0) sc_weight_below (fun vs _ _ _ h=>sp4_len h) (fun cdv A outer s H vs Q E hr h=>by
    have hu:=hr.units
    obtain ⟨a0,a1,a2,a3,rfl,h⟩:=h
    refine ⟨tb_weight_below K,?_,rd_weight_below h⟩
    refine pss_cons ?_ (pss_cons ?_ (pss_one ?_))
    · exact (ps_set (i:=4) sc_weight_below.nd rfl (Or.inl rfl) pe_int)
    · exact (ps_forD (ps_for PassesOwn.never rfl (pi_dict (pv 1)) (pg_name (i:=5) sc_weight_below.nd rfl (Or.inl rfl)) (pss_one (ps_set (i:=4) sc_weight_below.nd rfl (Or.inl rfl) (fb_cB (call_max2 rfl) (by rfl) M.b_max bt_max (pb_c (pv 4) (pb_c (pe_un un_neg (pe_op op_divU (pe_op op_subU (pv 3) (pe_dget (hu1 hu) (pv 1) (pv 5) (fun _ _=>rfl))) (pe_ix ix_seq (pe_ix ix_seq (pv 0) (pv 2) (fun _ _=>rfl)) (pv 5) (fun _ _=>rfl)))) pb_nil)))))))
    · exact (ps_ret (pv 4)))) bd_weight_below
abbrev s_taste_by:Stmt:=top 35
abbrev ps_taste_by:List Str:=["gaps","levels"]
theorem sc_taste_by:FnScope ["gaps","levels","worths","weights","level","own","day","days"] ps_taste_by (defScope s_taste_by):=⟨rfl,rfl,rfl,by decide +kernel,rfl,by decide +kernel,by decide +kernel⟩
theorem bd_taste_by:BdP "taste_by" s_taste_by ps_taste_by :=
  fun _ _ _ _ _ _ us hl=>match us,hl with | [_,_],_=>rfl
theorem fn_taste_by (M:Md K mg) (D:Df K mg "taste_by" s_taste_by) (G_worth_below:Fn P w K mg base CX0 "worth_below" 1 ps_worth_below (sp_worth_below K)) (G_weight_below:Fn P w K mg base CX0 "weight_below" 1 ps_weight_below (sp_weight_below K)):Fn P w K mg base CX0 "taste_by" 2 ps_taste_by (sp_taste_by K):=D.to (fun F =>
  F.ok (k:=1) sc_taste_by (fun vs _ _ _ h=>sp2_len h) (fun cdv A outer s H vs Q E hr h=>by
    have hu:=hr.units
    obtain ⟨a0,a1,rfl,h⟩:=h
    refine ⟨tb_taste_by K,?_,rd_taste_by h⟩
    refine pss_cons ?_ (pss_cons ?_ (pss_cons ?_ (pss_cons ?_ (pss_one ?_))))
    · exact (ps_set (i:=2) sc_taste_by.nd rfl (Or.inr rfl) pe_dnew)
    · exact (ps_set (i:=3) sc_taste_by.nd rfl (Or.inr rfl) pe_dnew)
    · exact (ps_for PassesOwn.never rfl (pi_seq (pv 1)) (pg_name (i:=4) sc_taste_by.nd rfl (Or.inl rfl)) (pss_cons (ps_set (i:=5) sc_taste_by.nd rfl (Or.inl rfl) (fb_fn G_worth_below (hr.mono (by decide)) (by rfl) pass0 (pb_c (pv 0) (pb_c (pv 2) (pb_c (pv 3) (pb_c (pv 4) pb_nil))))))
      (pss_cons (ps_for PassesOwn.never rfl (pi_seq (pv 4)) (pg_name (i:=6) sc_taste_by.nd rfl (Or.inl rfl)) (pss_one (ps_dput (hu1 hu) (pv 3) (pv 6) (fb_fn G_weight_below (hr.mono (by decide)) (by rfl) pass0 (pb_c (pv 0) (pb_c (pv 2) (pb_c (pv 6) (pb_c (pv 5) pb_nil))))) rfl)))
      (pss_one (ps_for PassesOwn.never rfl (pi_seq (pv 4)) (pg_name (i:=6) sc_taste_by.nd rfl (Or.inl rfl)) (pss_one (ps_dput (hu1 hu) (pv 2) (pv 6) (pv 5) rfl)))))))
    · exact (ps_set (i:=7) sc_taste_by.nd rfl (Or.inl rfl) (fb_cB (call_sortedD rfl) (by rfl) M.b_sorted bt_sorted (pb_c (pv 2) pb_nil)))
    · exact (ps_ret (fb_tup (pb_c pe_str (pb_c (pe_comp (N:=["day","worths"]) (l:=[none,some 2]) rfl ⟨rfl,by decide +kernel,by decide +kernel,by first | decide +kernel | rfl,⟨⟨rfl,Or.inl rfl,rfl⟩,True.intro⟩,by decide +kernel⟩ (pi_seq (pv 7)) (fun _ _ _ _ _=>(pg_name (i:=0) (show List.Nodup (["day","worths"]:List Str) by decide +kernel) rfl (Or.inl rfl))) (fun _ _ _ _ _=>pif_nil) (fun _ _ _ _ _=>(pe_dget (hu1 hu) (pv 1) (pv 0) (fun _ _=>rfl)))) (pb_c (pe_comp (N:=["day","weights"]) (l:=[none,some 3]) rfl ⟨rfl,by decide +kernel,by decide +kernel,by first | decide +kernel | rfl,⟨⟨rfl,Or.inl rfl,rfl⟩,True.intro⟩,by decide +kernel⟩ (pi_seq (pv 7)) (fun _ _ _ _ _=>(pg_name (i:=0) (show List.Nodup (["day","weights"]:List Str) by decide +kernel) rfl (Or.inl rfl))) (fun _ _ _ _ _=>pif_nil) (fun _ _ _ _ _=>(pe_dget (hu1 hu) (pv 1) (pv 0) (fun _ _=>rfl)))) pb_nil))))))) bd_taste_by
abbrev s_taste_of:Stmt:=top 36
abbrev ps_taste_of:List Str:=["book","share"]
theorem sc_taste_of:FnScope ["book","share","gaps","marks","ring"] ps_taste_of (defScope s_taste_of):=⟨rfl,rfl,rfl,by decide +kernel,rfl,by decide +kernel,by decide +kernel⟩
theorem b2_taste_of:∀ (T:Addr) (kV doc pm:Value) (an:Option Addr) (cdv ct u v:Value),∃ k,bindArgs (PySem.W.fnOf "taste_of" "taste_of" (defArgs s_taste_of) (defBody s_taste_of) (defScope s_taste_of) (.ref T) kV doc pm an cdv ct) ⟨[u,v],[]⟩=seqItems? (.ref T) >>= k∧k (some #[Value.none])=pure [(("book":Str),u),(("share":Str),v)] :=
  fun _ _ _ _ _ _ _ _ _=>⟨_,rfl,rfl⟩
theorem b1_taste_of:∀ (T:Addr) (kV doc pm:Value) (an:Option Addr) (cdv ct u:Value),∃ k,bindArgs (PySem.W.fnOf "taste_of" "taste_of" (defArgs s_taste_of) (defBody s_taste_of) (defScope s_taste_of) (.ref T) kV doc pm an cdv ct) ⟨[u],[]⟩=seqItems? (.ref T) >>= k∧k (some #[Value.none])=pure [(("book":Str),u),(("share":Str),Value.none)] :=
  fun _ _ _ _ _ _ _ _=>⟨_,rfl,rfl⟩
theorem fn_taste_of (M:Md K mg) (D:DfD K mg "taste_of" s_taste_of) (G_ring_in:Fn P w K mg base CX0 "ring_in" 2 ps_ring_in (sp_ring_in K)) (G_gaps_of:Fn P w K mg base CX0 "gaps_of" 5 ps_gaps_of (sp_gaps_of K mg)) (G_cut_marks_of:Fn P w K mg base CX0 "cut_marks_of" 4 ps_cut_marks_of (sp_cut_marks_of K)) (G_levels_of:Fn P w K mg base CX0 "levels_of" 2 ps_levels_of (sp_levels_of K)) (G_taste_by:Fn P w K mg base CX0 "taste_by" 2 ps_taste_by (sp_taste_by K)):FnD P w K mg base CX0 "taste_of" 6 ps_taste_of (sp_taste_of K mg):=D.to (fun F =>
  F.ok (k:=5) sc_taste_of (fun vs _ _ _ h=>sp2_len h) (fun cdv A outer s H vs Q E hr h=>by
    have hu:=hr.units
    obtain ⟨a0,a1,rfl,h⟩:=h
    refine ⟨tb_taste_of K mg,?_,rd_taste_of M h⟩
    refine pss_cons ?_ (pss_cons ?_ (pss_cons ?_ (pss_cons ?_ (pss_one ?_))))
    · exact (ps_set (i:=2) sc_taste_of.nd rfl (Or.inl rfl) (fb_fn G_gaps_of (hr.mono (by decide)) (by rfl) pass0 (pb_c (pv 0) (pb_c (pe_ifExp (pt_cmpR op_isU (pv 1) pe_non (nomark _)) (fb_tup (pb_c pe_int (pb_c pe_int pb_nil))) (pv 1)) pb_nil))))
    · exact (ps_set (i:=3) sc_taste_of.nd rfl (Or.inl rfl) (fb_fn G_cut_marks_of (hr.mono (by decide)) (by rfl) pass0 (pb_c (pv 2) pb_nil)))
    · exact (ps_set (i:=4) sc_taste_of.nd rfl (Or.inl rfl) (fb_fn G_ring_in (hr.mono (by decide)) (by rfl) pass0 (pb_c (pv 3) pb_nil)))
    · exact (ps_if (pt_cmpR op_isnotU (pv 4) pe_non (nomark _)) (pss_one (ps_ret (fb_tup (pb_c pe_str (pb_c (pv 4) pb_nil))))) pss_nil)
    · exact (ps_ret (fb_fn G_taste_by (hr.mono (by decide)) (by rfl) pass0 (pb_c (pv 2) (pb_c (fb_fn G_levels_of (hr.mono (by decide)) (by rfl) pass0 (pb_c (pv 3) pb_nil)) pb_nil)))))) b2_taste_of b1_taste_of
abbrev s__law_mixed:Stmt:=top 38
abbrev ps__law_mixed:List Str:=["_law_cells","_law_k"]
theorem sc__law_mixed:FnScope ["_law_cells","_law_k","_law_number"] ps__law_mixed (defScope s__law_mixed):=⟨rfl,rfl,rfl,by decide +kernel,rfl,by decide +kernel,by decide +kernel⟩
theorem bd__law_mixed:BdP "_law_mixed" s__law_mixed ps__law_mixed :=
  fun _ _ _ _ _ _ us hl=>match us,hl with | [_,_],_=>rfl
theorem fn__law_mixed (M:Md K mg) (D:Df K mg "_law_mixed" s__law_mixed)  : Fn P w K mg base CX0 "_law_mixed" 1 ps__law_mixed (sp__law_mixed K):=D.to (fun F =>
  F.ok (k:=0) sc__law_mixed (fun vs _ _ _ h=>sp2_len h) (fun cdv A outer s H vs Q E hr h=>by
    have hu:=hr.units
    obtain ⟨a0,a1,rfl,h⟩:=h
    refine ⟨tb__law_mixed K,?_,rd__law_mixed h⟩
    refine pss_cons ?_ (pss_cons ?_ (pss_cons ?_ (pss_cons ?_ (pss_cons ?_ (pss_one ?_)))))
    · exact (ps_if (pt_cmpR op_lt (pv 1) (fb_cB (call_lenU) (by rfl) M.b_len bt_len (pb_c (pv 0) pb_nil)) (nomark _)) (pss_one (ps_ret (pe_op op_modU (pe_op op_mulU (pe_ix ix_seq (pv 0) (pv 1) (fun _ _=>rfl)) pe_int) (pe_powC (by decide +kernel) (by decide) (by decide) (by decide))))) pss_nil)
    · exact (ps_set (i:=2) sc__law_mixed.nd rfl (Or.inl rfl) (pe_op op_addU (pe_op op_mulU (pe_op op_mulU (pv 1) (pv 1)) pe_int) pe_int))
    · exact (ps_if (pt_cmpR op_gt (fb_cB (call_lenU) (by rfl) M.b_len bt_len (pb_c (pv 0) pb_nil)) pe_int (nomark _)) (pss_one (ps_set (i:=2) sc__law_mixed.nd rfl (Or.inl rfl) (pe_op op_addU (pv 2) (pe_op op_mulU (pe_op op_modU (pe_ix ix_seq (pv 0) (pe_op op_modU (pe_op op_mulU (pv 1) pe_int) (fb_cB (call_lenU) (by rfl) M.b_len bt_len (pb_c (pv 0) pb_nil))) (fun _ _=>rfl)) (pe_powC (by decide +kernel) (by decide) (by decide) (by decide))) (pe_op op_addU pe_int (pe_op op_mulU pe_int (pv 1))))))) pss_nil)
    · exact (ps_set (i:=2) sc__law_mixed.nd rfl (Or.inl rfl) (pe_op op_modU (pe_op op_mulU (pv 2) (pv 2)) pe_int))
    · exact (ps_set (i:=2) sc__law_mixed.nd rfl (Or.inl rfl) (pe_op op_modU (pe_op op_mulU (pe_op op_addU (pe_op op_addU (pv 2) (pe_op op_mulU (pe_op op_mulU (pv 1) (pv 1)) (pv 1))) pe_int) (pe_op op_addU (pv 2) pe_int)) pe_int))
    · exact (ps_ret (pe_op op_modU (pe_op op_mulU (pv 2) pe_int) (pe_powC (by decide +kernel) (by decide) (by decide) (by decide)))))) bd__law_mixed
abbrev s__law_draws:Stmt:=top 39
abbrev ps__law_draws:List Str:=["_law_script","_law_many"]
theorem sc__law_draws:FnScope ["_law_script","_law_many","_law_cells","_law_draws_here","_law_k"] ps__law_draws (defScope s__law_draws):=⟨rfl,rfl,rfl,by decide +kernel,rfl,by decide +kernel,by decide +kernel⟩
theorem bd__law_draws:BdP "_law_draws" s__law_draws ps__law_draws :=
  fun _ _ _ _ _ _ us hl=>match us,hl with | [_,_],_=>rfl
theorem fn__law_draws (M:Md K mg) (D:Df K mg "_law_draws" s__law_draws) (G__law_mixed:Fn P w K mg base CX0 "_law_mixed" 1 ps__law_mixed (sp__law_mixed K)):Fn P w K mg base CX0 "_law_draws" 2 ps__law_draws (sp__law_draws K):=D.to (fun F =>
  F.ok (k:=1) sc__law_draws (fun vs _ _ _ h=>sp2_len h) (fun cdv A outer s H vs Q E hr h=>by
    have hu:=hr.units
    obtain ⟨a0,a1,rfl,h⟩:=h
    refine ⟨tb__law_draws K,?_,rd__law_draws h⟩
    refine pss_cons ?_ (pss_cons ?_ (pss_one ?_))
    · exact (ps_set (i:=2) sc__law_draws.nd rfl (Or.inl rfl) (fb_cTy call_ty_list (by rfl) M.b_list bt_list (pb_c (pv 0) pb_nil)))
    · exact (ps_if (pt_cmpR op_gt (fb_cB (call_lenU) (by rfl) M.b_len bt_len (pb_c (pv 2) pb_nil)) pe_int (nomark _)) (pss_cons (ps_set (i:=3) sc__law_draws.nd rfl (Or.inl rfl) (fb_lst pb_nil))
      (pss_cons (ps_for PassesOwn.never rfl (fb_range1 (by rfl) M.b_range (pb_c (pv 1) pb_nil)) (pg_name (i:=4) sc__law_draws.nd rfl (Or.inl rfl)) (pss_cons (ps_expr (fb_bm1 PySem.F.plainAttrs_list PySem.F.slot_list_append PySem.F.type_list_append mt_append (pv 3) (pb_c (pe_op op_modU (pe_ix ix_seq (pv 2) (pe_op op_modU (pv 4) (fb_cB (call_lenU) (by rfl) M.b_len bt_len (pb_c (pv 2) pb_nil))) (fun _ _=>rfl)) (pe_powC (by decide +kernel) (by decide) (by decide) (by decide))) pb_nil)))
      (pss_one (ps_asg (pe_op op_divU (pe_ix ix_seq (pv 2) (pe_op op_modU (pv 4) (fb_cB (call_lenU) (by rfl) M.b_len bt_len (pb_c (pv 2) pb_nil))) (fun _ _=>rfl)) (pe_powC (by decide +kernel) (by decide) (by decide) (by decide))) (pg_sub (pv 2) (pe_op op_modU (pv 4) (fb_cB (call_lenU) (by rfl) M.b_len bt_len (pb_c (pv 2) pb_nil))) set_list)))))
      (pss_one (ps_if (pt_cmpR op_gt (fb_cB (call_minU rfl) (by rfl) M.b_min bt_min (pb_c (pv 2) pb_nil)) pe_int (nomark _)) (pss_one (ps_ret (fb_tup (pb_c pe_int (pb_c (pv 3) pb_nil))))) pss_nil)))) pss_nil)
    · exact (ps_ret (fb_tup (pb_c pe_int (pb_c (pe_comp (N:=["_law_k","_law_script"]) (l:=[none,some 0]) rfl ⟨rfl,by decide +kernel,by decide +kernel,by first | decide +kernel | rfl,⟨⟨rfl,Or.inl rfl,rfl⟩,True.intro⟩,by decide +kernel⟩ (fb_range1 (by rfl) M.b_range (pb_c (pv 1) pb_nil)) (fun _ _ _ _ _=>(pg_name (i:=0) (show List.Nodup (["_law_k","_law_script"]:List Str) by decide +kernel) rfl (Or.inl rfl))) (fun _ _ _ _ _=>pif_nil) (fun _ _ _ _ _=>(fb_fn G__law_mixed (hr.mono (by decide)) (by rfl) pass0 (pb_c (pv 1) (pb_c (pv 0) pb_nil))))) pb_nil)))))) bd__law_draws
abbrev s__law_int:Stmt:=top 40
abbrev ps__law_int:List Str:=["_law_found"]
theorem sc__law_int:FnScope ["_law_found"] ps__law_int (defScope s__law_int):=⟨rfl,rfl,rfl,by decide +kernel,rfl,by decide +kernel,by decide +kernel⟩
theorem bd__law_int:BdP "_law_int" s__law_int ps__law_int :=
  fun _ _ _ _ _ _ us hl=>match us,hl with | [_],_=>rfl
theorem fn__law_int (M:Md K mg) (D:Df K mg "_law_int" s__law_int)  : Fn P w K mg base CX0 "_law_int" 1 ps__law_int (sp__law_int K):=D.to (fun F =>
  F.ok (k:=0) sc__law_int (fun vs _ _ _ h=>sp1_len h) (fun cdv A outer s H vs Q E hr h=>by
    have hu:=hr.units
    obtain ⟨a0,rfl,h⟩:=h
    refine ⟨tb__law_int K,?_,rd__law_int h⟩
    refine pss_one ?_
    exact (ps_ret (pe_and (fb_cB call_isinst (by rfl) M.b_isinstance bt_isinstance (pb_c (pv 0) (pb_c (pe_gty M.b_int bt_int) pb_nil))) (pe_one (pe_not (fb_cB call_isinst (by rfl) M.b_isinstance bt_isinstance (pb_c (pv 0) (pb_c (pe_gty M.b_bool bt_bool) pb_nil))))))))) bd__law_int
abbrev s__law_next:Stmt:=top 41
abbrev ps__law_next:List Str:=["_law_cell"]
theorem sc__law_next:FnScope ["_law_cell"] ps__law_next (defScope s__law_next):=⟨rfl,rfl,rfl,by decide +kernel,rfl,by decide +kernel,by decide +kernel⟩
theorem bd__law_next:BdP "_law_next" s__law_next ps__law_next :=
  fun _ _ _ _ _ _ us hl=>match us,hl with | [_],_=>rfl
theorem fn__law_next (M:Md K mg) (D:Df K mg "_law_next" s__law_next)  : Fn P w K mg base CX0 "_law_next" 1 ps__law_next (sp__law_next K):=D.to (fun F =>
  F.ok (k:=0) sc__law_next (fun vs _ _ _ h=>sp1_len h) (fun cdv A outer s H vs Q E hr h=>by
    have hu:=hr.units
    obtain ⟨a0,rfl,h⟩:=h
    refine ⟨tb__law_next K,?_,rd__law_next h⟩
    refine pss_one ?_
    exact (ps_ret (pe_op op_modU (pe_op op_addU (pe_op op_mulU (pv 0) pe_int) pe_int) (pe_powC (by decide +kernel) (by decide) (by decide) (by decide)))))) bd__law_next
abbrev s__law_shape:Stmt:=top 42
abbrev ps__law_shape:List Str:=["_law_cell","_law_wares"]
theorem sc__law_shape:FnScope ["_law_cell","_law_wares","_law_shape_here","_law_k"] ps__law_shape (defScope s__law_shape):=⟨rfl,rfl,rfl,by decide +kernel,rfl,by decide +kernel,by decide +kernel⟩
theorem bd__law_shape:BdP "_law_shape" s__law_shape ps__law_shape :=
  fun _ _ _ _ _ _ us hl=>match us,hl with | [_,_],_=>rfl
theorem fn__law_shape (M:Md K mg) (D:Df K mg "_law_shape" s__law_shape) (G__law_next:Fn P w K mg base CX0 "_law_next" 1 ps__law_next (sp__law_next K)):Fn P w K mg base CX0 "_law_shape" 2 ps__law_shape (sp__law_shape K):=D.to (fun F =>
  F.ok (k:=1) sc__law_shape (fun vs _ _ _ h=>sp2_len h) (fun cdv A outer s H vs Q E hr h=>by
    have hu:=hr.units
    obtain ⟨a0,a1,rfl,h⟩:=h
    refine ⟨tb__law_shape K,?_,rd__law_shape h⟩
    refine pss_cons ?_ (pss_cons ?_ (pss_cons ?_ (pss_one ?_)))
    · exact (ps_set (i:=2) sc__law_shape.nd rfl (Or.inl rfl) (fb_lst pb_nil))
    · exact (ps_for PassesOwn.never rfl (fb_range1 (by rfl) M.b_range (pb_c (pv 1) pb_nil)) (pg_name (i:=3) sc__law_shape.nd rfl (Or.inl rfl)) (pss_cons (ps_set (i:=0) sc__law_shape.nd rfl (Or.inl rfl) (fb_fn G__law_next (hr.mono (by decide)) (by rfl) pass0 (pb_c (pv 0) pb_nil)))
      (pss_one (ps_expr (fb_bm1 PySem.F.plainAttrs_list PySem.F.slot_list_append PySem.F.type_list_append mt_append (pv 2) (pb_c (pe_op op_modU (pe_op op_divU (pv 0) (pe_powC (by decide +kernel) (by decide) (by decide) (by decide))) pe_int) pb_nil))))))
    · exact (ps_if (pt_cmpR (op_eqU hu) (fb_cB (call_sumU rfl) (by rfl) M.b_sum bt_sum (pb_c (pv 2) pb_nil)) pe_int (nomark _)) (pss_one (ps_asg pe_int (pg_sub (pv 2) pe_int set_list))) pss_nil)
    · exact (ps_ret (pv 2)))) bd__law_shape
abbrev s__law_best:Stmt:=top 43
abbrev ps__law_best:List Str:=["_law_prices","_law_shape_here","_law_j"]
theorem sc__law_best:FnScope ["_law_prices","_law_shape_here","_law_j","_law_k"] ps__law_best (defScope s__law_best):=⟨rfl,rfl,rfl,by decide +kernel,rfl,by decide +kernel,by decide +kernel⟩
theorem bd__law_best:BdP "_law_best" s__law_best ps__law_best :=
  fun _ _ _ _ _ _ us hl=>match us,hl with | [_,_,_],_=>rfl
theorem fn__law_best (M:Md K mg) (D:Df K mg "_law_best" s__law_best)  : Fn P w K mg base CX0 "_law_best" 1 ps__law_best (sp__law_best K):=D.to (fun F =>
  F.ok (k:=0) sc__law_best (fun vs _ _ _ h=>sp3_len h) (fun cdv A outer s H vs Q E hr h=>by
    have hu:=hr.units
    obtain ⟨a0,a1,a2,rfl,h⟩:=h
    refine ⟨tb__law_best K,?_,rd__law_best h⟩
    refine pss_cons ?_ (pss_one ?_)
    · exact (ps_for PassesOwn.never rfl (fb_range1 (by rfl) M.b_range (pb_c (fb_cB (call_lenU) (by rfl) M.b_len bt_len (pb_c (pv 0) pb_nil)) pb_nil)) (pg_name (i:=3) sc__law_best.nd rfl (Or.inl rfl)) (pss_one (ps_if (pt_cmpR op_gt (pe_op op_mulU (pe_op op_addU pe_int (pe_ix ix_seq (pv 1) (pv 3) (fun _ _=>rfl))) (pe_ix ix_seq (pv 0) (pv 2) (fun _ _=>rfl))) (pe_op op_mulU (pe_op op_addU pe_int (pe_ix ix_seq (pv 1) (pv 2) (fun _ _=>rfl))) (pe_ix ix_seq (pv 0) (pv 3) (fun _ _=>rfl))) (nomark _)) (pss_one (ps_ret pe_int)) pss_nil)))
    · exact (ps_ret pe_int))) bd__law_best
abbrev s__law_bought:Stmt:=top 44
abbrev ps__law_bought:List Str:=["_law_way","_law_prices","_law_amounts","_law_shape_here","_law_times"]
theorem sc__law_bought:FnScope ["_law_way","_law_prices","_law_amounts","_law_shape_here","_law_times"] ps__law_bought (defScope s__law_bought):=⟨rfl,rfl,rfl,by decide +kernel,rfl,by decide +kernel,by decide +kernel⟩
theorem bd__law_bought:BdP "_law_bought" s__law_bought ps__law_bought :=
  fun _ _ _ _ _ _ us hl=>match us,hl with | [_,_,_,_,_],_=>rfl
theorem fn__law_bought (M:Md K mg) (D:Df K mg "_law_bought" s__law_bought) (G__law_best:Fn P w K mg base CX0 "_law_best" 1 ps__law_best (sp__law_best K)):Fn P w K mg base CX0 "_law_bought" 2 ps__law_bought (sp__law_bought K):=D.to (fun F =>
  F.ok (k:=1) sc__law_bought (fun vs _ _ _ h=>sp5_len h) (fun cdv A outer s H vs Q E hr h=>by
    have hu:=hr.units
    obtain ⟨a0,a1,a2,a3,a4,rfl,h⟩:=h
    refine ⟨tb__law_bought K,?_,rd__law_bought h⟩
    refine pss_cons ?_ (pss_cons ?_ (pss_cons ?_ (pss_cons ?_ (pss_cons ?_ (pss_one ?_)))))
    · exact (ps_if (pt_cmpR (op_eqU hu) (pv 0) pe_int (nomark _)) (pss_one (ps_ret (pe_comp (N:=["_law_k","_law_times","_law_shape_here"]) (l:=[none,some 4,some 3]) rfl ⟨rfl,by decide +kernel,by decide +kernel,by first | decide +kernel | rfl,⟨⟨rfl,Or.inl rfl,rfl⟩,⟨⟨rfl,Or.inl rfl,rfl⟩,True.intro⟩⟩,by decide +kernel⟩ (fb_range1 (by rfl) M.b_range (pb_c (fb_cB (call_lenU) (by rfl) M.b_len bt_len (pb_c (pv 1) pb_nil)) pb_nil)) (fun _ _ _ _ _=>(pg_name (i:=0) (show List.Nodup (["_law_k","_law_times","_law_shape_here"]:List Str) by decide +kernel) rfl (Or.inl rfl))) (fun _ _ _ _ _=>pif_nil) (fun _ _ _ _ _=>(pe_op op_mulU (pv 1) (pe_ix ix_seq (pv 2) (pv 0) (fun _ _=>rfl))))))) pss_nil)
    · exact (ps_if (pt_cmpR (op_eqU hu) (pv 0) pe_int (nomark _)) (pss_one (ps_ret (pe_comp (N:=["_law_k","_law_times","_law_shape_here","_law_prices"]) (l:=[none,some 4,some 3,some 1]) rfl ⟨rfl,by decide +kernel,by decide +kernel,by first | decide +kernel | rfl,⟨⟨rfl,Or.inl rfl,rfl⟩,⟨⟨rfl,Or.inl rfl,rfl⟩,⟨⟨rfl,Or.inl rfl,rfl⟩,True.intro⟩⟩⟩,by decide +kernel⟩ (fb_range1 (by rfl) M.b_range (pb_c (fb_cB (call_lenU) (by rfl) M.b_len bt_len (pb_c (pv 1) pb_nil)) pb_nil)) (fun _ _ _ _ _=>(pg_name (i:=0) (show List.Nodup (["_law_k","_law_times","_law_shape_here","_law_prices"]:List Str) by decide +kernel) rfl (Or.inl rfl))) (fun _ _ _ _ _=>pif_nil) (fun _ _ _ _ _=>(pe_op op_divU (pe_op op_mulU (pe_op op_mulU (pv 1) (pe_ix ix_seq (pv 2) (pv 0) (fun _ _=>rfl))) pe_int) (pe_ix ix_seq (pv 3) (pv 0) (fun _ _=>rfl))))))) pss_nil)
    · exact (ps_if (pt_cmpR (op_eqU hu) (pv 0) pe_int (nomark _)) (pss_one (ps_ret (pe_comp (N:=["_law_k","_law_amounts","_law_prices","_law_shape_here"]) (l:=[none,some 2,some 1,some 3]) rfl ⟨rfl,by decide +kernel,by decide +kernel,by first | decide +kernel | rfl,⟨⟨rfl,Or.inl rfl,rfl⟩,⟨⟨rfl,Or.inl rfl,rfl⟩,⟨⟨rfl,Or.inl rfl,rfl⟩,True.intro⟩⟩⟩,by decide +kernel⟩ (fb_range1 (by rfl) M.b_range (pb_c (fb_cB (call_lenU) (by rfl) M.b_len bt_len (pb_c (pv 1) pb_nil)) pb_nil)) (fun _ _ _ _ _=>(pg_name (i:=0) (show List.Nodup (["_law_k","_law_amounts","_law_prices","_law_shape_here"]:List Str) by decide +kernel) rfl (Or.inl rfl))) (fun _ _ _ _ _=>pif_nil) (fun _ _ _ _ _=>(pe_op op_mulU (pe_op op_addU pe_int (pe_ix ix_seq (pv 1) (pv 0) (fun _ _=>rfl))) (fb_fn G__law_best (hr.mono (by decide)) (by rfl) pass0 (pb_c (pv 2) (pb_c (pv 3) (pb_c (pv 0) pb_nil))))))))) pss_nil)
    · exact (ps_if (pt_cmpR (op_eqU hu) (pv 0) pe_int (nomark _)) (pss_one (ps_ret (pe_comp (N:=["_law_k","_law_amounts","_law_prices"]) (l:=[none,some 2,some 1]) rfl ⟨rfl,by decide +kernel,by decide +kernel,by first | decide +kernel | rfl,⟨⟨rfl,Or.inl rfl,rfl⟩,⟨⟨rfl,Or.inl rfl,rfl⟩,True.intro⟩⟩,by decide +kernel⟩ (fb_range1 (by rfl) M.b_range (pb_c (fb_cB (call_lenU) (by rfl) M.b_len bt_len (pb_c (pv 1) pb_nil)) pb_nil)) (fun _ _ _ _ _=>(pg_name (i:=0) (show List.Nodup (["_law_k","_law_amounts","_law_prices"]:List Str) by decide +kernel) rfl (Or.inl rfl))) (fun _ _ _ _ _=>pif_nil) (fun _ _ _ _ _=>(pe_op op_mulU (pe_op op_addU pe_int (pe_ix ix_seq (pv 1) (pv 0) (fun _ _=>rfl))) (fb_cTy call_ty_int (by rfl) M.b_int bt_int (pb_c (pe_cmpR (op_eqU hu) (pe_ix ix_seq (pv 2) (pv 0) (fun _ _=>rfl)) (fb_cB (call_minU rfl) (by rfl) M.b_min bt_min (pb_c (pv 2) pb_nil)) (nomark _)) pb_nil))))))) pss_nil)
    · exact (ps_if (pt_cmpR (op_eqU hu) (pv 0) pe_int (nomark _)) (pss_one (ps_ret (pe_comp (N:=["_law_price_here"]) (l:=[none]) rfl ⟨rfl,by decide +kernel,by decide +kernel,by first | decide +kernel | rfl,  True.intro,by decide +kernel⟩ (pi_seq (pv 1)) (fun _ _ _ _ _=>(pg_name (i:=0) (show List.Nodup (["_law_price_here"]:List Str) by decide +kernel) rfl (Or.inl rfl))) (fun _ _ _ _ _=>pif_nil) (fun _ _ _ _ _=>(pe_op op_subU pe_int (pv 0)))))) pss_nil)
    · exact (ps_ret (pv 2)))) bd__law_bought
abbrev s__law_price:Stmt:=top 45
abbrev ps__law_price:List Str:=["_law_way","_law_high"]
theorem sc__law_price:FnScope ["_law_way","_law_high"] ps__law_price (defScope s__law_price):=⟨rfl,rfl,rfl,by decide +kernel,rfl,by decide +kernel,by decide +kernel⟩
theorem bd__law_price:BdP "_law_price" s__law_price ps__law_price :=
  fun _ _ _ _ _ _ us hl=>match us,hl with | [_,_],_=>rfl
theorem fn__law_price (M:Md K mg) (D:Df K mg "_law_price" s__law_price)  : Fn P w K mg base CX0 "_law_price" 1 ps__law_price (sp__law_price K):=D.to (fun F =>
  F.ok (k:=0) sc__law_price (fun vs _ _ _ h=>sp2_len h) (fun cdv A outer s H vs Q E hr h=>by
    have hu:=hr.units
    obtain ⟨a0,a1,rfl,h⟩:=h
    refine ⟨tb__law_price K,?_,rd__law_price h⟩
    refine pss_cons ?_ (pss_cons ?_ (pss_cons ?_ (pss_cons ?_ (pss_one ?_))))
    · exact (ps_if (pt_cmpR (op_eqU hu) (pv 0) pe_int (nomark _)) (pss_one (ps_ret (pe_op op_addU pe_int (pe_op op_modU (pv 1) pe_int)))) pss_nil)
    · exact (ps_if (pt_cmpR (op_eqU hu) (pv 0) pe_int (nomark _)) (pss_one (ps_ret (pe_op op_addU pe_int (pe_op op_modU (pv 1) pe_int)))) pss_nil)
    · exact (ps_if (pt_cmpR (op_eqU hu) (pv 0) pe_int (nomark _)) (pss_one (ps_ret (pe_op op_addU pe_int (pe_op op_modU (pv 1) (pe_powC (by decide +kernel) (by decide) (by decide) (by decide)))))) pss_nil)
    · exact (ps_if (pt_cmpR (op_eqU hu) (pv 0) pe_int (nomark _)) (pss_one (ps_ret (pe_ix ix_seq (fb_lst (pb_c pe_int (pb_c pe_int (pb_c pe_int (pb_c pe_int (pb_c pe_int (pb_c pe_int pb_nil))))))) (pe_op op_modU (pv 1) pe_int) (fun _ _=>rfl)))) pss_nil)
    · exact (ps_ret (pe_op op_addU pe_int (pe_op op_modU (pv 1) pe_int))))) bd__law_price
abbrev s__law_day:Stmt:=top 46
abbrev ps__law_day:List Str:=["_law_cell","_law_way","_law_shape_here"]
theorem sc__law_day:FnScope ["_law_cell","_law_way","_law_shape_here","_law_prices","_law_amounts","_law_k","_law_high","_law_at"] ps__law_day (defScope s__law_day):=⟨rfl,rfl,rfl,by decide +kernel,rfl,by decide +kernel,by decide +kernel⟩
theorem bd__law_day:BdP "_law_day" s__law_day ps__law_day :=
  fun _ _ _ _ _ _ us hl=>match us,hl with | [_,_,_],_=>rfl
theorem fn__law_day (M:Md K mg) (D:Df K mg "_law_day" s__law_day) (G__law_next:Fn P w K mg base CX0 "_law_next" 1 ps__law_next (sp__law_next K)) (G__law_bought:Fn P w K mg base CX0 "_law_bought" 2 ps__law_bought (sp__law_bought K)) (G__law_price:Fn P w K mg base CX0 "_law_price" 1 ps__law_price (sp__law_price K)):Fn P w K mg base CX0 "_law_day" 3 ps__law_day (sp__law_day K):=D.to (fun F =>
  F.ok (k:=2) sc__law_day (fun vs _ _ _ h=>sp3_len h) (fun cdv A outer s H vs Q E hr h=>by
    have hu:=hr.units
    obtain ⟨a0,a1,a2,rfl,h⟩:=h
    refine ⟨tb__law_day K,?_,rd__law_day h⟩
    refine pss_cons ?_ (pss_cons ?_ (pss_cons ?_ (pss_cons ?_ (pss_cons ?_ (pss_cons ?_ (pss_one ?_))))))
    · exact (ps_set (i:=3) sc__law_day.nd rfl (Or.inl rfl) (fb_lst pb_nil))
    · exact (ps_set (i:=4) sc__law_day.nd rfl (Or.inl rfl) (fb_lst pb_nil))
    · exact (ps_for PassesOwn.never rfl (fb_range1 (by rfl) M.b_range (pb_c (fb_cB (call_lenU) (by rfl) M.b_len bt_len (pb_c (pv 2) pb_nil)) pb_nil)) (pg_name (i:=5) sc__law_day.nd rfl (Or.inl rfl)) (pss_cons (ps_set (i:=0) sc__law_day.nd rfl (Or.inr rfl) (fb_fn G__law_next (hr.mono (by decide)) (by rfl) pass0 (pb_c (pv 0) pb_nil)))
      (pss_cons (ps_set (i:=6) sc__law_day.nd rfl (Or.inl rfl) (pe_op op_divU (pv 0) (pe_powC (by decide +kernel) (by decide) (by decide) (by decide))))
      (pss_cons (ps_expr (fb_bm1 PySem.F.plainAttrs_list PySem.F.slot_list_append PySem.F.type_list_append mt_append (pv 3) (pb_c (fb_fn G__law_price (hr.mono (by decide)) (by rfl) pass0 (pb_c (pv 1) (pb_c (pv 6) pb_nil))) pb_nil)))
      (pss_one (ps_expr (fb_bm1 PySem.F.plainAttrs_list PySem.F.slot_list_append PySem.F.type_list_append mt_append (pv 4) (pb_c (pe_ix ix_seq (fb_lst (pb_c (pe_op op_modU (pe_op op_divU (pv 6) pe_int) pe_int) (pb_c (pe_op op_modU (pe_op op_divU (pv 6) (pe_powC (by decide +kernel) (by decide) (by decide) (by decide))) (pe_powC (by decide +kernel) (by decide) (by decide) (by decide))) pb_nil))) (fb_cTy call_ty_int (by rfl) M.b_int bt_int (pb_c (pe_cmpR (op_eqU hu) (pv 1) pe_int (nomark _)) pb_nil)) (fun _ _=>rfl)) pb_nil))))))))
    · exact (ps_if (pt_cmpR (op_eqU hu) (pv 1) pe_int (nomark _)) (pss_cons (ps_set (i:=7) sc__law_day.nd rfl (Or.inr rfl) (pe_op op_modU (pe_op op_divU (pv 0) (pe_powC (by decide +kernel) (by decide) (by decide) (by decide))) (fb_cB (call_lenU) (by rfl) M.b_len bt_len (pb_c (pv 3) pb_nil))))
      (pss_cons (ps_setComp (N:=["_law_k","_law_cell","_law_at","_law_shape_here"]) (l:=[none,some 0,some 7,some 2]) (i:=3) rfl sc__law_day.nd rfl rfl ⟨rfl,by decide +kernel,by decide +kernel,by first | decide +kernel | rfl,⟨⟨rfl,Or.inl rfl,rfl⟩,⟨⟨rfl,Or.inl rfl,rfl⟩,⟨⟨rfl,Or.inl rfl,rfl⟩,True.intro⟩⟩⟩,by decide +kernel⟩ (fb_range1 (by rfl) M.b_range (pb_c (fb_cB (call_lenU) (by rfl) M.b_len bt_len (pb_c (pv 2) pb_nil)) pb_nil)) (fun _ _ _ _ _=>(pg_name (i:=0) (show List.Nodup (["_law_k","_law_cell","_law_at","_law_shape_here"]:List Str) by decide +kernel) rfl (Or.inl rfl))) (fun _ _ _ _ _=>pif_nil) (fun _ _ _ _ _=>(pe_ix ix_seq (fb_lst (pb_c pe_int (pb_c (pe_op op_addU pe_int (pe_op op_modU (pv 1) pe_int)) pb_nil))) (fb_cTy call_ty_int (by rfl) M.b_int bt_int (pb_c (pe_cmpR (op_eqU hu) (pv 0) (pe_op op_modU (pe_op op_addU (pv 2) pe_int) (fb_cB (call_lenU) (by rfl) M.b_len bt_len (pb_c (pv 3) pb_nil))) (nomark _)) pb_nil)) (fun _ _=>rfl))))
      (pss_cons (ps_asg pe_int (pg_sub (pv 3) (pv 7) set_list))
      (pss_one (ps_setComp (N:=["_law_k","_law_at"]) (l:=[none,some 7]) (i:=4) rfl sc__law_day.nd rfl rfl ⟨rfl,by decide +kernel,by decide +kernel,by first | decide +kernel | rfl,⟨⟨rfl,Or.inl rfl,rfl⟩,True.intro⟩,by decide +kernel⟩ (fb_range1 (by rfl) M.b_range (pb_c (fb_cB (call_lenU) (by rfl) M.b_len bt_len (pb_c (pv 2) pb_nil)) pb_nil)) (fun _ _ _ _ _=>(pg_name (i:=0) (show List.Nodup (["_law_k","_law_at"]:List Str) by decide +kernel) rfl (Or.inl rfl))) (fun _ _ _ _ _=>pif_nil) (fun _ _ _ _ _=>(fb_cTy call_ty_int (by rfl) M.b_int bt_int (pb_c (pe_cmpR (op_eqU hu) (pv 0) (pv 1) (nomark _)) pb_nil)))))))) pss_nil)
    · exact (ps_set (i:=4) sc__law_day.nd rfl (Or.inl rfl) (fb_fn G__law_bought (hr.mono (by decide)) (by rfl) pass0 (pb_c (pv 1) (pb_c (pv 3) (pb_c (pv 4) (pb_c (pv 2) (pb_c (pe_op op_addU pe_int (pe_op op_modU (pe_op op_divU (pv 0) (pe_powC (by decide +kernel) (by decide) (by decide) (by decide))) pe_int)) pb_nil)))))))
    · exact (ps_if (pt_cmpR (op_eqU hu) (fb_cB (call_sumU rfl) (by rfl) M.b_sum bt_sum (pb_c (pv 4) pb_nil)) pe_int (nomark _)) (pss_one (ps_asg pe_int (pg_sub (pv 4) pe_int set_list))) pss_nil)
    · exact (ps_ret (fb_tup (pb_c (fb_cTy call_ty_tuple (by rfl) M.b_tuple bt_tuple (pb_c (pv 3) pb_nil)) (pb_c (fb_cTy call_ty_tuple (by rfl) M.b_tuple bt_tuple (pb_c (pv 4) pb_nil)) pb_nil)))))) bd__law_day
abbrev s__law_free_book:Stmt:=top 47
abbrev ps__law_free_book:List Str:=["_law_draws_here","_law_most","_law_wares"]
theorem sc__law_free_book:FnScope ["_law_draws_here","_law_most","_law_wares","_law_width","_law_book_here","_law_day_here","_law_some","_law_amounts"] ps__law_free_book (defScope s__law_free_book):=⟨rfl,rfl,rfl,by decide +kernel,rfl,by decide +kernel,by decide +kernel⟩
theorem bd__law_free_book:BdP "_law_free_book" s__law_free_book ps__law_free_book :=
  fun _ _ _ _ _ _ us hl=>match us,hl with | [_,_,_],_=>rfl
theorem fn__law_free_book (M:Md K mg) (D:Df K mg "_law_free_book" s__law_free_book)  : Fn P w K mg base CX0 "_law_free_book" 1 ps__law_free_book (sp__law_free_book K):=D.to (fun F =>
  F.ok (k:=0) sc__law_free_book (fun vs _ _ _ h=>sp3_len h) (fun cdv A outer s H vs Q E hr h=>by
    have hu:=hr.units
    obtain ⟨a0,a1,a2,rfl,h⟩:=h
    refine ⟨tb__law_free_book K,?_,rd__law_free_book h⟩
    refine pss_cons ?_ (pss_cons ?_ (pss_cons ?_ (pss_one ?_)))
    · exact (ps_set (i:=3) sc__law_free_book.nd rfl (Or.inl rfl) (pe_op op_addU pe_int (pe_op op_modU (pe_ix ix_seq (pv 0) pe_int (fun _ _=>rfl)) (pv 2))))
    · exact (ps_set (i:=4) sc__law_free_book.nd rfl (Or.inl rfl) (fb_lst pb_nil))
    · exact (ps_for PassesOwn.never rfl (fb_range1 (by rfl) M.b_range (pb_c (pe_op op_addU pe_int (pe_op op_modU (pe_op op_divU (pe_ix ix_seq (pv 0) pe_int (fun _ _=>rfl)) (pv 2)) (pv 1))) pb_nil)) (pg_name (i:=5) sc__law_free_book.nd rfl (Or.inl rfl)) (pss_cons (ps_set (i:=6) sc__law_free_book.nd rfl (Or.inr rfl) (pe_slice sl_U (pv 0) (po_some (pe_op op_addU pe_int (pe_op op_mulU (pe_op op_mulU pe_int (pv 3)) (pv 5)))) (po_some (pe_op op_addU pe_int (pe_op op_mulU (pe_op op_mulU pe_int (pv 3)) (pe_op op_addU (pv 5) pe_int))))))
      (pss_cons (ps_setComp (N:=["_law_k","_law_some"]) (l:=[none,some 6]) (i:=7) rfl sc__law_free_book.nd rfl rfl ⟨rfl,by decide +kernel,by decide +kernel,by first | decide +kernel | rfl,⟨⟨rfl,Or.inl rfl,rfl⟩,True.intro⟩,by decide +kernel⟩ (fb_range1 (by rfl) M.b_range (pb_c (pv 3) pb_nil)) (fun _ _ _ _ _=>(pg_name (i:=0) (show List.Nodup (["_law_k","_law_some"]:List Str) by decide +kernel) rfl (Or.inl rfl))) (fun _ _ _ _ _=>pif_nil) (fun _ _ _ _ _=>(pe_op op_modU (pe_ix ix_seq (pv 1) (pe_op op_addU (pe_op op_mulU pe_int (pv 0)) pe_int) (fun _ _=>rfl)) (pe_op op_addU (pe_powC (by decide +kernel) (by decide) (by decide) (by decide)) pe_int))))
      (pss_cons (ps_if (pt_cmpR (op_eqU hu) (fb_cB (call_sumU rfl) (by rfl) M.b_sum bt_sum (pb_c (pv 7) pb_nil)) pe_int (nomark _)) (pss_one (ps_asg pe_int (pg_sub (pv 7) pe_int set_list))) pss_nil)
      (pss_one (ps_expr (fb_bm1 PySem.F.plainAttrs_list PySem.F.slot_list_append PySem.F.type_list_append mt_append (pv 4) (pb_c (fb_tup (pb_c (fb_cTy call_ty_tuple (by rfl) M.b_tuple bt_tuple (pb_c (pe_comp (N:=["_law_k","_law_some"]) (l:=[none,some 6]) rfl ⟨rfl,by decide +kernel,by decide +kernel,by first | decide +kernel | rfl,⟨⟨rfl,Or.inl rfl,rfl⟩,True.intro⟩,by decide +kernel⟩ (fb_range1 (by rfl) M.b_range (pb_c (pv 3) pb_nil)) (fun _ _ _ _ _=>(pg_name (i:=0) (show List.Nodup (["_law_k","_law_some"]:List Str) by decide +kernel) rfl (Or.inl rfl))) (fun _ _ _ _ _=>pif_nil) (fun _ _ _ _ _=>(pe_op op_addU pe_int (pe_op op_modU (pe_ix ix_seq (pv 1) (pe_op op_mulU pe_int (pv 0)) (fun _ _=>rfl)) (pe_powC (by decide +kernel) (by decide) (by decide) (by decide)))))) pb_nil)) (pb_c (fb_cTy call_ty_tuple (by rfl) M.b_tuple bt_tuple (pb_c (pv 7) pb_nil)) pb_nil))) pb_nil))))))))
    · exact (ps_ret (fb_cTy call_ty_tuple (by rfl) M.b_tuple bt_tuple (pb_c (pv 4) pb_nil))))) bd__law_free_book
abbrev s__law_book:Stmt:=top 48
abbrev ps__law_book:List Str:=["_law_pair","_law_start","_law_most","_law_wares"]
theorem sc__law_book:FnScope ["_law_pair","_law_start","_law_most","_law_wares","_law_free","_law_draws_here","_law_cell","_law_way","_law_shape_here","_law_book_here","_law_k","_law_j","_law_amounts"] ps__law_book (defScope s__law_book):=⟨rfl,rfl,rfl,by decide +kernel,rfl,by decide +kernel,by decide +kernel⟩
theorem bd__law_book:BdP "_law_book" s__law_book ps__law_book :=
  fun _ _ _ _ _ _ us hl=>match us,hl with | [_,_,_,_],_=>rfl
theorem fn__law_book (M:Md K mg) (D:Df K mg "_law_book" s__law_book) (G__law_shape:Fn P w K mg base CX0 "_law_shape" 2 ps__law_shape (sp__law_shape K)) (G__law_day:Fn P w K mg base CX0 "_law_day" 3 ps__law_day (sp__law_day K)) (G__law_free_book:Fn P w K mg base CX0 "_law_free_book" 1 ps__law_free_book (sp__law_free_book K)):Fn P w K mg base CX0 "_law_book" 4 ps__law_book (sp__law_book K):=D.to (fun F =>
  F.ok (k:=3) sc__law_book (fun vs _ _ _ h=>sp4_len h) (fun cdv A outer s H vs Q E hr h=>by
    have hu:=hr.units
    obtain ⟨a0,a1,a2,a3,rfl,h⟩:=h
    refine ⟨tb__law_book K,?_,rd__law_book h⟩
    refine pss_cons ?_ (pss_cons ?_ (pss_cons ?_ (pss_cons ?_ (pss_cons ?_ (pss_cons ?_ (pss_cons ?_ (pss_one ?_)))))))
    · exact (ps_asg (pv 0) (pg_tup rfl (pgs_cons (pg_name (i:=4) sc__law_book.nd rfl (Or.inl rfl)) (pgs_cons (pg_name (i:=5) sc__law_book.nd rfl (Or.inr rfl)) pgs_nil))))
    · exact (ps_if (pt_cmpR (op_eqU hu) (pv 4) pe_int (nomark _)) (pss_one (ps_ret (fb_fn G__law_free_book (hr.mono (by decide)) (by rfl) pass0 (pb_c (pe_slice sl_U (pv 5) (po_some (pv 1)) po_none) (pb_c (pv 2) (pb_c (pv 3) pb_nil)))))) pss_nil)
    · exact (ps_set (i:=6) sc__law_book.nd rfl (Or.inl rfl) (pe_ix ix_seq (pv 5) (pv 1) (fun _ _=>rfl)))
    · exact (ps_set (i:=7) sc__law_book.nd rfl (Or.inr rfl) (pe_ix ix_seq (fb_lst (pb_c pe_int (pb_c pe_int (pb_c pe_int (pb_c pe_int (pb_c pe_int (pb_c pe_int (pb_c pe_int (pb_c pe_int (pb_c pe_int (pb_c pe_int pb_nil))))))))))) (pe_op op_modU (pe_op op_divU (pv 6) pe_int) pe_int) (fun _ _=>rfl)))
    · exact (ps_set (i:=8) sc__law_book.nd rfl (Or.inr rfl) (fb_fn G__law_shape (hr.mono (by decide)) (by rfl) pass0 (pb_c (pv 6) (pb_c (pe_op op_addU pe_int (pe_op op_modU (pv 6) (pv 3))) pb_nil))))
    · exact (ps_setComp (N:=["_law_k","_law_draws_here","_law_start","_law_way","_law_shape_here"]) (l:=[none,some 5,some 1,some 7,some 8]) (i:=9) rfl sc__law_book.nd rfl rfl ⟨rfl,by decide +kernel,by decide +kernel,by first | decide +kernel | rfl,⟨⟨rfl,Or.inl rfl,rfl⟩,⟨⟨rfl,Or.inl rfl,rfl⟩,⟨⟨rfl,Or.inl rfl,rfl⟩,⟨⟨rfl,Or.inl rfl,rfl⟩,True.intro⟩⟩⟩⟩,by decide +kernel⟩ (fb_range1 (by rfl) M.b_range (pb_c (pe_op op_addU pe_int (pe_op op_modU (pe_op op_divU (pv 6) pe_int) (pv 2))) pb_nil)) (fun _ _ _ _ _=>(pg_name (i:=0) (show List.Nodup (["_law_k","_law_draws_here","_law_start","_law_way","_law_shape_here"]:List Str) by decide +kernel) rfl (Or.inl rfl))) (fun _ _ _ _ _=>pif_nil) (fun _ _ _ _ _=>(fb_fn G__law_day (hr.mono (by decide)) (by rfl) pass0 (pb_c (pe_ix ix_seq (pv 1) (pe_op op_addU (pe_op op_addU (pv 2) pe_int) (pv 0)) (fun _ _=>rfl)) (pb_c (pv 3) (pb_c (pv 4) pb_nil))))))
    · exact (ps_if (pt_cmpR (op_eqU hu) (pe_op op_modU (pe_op op_divU (pv 6) pe_int) pe_int) pe_int (nomark _)) (pss_cons (ps_set (i:=10) sc__law_book.nd rfl (Or.inl rfl) (pe_op op_modU (pe_op op_divU (pv 6) pe_int) (fb_cB (call_lenU) (by rfl) M.b_len bt_len (pb_c (pv 9) pb_nil))))
      (pss_cons (ps_set (i:=11) sc__law_book.nd rfl (Or.inl rfl) (pe_op op_modU (pe_op op_divU (pv 6) pe_int) (fb_cB (call_lenU) (by rfl) M.b_len bt_len (pb_c (pv 8) pb_nil))))
      (pss_cons (ps_set (i:=12) sc__law_book.nd rfl (Or.inl rfl) (pe_op op_addU (pe_op op_addU (pe_slice sl_U (pe_ix ix_seq (pe_ix ix_seq (pv 9) (pv 10) (fun _ _=>rfl)) pe_int (fun _ _=>rfl)) po_none (po_some (pv 11))) (fb_tup (pb_c (pe_op op_addU (pe_ix ix_seq (pe_ix ix_seq (pe_ix ix_seq (pv 9) (pv 10) (fun _ _=>rfl)) pe_int (fun _ _=>rfl)) (pv 11) (fun _ _=>rfl)) pe_int) pb_nil))) (pe_slice sl_U (pe_ix ix_seq (pe_ix ix_seq (pv 9) (pv 10) (fun _ _=>rfl)) pe_int (fun _ _=>rfl)) (po_some (pe_op op_addU (pv 11) pe_int)) po_none)))
      (pss_one (ps_asg (fb_tup (pb_c (pe_ix ix_seq (pe_ix ix_seq (pv 9) (pv 10) (fun _ _=>rfl)) pe_int (fun _ _=>rfl)) (pb_c (pv 12) pb_nil))) (pg_sub (pv 9) (pv 10) set_list)))))) pss_nil)
    · exact (ps_ret (fb_cTy call_ty_tuple (by rfl) M.b_tuple bt_tuple (pb_c (pv 9) pb_nil))))) bd__law_book
abbrev s__law_wide:Stmt:=top 49
abbrev ps__law_wide:List Str:=["_law_pair","_law_start","_law_most"]
theorem sc__law_wide:FnScope ["_law_pair","_law_start","_law_most"] ps__law_wide (defScope s__law_wide):=⟨rfl,rfl,rfl,by decide +kernel,rfl,by decide +kernel,by decide +kernel⟩
theorem bd__law_wide:BdP "_law_wide" s__law_wide ps__law_wide :=
  fun _ _ _ _ _ _ us hl=>match us,hl with | [_,_,_],_=>rfl
theorem fn__law_wide (M:Md K mg) (D:Df K mg "_law_wide" s__law_wide) (G__law_book:Fn P w K mg base CX0 "_law_book" 4 ps__law_book (sp__law_book K)):Fn P w K mg base CX0 "_law_wide" 5 ps__law_wide (sp__law_wide K):=D.to (fun F =>
  F.ok (k:=4) sc__law_wide (fun vs _ _ _ h=>sp3_len h) (fun cdv A outer s H vs Q E hr h=>by
    have hu:=hr.units
    obtain ⟨a0,a1,a2,rfl,h⟩:=h
    refine ⟨tb__law_wide K,?_,rd__law_wide h⟩
    refine pss_cons ?_ (pss_one ?_)
    · exact (ps_if (PW.pt (pw_or (pt_cmpR (op_eqU hu) (pe_ix ix_seq (pv 0) pe_int (fun _ _=>rfl)) pe_int (nomark _)) (pw_or1 (pt_cmpR (op_eqU hu) (pe_op op_modU (pe_op op_divU (pe_ix ix_seq (pe_ix ix_seq (pv 0) pe_int (fun _ _=>rfl)) (pv 1) (fun _ _=>rfl)) (pe_powC (by decide +kernel) (by decide) (by decide) (by decide))) pe_int) pe_int (nomark _))))) (pss_one (ps_ret (fb_fn G__law_book (hr.mono (by decide)) (by rfl) pass0 (pb_c (pv 0) (pb_c (pv 1) (pb_c (pv 2) (pb_c pe_int pb_nil))))))) pss_nil)
    · exact (ps_ret (fb_fn G__law_book (hr.mono (by decide)) (by rfl) pass0 (pb_c (pv 0) (pb_c (pv 1) (pb_c pe_int (pb_c pe_int pb_nil)))))))) bd__law_wide
abbrev s__law_cost:Stmt:=top 50
abbrev ps__law_cost:List Str:=["_law_book_here","_law_day_here","_law_other"]
theorem sc__law_cost:FnScope ["_law_book_here","_law_day_here","_law_other"] ps__law_cost (defScope s__law_cost):=⟨rfl,rfl,rfl,by decide +kernel,rfl,by decide +kernel,by decide +kernel⟩
theorem bd__law_cost:BdP "_law_cost" s__law_cost ps__law_cost :=
  fun _ _ _ _ _ _ us hl=>match us,hl with | [_,_,_],_=>rfl
theorem fn__law_cost (M:Md K mg) (D:Df K mg "_law_cost" s__law_cost)  : Fn P w K mg base CX0 "_law_cost" 1 ps__law_cost (sp__law_cost K):=D.to (fun F =>
  F.ok (k:=0) sc__law_cost (fun vs _ _ _ h=>sp3_len h) (fun cdv A outer s H vs Q E hr h=>by
    have hu:=hr.units
    obtain ⟨a0,a1,a2,rfl,h⟩:=h
    refine ⟨tb__law_cost K,?_,rd__law_cost h⟩
    refine pss_one ?_
    exact (ps_ret (fb_cB (call_sumU rfl) (by rfl) M.b_sum bt_sum (pb_c (pe_comp (N:=["_law_price_here","_law_amount"]) (l:=[none,none]) rfl ⟨rfl,by decide +kernel,by decide +kernel,by first | decide +kernel | rfl,  True.intro,by decide +kernel⟩ (fb_zip2 (by rfl) M.b_zip (pb_c (pe_ix ix_seq (pe_ix ix_seq (pv 0) (pv 1) (fun _ _=>rfl)) pe_int (fun _ _=>rfl)) (pb_c (pe_ix ix_seq (pe_ix ix_seq (pv 0) (pv 2) (fun _ _=>rfl)) pe_int (fun _ _=>rfl)) pb_nil))) (fun _ _ _ _ _=>(pg_tup rfl (pgs_cons (pg_name (i:=0) (show List.Nodup (["_law_price_here","_law_amount"]:List Str) by decide +kernel) rfl (Or.inl rfl)) (pgs_cons (pg_name (i:=1) (show List.Nodup (["_law_price_here","_law_amount"]:List Str) by decide +kernel) rfl (Or.inl rfl)) pgs_nil)))) (fun _ _ _ _ _=>pif_nil) (fun _ _ _ _ _=>(pe_op op_mulU (pv 0) (pv 1)))) pb_nil))))) bd__law_cost
abbrev s__law_days:Stmt:=top 51
abbrev ps__law_days:List Str:=["_law_found","_law_many"]
theorem sc__law_days:FnScope ["_law_found","_law_many","_law_day_here"] ps__law_days (defScope s__law_days):=⟨rfl,rfl,rfl,by decide +kernel,rfl,by decide +kernel,by decide +kernel⟩
theorem bd__law_days:BdP "_law_days" s__law_days ps__law_days :=
  fun _ _ _ _ _ _ us hl=>match us,hl with | [_,_],_=>rfl
theorem fn__law_days (M:Md K mg) (D:Df K mg "_law_days" s__law_days) (G__law_int:Fn P w K mg base CX0 "_law_int" 1 ps__law_int (sp__law_int K)):Fn P w K mg base CX0 "_law_days" 2 ps__law_days (sp__law_days K):=D.to (fun F =>
  F.ok (k:=1) sc__law_days (fun vs _ _ _ h=>sp2_len h) (fun cdv A outer s H vs Q E hr h=>by
    have hu:=hr.units
    obtain ⟨a0,a1,rfl,h⟩:=h
    refine ⟨tb__law_days K,?_,rd__law_days h⟩
    refine pss_cons ?_ (pss_cons ?_ (pss_one ?_))
    · exact (ps_if (PW.pt (pw_or (pt_not (pt_tru (fb_cB call_isinst (by rfl) M.b_isinstance bt_isinstance (pb_c (pv 0) (pb_c (pe_gty M.b_list bt_list) pb_nil))) (fun _=>rfl))) (pw_or1 (pt_cmpR (op_neU hu) (fb_cB (call_lenU) (by rfl) M.b_len bt_len (pb_c (pv 0) pb_nil)) (fb_cB call_lenS (by rfl) M.b_len bt_len (pb_c (fb_cTy (call_ty_set rfl) (by rfl) M.b_set bt_set (pb_c (pv 0) pb_nil)) pb_nil)) (nomark _))))) (pss_one (ps_ret pe_bl)) pss_nil)
    · exact (ps_for PassesOwn.never rfl (pi_seq (pv 0)) (pg_name (i:=2) sc__law_days.nd rfl (Or.inl rfl)) (pss_one (ps_if (PW.pt (pw_or (pt_not (pt_tru (fb_fn G__law_int (hr.mono (by decide)) (by rfl) pass0 (pb_c (pv 2) pb_nil)) (fun _=>rfl))) (pw_or1 (pt_not (pt_chain op_le op_lt pe_int (pv 2) (pv 1)))))) (pss_one (ps_ret pe_bl)) pss_nil)))
    · exact (ps_ret pe_bl))) bd__law_days
abbrev s__law_is_ring:Stmt:=top 52
abbrev ps__law_is_ring:List Str:=["_law_book_here","_law_share","_law_ring"]
theorem sc__law_is_ring:FnScope ["_law_book_here","_law_share","_law_ring","_law_better","_law_k","_law_day_here","_law_gap"] ps__law_is_ring (defScope s__law_is_ring):=⟨rfl,rfl,rfl,by decide +kernel,rfl,by decide +kernel,by decide +kernel⟩
theorem bd__law_is_ring:BdP "_law_is_ring" s__law_is_ring ps__law_is_ring :=
  fun _ _ _ _ _ _ us hl=>match us,hl with | [_,_,_],_=>rfl
theorem fn__law_is_ring (M:Md K mg) (D:Df K mg "_law_is_ring" s__law_is_ring) (G__law_cost:Fn P w K mg base CX0 "_law_cost" 1 ps__law_cost (sp__law_cost K)) (G__law_days:Fn P w K mg base CX0 "_law_days" 2 ps__law_days (sp__law_days K)):Fn P w K mg base CX0 "_law_is_ring" 3 ps__law_is_ring (sp__law_is_ring K):=D.to (fun F =>
  F.ok (k:=2) sc__law_is_ring (fun vs _ _ _ h=>sp3_len h) (fun cdv A outer s H vs Q E hr h=>by
    have hu:=hr.units
    obtain ⟨a0,a1,a2,rfl,h⟩:=h
    refine ⟨tb__law_is_ring K,?_,rd__law_is_ring h⟩
    refine pss_cons ?_ (pss_cons ?_ (pss_cons ?_ (pss_one ?_)))
    · exact (ps_if (PW.pt (pw_or (pt_not (pt_tru (fb_fn G__law_days (hr.mono (by decide)) (by rfl) pass0 (pb_c (pv 2) (pb_c (fb_cB (call_lenU) (by rfl) M.b_len bt_len (pb_c (pv 0) pb_nil)) pb_nil))) (fun _=>rfl))) (pw_or1 (pt_cmpR op_lt (fb_cB (call_lenU) (by rfl) M.b_len bt_len (pb_c (pv 2) pb_nil)) pe_int (nomark _))))) (pss_one (ps_ret pe_bl)) pss_nil)
    · exact (ps_set (i:=3) sc__law_is_ring.nd rfl (Or.inl rfl) pe_bl)
    · exact (ps_for PassesOwn.never rfl (fb_range1 (by rfl) M.b_range (pb_c (fb_cB (call_lenU) (by rfl) M.b_len bt_len (pb_c (pv 2) pb_nil)) pb_nil)) (pg_name (i:=4) sc__law_is_ring.nd rfl (Or.inl rfl)) (pss_cons (ps_set (i:=5) sc__law_is_ring.nd rfl (Or.inl rfl) (pe_ix ix_seq (pv 2) (pv 4) (fun _ _=>rfl)))
      (pss_cons (ps_set (i:=6) sc__law_is_ring.nd rfl (Or.inl rfl) (pe_op op_subU (pe_op op_mulU (pe_ix ix_seq (pv 1) pe_int (fun _ _=>rfl)) (fb_fn G__law_cost (hr.mono (by decide)) (by rfl) pass0 (pb_c (pv 0) (pb_c (pv 5) (pb_c (pe_ix ix_seq (pv 2) (pe_op op_modU (pe_op op_addU (pv 4) pe_int) (fb_cB (call_lenU) (by rfl) M.b_len bt_len (pb_c (pv 2) pb_nil))) (fun _ _=>rfl)) pb_nil))))) (pe_op op_mulU (pe_ix ix_seq (pv 1) pe_int (fun _ _=>rfl)) (fb_fn G__law_cost (hr.mono (by decide)) (by rfl) pass0 (pb_c (pv 0) (pb_c (pv 5) (pb_c (pv 5) pb_nil)))))))
      (pss_cons (ps_if (pt_cmpR op_gt (pv 6) pe_int (nomark _)) (pss_one (ps_ret pe_bl)) pss_nil)
      (pss_one (ps_set (i:=3) sc__law_is_ring.nd rfl (Or.inl rfl) (pe_or (pv 3) (pe_one (pe_cmpR op_lt (pv 6) pe_int (nomark _))))))))))
    · exact (ps_ret (pv 3)))) bd__law_is_ring
abbrev s__law_ints:Stmt:=top 53
abbrev ps__law_ints:List Str:=["_law_found","_law_many"]
theorem sc__law_ints:FnScope ["_law_found","_law_many"] ps__law_ints (defScope s__law_ints):=⟨rfl,rfl,rfl,by decide +kernel,rfl,by decide +kernel,by decide +kernel⟩
theorem bd__law_ints:BdP "_law_ints" s__law_ints ps__law_ints :=
  fun _ _ _ _ _ _ us hl=>match us,hl with | [_,_],_=>rfl
theorem fn__law_ints (M:Md K mg) (D:Df K mg "_law_ints" s__law_ints) (G__law_int:Fn P w K mg base CX0 "_law_int" 1 ps__law_int (sp__law_int K)):Fn P w K mg base CX0 "_law_ints" 2 ps__law_ints (sp__law_ints K):=D.to (fun F =>
  F.ok (k:=1) sc__law_ints (fun vs _ _ _ h=>sp2_len h) (fun cdv A outer s H vs Q E hr h=>by
    have hu:=hr.units
    obtain ⟨a0,a1,rfl,h⟩:=h
    refine ⟨tb__law_ints K,?_,rd__law_ints h⟩
    refine pss_one ?_
    exact (ps_ret (pe_and (fb_cB call_isinst (by rfl) M.b_isinstance bt_isinstance (pb_c (pv 0) (pb_c (pe_gty M.b_list bt_list) pb_nil))) (pe_and (pe_cmpR (op_eqU hu) (fb_cB (call_lenU) (by rfl) M.b_len bt_len (pb_c (pv 0) pb_nil)) (pv 1) (nomark _)) (pe_one (pe_cmpR (op_eqU hu) (fb_cB (call_lenU) (by rfl) M.b_len bt_len (pb_c (pe_comp (N:=["_law_one"]) (l:=[none]) rfl ⟨rfl,by decide +kernel,by decide +kernel,by first | decide +kernel | rfl,  True.intro,by decide +kernel⟩ (pi_seq (pv 0)) (fun _ _ _ _ _=>(pg_name (i:=0) (show List.Nodup (["_law_one"]:List Str) by decide +kernel) rfl (Or.inl rfl))) (fun _ _ _ _ _=>(pif_one (pt_tru (fb_fn G__law_int (hr.mono (by decide)) (by rfl) pass0 (pb_c (pv 0) pb_nil)) (fun _=>rfl)))) (fun _ _ _ _ _=>(pv 0))) pb_nil)) (pv 1) (nomark _)))))))) bd__law_ints
abbrev s__law_is_taste:Stmt:=top 54
abbrev ps__law_is_taste:List Str:=["_law_book_here","_law_share","_law_worths","_law_weights"]
theorem sc__law_is_taste:FnScope ["_law_book_here","_law_share","_law_worths","_law_weights","_law_day_here","_law_other","_law_gap"] ps__law_is_taste (defScope s__law_is_taste):=⟨rfl,rfl,rfl,by decide +kernel,rfl,by decide +kernel,by decide +kernel⟩
theorem bd__law_is_taste:BdP "_law_is_taste" s__law_is_taste ps__law_is_taste :=
  fun _ _ _ _ _ _ us hl=>match us,hl with | [_,_,_,_],_=>rfl
theorem fn__law_is_taste (M:Md K mg) (D:Df K mg "_law_is_taste" s__law_is_taste) (G__law_cost:Fn P w K mg base CX0 "_law_cost" 1 ps__law_cost (sp__law_cost K)) (G__law_ints:Fn P w K mg base CX0 "_law_ints" 2 ps__law_ints (sp__law_ints K)):Fn P w K mg base CX0 "_law_is_taste" 3 ps__law_is_taste (sp__law_is_taste K):=D.to (fun F =>
  F.ok (k:=2) sc__law_is_taste (fun vs _ _ _ h=>sp4_len h) (fun cdv A outer s H vs Q E hr h=>by
    have hu:=hr.units
    obtain ⟨a0,a1,a2,a3,rfl,h⟩:=h
    refine ⟨tb__law_is_taste K,?_,rd__law_is_taste h⟩
    refine pss_cons ?_ (pss_cons ?_ (pss_one ?_))
    · exact (ps_if (PW.pt (pw_or (pt_not (pt_tru (fb_fn G__law_ints (hr.mono (by decide)) (by rfl) pass0 (pb_c (pv 2) (pb_c (fb_cB (call_lenU) (by rfl) M.b_len bt_len (pb_c (pv 0) pb_nil)) pb_nil))) (fun _=>rfl))) (pw_or (pt_not (pt_tru (fb_fn G__law_ints (hr.mono (by decide)) (by rfl) pass0 (pb_c (pv 3) (pb_c (fb_cB (call_lenU) (by rfl) M.b_len bt_len (pb_c (pv 0) pb_nil)) pb_nil))) (fun _=>rfl))) (pw_or1 (pt_cmpR op_lt (fb_cB (call_minU rfl) (by rfl) M.b_min bt_min (pb_c (pv 3) pb_nil)) pe_int (nomark _)))))) (pss_one (ps_ret pe_bl)) pss_nil)
    · exact (ps_for PassesOwn.never rfl (fb_range1 (by rfl) M.b_range (pb_c (fb_cB (call_lenU) (by rfl) M.b_len bt_len (pb_c (pv 0) pb_nil)) pb_nil)) (pg_name (i:=4) sc__law_is_taste.nd rfl (Or.inl rfl)) (pss_one (ps_for PassesOwn.never rfl (fb_range1 (by rfl) M.b_range (pb_c (fb_cB (call_lenU) (by rfl) M.b_len bt_len (pb_c (pv 0) pb_nil)) pb_nil)) (pg_name (i:=5) sc__law_is_taste.nd rfl (Or.inl rfl)) (pss_cons (ps_set (i:=6) sc__law_is_taste.nd rfl (Or.inl rfl) (pe_op op_subU (pe_op op_mulU (pe_ix ix_seq (pv 1) pe_int (fun _ _=>rfl)) (fb_fn G__law_cost (hr.mono (by decide)) (by rfl) pass0 (pb_c (pv 0) (pb_c (pv 4) (pb_c (pv 5) pb_nil))))) (pe_op op_mulU (pe_ix ix_seq (pv 1) pe_int (fun _ _=>rfl)) (fb_fn G__law_cost (hr.mono (by decide)) (by rfl) pass0 (pb_c (pv 0) (pb_c (pv 4) (pb_c (pv 4) pb_nil)))))))
      (pss_one (ps_if (PW.pt (pw_and (pt_cmpR (op_neU hu) (pv 5) (pv 4) (nomark _)) (pw_and1 (pt_cmpR op_gt (pe_ix ix_seq (pv 2) (pv 5) (fun _ _=>rfl)) (pe_op op_addU (pe_ix ix_seq (pv 2) (pv 4) (fun _ _=>rfl)) (pe_op op_mulU (pe_ix ix_seq (pv 3) (pv 4) (fun _ _=>rfl)) (pv 6))) (nomark _))))) (pss_one (ps_ret pe_bl)) pss_nil))))))
    · exact (ps_ret pe_bl))) bd__law_is_taste
abbrev s__law_kind_of:Stmt:=top 55
abbrev ps__law_kind_of:List Str:=["_law_found","_law_book_here","_law_share"]
theorem sc__law_kind_of:FnScope ["_law_found","_law_book_here","_law_share"] ps__law_kind_of (defScope s__law_kind_of):=⟨rfl,rfl,rfl,by decide +kernel,rfl,by decide +kernel,by decide +kernel⟩
theorem bd__law_kind_of:BdP "_law_kind_of" s__law_kind_of ps__law_kind_of :=
  fun _ _ _ _ _ _ us hl=>match us,hl with | [_,_,_],_=>rfl
theorem fn__law_kind_of (M:Md K mg) (D:Df K mg "_law_kind_of" s__law_kind_of) (G__law_is_ring:Fn P w K mg base CX0 "_law_is_ring" 3 ps__law_is_ring (sp__law_is_ring K)) (G__law_is_taste:Fn P w K mg base CX0 "_law_is_taste" 3 ps__law_is_taste (sp__law_is_taste K)):Fn P w K mg base CX0 "_law_kind_of" 4 ps__law_kind_of (sp__law_kind_of K):=D.to (fun F =>
  F.ok (k:=3) sc__law_kind_of (fun vs _ _ _ h=>sp3_len h) (fun cdv A outer s H vs Q E hr h=>by
    have hu:=hr.units
    obtain ⟨a0,a1,a2,rfl,h⟩:=h
    refine ⟨tb__law_kind_of K,?_,rd__law_kind_of h⟩
    refine pss_cons ?_ (pss_cons ?_ (pss_cons ?_ (pss_one ?_)))
    · exact (ps_if (PW.pt (pw_or (pt_not (pt_tru (fb_cB call_isinst (by rfl) M.b_isinstance bt_isinstance (pb_c (pv 0) (pb_c (pe_gty M.b_tuple bt_tuple) pb_nil))) (fun _=>rfl))) (pw_or1 (pt_cmpR op_lt (fb_cB (call_lenU) (by rfl) M.b_len bt_len (pb_c (pv 0) pb_nil)) pe_int (nomark _))))) (pss_one (ps_ret pe_str)) pss_nil)
    · exact (ps_if (PW.pt (pw_and (pt_cmpR (op_eqU hu) (pe_ix ix_seq (pv 0) pe_int (fun _ _=>rfl)) pe_str (nomark _)) (pw_and (pt_cmpR (op_eqU hu) (fb_cB (call_lenU) (by rfl) M.b_len bt_len (pb_c (pv 0) pb_nil)) pe_int (nomark _)) (pw_and1 (pt_tru (fb_fn G__law_is_taste (hr.mono (by decide)) (by rfl) pass0 (pb_c (pv 1) (pb_c (pv 2) (pb_c (pe_ix ix_seq (pv 0) pe_int (fun _ _=>rfl)) (pb_c (pe_ix ix_seq (pv 0) pe_int (fun _ _=>rfl)) pb_nil))))) (fun _=>rfl)))))) (pss_one (ps_ret pe_str)) pss_nil)
    · exact (ps_if (PW.pt (pw_and (pt_cmpR (op_eqU hu) (pe_ix ix_seq (pv 0) pe_int (fun _ _=>rfl)) pe_str (nomark _)) (pw_and (pt_cmpR (op_eqU hu) (fb_cB (call_lenU) (by rfl) M.b_len bt_len (pb_c (pv 0) pb_nil)) pe_int (nomark _)) (pw_and1 (pt_tru (fb_fn G__law_is_ring (hr.mono (by decide)) (by rfl) pass0 (pb_c (pv 1) (pb_c (pv 2) (pb_c (pe_ix ix_seq (pv 0) pe_int (fun _ _=>rfl)) pb_nil)))) (fun _=>rfl)))))) (pss_one (ps_ret pe_str)) pss_nil)
    · exact (ps_ret pe_str))) bd__law_kind_of
abbrev s__law_left:Stmt:=top 56
abbrev ps__law_left:List Str:=["_law_book_here","_law_days_here"]
theorem sc__law_left:FnScope ["_law_book_here","_law_days_here"] ps__law_left (defScope s__law_left):=⟨rfl,rfl,rfl,by decide +kernel,rfl,by decide +kernel,by decide +kernel⟩
theorem bd__law_left:BdP "_law_left" s__law_left ps__law_left :=
  fun _ _ _ _ _ _ us hl=>match us,hl with | [_,_],_=>rfl
theorem fn__law_left (M:Md K mg) (D:Df K mg "_law_left" s__law_left)  : Fn P w K mg base CX0 "_law_left" 1 ps__law_left (sp__law_left K):=D.to (fun F =>
  F.ok (k:=0) sc__law_left (fun vs _ _ _ h=>sp2_len h) (fun cdv A outer s H vs Q E hr h=>by
    have hu:=hr.units
    obtain ⟨a0,a1,rfl,h⟩:=h
    refine ⟨tb__law_left K,?_,rd__law_left h⟩
    refine pss_one ?_
    exact (ps_ret (fb_cTy call_ty_tuple (by rfl) M.b_tuple bt_tuple (pb_c (pe_comp (N:=["_law_day_here","_law_book_here","_law_days_here"]) (l:=[none,some 0,some 1]) rfl ⟨rfl,by decide +kernel,by decide +kernel,by first | decide +kernel | rfl,⟨⟨rfl,Or.inl rfl,rfl⟩,⟨⟨rfl,Or.inl rfl,rfl⟩,True.intro⟩⟩,by decide +kernel⟩ (fb_range1 (by rfl) M.b_range (pb_c (fb_cB (call_lenU) (by rfl) M.b_len bt_len (pb_c (pv 0) pb_nil)) pb_nil)) (fun _ _ _ _ _=>(pg_name (i:=0) (show List.Nodup (["_law_day_here","_law_book_here","_law_days_here"]:List Str) by decide +kernel) rfl (Or.inl rfl))) (fun _ _ _ _ _=>(pif_one (pt_cmpR op_notInU (pv 0) (pv 2) (by with_unfolding_all rfl)))) (fun _ _ _ _ _=>(pe_ix ix_seq (pv 1) (pv 0) (fun _ _=>rfl)))) pb_nil))))) bd__law_left
abbrev s__law_asked:Stmt:=top 57
abbrev ps__law_asked:List Str:=["_law_book_here","_law_days_here"]
theorem sc__law_asked:FnScope ["_law_book_here","_law_days_here","_law_rest"] ps__law_asked (defScope s__law_asked):=⟨rfl,rfl,rfl,by decide +kernel,rfl,by decide +kernel,by decide +kernel⟩
theorem bd__law_asked:BdP "_law_asked" s__law_asked ps__law_asked :=
  fun _ _ _ _ _ _ us hl=>match us,hl with | [_,_],_=>rfl
theorem fn__law_asked (M:Md K mg) (D:Df K mg "_law_asked" s__law_asked) (G_taste_of:FnD P w K mg base CX0 "taste_of" 6 ps_taste_of (sp_taste_of K mg)) (G__law_kind_of:Fn P w K mg base CX0 "_law_kind_of" 4 ps__law_kind_of (sp__law_kind_of K)) (G__law_left:Fn P w K mg base CX0 "_law_left" 1 ps__law_left (sp__law_left K)):Fn P w K mg base CX0 "_law_asked" 7 ps__law_asked (sp__law_asked K mg):=D.to (fun F =>
  F.ok (k:=6) sc__law_asked (fun vs _ _ _ h=>sp2_len h) (fun cdv A outer s H vs Q E hr h=>by
    have hu:=hr.units
    obtain ⟨a0,a1,rfl,h⟩:=h
    refine ⟨tb__law_asked K mg,?_,rd__law_asked M h⟩
    refine pss_cons ?_ (pss_one ?_)
    · exact (ps_set (i:=2) sc__law_asked.nd rfl (Or.inl rfl) (fb_fn G__law_left (hr.mono (by decide)) (by rfl) pass0 (pb_c (pv 0) (pb_c (pv 1) pb_nil))))
    · exact (ps_ret (fb_fn G__law_kind_of (hr.mono (by decide)) (by rfl) pass0 (pb_c (fb_fnD G_taste_of (hr.mono (by decide)) (by rfl) pass0 (pb_c (pv 2) pb_nil)) (pb_c (pv 2) (pb_c (fb_tup (pb_c pe_int (pb_c pe_int pb_nil))) pb_nil))))))) bd__law_asked
abbrev s__law_drawn:Stmt:=top 58
abbrev ps__law_drawn:List Str:=["_law_cell","_law_many","_law_most"]
theorem sc__law_drawn:FnScope ["_law_cell","_law_many","_law_most","_law_days_here","_law_k","_law_day_here"] ps__law_drawn (defScope s__law_drawn):=⟨rfl,rfl,rfl,by decide +kernel,rfl,by decide +kernel,by decide +kernel⟩
theorem bd__law_drawn:BdP "_law_drawn" s__law_drawn ps__law_drawn :=
  fun _ _ _ _ _ _ us hl=>match us,hl with | [_,_,_],_=>rfl
theorem fn__law_drawn (M:Md K mg) (D:Df K mg "_law_drawn" s__law_drawn)  : Fn P w K mg base CX0 "_law_drawn" 1 ps__law_drawn (sp__law_drawn K):=D.to (fun F =>
  F.ok (k:=0) sc__law_drawn (fun vs _ _ _ h=>sp3_len h) (fun cdv A outer s H vs Q E hr h=>by
    have hu:=hr.units
    obtain ⟨a0,a1,a2,rfl,h⟩:=h
    refine ⟨tb__law_drawn K,?_,rd__law_drawn h⟩
    refine pss_cons ?_ (pss_cons ?_ (pss_one ?_))
    · exact (ps_set (i:=3) sc__law_drawn.nd rfl (Or.inl rfl) (fb_lst pb_nil))
    · exact (ps_for PassesOwn.never rfl (fb_range1 (by rfl) M.b_range (pb_c (pv 2) pb_nil)) (pg_name (i:=4) sc__law_drawn.nd rfl (Or.inl rfl)) (pss_cons (ps_set (i:=5) sc__law_drawn.nd rfl (Or.inl rfl) (pe_op op_modU (pe_op op_shrU (pv 0) (pe_op op_mulU pe_int (pv 4))) (pv 1)))
      (pss_one (ps_if (pt_cmpR op_notInU (pv 5) (pv 3) (by with_unfolding_all rfl)) (pss_one (ps_expr (fb_bm1 PySem.F.plainAttrs_list PySem.F.slot_list_append PySem.F.type_list_append mt_append (pv 3) (pb_c (pv 5) pb_nil)))) pss_nil))))
    · exact (ps_ret (fb_cB (call_sortedL rfl) (by rfl) M.b_sorted bt_sorted (pb_c (pv 3) pb_nil))))) bd__law_drawn
abbrev s_law:Stmt:=top 59
abbrev ps_law:List Str:=["_law_script"]
theorem sc_law:FnScope ["_law_script","_law_pair","_law_book_here","_law_found","_law_held","_law_some"] ps_law (defScope s_law):=⟨rfl,rfl,rfl,by decide +kernel,rfl,by decide +kernel,by decide +kernel⟩
theorem fok_law (M:Md K mg) {f:Addr} {fd:FuncData} (F:Fun K "law" "law" s_law f fd) (G_fewest:Fn P w K mg base CX0 "fewest" 7 ps_fewest (sp_fewest K mg)) (G__law_draws:Fn P w K mg base CX0 "_law_draws" 2 ps__law_draws (sp__law_draws K)) (G__law_wide:Fn P w K mg base CX0 "_law_wide" 5 ps__law_wide (sp__law_wide K)) (G__law_days:Fn P w K mg base CX0 "_law_days" 2 ps__law_days (sp__law_days K)) (G__law_asked:Fn P w K mg base CX0 "_law_asked" 7 ps__law_asked (sp__law_asked K mg)) (G__law_drawn:Fn P w K mg base CX0 "_law_drawn" 1 ps__law_drawn (sp__law_drawn K)):FnOk P w K mg base CX0 8 f fd ps_law (sp_law K mg) :=
  F.ok (k:=7) sc_law (fun vs _ _ _ h=>sp1_len h) (fun cdv A outer s H vs Q E hr h=>by
    have hu:=hr.units
    obtain ⟨a0,rfl,h⟩:=h
    refine ⟨tb_law K mg,?_,rd_law M h⟩
    refine pss_cons ?_ (pss_cons ?_ (pss_cons ?_ (pss_cons ?_ (pss_cons ?_ (pss_cons ?_ (pss_cons ?_ (pss_cons ?_ (pss_one ?_))))))))
    · exact (ps_set (i:=1) sc_law.nd rfl (Or.inl rfl) (fb_fn G__law_draws (hr.mono (by decide)) (by rfl) pass0 (pb_c (pv 0) (pb_c pe_int pb_nil))))
    · exact (ps_set (i:=2) sc_law.nd rfl (Or.inl rfl) (fb_fn G__law_wide (hr.mono (by decide)) (by rfl) pass0 (pb_c (pv 1) (pb_c pe_int (pb_c pe_int pb_nil)))))
    · exact (ps_set (i:=3) sc_law.nd rfl (Or.inl rfl) (fb_fn G_fewest (hr.mono (by decide)) (by rfl) pass0 (pb_c (pv 2) pb_nil)))
    · exact (ps_if (PW.pt (pw_or (pt_not (pt_tru (fb_fn G__law_days (hr.mono (by decide)) (by rfl) pass0 (pb_c (pv 3) (pb_c (fb_cB (call_lenU) (by rfl) M.b_len bt_len (pb_c (pv 2) pb_nil)) pb_nil))) (fun _=>rfl))) (pw_or (pt_cmpR (op_neU hu) (pv 3) (fb_cB (call_sortedL rfl) (by rfl) M.b_sorted bt_sorted (pb_c (pv 3) pb_nil)) (nomark _)) (pw_or1 (pt_cmpR op_ge (fb_cB (call_lenU) (by rfl) M.b_len bt_len (pb_c (pv 3) pb_nil)) (fb_cB (call_lenU) (by rfl) M.b_len bt_len (pb_c (pv 2) pb_nil)) (nomark _)))))) (pss_one (ps_ret pe_bl)) pss_nil)
    · exact (ps_if (pt_cmpR (op_neU hu) (fb_fn G__law_asked (hr.mono (by decide)) (by rfl) pass0 (pb_c (pv 2) (pb_c (pv 3) pb_nil))) pe_str (nomark _)) (pss_one (ps_ret pe_bl)) pss_nil)
    · exact (ps_set (i:=4) sc_law.nd rfl (Or.inl rfl) (fb_cTy call_ty_list (by rfl) M.b_list bt_list (pb_c (pv 3) pb_nil)))
    · exact (ps_for PassesOwn.never rfl (pi_seq (fb_lst (pb_c (fb_fn G__law_drawn (hr.mono (by decide)) (by rfl) pass0 (pb_c (pe_ix ix_seq (pe_ix ix_seq (pv 1) pe_int (fun _ _=>rfl)) pe_int (fun _ _=>rfl)) (pb_c (fb_cB (call_lenU) (by rfl) M.b_len bt_len (pb_c (pv 2) pb_nil)) (pb_c (fb_cB (call_lenU) (by rfl) M.b_len bt_len (pb_c (pv 4) pb_nil)) pb_nil)))) (pb_c (fb_lst pb_nil) pb_nil)))) (pg_name (i:=5) sc_law.nd rfl (Or.inl rfl)) (pss_one (ps_if (PW.pt (pw_or (pt_cmpR (op_ltW (Nat.lt_of_le_of_lt (Nat.le_add_right _ 64) hu)) (fb_cB (call_lenU) (by rfl) M.b_len bt_len (pb_c (pv 5) pb_nil)) (fb_cB (call_lenU) (by rfl) M.b_len bt_len (pb_c (pv 4) pb_nil)) (nomark _)) (pw_or1 (PW.pt (pw_and (pt_cmpR (op_eqU hu) (fb_cB (call_lenU) (by rfl) M.b_len bt_len (pb_c (pv 5) pb_nil)) (fb_cB (call_lenU) (by rfl) M.b_len bt_len (pb_c (pv 4) pb_nil)) (nomark _)) (pw_and1 (pt_cmpR (op_ltW (Nat.lt_of_le_of_lt (Nat.le_add_right _ 64) hu)) (pv 5) (pv 4) (nomark _)))))))) (pss_one (ps_if (pt_cmpR (op_neU hu) (fb_fn G__law_asked (hr.mono (by decide)) (by rfl) pass0 (pb_c (pv 2) (pb_c (pv 5) pb_nil))) pe_str (nomark _)) (pss_one (ps_ret pe_bl)) pss_nil)) pss_nil)))
    · exact (ps_expr (fb_bm1 PySem.F.plainAttrs_list PySem.F.slot_list_append PySem.F.type_list_append mt_append (pv 3) (pb_c (pe_un un_neg pe_int) pb_nil)))
    · exact (ps_ret (pe_cmpR (op_eqU hu) (fb_fn G_fewest (hr.mono (by decide)) (by rfl) pass0 (pb_c (pv 2) pb_nil)) (pv 4) (nomark _))))
theorem bd_law:BdP "law" s_law ps_law :=
  fun _ _ _ _ _ _ us hl=>match us,hl with | [_],_=>rfl
end
end K62
open K62
open PySem.Challenge renaming pw_tastesbook_k62_whole_fewest → PW9
/-! no twins of the opening's big constants: these names are taken (the compiled file would be above 64 MiB) -/
def PySem.W.Fast.tw13494779841425415664:Unit:=()
def PySem.W.Fast.tw2870044769285384326:Unit:=()
def PySem.W.Fast.tw11630087199036189643:Unit:=()
def PySem.W.Fast.tw6518612568805142229:Unit:=()
def PySem.W.Fast.tw2824220037086973836:Unit:=()
def PySem.W.Fast.tw9031366952977575517:Unit:=()
def PySem.W.Fast.tw11318099780509097162:Unit:=()
open PySem PySem.W PyProof.Rows L2
set_option maxRecDepth 100000 in
set_option maxHeartbeats 0 in
theorem PySem.Challenge.cw_tastesbook_k62_whole_fewest_holds : PySem.Challenge.rw_tastesbook_k62_whole_fewest.Holds := by
  w_on; o_law; k_head; (case hw=>w_witness2)
  k_fill
  refine L2.walk_fn (l:=PySem.Challenge.rw_tastesbook_k62_whole_fewest) (x:="_law_script") 8 rfl rfl (by decide) (fun w h Y=>PySem.W.kIn_of Y) ?F
  case F =>
    intro w mg h KX G
    have D_check_day:Df (KOf KX) mg "check_day" s_check_day:=by dsimp only [KOf]; refine' df_mk KX G ?a ?l ?c ?k; case a|l|c|k=>k_is
    have D_cost_at:Df (KOf KX) mg "cost_at" s_cost_at:=by dsimp only [KOf]; refine' df_mk KX G ?a ?l ?c ?k; case a|l|c|k=>k_is
    have D_cost:Df (KOf KX) mg "cost" s_cost:=by dsimp only [KOf]; refine' df_mk KX G ?a ?l ?c ?k; case a|l|c|k=>k_is
    have D_purse:Df (KOf KX) mg "purse" s_purse:=by dsimp only [KOf]; refine' df_mk KX G ?a ?l ?c ?k; case a|l|c|k=>k_is
    have D_mark_of:Df (KOf KX) mg "mark_of" s_mark_of:=by dsimp only [KOf]; refine' df_mk KX G ?a ?l ?c ?k; case a|l|c|k=>k_is
    have D_at_once:Df (KOf KX) mg "at_once" s_at_once:=by dsimp only [KOf]; refine' df_mk KX G ?a ?l ?c ?k; case a|l|c|k=>k_is
    have D_marks_from:Df (KOf KX) mg "marks_from" s_marks_from:=by dsimp only [KOf]; refine' df_mk KX G ?a ?l ?c ?k; case a|l|c|k=>k_is
    have D_marks_of:Df (KOf KX) mg "marks_of" s_marks_of:=by dsimp only [KOf]; refine' df_mk KX G ?a ?l ?c ?k; case a|l|c|k=>k_is
    have D_chains_from:Df (KOf KX) mg "chains_from" s_chains_from:=by dsimp only [KOf]; refine' df_mk KX G ?a ?l ?c ?k; case a|l|c|k=>k_is
    have D_better_steps:Df (KOf KX) mg "better_steps" s_better_steps:=by dsimp only [KOf]; refine' df_mk KX G ?a ?l ?c ?k; case a|l|c|k=>k_is
    have D_ring_in:Df (KOf KX) mg "ring_in" s_ring_in:=by dsimp only [KOf]; refine' df_mk KX G ?a ?l ?c ?k; case a|l|c|k=>k_is
    have D_other_days:Df (KOf KX) mg "other_days" s_other_days:=by dsimp only [KOf]; refine' df_mk KX G ?a ?l ?c ?k; case a|l|c|k=>k_is
    have D_longer_lists:Df (KOf KX) mg "longer_lists" s_longer_lists:=by dsimp only [KOf]; refine' df_mk KX G ?a ?l ?c ?k; case a|l|c|k=>k_is
    have D_rising_lists:Df (KOf KX) mg "rising_lists" s_rising_lists:=by dsimp only [KOf]; refine' df_mk KX G ?a ?l ?c ?k; case a|l|c|k=>k_is
    have D_marks_among:Df (KOf KX) mg "marks_among" s_marks_among:=by dsimp only [KOf]; refine' df_mk KX G ?a ?l ?c ?k; case a|l|c|k=>k_is
    have D_is_explained:Df (KOf KX) mg "is_explained" s_is_explained:=by dsimp only [KOf]; refine' df_mk KX G ?a ?l ?c ?k; case a|l|c|k=>k_is
    have D_fewest:Df (KOf KX) mg "fewest" s_fewest:=by dsimp only [KOf]; refine' df_mk KX G ?a ?l ?c ?k; case a|l|c|k=>k_is
    have D_gaps_from:Df (KOf KX) mg "gaps_from" s_gaps_from:=by dsimp only [KOf]; refine' df_mk KX G ?a ?l ?c ?k; case a|l|c|k=>k_is
    have D_gaps_of:Df (KOf KX) mg "gaps_of" s_gaps_of:=by dsimp only [KOf]; refine' df_mk KX G ?a ?l ?c ?k; case a|l|c|k=>k_is
    have D_cut_mark:Df (KOf KX) mg "cut_mark" s_cut_mark:=by dsimp only [KOf]; refine' df_mk KX G ?a ?l ?c ?k; case a|l|c|k=>k_is
    have D_cut_marks_from:Df (KOf KX) mg "cut_marks_from" s_cut_marks_from:=by dsimp only [KOf]; refine' df_mk KX G ?a ?l ?c ?k; case a|l|c|k=>k_is
    have D_cut_marks_of:Df (KOf KX) mg "cut_marks_of" s_cut_marks_of:=by dsimp only [KOf]; refine' df_mk KX G ?a ?l ?c ?k; case a|l|c|k=>k_is
    have D_levels_of:Df (KOf KX) mg "levels_of" s_levels_of:=by dsimp only [KOf]; refine' df_mk KX G ?a ?l ?c ?k; case a|l|c|k=>k_is
    have D_worth_below:Df (KOf KX) mg "worth_below" s_worth_below:=by dsimp only [KOf]; refine' df_mk KX G ?a ?l ?c ?k; case a|l|c|k=>k_is
    have D_weight_below:Df (KOf KX) mg "weight_below" s_weight_below:=by dsimp only [KOf]; refine' df_mk KX G ?a ?l ?c ?k; case a|l|c|k=>k_is
    have D_taste_by:Df (KOf KX) mg "taste_by" s_taste_by:=by dsimp only [KOf]; refine' df_mk KX G ?a ?l ?c ?k; case a|l|c|k=>k_is
    have D_taste_of:DfD (KOf KX) mg "taste_of" s_taste_of:=by
      dsimp only [KOf]
      refine' dfd_mk KX G ?a ?l ?t ?c ?k
      (case a=>k_is); (case l=>k_is); (case t=>k_is); (case c=>k_is); (case k=>k_is)
    have D__law_mixed:Df (KOf KX) mg "_law_mixed" s__law_mixed:=by dsimp only [KOf]; refine' df_mk KX G ?a ?l ?c ?k; case a|l|c|k=>k_is
    have D__law_draws:Df (KOf KX) mg "_law_draws" s__law_draws:=by dsimp only [KOf]; refine' df_mk KX G ?a ?l ?c ?k; case a|l|c|k=>k_is
    have D__law_int:Df (KOf KX) mg "_law_int" s__law_int:=by dsimp only [KOf]; refine' df_mk KX G ?a ?l ?c ?k; case a|l|c|k=>k_is
    have D__law_next:Df (KOf KX) mg "_law_next" s__law_next:=by dsimp only [KOf]; refine' df_mk KX G ?a ?l ?c ?k; case a|l|c|k=>k_is
    have D__law_shape:Df (KOf KX) mg "_law_shape" s__law_shape:=by dsimp only [KOf]; refine' df_mk KX G ?a ?l ?c ?k; case a|l|c|k=>k_is
    have D__law_best:Df (KOf KX) mg "_law_best" s__law_best:=by dsimp only [KOf]; refine' df_mk KX G ?a ?l ?c ?k; case a|l|c|k=>k_is
    have D__law_bought:Df (KOf KX) mg "_law_bought" s__law_bought:=by dsimp only [KOf]; refine' df_mk KX G ?a ?l ?c ?k; case a|l|c|k=>k_is
    have D__law_price:Df (KOf KX) mg "_law_price" s__law_price:=by dsimp only [KOf]; refine' df_mk KX G ?a ?l ?c ?k; case a|l|c|k=>k_is
    have D__law_day:Df (KOf KX) mg "_law_day" s__law_day:=by dsimp only [KOf]; refine' df_mk KX G ?a ?l ?c ?k; case a|l|c|k=>k_is
    have D__law_free_book:Df (KOf KX) mg "_law_free_book" s__law_free_book:=by dsimp only [KOf]; refine' df_mk KX G ?a ?l ?c ?k; case a|l|c|k=>k_is
    have D__law_book:Df (KOf KX) mg "_law_book" s__law_book:=by dsimp only [KOf]; refine' df_mk KX G ?a ?l ?c ?k; case a|l|c|k=>k_is
    have D__law_wide:Df (KOf KX) mg "_law_wide" s__law_wide:=by dsimp only [KOf]; refine' df_mk KX G ?a ?l ?c ?k; case a|l|c|k=>k_is
    have D__law_cost:Df (KOf KX) mg "_law_cost" s__law_cost:=by dsimp only [KOf]; refine' df_mk KX G ?a ?l ?c ?k; case a|l|c|k=>k_is
    have D__law_days:Df (KOf KX) mg "_law_days" s__law_days:=by dsimp only [KOf]; refine' df_mk KX G ?a ?l ?c ?k; case a|l|c|k=>k_is
    have D__law_is_ring:Df (KOf KX) mg "_law_is_ring" s__law_is_ring:=by dsimp only [KOf]; refine' df_mk KX G ?a ?l ?c ?k; case a|l|c|k=>k_is
    have D__law_ints:Df (KOf KX) mg "_law_ints" s__law_ints:=by dsimp only [KOf]; refine' df_mk KX G ?a ?l ?c ?k; case a|l|c|k=>k_is
    have D__law_is_taste:Df (KOf KX) mg "_law_is_taste" s__law_is_taste:=by dsimp only [KOf]; refine' df_mk KX G ?a ?l ?c ?k; case a|l|c|k=>k_is
    have D__law_kind_of:Df (KOf KX) mg "_law_kind_of" s__law_kind_of:=by dsimp only [KOf]; refine' df_mk KX G ?a ?l ?c ?k; case a|l|c|k=>k_is
    have D__law_left:Df (KOf KX) mg "_law_left" s__law_left:=by dsimp only [KOf]; refine' df_mk KX G ?a ?l ?c ?k; case a|l|c|k=>k_is
    have D__law_asked:Df (KOf KX) mg "_law_asked" s__law_asked:=by dsimp only [KOf]; refine' df_mk KX G ?a ?l ?c ?k; case a|l|c|k=>k_is
    have D__law_drawn:Df (KOf KX) mg "_law_drawn" s__law_drawn:=by dsimp only [KOf]; refine' df_mk KX G ?a ?l ?c ?k; case a|l|c|k=>k_is
    have D_law:Df (KOf KX) mg "law" s_law:=by dsimp only [KOf]; refine' df_mk KX G ?a ?l ?c ?k; case a|l|c|k=>k_is
    have M:Md (KOf KX) mg:=by
      dsimp only [KOf]
      apply md_mk KX G
      (case n_NoDay=>k_is); (case q_NoDay=>k_exc); (case s_NoDay_NoDay=>k_is); (case v_NoDay=>kit_is); (case z_bool=>k_is); (case z_enumerate=>k_is); (case z_int=>k_is); (case z_isinstance=>k_is); (case z_len=>k_is); (case z_list=>k_is); (case z_max=>k_is); (case z_min=>k_is); (case z_range=>k_is); (case z_reversed=>k_is); (case z_set=>k_is); (case z_sorted=>k_is); (case z_sum=>k_is); (case z_tuple=>k_is); (case z_zip=>k_is); (case y_AS_GOOD=>k_is); (case y_BETTER=>k_is); (case y_NEITHER=>k_is)
    obtain ⟨f,fd,F,hm⟩:=D_law
    refine ⟨f,fd,hm,F.bind1 bd_law,fun base kb nb=>?_⟩
    · have G_check_day:=fn_check_day (P:=PW9) (w:=w) (base:=base) M D_check_day 
      have G_cost_at:=fn_cost_at (P:=PW9) (w:=w) (base:=base) M D_cost_at 
      have G_cost:=fn_cost (P:=PW9) (w:=w) (base:=base) M D_cost G_check_day G_cost_at
      have G_purse:=fn_purse (P:=PW9) (w:=w) (base:=base) M D_purse G_cost
      have G_mark_of:=fn_mark_of (P:=PW9) (w:=w) (base:=base) M D_mark_of 
      have G_at_once:=fn_at_once (P:=PW9) (w:=w) (base:=base) M D_at_once G_check_day G_cost G_purse G_mark_of
      have G_marks_from:=fn_marks_from (P:=PW9) (w:=w) (base:=base) M D_marks_from G_at_once
      have G_marks_of:=fn_marks_of (P:=PW9) (w:=w) (base:=base) M D_marks_of G_marks_from
      have G_chains_from:=fn_chains_from (P:=PW9) (w:=w) (base:=base) M D_chains_from 
      have G_better_steps:=fn_better_steps (P:=PW9) (w:=w) (base:=base) M D_better_steps 
      have G_ring_in:=fn_ring_in (P:=PW9) (w:=w) (base:=base) M D_ring_in G_chains_from G_better_steps
      have G_other_days:=fn_other_days (P:=PW9) (w:=w) (base:=base) M D_other_days 
      have G_longer_lists:=fn_longer_lists (P:=PW9) (w:=w) (base:=base) M D_longer_lists 
      have G_rising_lists:=fn_rising_lists (P:=PW9) (w:=w) (base:=base) M D_rising_lists G_longer_lists
      have G_marks_among:=fn_marks_among (P:=PW9) (w:=w) (base:=base) M D_marks_among 
      have G_is_explained:=fn_is_explained (P:=PW9) (w:=w) (base:=base) M D_is_explained G_ring_in G_marks_among
      have G_fewest:=fn_fewest (P:=PW9) (w:=w) (base:=base) M D_fewest G_marks_of G_other_days G_rising_lists G_is_explained
      have G_gaps_from:=fn_gaps_from (P:=PW9) (w:=w) (base:=base) M D_gaps_from G_cost G_purse
      have G_gaps_of:=fn_gaps_of (P:=PW9) (w:=w) (base:=base) M D_gaps_of G_gaps_from
      have G_cut_mark:=fn_cut_mark (P:=PW9) (w:=w) (base:=base) M D_cut_mark G_mark_of
      have G_cut_marks_from:=fn_cut_marks_from (P:=PW9) (w:=w) (base:=base) M D_cut_marks_from G_cut_mark
      have G_cut_marks_of:=fn_cut_marks_of (P:=PW9) (w:=w) (base:=base) M D_cut_marks_of G_cut_marks_from
      have G_levels_of:=fn_levels_of (P:=PW9) (w:=w) (base:=base) M D_levels_of G_chains_from
      have G_worth_below:=fn_worth_below (P:=PW9) (w:=w) (base:=base) M D_worth_below 
      have G_weight_below:=fn_weight_below (P:=PW9) (w:=w) (base:=base) M D_weight_below 
      have G_taste_by:=fn_taste_by (P:=PW9) (w:=w) (base:=base) M D_taste_by G_worth_below G_weight_below
      have G_taste_of:=fn_taste_of (P:=PW9) (w:=w) (base:=base) M D_taste_of G_ring_in G_gaps_of G_cut_marks_of G_levels_of G_taste_by
      have G__law_mixed:=fn__law_mixed (P:=PW9) (w:=w) (base:=base) M D__law_mixed 
      have G__law_draws:=fn__law_draws (P:=PW9) (w:=w) (base:=base) M D__law_draws G__law_mixed
      have G__law_int:=fn__law_int (P:=PW9) (w:=w) (base:=base) M D__law_int 
      have G__law_next:=fn__law_next (P:=PW9) (w:=w) (base:=base) M D__law_next 
      have G__law_shape:=fn__law_shape (P:=PW9) (w:=w) (base:=base) M D__law_shape G__law_next
      have G__law_best:=fn__law_best (P:=PW9) (w:=w) (base:=base) M D__law_best 
      have G__law_bought:=fn__law_bought (P:=PW9) (w:=w) (base:=base) M D__law_bought G__law_best
      have G__law_price:=fn__law_price (P:=PW9) (w:=w) (base:=base) M D__law_price 
      have G__law_day:=fn__law_day (P:=PW9) (w:=w) (base:=base) M D__law_day G__law_next G__law_bought G__law_price
      have G__law_free_book:=fn__law_free_book (P:=PW9) (w:=w) (base:=base) M D__law_free_book 
      have G__law_book:=fn__law_book (P:=PW9) (w:=w) (base:=base) M D__law_book G__law_shape G__law_day G__law_free_book
      have G__law_wide:=fn__law_wide (P:=PW9) (w:=w) (base:=base) M D__law_wide G__law_book
      have G__law_cost:=fn__law_cost (P:=PW9) (w:=w) (base:=base) M D__law_cost 
      have G__law_days:=fn__law_days (P:=PW9) (w:=w) (base:=base) M D__law_days G__law_int
      have G__law_is_ring:=fn__law_is_ring (P:=PW9) (w:=w) (base:=base) M D__law_is_ring G__law_cost G__law_days
      have G__law_ints:=fn__law_ints (P:=PW9) (w:=w) (base:=base) M D__law_ints G__law_int
      have G__law_is_taste:=fn__law_is_taste (P:=PW9) (w:=w) (base:=base) M D__law_is_taste G__law_cost G__law_ints
      have G__law_kind_of:=fn__law_kind_of (P:=PW9) (w:=w) (base:=base) M D__law_kind_of G__law_is_ring G__law_is_taste
      have G__law_left:=fn__law_left (P:=PW9) (w:=w) (base:=base) M D__law_left 
      have G__law_asked:=fn__law_asked (P:=PW9) (w:=w) (base:=base) M D__law_asked G_taste_of G__law_kind_of G__law_left
      have G__law_drawn:=fn__law_drawn (P:=PW9) (w:=w) (base:=base) M D__law_drawn
      exact fok_law M F G_fewest G__law_draws G__law_wide G__law_days G__law_asked G__law_drawn
