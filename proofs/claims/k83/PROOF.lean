import PyProof.Rows.All
import Wide.All
import OpenK.AllK
import Wide.FinOn
import Lean
import PyProof.EqAt
import PyProof.EqKinds
import PyProof.TupleCall
import KE.KRevIter
import PyProof.EnumMake
import KE.KDictSum
import PyProof.Rows.SortWalk
import PyProof.Rows.SeqMore
import PyProof.Draws
import PyProof.StrBlockH
import PyProof.StrLawsTight
import PyProof.FitsReplace
import PyProof.StrReplace2
import KE.KIntText
import PyProof.Rows.FStr
import PySem.Challenge.RW_tastesbook_k83_days_as_texts
set_option Elab.async false
set_option linter.all false
set_option maxRecDepth 100000
namespace L2
open PySem PySem.Spec PyProof.Rows
abbrev Key := Sum Int Str
def keyIs : Key → Value → Bool
  | .inl k, v => Value.isInt k v
  | .inr x, v => Value.isStrOf x v
def keyH (w : World) : Key → Int
  | .inl k => hashInt k
  | .inr x => hashStr w x
theorem keyIs_shape : ∀ {k : Key} {v : Value}, keyIs k v = true → (∃ i t, k = Sum.inl i ∧ v = Value.int i t) ∨ (∃ x t, k = Sum.inr x ∧ v = Value.str x t)
  | .inl i, v, h => by
    obtain ⟨t, e⟩ := Value.isInt_shape (k := i) (v := v) h
    exact .inl ⟨i, t, rfl, e⟩
  | .inr x, v, h => by
    obtain ⟨t, e⟩ := Value.isStrOf_shape (x := x) (v := v) h
    exact .inr ⟨x, t, rfl, e⟩
theorem key_ll (a b : Int) : decide ((Sum.inl a : Key) = Sum.inl b) = (a == b) := by
  by_cases e : a = b
  · subst e; simp
  · have h : ¬ (Sum.inl a : Key) = Sum.inl b := fun q => e (Sum.inl.inj q)
    rw [decide_eq_false h]
    exact (beq_eq_false_iff_ne.mpr e).symm
theorem key_rr (a b : Str) : decide ((Sum.inr a : Key) = Sum.inr b) = decide (a = b) := by
  by_cases e : a = b
  · subst e; simp
  · have h : ¬ (Sum.inr a : Key) = Sum.inr b := fun q => e (Sum.inr.inj q)
    rw [decide_eq_false h, decide_eq_false e]
theorem key_lr (a : Int) (b : Str) : decide ((Sum.inl a : Key) = Sum.inr b) = false := decide_eq_false (fun q => nomatch q)
theorem key_rl (a : Str) (b : Int) : decide ((Sum.inr a : Key) = Sum.inl b) = false := decide_eq_false (fun q => nomatch q)
def mixKind (prog : Program) (w : World) : PySem.KeyKind prog w Key where
  is := keyIs
  hash := keyH w
  inj := fun v a b ha hb => by
    rcases keyIs_shape ha with ⟨i, t, rfl, rfl⟩ | ⟨x, t, rfl, rfl⟩
    · rcases keyIs_shape hb with ⟨j, u, rfl, e⟩ | ⟨y, u, rfl, e⟩
      · injection e with e1 _; rw [e1]
      · exact nomatch e
    · rcases keyIs_shape hb with ⟨j, u, rfl, e⟩ | ⟨y, u, rfl, e⟩
      · exact nomatch e
      · injection e with e1 _; rw [e1]
  byValue := fun k v h => by
    rcases keyIs_shape h with ⟨i, t, rfl, rfl⟩ | ⟨x, t, rfl, rfl⟩ <;> rfl
  pyHash := fun hv h => by
    rcases keyIs_shape hv with ⟨i, t, rfl, rfl⟩ | ⟨x, t, rfl, rfl⟩
    · exact wpAny_pyHash_int h
    · exact wpAny_pyHash_str h
  eqBool := fun hu hv h => by
    rcases keyIs_shape hu with ⟨i, t, rfl, rfl⟩ | ⟨x, t, rfl, rfl⟩
    · rcases keyIs_shape hv with ⟨j, u, rfl, rfl⟩ | ⟨y, u, rfl, rfl⟩
      · rw [key_ll] at h; exact wpAny_eqBool_int h
      · rw [key_lr] at h; exact SeqAt.EqAt.int_str i t y u _ _ _ _ h
    · rcases keyIs_shape hv with ⟨j, u, rfl, rfl⟩ | ⟨y, u, rfl, rfl⟩
      · rw [key_rl] at h; exact SeqAt.EqAt.str_int x t j u _ _ _ _ h
      · rw [key_rr] at h; exact wpAny_eqBool_str h
  «strs» := fun k x t v h => by
    rcases keyIs_shape h with ⟨i, u, rfl, e⟩ | ⟨y, u, rfl, e⟩
    · exact nomatch e
    · injection e with e1 _
      subst e1
      cases v <;> rfl
end L2
namespace L2
open PySem PySem.Spec PyProof.Rows
inductive V where
  | non | bl (b : Bool) | int (i : Int) | str (x : Str) | byt (b : Array UInt8) | flt (b : UInt64) | ref (a : Addr) | ty (n : String)
  deriving DecidableEq
def RelV : V → Value → Prop
  | .non, u => u = Value.none
  | .bl b, u => u = Value.bool b
  | .int i, u => ∃ t, u = Value.int i t
  | .str x, u => ∃ t, u = Value.str x t
  | .byt b, u => ∃ t, u = Value.bytes b t
  | .flt b, u => ∃ t, u = Value.float b t
  | .ref a, u => u = Value.ref a
  | .ty n, u => u = Value.type n
abbrev Vals : List V → List Value → Prop := Paired RelV
theorem Vals.length {xs : List V} {us : List Value} (r : Vals xs us) : xs.length = us.length := Paired.length r
theorem Vals.get : ∀ {xs : List V} {us : List Value} {i : Nat} {x : V}, Vals xs us → xs[i]? = some x → ∃ u, us[i]? = some u ∧ RelV x u
  | _, _, _, _, .nil, e => by simp at e
  | _, _, 0, _, .cons r _, e => by simp at e; subst e; exact ⟨_, rfl, r⟩
  | _, _, i + 1, x, .cons _ t, e => by
    obtain ⟨u, h1, h2⟩ := Vals.get (i := i) (x := x) t (by simpa using e)
    exact ⟨u, by simpa using h1, h2⟩
theorem Vals.set {x : V} {u : Value} (r : RelV x u) : ∀ {xs : List V} {us : List Value} (i : Nat), Vals xs us → Vals (xs.set i x) (us.set i u)
  | _, _, _, .nil => .nil
  | _, _, 0, .cons _ t => .cons r t
  | _, _, i + 1, .cons q t => .cons q (Vals.set r i t)
theorem Vals.append : ∀ {xs ys : List V} {us ws : List Value}, Vals xs us → Vals ys ws → Vals (xs ++ ys) (us ++ ws)
  | _, _, _, _, .nil, s => s
  | _, _, _, _, .cons r t, s => .cons r (Vals.append t s)
theorem Vals.take : ∀ {xs : List V} {us : List Value} (n : Nat), Vals xs us → Vals (xs.take n) (us.take n)
  | _, _, 0, _ => .nil
  | _, _, _ + 1, .nil => .nil
  | _, _, n + 1, .cons r t => .cons r (Vals.take n t)
theorem Vals.drop : ∀ {xs : List V} {us : List Value} (n : Nat), Vals xs us → Vals (xs.drop n) (us.drop n)
  | _, _, 0, r => r
  | _, _, _ + 1, .nil => .nil
  | _, _, n + 1, .cons _ t => Vals.drop n t
def RelO : Option V → Option Value → Prop
  | some v, some u => RelV v u
  | none, none => True
  | _, _ => False
def KV {κ : Type} : List (κ × V) → List (κ × Value) → Prop := Paired fun (p : κ × V) (q : κ × Value) => p.1 = q.1 ∧ RelV p.2 q.2
def kV : Key → V
  | .inl i => .int i
  | .inr x => .str x
inductive HO where
    | lst (xs : List V)
    | tup (xs : List V)
    | dK (kvs : List (Key × V)) | dT (kvs : List (List Key × V))
    | set (S : Int → Bool) (n : Nat)
    | ins (C dx : Addr) (fs : List (Str × V))
    | own (x : Addr)
    | xd (fs : List (Str × V))
    | met (f x : Addr)
    | rng (lo hi : Int)
    | frz (o : Obj) (u : HO)
    | tbl (ps : Array Value)
    | ext (φ : Heap → Prop)
abbrev Hp := Addr → Option HO
def upd (H : Hp) (a : Addr) (o : HO) : Hp := fun b => if b = a then some o else H b
theorem upd_same {H : Hp} {a : Addr} {o : HO} : upd H a o a = some o := by unfold upd; rw [if_pos rfl]
theorem upd_ne {H : Hp} {a b : Addr} {o : HO} (h : b ≠ a) : upd H a o b = H b := by unfold upd; rw [if_neg h]
theorem ne_of_none {H : Hp} {a b : Addr} {o : HO} (h : H a = some o) (h' : H b = none) : a ≠ b := by
  intro e; subst e; rw [h] at h'; cases h'
section
variable (P : Program) (w : World)
def ObjOk (H : Hp) (h : Heap) (a : Addr) : HO → Prop
  | .lst xs => xs.length ≤ sizeLine ∧ ∃ (its : List Value) (n : Nat), Vals xs its ∧ h.get? a = some { cls := .type "list", data := .seq its.toArray n }
  | .tup xs => xs.length ≤ sizeLine ∧ ∃ its : List Value, Vals xs its ∧ IsTup h a its.toArray
  | .dK kvs => kvs.length ≤ sizeLine ∧ (a == sysModules) = false ∧ ∃ vs, KV kvs vs ∧ h.DictOf (mixKind P w) a vs
  | .dT kvs => kvs.length ≤ sizeLine ∧ (a == sysModules) = false ∧ ∃ xs : List (List Key × Addr × Value),
      Paired (fun (p : List Key × V) (q : List Key × Addr × Value) => p.1 = q.1 ∧ H q.2.1 = some (.tup (p.1.map kV)) ∧ RelV p.2 q.2.2) kvs xs ∧
      ∃ o es ep, h.get? a = some o ∧ o.ExactDict ∧ o.data = .dict es ep ∧ es.toList = xs.map (entryOfKey (tupleKind (mixKind P w))) ∧ (xs.map (·.1)).Nodup
  | .set S n => h.SetOf (intKind P w) a S n
  | .ins C dx fs => H dx = some (.own a) ∧ fs.length ≤ 1000 ∧ dx ≠ a ∧ h.get? a = some (PySem.W.instObj C dx) ∧
      ∃ mA, h.Ns1 dx mA ∧ (∀ f, RelO (fs.lookup f) (mA f)) ∧ PySem.Within mA (fs.map (·.1))
  | .own _ => ∃ o, h.get? a = some o
  | .xd fs => ∃ mA, h.Ns1 a mA ∧ ∀ f, RelO (fs.lookup f) (mA f)
  | .rng lo hi => ∃ t u v, h.get? a = some { cls := .type "range", data := .fields #[.int lo t, .int hi u, .int 1 v] }
  | .frz o u => h.get? a = some o ∧ ObjOk H h a u
  | .tbl ps => h.get? a = some { cls := .none, data := .fields ps }
  | .met f x => h.get? a = some (PySem.W.methodObj (.ref f) (.ref x))
  | .ext φ => φ h ∧ (∃ o, h.get? a = some o) ∧ ∀ h1 h2 : Heap, φ h1 → (∀ o, h1.get? a = some o → h2.get? a = some o) → φ h2
def HOk (H : Hp) (h : Heap) : Prop := ∀ a o, H a = some o → ObjOk P w H h a o
end
section
variable {P : Program} {w : World} {H H' : Hp} {h h' : Heap} {a : Addr} {o : HO}
theorem ObjOk.lt (x : ObjOk P w H h a o) : a < h.objs.size := by
  cases o with
  | lst xs => obtain ⟨_, _, _, _, e⟩ := x; exact Heap.lt_size e
  | tup xs => obtain ⟨_, _, _, p⟩ := x; exact p.lt
  | dK kvs => obtain ⟨_, _, _, _, o, _, _, e, _⟩ := x; exact Heap.lt_size e
  | dT kvs => obtain ⟨_, _, _, _, o, _, _, e, _⟩ := x; exact Heap.lt_size e
  | set S n => obtain ⟨o, _, _, _, e, _⟩ := x; exact Heap.lt_size e
  | ins C dx fs => obtain ⟨_, _, _, e, _⟩ := x; exact Heap.lt_size e
  | own y => obtain ⟨_, e⟩ := x; exact Heap.lt_size e
  | xd fs => obtain ⟨_, ⟨_, _, _, e, _⟩, _⟩ := x; exact Heap.lt_size e
  | rng lo hi => obtain ⟨_, _, _, e⟩ := x; exact Heap.lt_size e
  | frz ob u => obtain ⟨e, _⟩ := x; exact Heap.lt_size e
  | tbl ps => exact Heap.lt_size (show h.get? a = some _ from x)
  | met f y => exact Heap.lt_size (show h.get? a = some _ from x)
  | ext φ => obtain ⟨_, ⟨_, e⟩, _⟩ := x; exact Heap.lt_size e
theorem Paired.mapP {α β : Type} {F G : α → β → Prop} : ∀ {l₁ : List α} {l₂ : List β}, Paired F l₁ l₂ → (∀ a b, F a b → G a b) → Paired G l₁ l₂
  | _, _, .nil, _ => .nil
  | _, _, .cons r t, f => .cons (f _ _ r) (Paired.mapP t f)
theorem ObjOk.stay (x : ObjOk P w H h a o) (k : ∀ b u, (b = a ∨ H b = some (.own a)) → h.get? b = some u → h'.get? b = some u)
    (ho : ∀ b, H b = some (.own a) → H' b = some (.own a)) (ht : ∀ b xs, H b = some (.tup xs) → H' b = some (.tup xs)) : ObjOk P w H' h' a o := by
  induction o with
  | lst xs => obtain ⟨z, its, n, r, e⟩ := x; exact ⟨z, its, n, r, k _ _ (.inl rfl) e⟩
  | tup xs => obtain ⟨z, its, r, ob, e, c⟩ := x; exact ⟨z, its, r, ob, k _ _ (.inl rfl) e, c⟩
  | dK kvs => obtain ⟨z, y, vs, r, ob, es, ep, e, c⟩ := x; exact ⟨z, y, vs, r, ob, es, ep, k _ _ (.inl rfl) e, c⟩
  | dT kvs =>
    obtain ⟨z, y, xs, r, ob, es, ep, e, c⟩ := x
    exact ⟨z, y, xs, Paired.mapP r fun p q z => ⟨z.1, ht _ _ z.2.1, z.2.2⟩, ob, es, ep, k _ _ (.inl rfl) e, c⟩
  | set S n => obtain ⟨ob, es, ep, t, e, c⟩ := x; exact ⟨ob, es, ep, t, k _ _ (.inl rfl) e, c⟩
  | ins C dx fs =>
    obtain ⟨d, z, ne, e, mA, ⟨od, es, ep, e2, c⟩, r⟩ := x
    exact ⟨ho _ d, z, ne, k _ _ (.inl rfl) e, mA, ⟨od, es, ep, k _ _ (.inr d) e2, c⟩, r⟩
  | own y => obtain ⟨ob, e⟩ := x; exact ⟨ob, k _ _ (.inl rfl) e⟩
  | xd fs => obtain ⟨mA, ⟨od, es, ep, e, c⟩, r⟩ := x; exact ⟨mA, ⟨od, es, ep, k _ _ (.inl rfl) e, c⟩, r⟩
  | rng lo hi => obtain ⟨t, u, v, e⟩ := x; exact ⟨t, u, v, k _ _ (.inl rfl) e⟩
  | frz ob u ih => obtain ⟨e, q⟩ := x; exact ⟨k _ _ (.inl rfl) e, ih q⟩
  | tbl ps =>
    have e : h.get? a = some { cls := .none, data := .fields ps } := x
    show h'.get? a = some { cls := .none, data := .fields ps }
    exact k a _ (.inl rfl) e
  | met f y =>
    have e : h.get? a = some (PySem.W.methodObj (.ref f) (.ref y)) := x
    show h'.get? a = some (PySem.W.methodObj (.ref f) (.ref y))
    exact k a _ (.inl rfl) e
  | ext φ => obtain ⟨p, ⟨o, e⟩, st⟩ := x; exact ⟨st _ _ p fun o q => k _ _ (.inl rfl) q, ⟨o, k _ _ (.inl rfl) e⟩, st⟩
theorem HOk.lt (x : HOk P w H h) (e : H a = some o) : a < h.objs.size := (x a o e).lt
theorem HOk.fresh (x : HOk P w H h) (e : h.objs.size ≤ a) : H a = none := by
  cases q : H a with
  | none => rfl
  | some u => exact absurd (Nat.lt_of_lt_of_le (x.lt q) e) (Nat.lt_irrefl _)
theorem HOk.kept (x : HOk P w H h) (k : ∀ b u, h.get? b = some u → h'.get? b = some u) : HOk P w H h' := fun a o e =>
  (x a o e).stay (fun b u _ q => k b u q) (fun _ q => q) fun _ _ q => q
theorem HOk.laid (x : HOk P w H h) (k : ∀ b u, h.get? b = some u → h'.get? b = some u) (hp : h.objs.size ≤ a) (new : ObjOk P w (upd H a o) h' a o) : HOk P w (upd H a o) h' := fun b u e => by
  have hn := x.fresh hp
  by_cases hb : b = a
  · subst hb; rw [upd_same] at e; cases e; exact new
  · rw [upd_ne hb] at e
    exact (x b u e).stay (fun c v _ q => k c v q) (fun c q => by rw [upd_ne (ne_of_none q hn)]; exact q) fun c xs q => by rw [upd_ne (ne_of_none q hn)]; exact q
end
def Rd (H : Hp) (a : Addr) (u : HO) : Prop := H a = some u ∨ ∃ o, H a = some (.frz o u)
theorem Rd.ok {P : Program} {w : World} {H : Hp} {h : Heap} {a : Addr} {u : HO} (r : Rd H a u) (x : HOk P w H h) : ObjOk P w H h a u := by
  rcases r with r | ⟨o, r⟩
  · exact x a u r
  · obtain ⟨_, q⟩ := x a _ r
    exact q
def Mut : Option HO → Prop
  | some (.lst _) => True
  | some (.dK _) => True
  | some (.dT _) => True
  | some (.set _ _) => True
  | some (.ins _ _ _) => True
  | some (.ext _) => True
  | _ => False
section
variable {P : Program} {w : World} {H : Hp} {h h' : Heap} {x e : Addr} {o' : HO}
theorem HOk.write (ok : HOk P w H h) (mu : Mut (H x)) (he : e = x ∨ H e = some (.own x)) (k : ∀ b u, b ≠ e → h.get? b = some u → h'.get? b = some u) (heo : ∃ u, h'.get? e = some u)
    (new : ObjOk P w (upd H x o') h' x o') : HOk P w (upd H x o') h' := fun b u q => by
  have nown : ∀ c y, H c = some (.own y) → c ≠ x := fun c y r z => by subst z; rw [r] at mu; exact mu
  have ntup : ∀ c xs, H c = some (.tup xs) → c ≠ x := fun c xs r z => by subst z; rw [r] at mu; exact mu
  by_cases hb : b = x
  · subst hb; rw [upd_same] at q; cases q; exact new
  · rw [upd_ne hb] at q
    by_cases hbe : b = e
    · have q' : H b = some (.own x) := by
        rcases he with z | z
        · exact absurd (hbe.trans z) hb
        · rw [hbe]; exact z
      rw [q] at q'; cases q'
      obtain ⟨v, hv⟩ := heo
      exact ⟨v, by rw [hbe]; exact hv⟩
    · refine (ok b u q).stay (fun c v hc r => k c v ?_ r) (fun c r => by rw [upd_ne (nown c b r)]; exact r) fun c xs r => by rw [upd_ne (ntup c xs r)]; exact r
      rcases hc with rfl | hc
      · exact hbe
      · rintro rfl
        rcases he with z | z
        · exact nown c b hc z
        · rw [hc] at z; cases z; exact hb rfl
end
structure Un (fs ex : List Addr) (H H' : Hp) (h h' : Heap) : Prop where
  keep : ∀ b o, h.get? b = some o → H b = none → b ∉ fs → b ∉ ex → h'.get? b = some o
  slot : ∀ b o, h.get? b = some o → H b = none → b ∈ fs → b ∉ ex → ∃ sl, h'.get? b = some { o with slots := sl }
  free : ∀ b o, h.get? b = some o → H b = none → b ∉ ex → H' b = none
  there : ∀ b o, h.get? b = some o → b ∉ ex → ∃ o', h'.get? b = some o'
  tups : ∀ b xs, H b = some (.tup xs) → H' b = some (.tup xs)
  frzs : ∀ b o u, H b = some (.frz o u) → H' b = some (.frz o u)
  tbls : ∀ b ps, H b = some (.tbl ps) → ∃ more, H' b = some (.tbl (ps ++ more))
section
variable {fs fs' ex ex' : List Addr} {H H1 H2 : Hp} {h h1 h2 h' : Heap} {a x e : Addr} {o : HO}
theorem Un.any (u : Un fs ex H H1 h h1) {b : Addr} {ob : Obj} (q : h.get? b = some ob) (n : H b = none) (hx : b ∉ ex) : ∃ sl, h1.get? b = some { ob with slots := sl } := by
  by_cases hb : b ∈ fs
  · exact u.slot b ob q n hb hx
  · exact ⟨ob.slots, u.keep b ob q n hb hx⟩
theorem Un.kept (k : ∀ b u, h.get? b = some u → h'.get? b = some u) : Un fs ex H H h h' :=
  ⟨fun b ob q _ _ _ => k b ob q, fun b ob q _ _ _ => ⟨ob.slots, k b ob q⟩, fun _ _ _ n _ => n, fun b ob q _ => ⟨ob, k b ob q⟩, fun _ _ q => q, fun _ _ _ q => q, fun _ ps q => ⟨#[], by rw [q]; simp⟩⟩
theorem Un.refl : Un fs ex H H h h := Un.kept fun _ _ q => q
theorem Un.laid (k : ∀ b u, h.get? b = some u → h'.get? b = some u) (hp : h.objs.size ≤ a) (hn : H a = none) : Un fs ex H (upd H a o) h h' where
  keep := fun b u q _ _ _ => k b u q
  slot := fun b u q _ _ _ => ⟨u.slots, k b u q⟩
  free := fun b u q n _ => by rw [upd_ne (Nat.ne_of_lt (Nat.lt_of_lt_of_le (Heap.lt_size q) hp))]; exact n
  there := fun b u q _ => ⟨u, k b u q⟩
  tups := fun b xs q => by rw [upd_ne (ne_of_none q hn)]; exact q
  frzs := fun b u xs q => by rw [upd_ne (ne_of_none q hn)]; exact q
  tbls := fun b ps q => ⟨#[], by rw [upd_ne (ne_of_none q hn), q]; simp⟩
theorem Un.write (mu : Mut (H x)) (he : e = x ∨ H e = some (.own x)) (k : ∀ b u, b ≠ e → h.get? b = some u → h'.get? b = some u) (heo : ∃ u, h'.get? e = some u) : Un fs ex H (upd H x o) h h' := by
  have hx : ∀ b, H b = none → b ≠ x := fun b n z => by subst z; rw [n] at mu; exact mu
  have hb : ∀ b, H b = none → b ≠ e := fun b n z => by
    subst z
    rcases he with r | r
    · exact hx b n r
    · rw [n] at r; cases r
  have hm : ∀ b u, H b = some u → ¬ Mut (some u) → b ≠ x := fun b u q nm z => by subst z; rw [q] at mu; exact nm mu
  refine ⟨fun b u q n _ _ => k b u (hb b n) q, fun b u q n _ _ => ⟨u.slots, k b u (hb b n) q⟩, fun b u q n _ => by rw [upd_ne (hx b n)]; exact n, fun b u q _ => ?_,
    fun b xs q => by rw [upd_ne (hm b _ q fun z => z)]; exact q, fun b u xs q => by rw [upd_ne (hm b _ q fun z => z)]; exact q, fun b ps q => ⟨#[], by rw [upd_ne (hm b _ q fun z => z), q]; simp⟩⟩
  by_cases hbe : b = e
  · subst hbe; exact heo
  · exact ⟨u, k b u hbe q⟩
end
def trk (h : Heap) (H : Hp) : List Addr := (List.range h.objs.size).filter fun a => (H a).isSome
def hidT (h : Heap) (H : Hp) : Heap := PySem.W.hideAll h (trk h H)
theorem hidT_size (h : Heap) (H : Hp) : (hidT h H).objs.size = h.objs.size := PySem.W.hideAll_size _ _
theorem hidT_get {h : Heap} {H : Hp} {b : Addr} {o : Obj} (e : h.get? b = some o) (n : H b = none) : (hidT h H).get? b = some o :=
  PySem.W.hideAll_get _ e fun hm => by
    have q : (H b).isSome = true := (List.mem_filter.mp hm).2
    rw [n] at q; simp at q
theorem of_hidT {h : Heap} {H : Hp} {b : Addr} {o : Obj} (e : (hidT h H).get? b = some o) : h.get? b = some o ∧ H b = none := by
  have e' : h.get? b = some o := PySem.W.of_hideAll (trk h H) e
  refine ⟨e', ?_⟩
  cases q : H b with
  | none => rfl
  | some x =>
    have hm : b ∈ trk h H := List.mem_filter.mpr ⟨List.mem_range.mpr (Heap.lt_size e'), by simp [q]⟩
    have z : (hidT h H).get? b = none := PySem.W.hideAll_none (trk h H) hm
    rw [z] at e; cases e
def allNews (g h : Heap) (L : Addr) : List (Addr × Obj) := (List.range h.objs.size).filterMap fun a => if a = L ∨ (g.get? a).isSome = true then none else (h.get? a).map fun o => (a, o)
def rest (g h : Heap) (L d : Addr) : List (Addr × Obj) := (allNews g h L).filter fun p => decide (p.1 ≠ d)
end L2
namespace L2
open PySem PySem.Spec PyProof.Rows
structure Mod (K : PySem.W.Frag) (mg : Str → Option Value) (base : Heap) : Prop where
  kin : K.In base
  glob : base.Ns mainGlobals mg
  blt : ∃ mb, base.Ns builtinsNs mb ∧ ∀ x : Str, x ≠ "__name__" → mb x = bootBuiltins x
  nolimit : base.NoLimit
structure Cx where
  prog : Program
  w : World
  K : PySem.W.Frag
  mg : Str → Option Value
  base : Heap
  A : Around
  N : List Str
  s₀ : Shared
  H₀ : Hp
  env : Env
  outer : List Env
  stack : List Env
  ex : List Addr
  fn : Str → Bool
  calm : Bool
  pn : List (Addr × Obj)
  xe : Value → Shared → Prop
def frs (l : List Env) : List Addr := l.filterMap (·.frame)
abbrev Cx.fs (X : Cx) : List Addr := frs X.outer
def Vis (sc : Scope) (x : Str) : Prop := sc.names.lookup x = some .local ∨ sc.names.lookup x = some .cell ∨ sc.names.lookup x = some .free
def Loc (sc : Scope) (x : Str) : Prop := sc.names.lookup x = some .local ∨ sc.names.lookup x = some .cell
def Look (env : Env) (h : Heap) (m : Str → Option Value) (x : Str) (u : Value) : Prop :=
  (env.kindOf x = some .local ∧ m x = some u) ∨ ((env.kindOf x = some .cell ∨ env.kindOf x = some .free) ∧ ∃ c, env.cells.lookup x = some c ∧ h.IsCell c (some u))
structure Cx.Ok (X : Cx) : Prop where
  mod : Mod X.K X.mg X.base
  kind : X.env.scope.kind = .function
  glob : X.env.globals = mainGlobals
  blt : X.env.builtins = builtinsNs
  above : X.s₀.heap.objs.size ≤ X.env.locals
  inj : ∀ x y c, X.env.cells.lookup x = some c → X.env.cells.lookup y = some c → x = y
  has : ∀ x, (X.env.kindOf x = some .cell ∨ X.env.kindOf x = some .free) → ∃ c, X.env.cells.lookup x = some c
  cab : ∀ x c, X.fn x = true → X.env.cells.lookup x = some c → X.s₀.heap.objs.size ≤ c
  hd : X.calm = true → X.A.handled = none
  frames : X.A.frames = some X.stack
  stk : X.stack = X.outer ∨ (X.stack = X.env :: X.outer ∧ X.env.frame = some X.env.locals)
  exf : ∀ b ∈ X.ex, b ≠ X.env.locals ∧ ∀ x c, X.env.cells.lookup x = some c → c ≠ b
  bs : ∀ b o, X.base.get? b = some o → X.s₀.heap.get? b = some o ∧ X.H₀ b = none
  bsz : X.base.objs.size ≤ X.s₀.heap.objs.size
  noex : ∀ b o, X.base.get? b = some o → b ∉ X.ex
  exfs : ∀ b ∈ X.ex, b ∉ X.fs
  funs : X.s₀.heap.FunFrames X.base X.outer
  frf : ∀ b ∈ X.fs, X.H₀ b = none
structure Inv (X : Cx) (pins : List (Addr × Obj)) (σ : List (Option V)) (H : Hp) (s : Shared) : Prop where
  ok : X.Ok
  os : s.os = X.s₀.os
  bare : AllBare s.gens
  base : Un X.fs X.ex X.H₀ H X.s₀.heap s.heap
  loc : ∃ m, s.heap.Ns X.env.locals m ∧ ∀ (i : Nat) (x : Str) (v : V), X.N[i]? = some x → σ[i]? = some (some v) → Vis X.env.scope x → ∃ u, RelV v u ∧ Look X.env s.heap m x u
  cell : ∀ x c, X.env.cells.lookup x = some c → ∃ v, s.heap.IsCell c v
  free : H X.env.locals = none
  freeC : ∀ x c, X.env.cells.lookup x = some c → H c = none
  pin : ∀ p ∈ X.pn ++ pins, s.heap.get? p.1 = some p.2 ∧ H p.1 = none ∧ p.1 ≠ X.env.locals ∧ p.1 ∉ X.fs ∧ ∀ v, p.2.data ≠ .cell v
  hok : HOk X.prog X.w H s.heap
  len : σ.length = X.N.length
section
variable {X : Cx} {pins : List (Addr × Obj)} {σ : List (Option V)} {H H' : Hp} {s : Shared} {h' : Heap}
theorem Cx.Ok.nofr (ok : X.Ok) {b : Addr} {o : Obj} (e : X.base.get? b = some o) : b ∉ X.fs := fun hb => by
  have := (ok.funs.mem hb).1
  rw [e] at this; cases this
theorem Inv.bs (I : Inv X pins σ H s) : ∀ b o, X.base.get? b = some o → s.heap.get? b = some o ∧ H b = none := fun b o e =>
  ⟨I.base.keep b o (I.ok.bs b o e).1 (I.ok.bs b o e).2 (I.ok.nofr e) (I.ok.noex b o e), I.base.free b o (I.ok.bs b o e).1 (I.ok.bs b o e).2 (I.ok.noex b o e)⟩
theorem Inv.bk (I : Inv X pins σ H s) : ∀ b o, X.base.get? b = some o → s.heap.get? b = some o := fun b o e => (I.bs b o e).1
theorem Inv.mod (I : Inv X pins σ H s) : Mod X.K X.mg X.base := I.ok.mod
theorem Inv.kIn (I : Inv X pins σ H s) : X.K.In s.heap := I.ok.mod.kin.keeps I.bk
theorem Inv.lt (I : Inv X pins σ H s) : X.env.locals < s.heap.objs.size := let ⟨_, hn, _⟩ := I.loc; hn.lt
theorem Inv.sz (I : Inv X pins σ H s) : X.s₀.heap.objs.size ≤ s.heap.objs.size := Nat.le_trans I.ok.above (Nat.le_of_lt I.lt)
theorem Inv.nofs (I : Inv X pins σ H s) {a : Addr} (h : s.heap.objs.size ≤ a) : a ∉ X.fs := fun hb => by
  obtain ⟨_, o, ho, _⟩ := I.ok.funs.mem hb
  exact absurd (Nat.lt_of_lt_of_le (Heap.lt_size ho) (Nat.le_trans I.sz h)) (Nat.lt_irrefl _)
theorem Inv.cne (I : Inv X pins σ H s) : ∀ x c, X.env.cells.lookup x = some c → c ≠ X.env.locals := fun x c e z => by
  obtain ⟨v, o, ho, hd⟩ := I.cell x c e
  obtain ⟨m, ⟨o', es, ep, ho', hd', _⟩, _⟩ := I.loc
  rw [z, ho'] at ho; cases ho; rw [hd'] at hd; cases hd
theorem Inv.funs (I : Inv X pins σ H s) : s.heap.FunFrames X.base X.outer := by
  have all : ∀ (l : List Env), (∀ b ∈ frs l, b ∈ X.fs) → X.s₀.heap.FunFrames X.base l → s.heap.FunFrames X.base l := by
    intro l
    induction l with
    | nil => intro _ _; trivial
    | cons env r ih =>
      intro hs hl
      obtain ⟨hk, ⟨L, o, hf, hn, ho, hd⟩, hr⟩ := hl
      have hL : L ∈ X.fs := hs L (by unfold frs; rw [List.filterMap_cons, hf]; exact List.mem_cons_self)
      obtain ⟨sl, e⟩ := I.base.slot L o ho (I.ok.frf L hL) hL fun z => I.ok.exfs L z hL
      exact ⟨hk, ⟨L, _, hf, hn, e, hd⟩, ih (fun b hb => hs b (by unfold frs; rw [List.filterMap_cons, hf]; exact List.mem_cons_of_mem _ hb)) hr⟩
  exact all X.outer (fun _ hb => hb) I.ok.funs
theorem Inv.stack (I : Inv X pins σ H s) : s.heap.FunFrames X.base X.stack := by
  rcases I.ok.stk with e | ⟨e, hf⟩
  · rw [e]; exact I.funs
  · rw [e]
    obtain ⟨m, hn, _⟩ := I.loc
    refine .cons (by rw [I.ok.kind]; decide) hf hn ?_ I.funs
    exact Heap.get?_none_of_le (Nat.le_trans I.ok.bsz I.ok.above)
theorem Inv.stkSub (I : Inv X pins σ H s) : ∀ b ∈ frs X.stack, b ∈ X.env.locals :: X.fs := fun b hb => by
  rcases I.ok.stk with e | ⟨e, hf⟩
  · rw [e] at hb; exact List.mem_cons_of_mem _ hb
  · rw [e] at hb
    unfold frs at hb
    rw [List.filterMap_cons, hf] at hb
    exact hb
theorem Inv.stkFree (I : Inv X pins σ H s) : ∀ b ∈ frs X.stack, H b = none := fun b hb => by
  rcases List.mem_cons.mp (I.stkSub b hb) with e | hb
  · rw [e]; exact I.free
  · obtain ⟨_, o, ho, _⟩ := I.ok.funs.mem hb
    exact I.base.free b o ho (I.ok.frf b hb) fun z => I.ok.exfs b z hb
theorem Inv.step {g' : Array GenState} {t' : Nat} {d' : Drawn} {ch : List Addr} (I : Inv X pins σ H s)
    (hch : ∀ b ∈ ch, (b ∈ X.ex ∨ X.s₀.heap.objs.size ≤ b) ∧ b ≠ X.env.locals ∧ (∀ x c, X.env.cells.lookup x = some c → c ≠ b) ∧ ∀ p ∈ X.pn ++ pins, p.1 ≠ b)
    (keep : ∀ b o, b ≠ X.env.locals → b ∉ X.fs → b ∉ ch → s.heap.get? b = some o → H b = none → h'.get? b = some o)
    (slot : ∀ b o, b ≠ X.env.locals → b ∈ X.fs → b ∉ ch → s.heap.get? b = some o → H b = none → ∃ sl, h'.get? b = some { o with slots := sl }) (free : ∀ b o, b ∉ ch → s.heap.get? b = some o → H b = none → H' b = none)
    (there : ∀ b o, b ∉ ch → s.heap.get? b = some o → ∃ o', h'.get? b = some o')
    (tups : ∀ b xs, H b = some (.tup xs) → H' b = some (.tup xs)) (frzs : ∀ b o u, H b = some (.frz o u) → H' b = some (.frz o u)) (tbls : ∀ b ps, H b = some (.tbl ps) → ∃ more, H' b = some (.tbl (ps ++ more)))
    (ns : ∀ m, s.heap.Ns X.env.locals m → h'.Ns X.env.locals m) (hok : HOk X.prog X.w H' h') (hg : AllBare g') :
    Inv X pins σ H' { s with heap := h', gens := g', drawn := d', toks := t' } := by
  have neL : ∀ b o, X.s₀.heap.get? b = some o → b ≠ X.env.locals := fun b o e => Nat.ne_of_lt (Nat.lt_of_lt_of_le (Heap.lt_size e) I.ok.above)
  have neC : ∀ b o, X.s₀.heap.get? b = some o → b ∉ X.ex → b ∉ ch := fun b o e hx hb => by
    rcases (hch b hb).1 with z | z
    · exact hx z
    · exact absurd (Nat.lt_of_lt_of_le (Heap.lt_size e) z) (Nat.lt_irrefl _)
  have cellK : ∀ x c, X.env.cells.lookup x = some c → ∀ v, s.heap.IsCell c v → h'.IsCell c v := fun x c e v ⟨o, ho, hd⟩ => by
    have nch : c ∉ ch := fun z => (hch c z).2.2.1 x c e rfl
    by_cases hc : c ∈ X.fs
    · obtain ⟨sl, q⟩ := slot c o (I.cne x c e) hc nch ho (I.freeC x c e)
      exact ⟨_, q, hd⟩
    · exact ⟨o, keep c o (I.cne x c e) hc nch ho (I.freeC x c e), hd⟩
  refine ⟨I.ok, I.os, hg, ⟨fun b o e n hb hx => ?_, fun b o e n hb hx => ?_, fun b o e n hx => ?_, fun b o e hx => ?_, fun b xs e => tups b xs (I.base.tups b xs e), fun b o xs e => frzs b o xs (I.base.frzs b o xs e), fun b ps e => ?_⟩, ?_, fun x c e => ?_, ?_, fun x c e => ?_, fun p hp => ?_, hok, I.len⟩
  · exact keep b o (neL b o e) hb (neC b o e hx) (I.base.keep b o e n hb hx) (I.base.free b o e n hx)
  · obtain ⟨sl, e1⟩ := I.base.slot b o e n hb hx
    obtain ⟨sl', e2⟩ := slot b _ (neL b o e) hb (neC b o e hx) e1 (I.base.free b o e n hx)
    exact ⟨sl', e2⟩
  · obtain ⟨o', e1⟩ := I.base.there b o e hx
    exact free b o' (neC b o e hx) e1 (I.base.free b o e n hx)
  · obtain ⟨o', e1⟩ := I.base.there b o e hx
    exact there b o' (neC b o e hx) e1
  · obtain ⟨m1, e1⟩ := I.base.tbls b ps e
    obtain ⟨m2, e2⟩ := tbls b _ e1
    exact ⟨m1 ++ m2, by rw [e2, Array.append_assoc]⟩
  · obtain ⟨m, hn, hl⟩ := I.loc
    refine ⟨m, ns m hn, fun i x v e1 e2 e3 => ?_⟩
    obtain ⟨u, r, l⟩ := hl i x v e1 e2 e3
    refine ⟨u, r, ?_⟩
    rcases l with l | ⟨k, c, e, z⟩
    · exact .inl l
    · exact .inr ⟨k, c, e, cellK x c e _ z⟩
  · obtain ⟨v, z⟩ := I.cell x c e
    exact ⟨v, cellK x c e v z⟩
  · obtain ⟨m, ⟨o, _, _, ho, _⟩, _⟩ := I.loc
    exact free _ o (fun z => (hch _ z).2.1 rfl) ho I.free
  · obtain ⟨v, o, ho, hd⟩ := I.cell x c e
    exact free c o (fun z => (hch c z).2.2.1 x c e rfl) ho (I.freeC x c e)
  · obtain ⟨e, n, ne, nf, d⟩ := I.pin p hp
    have nch : p.1 ∉ ch := fun z => (hch p.1 z).2.2.2 p hp rfl
    exact ⟨keep p.1 p.2 ne nf nch e n, free p.1 p.2 nch e n, ne, nf, d⟩
theorem Inv.un {t' : Nat} (I : Inv X pins σ H s) (u : Un X.fs [] H H' s.heap h') (hok : HOk X.prog X.w H' h') : Inv X pins σ H' { s with heap := h', toks := t' } := by
  obtain ⟨m, ⟨o, es, ep, ho, r⟩, _⟩ := id I.loc
  obtain ⟨sl, hL⟩ := u.any ho I.free (by simp)
  exact I.step (g' := s.gens) (d' := s.drawn) (ch := []) (fun _ z => nomatch z) (fun b o _ hb _ e n => u.keep b o e n hb (by simp)) (fun b o _ hb _ e n => u.slot b o e n hb (by simp)) (fun b o _ e n => u.free b o e n (by simp)) (fun b o _ e => u.there b o e (by simp)) u.tups u.frzs u.tbls (fun m' hm => by
    obtain ⟨o', es', ep', ho', r'⟩ := hm
    rw [ho] at ho'; cases ho'
    exact ⟨_, es', ep', hL, r'⟩) hok I.bare
theorem Inv.call {g' : Array GenState} {t' : Nat} {d' : Drawn} {ch : List Addr} (I : Inv X pins σ H s) (u : Un (frs X.stack) ch H H' s.heap h') (hok : HOk X.prog X.w H' h') (hg : AllBare g')
    (hch : ∀ b ∈ ch, (b ∈ X.ex ∨ X.s₀.heap.objs.size ≤ b) ∧ b ≠ X.env.locals ∧ (∀ x c, X.env.cells.lookup x = some c → c ≠ b) ∧ ∀ p ∈ X.pn ++ pins, p.1 ≠ b) :
    Inv X pins σ H' { s with heap := h', gens := g', drawn := d', toks := t' } := by
  obtain ⟨m, ⟨o, es, ep, ho, r⟩, _⟩ := id I.loc
  obtain ⟨sl, hL⟩ := u.any ho I.free fun z => (hch _ z).2.1 rfl
  exact I.step (ch := ch) hch (fun b o hL hb hc e n => u.keep b o e n (fun z => (List.mem_cons.mp (I.stkSub b z)).elim hL hb) hc) (fun b o _ _ hc e n => u.any e n hc) (fun b o hc e n => u.free b o e n hc) (fun b o hc e => u.there b o e hc) u.tups u.frzs u.tbls (fun m' hm => by
    obtain ⟨o', es', ep', ho', r'⟩ := hm
    rw [ho] at ho'; cases ho'
    exact ⟨_, es', ep', hL, r'⟩) hok hg
theorem Inv.turned {t' : Nat} {it : Addr} (I : Inv X pins σ H s) (k : ∀ b o, b ≠ it → s.heap.get? b = some o → h'.get? b = some o) (hn : H it = none) (hL : it ≠ X.env.locals)
    (h1 : it ∈ X.ex ∨ X.s₀.heap.objs.size ≤ it) (h2 : ∀ x c, X.env.cells.lookup x = some c → c ≠ it) (h3 : ∀ p ∈ X.pn ++ pins, p.1 ≠ it) : Inv X pins σ H { s with heap := h', toks := t' } := by
  have nit : ∀ b u, H b = some u → b ≠ it := fun b u e z => by rw [z, hn] at e; cases e
  refine I.step (g' := s.gens) (d' := s.drawn) (ch := [it]) (fun b hb => ?_) (fun b o _ _ hc e _ => k b o (fun z => hc (by simp [z])) e) (fun b o _ _ hc e _ => ⟨o.slots, k b o (fun z => hc (by simp [z])) e⟩) (fun _ _ _ _ n => n)
    (fun b o hc e => ⟨o, k b o (fun z => hc (by simp [z])) e⟩) (fun _ _ e => e) (fun _ _ _ e => e) (fun b ps e => ⟨#[], by rw [e]; simp⟩) (fun m hm => ?_) (fun b u e => ?_) I.bare
  · have e : b = it := by simpa using hb
    subst e
    exact ⟨h1, hL, h2, h3⟩
  · obtain ⟨o, es, ep, ho, r⟩ := hm
    exact ⟨o, es, ep, k _ o (Ne.symm hL) ho, r⟩
  · refine (I.hok b u e).stay (fun c v hc q => k c v ?_ q) (fun _ q => q) fun _ _ q => q
    rcases hc with z | z
    · rw [z]; exact nit b u e
    · exact nit c _ z
theorem Inv.tok (I : Inv X pins σ H s) (t : Nat) : Inv X pins σ H { s with toks := t } := I.un (h' := s.heap) (t' := t) Un.refl I.hok
theorem Inv.kept {t' : Nat} (I : Inv X pins σ H s) (k : ∀ b u, s.heap.get? b = some u → h'.get? b = some u) : Inv X pins σ H { s with heap := h', toks := t' } := I.un (Un.kept k) (I.hok.kept k)
theorem Inv.laid {a : Addr} {o : HO} {t' : Nat} (I : Inv X pins σ H s) (k : ∀ b u, s.heap.get? b = some u → h'.get? b = some u) (hp : s.heap.objs.size ≤ a) (new : ObjOk X.prog X.w (upd H a o) h' a o) :
    Inv X pins σ (upd H a o) { s with heap := h', toks := t' } := I.un (Un.laid k hp (I.hok.fresh hp)) (I.hok.laid k hp new)
theorem Inv.write {x e : Addr} {o : HO} {t' : Nat} (I : Inv X pins σ H s) (mu : Mut (H x)) (he : e = x ∨ H e = some (.own x)) (k : ∀ b u, b ≠ e → s.heap.get? b = some u → h'.get? b = some u) (heo : ∃ u, h'.get? e = some u)
    (new : ObjOk X.prog X.w (upd H x o) h' x o) : Inv X pins σ (upd H x o) { s with heap := h', toks := t' } := I.un (Un.write mu he k heo) (I.hok.write mu he k heo new)
theorem Inv.pins_of {pins' : List (Addr × Obj)} (I : Inv X pins σ H s) (h : ∀ p ∈ pins', s.heap.get? p.1 = some p.2 ∧ H p.1 = none ∧ p.1 ≠ X.env.locals ∧ p.1 ∉ X.fs ∧ ∀ v, p.2.data ≠ .cell v) : Inv X pins' σ H s :=
  ⟨I.ok, I.os, I.bare, I.base, I.loc, I.cell, I.free, I.freeC, fun p hp => (List.mem_append.mp hp).elim (fun z => I.pin p (List.mem_append_left _ z)) (h p), I.hok, I.len⟩
theorem nodup_ix {N : List Str} (hN : N.Nodup) {i j : Nat} {x : Str} (a : N[i]? = some x) (b : N[j]? = some x) : i = j := by
  obtain ⟨h1, e1⟩ := List.getElem?_eq_some_iff.mp a
  obtain ⟨h2, e2⟩ := List.getElem?_eq_some_iff.mp b
  exact (List.getElem_inj hN).mp (e1.trans e2.symm)
theorem store_ok2 {M : Model} {A : Around} {E : Value → Shared → Prop} {i : Nat} {x : Str} {v : V} {u : Value} {Q : Unit → Shared → Prop} (I : Inv X pins σ H s) (hN : X.N.Nodup) (hi : X.N[i]? = some x) (hx : Loc X.env.scope x) (r : RelV v u)
    (h : ∀ s', Inv X pins (σ.set i (some v)) H s' → (∃ a, Heap.SameBut a s.heap s'.heap ∧ (a = X.env.locals ∨ X.env.cells.lookup x = some a)) → Q () s') (hf : X.fn x = true ∨ X.env.scope.names.lookup x = some .local := by first | exact .inl rfl | exact .inr rfl | assumption) : wpAny M A (storeName X.env x u) Q E s := by
  obtain ⟨m, hn, hl⟩ := id I.loc
  have hcls : (X.env.scope.kind == .class || (X.env.scope.kind == .module && X.env.locals != X.env.globals)) = false := by rw [I.ok.kind]; rfl
  have hiσ : i < σ.length := by rw [I.len]; exact (List.getElem?_eq_some_iff.mp hi).1
  have cne := I.cne
  have tracked : ∀ {a : Addr} {h' : Heap}, (∃ o, s.heap.get? a = some o ∧ H a = none) → Heap.SameBut a s.heap h' → HOk X.prog X.w H h' := fun {a h'} ha hs b ob e => by
    obtain ⟨_, _, hfree⟩ := ha
    refine (I.hok b ob e).stay (fun c w' hc q => (hs.2 c ?_).trans q) (fun _ q => q) fun _ _ q => q
    rintro rfl
    rcases hc with rfl | hc
    · rw [hfree] at e; cases e
    · rw [hfree] at hc; cases hc
  rcases hx with hk | hk
  · refine wpAny_storeName_local hk hn (fun h' hn' hs => ?_) hcls
    obtain ⟨oL, _, _, hoL, _⟩ := id hn
    refine h _ ⟨I.ok, I.os, I.bare, ⟨fun b o e n hb hx => ?_, fun b o e n hb hx => ?_, I.base.free, fun b o e hx => ?_, I.base.tups, I.base.frzs, I.base.tbls⟩, ⟨_, hn', fun j y v' e1 e2 e3 => ?_⟩, fun y c e => ?_, I.free, I.freeC, fun p hp => ?_, tracked ⟨oL, hoL, I.free⟩ hs, by simpa using I.len⟩ ⟨_, hs, .inl rfl⟩
    · exact (hs.2 b (Nat.ne_of_lt (Nat.lt_of_lt_of_le (Heap.lt_size e) I.ok.above))).trans (I.base.keep b o e n hb hx)
    · obtain ⟨sl, e1⟩ := I.base.slot b o e n hb hx
      exact ⟨sl, (hs.2 b (Nat.ne_of_lt (Nat.lt_of_lt_of_le (Heap.lt_size e) I.ok.above))).trans e1⟩
    · obtain ⟨o', e1⟩ := I.base.there b o e hx
      exact ⟨o', (hs.2 b (Nat.ne_of_lt (Nat.lt_of_lt_of_le (Heap.lt_size e) I.ok.above))).trans e1⟩
    · by_cases hj : j = i
      · subst hj
        rw [hi] at e1; cases e1
        rw [List.getElem?_set_self hiσ] at e2
        cases e2
        exact ⟨u, r, .inl ⟨hk, by simp⟩⟩
      · rw [List.getElem?_set_ne (Ne.symm hj)] at e2
        obtain ⟨u', r', q⟩ := hl j y v' e1 e2 e3
        refine ⟨u', r', ?_⟩
        rcases q with ⟨k, e⟩ | ⟨k, c, e, z⟩
        · refine .inl ⟨k, ?_⟩
          have : y ≠ x := fun e => hj (nodup_ix hN e1 (e ▸ hi))
          simp [this, e]
        · exact .inr ⟨k, c, e, z.sameBut hs (cne y c e)⟩
    · obtain ⟨w', z⟩ := I.cell y c e
      exact ⟨w', z.sameBut hs (cne y c e)⟩
    · obtain ⟨e, n, ne, nf, d⟩ := I.pin p hp
      exact ⟨(hs.2 p.1 ne).trans e, n, ne, nf, d⟩
  · have hfn : X.fn x = true := by
      rcases hf with z | z
      · exact z
      · rw [z] at hk; cases hk
    obtain ⟨c, hc⟩ := I.ok.has x (.inl hk)
    obtain ⟨w', z⟩ := I.cell x c hc
    refine wpAny_storeName_cell I.ok.kind hk hc z (fun h' hc' hs => ?_)
    obtain ⟨oc, hoc, hocd⟩ := id z
    refine h { s with heap := h' } ⟨I.ok, I.os, I.bare, ⟨fun b o e n hb hx => ?_, fun b o e n hb hx => ?_, I.base.free, fun b o e hx => ?_, I.base.tups, I.base.frzs, I.base.tbls⟩, ⟨m, hn.sameBut hs (Ne.symm (cne x c hc)), fun j y v' e1 e2 e3 => ?_⟩, fun y c' e => ?_, I.free, I.freeC, fun p hp => ?_, tracked ⟨oc, hoc, I.freeC x c hc⟩ hs, by simpa using I.len⟩ ⟨c, hs, .inr hc⟩
    · exact (hs.2 b (Nat.ne_of_lt (Nat.lt_of_lt_of_le (Heap.lt_size e) (I.ok.cab x c hfn hc)))).trans (I.base.keep b o e n hb hx)
    · obtain ⟨sl, e1⟩ := I.base.slot b o e n hb hx
      exact ⟨sl, (hs.2 b (Nat.ne_of_lt (Nat.lt_of_lt_of_le (Heap.lt_size e) (I.ok.cab x c hfn hc)))).trans e1⟩
    · obtain ⟨o', e1⟩ := I.base.there b o e hx
      exact ⟨o', (hs.2 b (Nat.ne_of_lt (Nat.lt_of_lt_of_le (Heap.lt_size e) (I.ok.cab x c hfn hc)))).trans e1⟩
    · by_cases hj : j = i
      · subst hj
        rw [hi] at e1; cases e1
        rw [List.getElem?_set_self hiσ] at e2
        cases e2
        exact ⟨u, r, .inr ⟨.inl hk, c, hc, hc'⟩⟩
      · rw [List.getElem?_set_ne (Ne.symm hj)] at e2
        obtain ⟨u', r', q⟩ := hl j y v' e1 e2 e3
        refine ⟨u', r', ?_⟩
        rcases q with q | ⟨k, c', e, z'⟩
        · exact .inl q
        · refine .inr ⟨k, c', e, z'.sameBut hs ?_⟩
          rintro rfl
          exact hj (nodup_ix hN e1 (I.ok.inj _ _ _ e hc ▸ hi))
    · by_cases hcc : c' = c
      · subst hcc; exact ⟨_, hc'⟩
      · obtain ⟨w2, z2⟩ := I.cell y c' e
        exact ⟨w2, z2.sameBut hs hcc⟩
    · obtain ⟨e, n, ne, nf, d⟩ := I.pin p hp
      refine ⟨(hs.2 p.1 ?_).trans e, n, ne, nf, d⟩
      intro q
      rw [q, hoc] at e
      have q' : oc = p.2 := Option.some.inj e
      exact d w' (by rw [← q']; exact hocd)
theorem store_ok {M : Model} {A : Around} {E : Value → Shared → Prop} {i : Nat} {x : Str} {v : V} {u : Value} {Q : Unit → Shared → Prop} (I : Inv X pins σ H s) (hN : X.N.Nodup) (hi : X.N[i]? = some x) (hx : Loc X.env.scope x) (r : RelV v u)
    (h : ∀ s', Inv X pins (σ.set i (some v)) H s' → Q () s') (hf : X.fn x = true ∨ X.env.scope.names.lookup x = some .local := by first | exact .inl rfl | exact .inr rfl | assumption) : wpAny M A (storeName X.env x u) Q E s :=
  store_ok2 I hN hi hx r (fun s' I' _ => h s' I') hf
theorem Inv.call' {s' : Shared} {ch : List Addr} (I : Inv X pins σ H s) (ho : s'.os = s.os) (u : Un (frs X.stack) ch H H' s.heap s'.heap) (hok : HOk X.prog X.w H' s'.heap) (hg : AllBare s'.gens)
    (hch : ∀ b ∈ ch, (b ∈ X.ex ∨ X.s₀.heap.objs.size ≤ b) ∧ b ≠ X.env.locals ∧ (∀ x c, X.env.cells.lookup x = some c → c ≠ b) ∧ ∀ p ∈ X.pn ++ pins, p.1 ≠ b) : Inv X pins σ H' s' := by
  obtain ⟨h', g', d', t', o'⟩ := s'
  have e : o' = s.os := ho
  subst e
  exact I.call (g' := g') (t' := t') (d' := d') u hok hg hch
end
abbrev XK := Value → Option Addr → Hp → Prop
abbrev St := List (Option V)
abbrev VK := V → Hp → Prop
abbrev TE := St → Hp → VK → Prop
abbrev TT := St → Hp → (Bool → Hp → Prop) → Prop
abbrev TA := St → Hp → (List V → Hp → Prop) → Prop
structure Ends where
  nx : St → Hp → Prop
  rt : VK
  bk : St → Hp → Prop := fun _ _ => False
  ct : St → Hp → Prop := fun _ _ => False
abbrev TS := Ends → St → Hp → Prop
def EP (X : Cx) (pins : List (Addr × Obj)) (σ : St) (Q : VK) (u : Value) (s' : Shared) : Prop := ∃ v H', Inv X pins σ H' s' ∧ RelV v u ∧ Q v H'
def TP (X : Cx) (pins : List (Addr × Obj)) (σ : St) (Q : Bool → Hp → Prop) (b : Bool) (s' : Shared) : Prop := ∃ H', Inv X pins σ H' s' ∧ Q b H'
def AP (X : Cx) (pins : List (Addr × Obj)) (σ : St) (Q : List V → Hp → Prop) (us : List Value) (s' : Shared) : Prop := ∃ vs H', Inv X pins σ H' s' ∧ Vals vs us ∧ Q vs H'
def SP (X : Cx) (pins : List (Addr × Obj)) (D : Ends) (f : Flow) (s' : Shared) : Prop :=
  match f with
  | .next => ∃ σ' H', Inv X pins σ' H' s' ∧ D.nx σ' H'
  | .brk => ∃ σ' H', Inv X pins σ' H' s' ∧ D.bk σ' H'
  | .cont => ∃ σ' H', Inv X pins σ' H' s' ∧ D.ct σ' H'
  | .ret u => ∃ v σ' H', Inv X pins σ' H' s' ∧ RelV v u ∧ D.rt v H'
def PE (X : Cx) (e : Expr) (t : TE) : Prop :=
  ∀ (pins : List (Addr × Obj)) (s : Shared) (σ : St) (H : Hp) (Q : VK), Inv X pins σ H s → t σ H Q → wpAny (model X.prog X.w) X.A (eval e X.env) (EP X pins σ Q) X.xe s
def PT (X : Cx) (e : Expr) (t : TT) : Prop :=
  ∀ (pins : List (Addr × Obj)) (s : Shared) (σ : St) (H : Hp) (Q : Bool → Hp → Prop), Inv X pins σ H s → t σ H Q → wpAny (model X.prog X.w) X.A (isTrue e X.env (eval e X.env)) (TP X pins σ Q) X.xe s
def PW (X : Cx) (e : Expr) (t : TT) : Prop :=
  ∀ (whole : Sem Value) (pins : List (Addr × Obj)) (s : Shared) (σ : St) (H : Hp) (Q : Bool → Hp → Prop), Inv X pins σ H s → t σ H Q → wpAny (model X.prog X.w) X.A (isTrue e X.env whole) (TP X pins σ Q) X.xe s
theorem PW.pt {X : Cx} {e : Expr} {t : TT} (h : PW X e t) : PT X e t := h _
def PA (X : Cx) (es : List Expr) (t : TA) : Prop :=
  ∀ (pos : Pos) (pins : List (Addr × Obj)) (s : Shared) (σ : St) (H : Hp) (Q : List V → Hp → Prop), Inv X pins σ H s → t σ H Q → wpAny (model X.prog X.w) X.A (spliced (backTo pos (starEach es X.env))) (AP X pins σ Q) X.xe s
def PS (X : Cx) (st : Stmt) (t : TS) : Prop :=
  ∀ (pins : List (Addr × Obj)) (s : Shared) (σ : St) (H : Hp) (D : Ends), Inv X pins σ H s → t D σ H → wpAny (model X.prog X.w) X.A (exec st X.env) (SP X pins D) X.xe s
def PSs (X : Cx) (st : List Stmt) (t : TS) : Prop :=
  ∀ (pins : List (Addr × Obj)) (s : Shared) (σ : St) (H : Hp) (D : Ends), Inv X pins σ H s → t D σ H → wpAny (model X.prog X.w) X.A (execs st X.env) (SP X pins D) X.xe s
theorem thn {α : Type} {t : Sem α} {Q Q' : α → Shared → Prop} {M : Model} {A : Around} {E : Value → Shared → Prop} {s : Shared} (h : wpAny M A t Q E s) (hQ : ∀ a s, Q a s → Q' a s) : wpAny M A t Q' E s := wpAny_mono h hQ fun _ _ x => x
end L2
namespace L2
open PySem PySem.Spec PyProof.Rows
section
variable {X : Cx}
theorem bin {a b : Expr} {ta tb : TE} (ha : PE X a ta) (hb : PE X b tb) {pins : List (Addr × Obj)} {s : Shared} {σ : St} {H : Hp} {R : V → V → Hp → Prop} (I : Inv X pins σ H s) (h : ta σ H fun x H1 => tb σ H1 fun y H2 => R x y H2)
    {α : Type} {Q : α → Shared → Prop} {f : Value → Value → Sem α}
    (hf : ∀ v u s2 x y H2, Inv X pins σ H2 s2 → RelV x v → RelV y u → R x y H2 → wpAny (model X.prog X.w) X.A (f v u) Q X.xe s2) :
    wpAny (model X.prog X.w) X.A (eval a X.env) (fun v s₁ => wpAny (model X.prog X.w) X.A (eval b X.env) (fun u s₂ => wpAny (model X.prog X.w) X.A (f v u) Q X.xe s₂) X.xe s₁) X.xe s := by
  refine thn (ha pins s σ H _ I h) fun v s1 ⟨x, H1, I1, r1, q1⟩ => ?_
  refine thn (hb pins s1 σ H1 _ I1 q1) fun u s2 ⟨y, H2, I2, r2, q2⟩ => ?_
  exact hf v u s2 x y H2 I2 r1 r2 q2
def tVar (i : Nat) : TE := fun σ H Q => ∃ v, σ[i]? = some (some v) ∧ Q v H
def tC (v : V) : TE := fun _ H Q => Q v H
theorem pe_var {i : Nat} {x : Str} {pos : Pos} (hN : X.N[i]? = some x) (hv : Vis X.env.scope x) (hd : (x == ("__debug__" : Str)) = false := by decide) (hcd : (x == ("__classdict__" : Str)) = false := by decide) : PE X (.Name x pos) (tVar i) := by
  intro pins s σ H Q I h
  obtain ⟨v, e, h⟩ := h
  obtain ⟨m, hn, hl⟩ := I.loc
  obtain ⟨u, r, l⟩ := hl i x v hN e hv
  have fin : EP X pins σ Q u s := ⟨v, H, I, r, h⟩
  rcases l with ⟨hk, hm⟩ | ⟨hk, c, hc, hcell⟩
  · exact wpAny_Name (wpAny_loadName_local I.ok.kind hk hn hm fin) hd
  · rcases hk with hk | hk
    · exact wpAny_Name (wpAny_loadName_cell I.ok.kind hk hc hcell fin) hd
    · exact wpAny_Name (wpAny_loadName_free I.ok.kind hk hc hcell fin hcd) hd
theorem pe_int {i j pos} : PE X (.Constant (.int i) j pos) (tC (.int i)) := fun _ _ _ H _ I h => wpAny_Constant_int ⟨.int i, H, I.tok _, ⟨_, rfl⟩, h⟩
theorem pe_bl {b j pos} : PE X (.Constant (.bool b) j pos) (tC (.bl b)) := fun _ _ _ H _ I h => Constant_bool ⟨.bl b, H, I, rfl, h⟩
theorem pe_str {x j pos} : PE X (.Constant (.str x) j pos) (tC (.str x)) := fun _ _ _ H _ I h => Calls.Constant_str ⟨.str x, H, I.tok _, ⟨_, rfl⟩, h⟩
def Gl (X : Cx) (x : Str) : Prop := X.env.kindOf x = some .globalImplicit
theorem ld_glob {E : Value → Shared → Prop} {pins : List (Addr × Obj)} {s : Shared} {σ : St} {H : Hp} {x : Str} {u : Value} {pos : Pos} {Q : Value → Shared → Prop} (I : Inv X pins σ H s) (hg : Gl X x) (hm : X.mg x = some u) (h : Q u s)
    (hd : (x == ("__debug__" : Str)) = false := by decide) : wpAny (model X.prog X.w) X.A (eval (.Name x pos) X.env) Q E s :=
  Calls.Name_function_global I.ok.kind hg (Calls.loadGlobal_global (by rw [I.ok.glob]; exact I.mod.glob.keeps I.bk) hm h) hd
theorem ld_blt {E : Value → Shared → Prop} {pins : List (Addr × Obj)} {s : Shared} {σ : St} {H : Hp} {x : Str} {u : Value} {pos : Pos} {Q : Value → Shared → Prop} (I : Inv X pins σ H s) (hg : Gl X x) (hm : X.mg x = none) (hv : bootBuiltins x = some u) (h : Q u s)
    (hn : x ≠ "__name__" := by decide) (hd : (x == ("__debug__" : Str)) = false := by decide) : wpAny (model X.prog X.w) X.A (eval (.Name x pos) X.env) Q E s := by
  obtain ⟨mb, h1, h2⟩ := I.mod.blt
  exact Calls.Name_function_global I.ok.kind hg (Calls.loadGlobal_builtin (by rw [I.ok.glob]; exact I.mod.glob.keeps I.bk) hm (by rw [I.ok.blt]; exact h1.keeps I.bk) ((h2 x hn).trans hv) h) hd
theorem pe_glob {x : Str} {v : V} {u : Value} {pos : Pos} (hg : Gl X x) (hm : X.mg x = some u) (r : RelV v u) (hd : (x == ("__debug__" : Str)) = false := by decide) : PE X (.Name x pos) (tC v) :=
  fun _ _ _ H _ I h => ld_glob I hg hm ⟨v, H, I, r, h⟩ hd
theorem pe_bltn {x : Str} {v : V} {u : Value} {pos : Pos} (hg : Gl X x) (hm : X.mg x = none) (hv : bootBuiltins x = some u) (r : RelV v u) (hn : x ≠ "__name__" := by decide) (hd : (x == ("__debug__" : Str)) = false := by decide) : PE X (.Name x pos) (tC v) :=
  fun _ _ _ H _ I h => ld_blt I hg hm hv ⟨v, H, I, r, h⟩ hn hd
variable {a b : Expr} {ta tb : TE} {pos : Pos}
variable {tA tB' : TT} {rest : List Expr}
def tOr (t u : TT) : TT := fun σ H Q => t σ H fun c H1 => if c = true then Q true H1 else u σ H1 Q
def tNot (t : TT) : TT := fun σ H Q => t σ H fun c H1 => Q (!c) H1
theorem pw_or1 (ha : PT X a tA) : PW X (.BoolOp .Or [a] pos) tA := by
  intro wh pins s σ H Q I h
  refine isTrue_or (thn (ha pins s σ H Q I h) fun c s1 e => ?_)
  cases c with
  | false => exact isTrue_or_nil e
  | true => exact e
theorem pw_or (ha : PT X a tA) (hb : PW X (.BoolOp .Or (b :: rest) pos) tB') : PW X (.BoolOp .Or (a :: b :: rest) pos) (tOr tA tB') := by
  intro wh pins s σ H Q I h
  refine isTrue_or (thn (ha pins s σ H _ I h) fun c s1 ⟨H1, I1, q1⟩ => ?_)
  cases c with
  | true => exact ⟨H1, I1, q1⟩
  | false => exact hb wh pins s1 σ H1 Q I1 q1
theorem pt_not (ha : PT X a tA) : PT X (.UnaryOp .Not a pos) (tNot tA) := by
  intro pins s σ H Q I h
  exact isTrue_not (ha pins s σ H (fun c H1 => Q (!c) H1) I h)
def tAndV (ta tb : TE) : TE := fun σ H Q => ta σ H fun x H1 => ∃ c, x = .bl c ∧ if c = true then tb σ H1 Q else Q (.bl false) H1
def tOrV (ta tb : TE) : TE := fun σ H Q => ta σ H fun x H1 => ∃ c, x = .bl c ∧ if c = true then Q (.bl true) H1 else tb σ H1 Q
def tNotV (ta : TE) : TE := fun σ H Q => ta σ H fun x H1 => ∃ c, x = .bl c ∧ Q (.bl (!c)) H1
theorem pe_one {op} {t : TE} (h : PE X a t) : PE X (.BoolOp op [a] pos) t := fun pins s σ H Q I hw => BoolOp_one (h pins s σ H Q I hw)
theorem pe_and (ha : PE X a ta) (hb : PE X (.BoolOp .And (b :: rest) pos) tb) : PE X (.BoolOp .And (a :: b :: rest) pos) (tAndV ta tb) := by
  intro pins s σ H Q I h
  refine BoolOp_and (thn (ha pins s σ H _ I h) fun v s1 ⟨x, H1, I1, r1, q1⟩ => ?_)
  obtain ⟨c, rfl, q1⟩ := q1
  cases r1
  refine wpAny_truthy_bool ?_
  cases c with
  | true => exact hb pins s1 σ H1 Q I1 q1
  | false => exact ⟨.bl false, H1, I1, rfl, q1⟩
theorem pe_or (ha : PE X a ta) (hb : PE X (.BoolOp .Or (b :: rest) pos) tb) : PE X (.BoolOp .Or (a :: b :: rest) pos) (tOrV ta tb) := by
  intro pins s σ H Q I h
  refine BoolOp_or (thn (ha pins s σ H _ I h) fun v s1 ⟨x, H1, I1, r1, q1⟩ => ?_)
  obtain ⟨c, rfl, q1⟩ := q1
  cases r1
  refine wpAny_truthy_bool ?_
  cases c with
  | false => exact hb pins s1 σ H1 Q I1 q1
  | true => exact ⟨.bl true, H1, I1, rfl, q1⟩
theorem pe_not (ha : PE X a ta) : PE X (.UnaryOp .Not a pos) (tNotV ta) := by
  intro pins s σ H Q I h
  refine UnaryOp_ (thn (ha pins s σ H _ I h) fun v s1 ⟨x, H1, I1, r1, q1⟩ => ?_)
  obtain ⟨c, rfl, q1⟩ := q1
  cases r1
  exact not_of (wpAny_truthy_bool ⟨.bl (!c), H1, I1, rfl, q1⟩)
end
end L2
namespace L2
open PySem PySem.Spec PyProof.Rows
def SqL (K : PySem.W.Frag) (H : Hp) (a : Addr) (xs : List V) : Prop :=
  Rd H a (.lst xs) ∨
    ∃ (o : Obj) (its : Array Value) (n : Nat), K.lookup a = some o ∧ o.cls = .type "list" ∧ o.dict = none ∧ o.data = .seq its n ∧ its.size ≤ sizeLine ∧ Vals xs its.toList
def SqT (K : PySem.W.Frag) (H : Hp) (a : Addr) (xs : List V) : Prop :=
  Rd H a (.tup xs) ∨
    ∃ (o : Obj) (its : Array Value) (n : Nat), K.lookup a = some o ∧ o.cls = .type "tuple" ∧ o.data = .seq its n ∧ its.size ≤ sizeLine ∧ Vals xs its.toList
def absV : Value → Option V
  | .none => some .non
  | .bool b => some (.bl b)
  | .int i _ => some (.int i)
  | .str x _ => some (.str x)
  | .bytes b _ => some (.byt b)
  | .float b _ => some (.flt b)
  | .ref a => some (.ref a)
  | .type n => some (.ty n)
  | _ => none
theorem RelV.abs {x : V} {u : Value} (r : RelV x u) : absV u = some x := by
  cases x with
  | non => cases r; rfl
  | bl _ => cases r; rfl
  | int _ => obtain ⟨t, rfl⟩ := r; rfl
  | str _ => obtain ⟨t, rfl⟩ := r; rfl
  | byt _ => obtain ⟨t, rfl⟩ := r; rfl
  | flt _ => obtain ⟨t, rfl⟩ := r; rfl
  | ref _ => cases r; rfl
  | ty _ => cases r; rfl
theorem RelV.inj {x y : V} {u : Value} (r : RelV x u) (q : RelV y u) : x = y := Option.some.inj (r.abs.symm.trans q.abs)
theorem Vals.inj : ∀ {xs ys : List V} {us : List Value}, Vals xs us → Vals ys us → xs = ys
  | _, _, _, .nil, .nil => rfl
  | _, _, _, .cons r t, .cons r' t' => by rw [r.inj r', Vals.inj t t']
section
variable {X : Cx} {pins : List (Addr × Obj)} {σ : St} {H : Hp} {s : Shared} {a : Addr} {xs ys : List V}
theorem SqL.of {K : PySem.W.Frag} (h : H a = some (.lst xs)) : SqL K H a xs := .inl (.inl h)
theorem SqT.of {K : PySem.W.Frag} (h : H a = some (.tup xs)) : SqT K H a xs := .inl (.inl h)
theorem Inv.list (I : Inv X pins σ H s) (h : SqL X.K H a xs) : ∃ its : List Value, Vals xs its ∧ PlainL s.heap a its.toArray ∧ xs.length ≤ sizeLine := by
  rcases h with h | ⟨o, its, n, hk, hc, hd, hs, hz, r⟩
  · obtain ⟨z, its, n, r, e⟩ := h.ok I.hok
    exact ⟨its, r, ⟨_, n, e, rfl, rfl, rfl⟩, z⟩
  · refine ⟨its.toList, r, ⟨o, n, I.kIn a o hk, hc, hd, by simpa using hs⟩, ?_⟩
    have e := r.length
    simp only [Array.length_toList] at e
    omega
theorem Inv.tuple (I : Inv X pins σ H s) (h : SqT X.K H a xs) : ∃ its : List Value, Vals xs its ∧ IsTup s.heap a its.toArray ∧ xs.length ≤ sizeLine := by
  rcases h with h | ⟨o, its, n, hk, hc, hs, hz, r⟩
  · obtain ⟨z, its, r, p⟩ := h.ok I.hok
    exact ⟨its, r, p, z⟩
  · refine ⟨its.toList, r, ⟨o, I.kIn a o hk, hc, n, by simpa using hs⟩, ?_⟩
    have e := r.length
    simp only [Array.length_toList] at e
    omega
theorem Inv.list_inj (I : Inv X pins σ H s) (h : SqL X.K H a xs) (h' : SqL X.K H a ys) : xs = ys := by
  obtain ⟨its, r, ⟨o, n, e, _, _, d⟩, _⟩ := I.list h
  obtain ⟨its', r', ⟨o', n', e', _, _, d'⟩, _⟩ := I.list h'
  rw [e] at e'; cases e'
  rw [d] at d'
  injection d' with d1 _
  have : its = its' := by simpa using congrArg Array.toList d1
  subst this
  exact r.inj r'
theorem Inv.tuple_inj (I : Inv X pins σ H s) (h : SqT X.K H a xs) (h' : SqT X.K H a ys) : xs = ys := by
  obtain ⟨its, r, ⟨o, e, _, n, d⟩, _⟩ := I.tuple h
  obtain ⟨its', r', ⟨o', e', _, n', d'⟩, _⟩ := I.tuple h'
  rw [e] at e'; cases e'
  rw [d] at d'
  injection d' with d1 _
  have : its = its' := by simpa using congrArg Array.toList d1
  subst this
  exact r.inj r'
end
abbrev Cx.wish (X : Cx) (E : Value → Shared → Prop) : Cx := { X with xe := E }
abbrev Cx.nox (X : Cx) : Cx := X.wish fun _ _ => False
theorem Cx.Ok.wish {X : Cx} (ok : X.Ok) (E : Value → Shared → Prop) : (X.wish E).Ok :=
  ⟨ok.mod, ok.kind, ok.glob, ok.blt, ok.above, ok.inj, ok.has, ok.cab, ok.hd, ok.frames, ok.stk, ok.exf, ok.bs, ok.bsz, ok.noex, ok.exfs, ok.funs, ok.frf⟩
theorem Cx.Ok.unwish {X : Cx} {E : Value → Shared → Prop} (ok : (X.wish E).Ok) : X.Ok :=
  ⟨ok.mod, ok.kind, ok.glob, ok.blt, ok.above, ok.inj, ok.has, ok.cab, ok.hd, ok.frames, ok.stk, ok.exf, ok.bs, ok.bsz, ok.noex, ok.exfs, ok.funs, ok.frf⟩
section
variable {X : Cx} {pins : List (Addr × Obj)} {σ : St} {H : Hp} {s : Shared} {E : Value → Shared → Prop}
theorem Inv.wish (I : Inv X pins σ H s) (E : Value → Shared → Prop) : Inv (X.wish E) pins σ H s := ⟨I.ok.wish E, I.os, I.bare, I.base, I.loc, I.cell, I.free, I.freeC, I.pin, I.hok, I.len⟩
theorem Inv.unwish (I : Inv (X.wish E) pins σ H s) : Inv X pins σ H s := ⟨I.ok.unwish, I.os, I.bare, I.base, I.loc, I.cell, I.free, I.freeC, I.pin, I.hok, I.len⟩
theorem SP.unwish {D : Ends} {f : Flow} {s' : Shared} (h : SP (X.wish E) pins D f s') : SP X pins D f s' := by
  cases f with
  | next => obtain ⟨σ', H', I, q⟩ := h; exact ⟨σ', H', I.unwish, q⟩
  | brk => obtain ⟨σ', H', I, q⟩ := h; exact ⟨σ', H', I.unwish, q⟩
  | cont => obtain ⟨σ', H', I, q⟩ := h; exact ⟨σ', H', I.unwish, q⟩
  | ret u => obtain ⟨v, σ', H', I, r, q⟩ := h; exact ⟨v, σ', H', I.unwish, r, q⟩
theorem PSs.nox {st : List Stmt} {t : TS} (h : PSs X.nox st t) : PSs X st t := fun pins s σ H D I hw =>
  wpAny_mono (h pins s σ H D (I.wish _) hw) (fun _ _ q => q.unwish) fun _ _ z => False.elim z
end
section
variable {X : Cx} {st : Stmt} {rest : List Stmt} {t u : TS} {e : Expr} {te : TE} {pos : Pos}
def tNext : TS := fun D σ H => D.nx σ H
def tSeq (t u : TS) : TS := fun D σ H => t { D with nx := u D } σ H
theorem pss_nil : PSs X [] tNext := fun _ _ σ H _ I h => wpAny_execs_nil ⟨σ, H, I, h⟩
theorem pss_cons (h1 : PS X st t) (h2 : PSs X rest u) : PSs X (st :: rest) (tSeq t u) := by
  intro pins s σ H D I h
  refine wpAny_execs_cons (thn (h1 pins s σ H { D with nx := u D } I h) fun f s1 q => ?_)
  cases f with
  | next =>
    obtain ⟨σ', H', I', q⟩ := q
    exact h2 pins s1 σ' H' D I' q
  | ret v => exact q
  | brk => exact q
  | cont => exact q
theorem pss_one (h1 : PS X st t) : PSs X [st] t := by
  intro pins s σ H D I h
  refine wpAny_execs_cons (thn (h1 pins s σ H D I h) fun f s1 q => ?_)
  cases f with
  | next => exact wpAny_execs_nil q
  | ret v => exact q
  | brk => exact q
  | cont => exact q
theorem Inv.quiet {pins : List (Addr × Obj)} {σ : St} {H : Hp} {s : Shared} (I : Inv X pins σ H s) : interactive X.env = false := by simp [interactive, I.ok.kind]
def tDrop (te : TE) : TS := fun D σ H => te σ H fun _ H1 => D.nx σ H1
theorem ps_expr (he : PE X e te) (hs : swapsWith e none pos.line X.env = pure false := by rfl) : PS X (.Expr e pos) (tDrop te) := by
  intro pins s σ H D I h
  exact wpAny_Expr_any (thn (he pins s σ H _ I h) fun v s1 ⟨x, H1, I1, r1, q1⟩ => ⟨σ, H1, I1, q1⟩) I.quiet hs
def tRet (te : TE) : TS := fun D σ H => te σ H D.rt
theorem ps_ret (he : PE X e te) : PS X (.Return (some e) pos) (tRet te) := by
  intro pins s σ H D I h
  exact wpAny_Return_some (thn (he pins s σ H _ I h) fun v s1 ⟨x, H1, I1, r1, q1⟩ => ⟨x, σ, H1, I1, r1, q1⟩)
def tIfS (c : TT) (t u : TS) : TS := fun D σ H => c σ H fun b H1 => if b = true then t D σ H1 else u D σ H1
theorem ps_if {c : Expr} {a b : List Stmt} {tc : TT} (hc : PT X c tc) (ha : PSs X a t) (hb : PSs X b u) : PS X (.If c a b pos) (tIfS tc t u) := by
  intro pins s σ H D I h
  refine wpAny_If (thn (hc pins s σ H _ I h) fun d s1 ⟨H1, I1, q1⟩ => ?_)
  cases d with
  | true => exact ha pins s1 σ H1 D I1 q1
  | false => exact hb pins s1 σ H1 D I1 q1
def tNever : TS := fun _ _ _ => False
theorem ps_never : PS X st tNever := fun _ _ _ _ _ _ h => h.elim
end
abbrev TG := V → St → Hp → (St → Hp → Prop) → Prop
abbrev TGs := List V → St → Hp → (St → Hp → Prop) → Prop
def PG (X : Cx) (target : Expr) (t : TG) : Prop :=
  ∀ (pins : List (Addr × Obj)) (s : Shared) (σ : St) (H : Hp) (v : V) (u : Value) (Q : St → Hp → Prop), Inv X pins σ H s → RelV v u → t v σ H Q →
    wpAny (model X.prog X.w) X.A (assign target X.env u) (fun _ s' => ∃ σ' H', Inv X pins σ' H' s' ∧ Q σ' H') X.xe s
def PGs (X : Cx) (ts : List Expr) (t : TGs) : Prop :=
  ∀ (pins : List (Addr × Obj)) (s : Shared) (σ : St) (H : Hp) (vs : List V) (us : List Value) (Q : St → Hp → Prop), Inv X pins σ H s → Vals vs us → t vs σ H Q →
    wpAny (model X.prog X.w) X.A (assignInOrder ((assignEach ts X.env).map (·.2)) us) (fun _ s' => ∃ σ' H', Inv X pins σ' H' s' ∧ Q σ' H') X.xe s
abbrev TSet := V → V → V → Hp → (Hp → Prop) → Prop
def PSet (X : Cx) (t : TSet) : Prop :=
  ∀ (pins : List (Addr × Obj)) (s : Shared) (σ : St) (H : Hp) (o i v : V) (ov iv u : Value) (Q : Hp → Prop), Inv X pins σ H s → RelV o ov → RelV i iv → RelV v u → t o i v H Q →
    wpAny (model X.prog X.w) X.A (setItem ov iv u) (fun _ s' => ∃ H', Inv X pins σ H' s' ∧ Q H') X.xe s
section
variable {X : Cx} {pos : Pos}
def gName (i : Nat) : TG := fun v σ H Q => Q (σ.set i (some v)) H
theorem pg_name {i : Nat} {x : Str} (hN : X.N.Nodup) (hi : X.N[i]? = some x) (hx : Loc X.env.scope x) (hf : X.fn x = true ∨ X.env.scope.names.lookup x = some .local := by first | exact .inl rfl | exact .inr rfl | assumption) : PG X (.Name x pos) (gName i) := by
  intro pins s σ H v u Q I r h
  exact wpAny_assign_Name (store_ok I hN hi hx r (fun s' I' => ⟨_, H, I', h⟩) hf)
def gNil : TGs := fun vs σ H Q => vs = [] ∧ Q σ H
def gCons (t : TG) (u : TGs) : TGs := fun vs σ H Q => ∃ v r, vs = v :: r ∧ t v σ H fun σ' H' => u r σ' H' Q
theorem pgs_nil : PGs X [] gNil := by
  intro pins s σ H vs us Q I r h
  obtain ⟨e, h⟩ := h
  subst e
  cases r
  exact assignInOrder_nil ⟨σ, H, I, h⟩
theorem pgs_cons {e : Expr} {es : List Expr} {t : TG} {u : TGs} (h1 : PG X e t) (h2 : PGs X es u)
    (hs : (assignEach (e :: es) X.env).map (·.2) = assign e X.env :: (assignEach es X.env).map (·.2) := by rfl) : PGs X (e :: es) (gCons t u) := by
  intro pins s σ H vs us Q I r h
  obtain ⟨v, vr, e1, h⟩ := h
  subst e1
  cases r with
  | cons r rr =>
    rw [hs]
    refine assignInOrder_cons (thn (h1 pins s σ H _ _ _ I r h) fun _ s1 ⟨σ1, H1, I1, q1⟩ => ?_)
    exact h2 pins s1 σ1 H1 _ _ Q I1 rr q1
def gTup (K : PySem.W.Frag) (n : Nat) (t : TGs) : TG := fun v σ H Q => ∃ a xs, v = .ref a ∧ SqT K H a xs ∧ xs.length = n ∧ t xs σ H Q
theorem pg_tup {es : List Expr} {k : Nat} {t : TGs} {n : Nat} (hc : X.calm = true) (h : PGs X es t)
    (hn : (assignEach es X.env).length = n := by rfl) (hst : (assignEach es X.env).findIdx? (·.1) = none := by rfl) : PG X (.Tuple es k pos) (gTup X.K n t) := by
  intro pins s σ H v u Q I r hw
  obtain ⟨a, xs, e1, hq, hl, hw⟩ := hw
  subst e1
  cases r
  obtain ⟨its, rv, ht, hz⟩ := I.tuple hq
  refine assign_Tuple_tuple (I.ok.hd hc) ht (by simp [hn, ← hl, rv.length]) hst fun h' hx => ?_
  have I1 : Inv X pins σ H { s with heap := h' } := I.kept (t' := s.toks) fun b o e => hx b o (Nat.ne_of_lt (Heap.lt_size e)) e
  exact h pins _ σ H xs _ Q I1 (by simpa using rv) hw
def gSub (to ti : TE) (t : TSet) : TG := fun v σ H Q => to σ H fun o H1 => ti σ H1 fun i H2 => t o i v H2 fun H3 => Q σ H3
theorem pg_sub {o i : Expr} {to ti : TE} {t : TSet} (ho : PE X o to) (hi : PE X i ti) (hs : PSet X t)
    (ha : ∀ v, assign (.Subscript o i pos) X.env v = (do
      let ov ← holding [v] (eval o X.env)
      let iv ← holding [v, ov] (eval i X.env)
      standAt pos
      holding [v, ov, iv] (setItem ov iv v)
      release [v, ov, iv] []) := by intro _; rfl) : PG X (.Subscript o i pos) (gSub to ti t) := by
  intro pins s σ H v u Q I r h
  rw [ha]
  refine wpAny_bind (wpAny_holding (thn (ho pins s σ H _ I h) fun ov s1 ⟨x, H1, I1, r1, q1⟩ => ?_))
  refine wpAny_bind (wpAny_holding (thn (hi pins s1 σ H1 _ I1 q1) fun iv s2 ⟨y, H2, I2, r2, q2⟩ => ?_))
  refine wpAny_bind (wpAny_standAt (wpAny_bind (wpAny_holding (thn (hs pins s2 σ H2 x y v ov iv u _ I2 r1 r2 r q2) fun _ s3 ⟨H3, I3, q3⟩ => ?_))))
  exact wpAny_release ⟨σ, H3, I3, q3⟩
def tAsg (te : TE) (g : TG) : TS := fun D σ H => te σ H fun x H1 => g x σ H1 D.nx
theorem ps_asg {tg e : Expr} {te : TE} {g : TG} (he : PE X e te) (hg : PG X tg g) (hs : swapsWithSole [tg] e pos.line X.env = pure false := by rfl) (hw : swappedStores [tg] e X.env = pure none := by rfl)
    (h1 : (assignEach [tg] X.env).map (·.2) = [assign tg X.env] := by rfl) : PS X (.Assign [tg] e pos) (tAsg te g) := by
  intro pins s σ H D I h
  refine wpAny_Assign_stores (thn (he pins s σ H _ I h) fun v s1 ⟨x, H1, I1, r1, q1⟩ => ?_) hs hw
  rw [h1]
  exact thn (hg pins s1 σ H1 x v _ I1 r1 q1) fun _ s2 q => q
theorem ps_set {i : Nat} {x : Str} {e : Expr} {te : TE} {pos' : Pos} (hN : X.N.Nodup) (hi : X.N[i]? = some x) (hx : Loc X.env.scope x) (he : PE X e te) (hs : swapsWith e (some (.Name x pos')) pos.line X.env = pure false := by rfl) (hf : X.fn x = true ∨ X.env.scope.names.lookup x = some .local := by first | exact .inl rfl | exact .inr rfl | assumption) :
    PS X (.Assign [.Name x pos'] e pos) (tAsg te (gName i)) := by
  intro pins s σ H D I h
  refine wpAny_Assign_Name (thn (he pins s σ H _ I h) fun v s1 ⟨y, H1, I1, r1, q1⟩ => ?_) hs
  exact store_ok I1 hN hi hx r1 (fun s2 I2 => ⟨_, H1, I2, q1⟩) hf
def tPar (i j : Nat) (ta : TA) : TS := fun D σ H => ta σ H fun vs H1 => ∃ v w, vs = [v, w] ∧ D.nx ((σ.set i (some v)).set j (some w)) H1
theorem ps_par {i j : Nat} {x y : Str} {a b : Expr} {ta : TA} {px py pt : Pos} {kt k2 pt2} (hc : X.calm = true) (hN : X.N.Nodup) (hi : X.N[i]? = some x) (hj : X.N[j]? = some y) (hij : i ≠ j)
    (hx : X.env.scope.names.lookup x = some .local) (hy : X.env.scope.names.lookup y = some .local) (ha : PA X [a, b] ta)
    (hw : swappedStores [.Tuple [.Name x px, .Name y py] kt pt] (.Tuple [a, b] k2 pt2) X.env = pure (some [x, y]))
    (hs : swapsWithSole [.Tuple [.Name x px, .Name y py] kt pt] (.Tuple [a, b] k2 pt2) pos.line X.env = pure false := by rfl) :
    PS X (.Assign [.Tuple [.Name x px, .Name y py] kt pt] (.Tuple [a, b] k2 pt2) pos) (tPar i j ta) := by
  intro pins s σ H D I h
  rw [exec_Assign_arm]
  refine wpAny_bind (wpAny_standAt ?_)
  rw [hs]
  refine wpAny_bind (wpAny_pure ?_)
  rw [if_neg (by decide)]
  refine wpAny_bind (Tuple_ (thn (ha _ pins s σ H _ I h) fun us s1 ⟨vs, H1, I1, r1, q1⟩ => ?_))
  obtain ⟨v, w, e1, q1⟩ := q1
  subst e1
  obtain ⟨u1, u2, rfl, rv, rw'⟩ : ∃ u1 u2, us = [u1, u2] ∧ RelV v u1 ∧ RelV w u2 := by
    cases r1 with
    | cons p q =>
      cases q with
      | cons p' q' =>
        cases q'
        exact ⟨_, _, rfl, p, p'⟩
  refine wpAny_newObj_type ?_ (by show 2 ≤ sizeLine; decide)
  have I2 : Inv X pins σ H1 { s1 with heap := s1.heap.push { cls := .type "tuple", data := .seq [u1, u2].toArray } } := I1.kept (t' := s1.toks) fun b o e => Heap.get?_push_of_some _ e
  rw [hw]
  refine wpAny_bind (wpAny_pure ?_)
  show wpAny (model X.prog X.w) X.A (do rule "assign.swapped-stores"; let items ← unpackItems (.ref s1.heap.objs.size) 2 none; assignInOrder [fun v => bindName X.env y v, fun v => bindName X.env x v] items.reverse; pure Flow.next) _ _ _
  refine wpAny_bind (wpAny_rule (wpAny_bind (unpackItems_tuple (items := #[u1, u2]) (I.ok.hd hc) (IsTup.new s1.heap _) fun h' hx' => ?_)))
  have I3 := I2.kept (h' := h') (t' := s1.toks) fun b o e => hx' b o (Nat.ne_of_lt (Heap.lt_size e)) e
  show wpAny _ _ (assignInOrder [fun v => bindName X.env y v, fun v => bindName X.env x v] [u2, u1] >>= fun _ => pure Flow.next) _ _ _
  refine wpAny_bind (assignInOrder_cons (wpAny_bindName (store_ok I3 hN hj (.inl hy) rw' (fun s2 I4 => ?_) (.inr hy))))
  refine assignInOrder_cons (wpAny_bindName (store_ok I4 hN hi (.inl hx) rv (fun s3 I5 => assignInOrder_nil (wpAny_pure ?_)) (.inr hx)))
  rw [List.set_comm _ _ (Ne.symm hij)] at I5
  exact ⟨_, H1, I5, q1⟩
end
section
variable {X : Cx} {pos : Pos}
def tWhile (c : TT) (tb : TS) : TS := fun D σ H => ∃ W : Nat → St → Hp → Prop, (∃ m, W m σ H) ∧ ∀ m σ H, W m σ H →
  c σ H fun b H1 => if b = true then ∃ N : St → Hp → Prop, (∀ σ' H', N σ' H' → ∃ m', m' < m ∧ W m' σ' H') ∧ tb { D with nx := N, ct := N, bk := D.nx } σ H1 else D.nx σ H1
theorem ps_while {c : Expr} {body : List Stmt} {tc : TT} {tb : TS} (hp : PassesOwn (model X.prog X.w) X.A X.env X.xe) (hc : PT X c tc) (hb : PSs X body tb) : PS X (.While c body [] pos) (tWhile tc tb) := by
  intro pins s σ H D I h
  obtain ⟨W, ⟨m0, w0⟩, turn⟩ := h
  refine wpAny_While (codeAny_whileLoop (fun n s' => ∃ σ' H', Inv X pins σ' H' s' ∧ W n σ' H') ?_ m0 ⟨σ, H, I, w0⟩)
  rintro n s1 ⟨σ1, H1, I1, w1⟩
  refine wpAny_passesOwn hp (thn (hc pins s1 σ1 H1 _ I1 (turn n σ1 H1 w1)) fun b s2 ⟨H2, I2, q2⟩ => ?_)
  cases b with
  | true =>
    obtain ⟨N, hN, q2⟩ := q2
    rw [if_pos rfl]
    refine wpAny_passesOwn hp (thn (hb pins s2 σ1 H2 _ I2 q2) fun f s3 q3 => ?_)
    cases f with
    | next =>
      obtain ⟨σ3, H3, I3, n3⟩ := q3
      obtain ⟨m', hm, w3⟩ := hN σ3 H3 n3
      exact ⟨m', hm, σ3, H3, I3, w3⟩
    | cont =>
      obtain ⟨σ3, H3, I3, n3⟩ := q3
      obtain ⟨m', hm, w3⟩ := hN σ3 H3 n3
      exact ⟨m', hm, σ3, H3, I3, w3⟩
    | brk => exact q3
    | ret v => exact q3
  | false =>
    rw [if_neg Bool.false_ne_true]
    exact wpAny_execs_nil ⟨σ1, H2, I2, q2⟩
end
structure It where
  go : Nat → Hp → Prop
  yld : Nat → Hp → V → Hp → Prop
  stop : Nat → Hp → Prop
def FpOk (X : Cx) (pins : List (Addr × Obj)) (H : Hp) (b : Addr) : Prop :=
  H b = none ∧ b ≠ X.env.locals ∧ b ∉ X.fs ∧ (b ∈ X.ex ∨ X.s₀.heap.objs.size ≤ b) ∧ (∀ x c, X.env.cells.lookup x = some c → c ≠ b) ∧ ∀ p ∈ X.pn ++ pins, p.1 ≠ b
theorem Inv.fpOk {X : Cx} {pins : List (Addr × Obj)} {σ : St} {H H' : Hp} {s : Shared} {b : Addr} (I : Inv X pins σ H s) (hb : s.heap.objs.size ≤ b) (hn : H' b = none) : FpOk X pins H' b := by
  refine ⟨hn, Nat.ne_of_gt (Nat.lt_of_lt_of_le I.lt hb), I.nofs hb, .inr (Nat.le_trans I.sz hb), fun x c e z => ?_, fun p hp z => ?_⟩
  · obtain ⟨v, q⟩ := I.cell x c e
    exact absurd (Nat.lt_of_lt_of_le q.lt (by rw [z]; exact hb)) (Nat.lt_irrefl _)
  · exact absurd (Nat.lt_of_lt_of_le (Heap.lt_size (I.pin p hp).1) (by rw [z]; exact hb)) (Nat.lt_irrefl _)
structure Turn (P : Program) (w : World) (K : PySem.W.Frag) (tg : Expr) (J : It) (fp : List Addr) (it : Addr) (tn : Nat → Heap → Prop) : Prop where
  mem : it ∈ fp
  obj : ∀ i h, tn i h → ∀ b ∈ fp, ∃ o, h.get? b = some o ∧ ∀ v, o.data ≠ .cell v
  keep : ∀ i h h', tn i h → (∀ b ∈ fp, ∀ o, h.get? b = some o → h'.get? b = some o) → tn i h'
  item : ∀ (X : Cx), X.prog = P → X.w = w → X.K = K → X.calm = true → ∀ (i : Nat) (pins : List (Addr × Obj)) (s : Shared) (σ : St) (H : Hp) (E : Value → Shared → Prop), Inv X pins σ H s → (∀ b ∈ fp, FpOk X pins H b) → tn i s.heap → J.go i H →
    wpAny (model P w) X.A (pyNext (.ref it)) (fun r s1 => ∃ u, r = some u ∧
      wpAny (model P w) X.A (letOwnedTupleGo tg (.ref it) u) (fun _ s2 => ∃ x H', Inv X pins σ H' s2 ∧ RelV x u ∧ J.yld i H x H' ∧ tn (i + 1) s2.heap ∧ ∀ b ∈ fp, H' b = none) E s1) E s
  done : ∀ (X : Cx), X.prog = P → X.w = w → X.K = K → X.calm = true → ∀ (i : Nat) (pins : List (Addr × Obj)) (s : Shared) (σ : St) (H : Hp) (E : Value → Shared → Prop), Inv X pins σ H s → (∀ b ∈ fp, FpOk X pins H b) → tn i s.heap → J.stop i H →
    wpAny (model P w) X.A (pyNext (.ref it)) (fun r s1 => r = none ∧ Inv X pins σ H s1) E s
  self : ∀ (A : Around) (i : Nat) (s : Shared) (Q : Value → Shared → Prop) (E : Value → Shared → Prop), tn i s.heap → Q (.ref it) s → wpAny (model P w) A (pyIter (.ref it)) Q E s
abbrev TI := St → Hp → (It → Hp → Prop) → Prop
def PIE (X : Cx) (pins : List (Addr × Obj)) (σ : St) (tg : Expr) (R : It → Hp → Prop) (itv : Value) (s2 : Shared) : Prop :=
  ∃ (it : Addr) (fp : List Addr) (tn : Nat → Heap → Prop) (J : It) (H' : Hp), itv = .ref it ∧ Inv X pins σ H' s2 ∧ Turn X.prog X.w X.K tg J fp it tn ∧ tn 0 s2.heap ∧ (∀ b ∈ fp, FpOk X pins H' b) ∧ R J H'
def PI (X : Cx) (tg iter : Expr) (wi : TI) : Prop :=
  ∀ (pins : List (Addr × Obj)) (s : Shared) (σ : St) (H : Hp) (R : It → Hp → Prop), Inv X pins σ H s → wi σ H R →
    wpAny (model X.prog X.w) X.A (eval iter X.env) (fun v s1 => wpAny (model X.prog X.w) X.A (pyIter v) (PIE X pins σ tg R) X.xe s1) X.xe s
theorem go_of {M : Model} {A : Around} {E : Value → Shared → Prop} {s : Shared} {tg : Expr} {it : Addr} {u : Value} {o : Obj} {n : String} {vs : Array Value} {Q : Unit → Shared → Prop} (ho : s.heap.get? it = some o) (hc : o.cls = .type n) (hd : o.data = .fields vs)
    (hn : ["enumerate", "zip", "dict_itemiterator", "dict_reverseitemiterator", "odict_iterator", "itertools.zip_longest", "itertools.pairwise"].contains n = false) (hQ : Q () s) : wpAny M A (letOwnedTupleGo tg (.ref it) u) Q E s := by
  unfold letOwnedTupleGo
  cases tg <;> first
    | exact wpAny_pure hQ
    | (cases u <;> first
        | exact wpAny_pure hQ
        | (refine wpAny_bind (wpAny_load ho ?_)
           rw [hc, hd]
           show wpAny M A (if (["enumerate", "zip", "dict_itemiterator", "dict_reverseitemiterator", "odict_iterator", "itertools.zip_longest", "itertools.pairwise"].contains n && vs[0]? == some (rawInt _)) = true then _ else _) Q E s
           rw [if_neg (by intro h; rw [hn, Bool.false_and] at h; cases h)]
           exact wpAny_pure hQ))
def Itl (K : PySem.W.Frag) (a : Addr) : It :=
  ⟨fun i H => ∃ xs x, SqL K H a xs ∧ xs[i]? = some x, fun i H x H' => H' = H ∧ ∀ xs, SqL K H a xs → xs[i]? = some x, fun i H => ∃ xs, SqL K H a xs ∧ xs.length ≤ i⟩
def Itt (K : PySem.W.Frag) (a : Addr) : It :=
  ⟨fun i H => ∃ xs x, SqT K H a xs ∧ xs[i]? = some x, fun i H x H' => H' = H ∧ ∀ xs, SqT K H a xs → xs[i]? = some x, fun i H => ∃ xs, SqT K H a xs ∧ xs.length ≤ i⟩
def Itr (lo : Int) (n : Nat) : It := ⟨fun i _ => i < n, fun i H x H' => H' = H ∧ x = .int (lo + i), fun i _ => n ≤ i⟩
theorem turn_list {P : Program} {w : World} {K : PySem.W.Frag} {tg : Expr} (a it : Addr) : Turn P w K tg (Itl K a) [it] it (fun i h => h.IsListIter it a i) where
  mem := by simp
  obj := fun i h st b hb => by
    have e : b = it := by simpa using hb
    subst e
    obtain ⟨o, e, c, d⟩ := st
    exact ⟨o, e, fun v z => by rw [d] at z; cases z⟩
  keep := fun i h h' st k => st.at fun o e => k it (by simp) o e
  item := by
    intro X hP hw hK hc i pins s σ H E I hf st hg
    subst hP hw hK
    obtain ⟨xs, x, hq, hx⟩ := hg
    obtain ⟨its, rv, p, hz⟩ := I.list hq
    obtain ⟨u, hu, ru⟩ := rv.get hx
    obtain ⟨f0, f1, f2, f3, f4, f5⟩ := hf it (by simp)
    refine wpAny_pyNext_list_item st p.isList (x := u) (by simpa using hu) fun h' st' sb => ?_
    have I1 : Inv X pins σ H { s with heap := h' } := I.turned (t' := s.toks) (fun b o hb e => (sb.2 b hb).trans e) f0 f1 f3 f4 f5
    obtain ⟨o, e, c, d⟩ := id st'
    exact ⟨u, rfl, go_of (s := { s with heap := h' }) e c d (by decide) ⟨x, H, I1, ru, ⟨rfl, fun ys hy => by rw [I.list_inj hy hq]; exact hx⟩, st', fun b hb => (hf b hb).1⟩⟩
  done := by
    intro X hP hw hK hc i pins s σ H E I hf st hg
    subst hP hw hK
    obtain ⟨xs, hq, hx⟩ := hg
    obtain ⟨its, rv, p, hz⟩ := I.list hq
    obtain ⟨f0, f1, f2, f3, f4, f5⟩ := hf it (by simp)
    have hl := rv.length
    exact wpAny_pyNext_list_end (I.ok.hd hc) st p.isList (by simp; omega) fun h' eb => ⟨rfl, I.turned (t' := s.toks) (fun b o hb e => eb b o hb e) f0 f1 f3 f4 f5⟩
  self := fun _ _ _ _ _ st h => wpAny_pyIter_listiter st h
theorem turn_tuple {P : Program} {w : World} {K : PySem.W.Frag} {tg : Expr} (a it : Addr) : Turn P w K tg (Itt K a) [it] it (fun i h => h.IsTupleIter it a i) where
  mem := by simp
  obj := fun i h st b hb => by
    have e : b = it := by simpa using hb
    subst e
    obtain ⟨o, e, c, d⟩ := st
    exact ⟨o, e, fun v z => by rw [d] at z; cases z⟩
  keep := fun i h h' st k => st.at fun o e => k it (by simp) o e
  item := by
    intro X hP hw hK hc i pins s σ H E I hf st hg
    subst hP hw hK
    obtain ⟨xs, x, hq, hx⟩ := hg
    obtain ⟨its, rv, p, hz⟩ := I.tuple hq
    obtain ⟨u, hu, ru⟩ := rv.get hx
    obtain ⟨f0, f1, f2, f3, f4, f5⟩ := hf it (by simp)
    refine wpAny_pyNext_tuple_item st (show s.heap.IsTuple a its.toArray from p) (x := u) (by simpa using hu) fun h' st' sb => ?_
    have I1 : Inv X pins σ H { s with heap := h' } := I.turned (t' := s.toks) (fun b o hb e => (sb.2 b hb).trans e) f0 f1 f3 f4 f5
    obtain ⟨o, e, c, d⟩ := id st'
    exact ⟨u, rfl, go_of (s := { s with heap := h' }) e c d (by decide) ⟨x, H, I1, ru, ⟨rfl, fun ys hy => by rw [I.tuple_inj hy hq]; exact hx⟩, st', fun b hb => (hf b hb).1⟩⟩
  done := by
    intro X hP hw hK hc i pins s σ H E I hf st hg
    subst hP hw hK
    obtain ⟨xs, hq, hx⟩ := hg
    obtain ⟨its, rv, p, hz⟩ := I.tuple hq
    obtain ⟨f0, f1, f2, f3, f4, f5⟩ := hf it (by simp)
    have hl := rv.length
    exact wpAny_pyNext_tuple_end (I.ok.hd hc) st (show s.heap.IsTuple a its.toArray from p) (by simp; omega) fun h' eb => ⟨rfl, I.turned (t' := s.toks) (fun b o hb e => eb b o hb e) f0 f1 f3 f4 f5⟩
  self := fun _ _ _ _ _ st h => wpAny_pyIter_tupleiter st h
theorem turn_range {P : Program} {w : World} {K : PySem.W.Frag} {tg : Expr} (it : Addr) (lo : Int) (n : Nat) : Turn P w K tg (Itr lo n) [it] it (fun i h => IsRangeIter h it (lo + (i : Nat) * 1) ((n : Int) - (i : Nat)) 1) where
  mem := by simp
  obj := fun i h st b hb => by
    have e : b = it := by simpa using hb
    subst e
    exact ⟨_, st, fun v z => by
      have z' : Data.fields _ = Data.cell v := z
      cases z'⟩
  keep := fun i h h' st k => k it (by simp) _ st
  item := by
    intro X hP hw hK hc i pins s σ H E I hf st hg
    subst hP hw hK
    obtain ⟨f0, f1, f2, f3, f4, f5⟩ := hf it (by simp)
    have W := Walks.range (prog := X.prog) (w := X.w) (I.ok.hd hc) it lo 1 n
    refine W.item i s _ _ hg st fun v h' tk hv st' kk => ?_
    obtain ⟨t, rfl⟩ := hv
    have I1 : Inv X pins σ H { s with heap := h', toks := tk } := I.turned (fun b o hb e => kk b o (by simpa using hb) e) f0 f1 f3 f4 f5
    refine ⟨_, rfl, go_of (s := { s with heap := h', toks := tk }) (n := "range_iterator") st' rfl rfl (by decide) ⟨.int (lo + i), H, I1, ⟨t, ?_⟩, ⟨rfl, rfl⟩, st', fun b hb => (hf b hb).1⟩⟩
    rw [Int.mul_one]
  done := by
    intro X hP hw hK hc i pins s σ H E I hf st hg
    subst hP hw hK
    obtain ⟨f0, f1, f2, f3, f4, f5⟩ := hf it (by simp)
    exact wpAny_pyNext_range_end (I.ok.hd hc) st (by have : n ≤ i := hg; omega) fun h' eb => ⟨rfl, I.turned (t' := s.toks) (fun b o hb e => eb b o hb e) f0 f1 f3 f4 f5⟩
  self := fun _ _ _ _ _ st h => wpAny_pyIter_rangeiter st h
end L2
namespace L2
open PySem PySem.Spec PyProof.Rows
section
variable {X : Cx} {tg : Expr}
theorem range_it {pins : List (Addr × Obj)} {σ : St} {H : Hp} {s : Shared} {R : It → Hp → Prop} {E : Value → Shared → Prop} {lo hi : Int} {t u v : Tok} {tk : Nat} (I : Inv X pins σ H s) (h1 : -(2 ^ 62) ≤ lo) (h2 : lo < 2 ^ 62) (h3 : -(2 ^ 62) ≤ hi) (h4 : hi < 2 ^ 62)
    (q : R (Itr lo (hi - lo).toNat) H) : wpAny (model X.prog X.w) X.A (pyIter (.ref s.heap.objs.size)) (PIE X pins σ tg R) E { s with heap := s.heap.push { cls := .type "range", data := .fields #[.int lo t, .int hi u, .int 1 v] }, toks := tk } := by
  refine wpAny_pyIter_range (IsRange.new ..) (small_one h1 h2 h3 h4) ?_
  have I1 : Inv X pins σ H { s with heap := s.heap.push { cls := .type "range", data := .fields #[.int lo t, .int hi u, .int 1 v] }, toks := tk } := I.kept fun b o e => Heap.get?_push_of_some _ e
  refine ⟨(s.heap.push { cls := .type "range", data := .fields #[.int lo t, .int hi u, .int 1 v] }).objs.size, [(s.heap.push { cls := .type "range", data := .fields #[.int lo t, .int hi u, .int 1 v] }).objs.size], _, _, H, rfl,
    I1.kept (t' := tk) fun b o e => Heap.get?_push_of_some _ e, turn_range _ lo (hi - lo).toNat, ?_, fun b hb => ?_, q⟩
  · have e1 : lo + ((0 : Nat) : Int) * 1 = lo := by simp
    have e2 : (((hi - lo).toNat : Nat) : Int) - ((0 : Nat) : Int) = Builtin.Range.rangeSize lo hi 1 := by rw [rangeSize_one]; split <;> omega
    show IsRangeIter _ _ (lo + ((0 : Nat) : Int) * 1) ((((hi - lo).toNat : Nat) : Int) - ((0 : Nat) : Int)) 1
    rw [e1, e2]
    exact Heap.get?_push_size _ rfl
  · have e : b = (s.heap.push { cls := .type "range", data := .fields #[.int lo t, .int hi u, .int 1 v] }).objs.size := by simpa using hb
    subst e
    exact I1.fpOk (Nat.le_refl _) (I1.hok.fresh (Nat.le_refl _))
def iRng1 (ta : TA) : TI := fun σ H R => ta σ H fun vs H1 => ∃ j : Int, vs = [.int j] ∧ -(2 ^ 62) ≤ j ∧ j < 2 ^ 62 ∧ R (Itr 0 j.toNat) H1
theorem pi_range1 {a : Expr} {ta : TA} {p pos : Pos} (hg : Gl X "range") (hm : X.mg "range" = none) (ha : PA X [a] ta) (hs : starEach [a] X.env = [(false, eval a X.env)] := by rfl) : PI X tg (.Call (.Name "range" p) [a] [] pos) (iRng1 ta) := by
  intro pins s σ H R I h
  refine Call_ (ld_blt I hg hm boot_range (PyProof.Rows.callWith_type1 (thn (ha pos pins s σ H _ I h) fun us s1 ⟨vs, H1, I1, r1, q1⟩ => ?_) hs rfl))
  obtain ⟨j, e, q1, q2, q⟩ := q1
  subst e
  cases r1 with
  | cons r rr =>
    cases rr
    obtain ⟨t, rfl⟩ := r
    exact call_range_1 (range_it I1 (by omega) (by omega) q1 q2 (by simpa using q))
def tFor (wi : TI) (g : TG) (tb : TS) : TS := fun D σ H => wi σ H fun J H1 => ∃ W : Nat → Nat → St → Hp → Prop, (∃ m, W 0 m σ H1) ∧ ∀ i m σ H, W i m σ H →
  (J.stop i H ∧ D.nx σ H) ∨ (J.go i H ∧ ∃ N : St → Hp → Prop, (∀ σ' H', N σ' H' → ∃ m', m' < m ∧ W (i + 1) m' σ' H') ∧ ∀ x H', J.yld i H x H' → g x σ H' fun σ2 H2 => tb { D with nx := N, ct := N, bk := D.nx } σ2 H2)
def pinsAt (fp : List Addr) (h : Heap) : List (Addr × Obj) := fp.filterMap fun b => (h.get? b).map fun o => (b, o)
theorem mem_pinsAt {fp : List Addr} {h : Heap} {b : Addr} {o : Obj} (hb : b ∈ fp) (e : h.get? b = some o) : (b, o) ∈ pinsAt fp h := List.mem_filterMap.mpr ⟨b, hb, by rw [e]; rfl⟩
theorem of_pinsAt {fp : List Addr} {h : Heap} {p : Addr × Obj} (hp : p ∈ pinsAt fp h) : p.1 ∈ fp ∧ h.get? p.1 = some p.2 := by
  obtain ⟨b, hb, e⟩ := List.mem_filterMap.mp hp
  cases q : h.get? b with
  | none => rw [q] at e; cases e
  | some o =>
    rw [q] at e
    have e' : (b, o) = p := Option.some.inj e
    subst e'
    exact ⟨hb, q⟩
theorem Inv.pinned {pins : List (Addr × Obj)} {σ : St} {H : Hp} {s : Shared} {fp : List Addr} (I : Inv X pins σ H s) (hf : ∀ b ∈ fp, FpOk X pins H b) (ho : ∀ b ∈ fp, ∃ o, s.heap.get? b = some o ∧ ∀ v, o.data ≠ .cell v) : Inv X (pins ++ pinsAt fp s.heap) σ H s :=
  I.pins_of fun p hp => (List.mem_append.mp hp).elim (fun z => I.pin p (List.mem_append_right _ z)) fun z => by
    obtain ⟨hb, e⟩ := of_pinsAt z
    obtain ⟨f0, f1, f2, _⟩ := hf p.1 hb
    obtain ⟨o, e', d⟩ := ho p.1 hb
    rw [e] at e'; cases e'
    exact ⟨e, f0, f1, f2, d⟩
theorem Inv.unpinned {pins pl : List (Addr × Obj)} {σ : St} {H : Hp} {s : Shared} (I : Inv X (pins ++ pl) σ H s) : Inv X pins σ H s := I.pins_of fun p hp => I.pin p (List.mem_append_right _ (List.mem_append_left _ hp))
theorem ps_for {iter : Expr} {body : List Stmt} {wi : TI} {g : TG} {tb : TS} {pos : Pos} (hp : PassesOwn (model X.prog X.w) X.A X.env X.xe) (hc : X.calm = true) (hi : PI X tg iter wi) (hg : PG X tg g) (hb : PSs X body tb)
    (hs : ∀ x, foldedSetIterable iter X.env x = pure x := by intro _; rfl) : PS X (.For tg iter body [] pos) (tFor wi g tb) := by
  intro pins s σ H D I h
  refine wpAny_For (thn (hi pins s σ H _ I h) fun v s1 h1 => thn h1 fun itv s2 h2 => ?_) hs
  obtain ⟨it, fp, tn, J, H2, e, I2, T, st2, f2, W, ⟨m0, w0⟩, turn⟩ := h2
  subst e
  have stat : ∀ {H' : Hp}, (∀ b ∈ fp, H' b = none) → ∀ b ∈ fp, FpOk X pins H' b := fun hn b hb => ⟨hn b hb, (f2 b hb).2⟩
  refine codeAny_forLoop_any (fun n s' => ∃ i σ' H', Inv X pins σ' H' s' ∧ tn i s'.heap ∧ (∀ b ∈ fp, H' b = none) ∧ W i n σ' H') ?_ m0 ⟨0, σ, H2, I2, st2, fun b hb => (f2 b hb).1, w0⟩
  rintro n s3 ⟨i, σ3, H3, I3, st3, fr3, w3⟩
  rcases turn i n σ3 H3 w3 with ⟨stop, qn⟩ | ⟨go, N, hN, step⟩
  · refine wpAny_passesOwn hp (thn (T.done X rfl rfl rfl hc i pins s3 σ3 H3 X.xe I3 (stat fr3) st3 stop) fun r s4 ⟨hr, I4⟩ => ?_)
    subst hr
    exact wpAny_execs_nil ⟨σ3, H3, I4, qn⟩
  · refine wpAny_passesOwn hp (thn (T.item X rfl rfl rfl hc i pins s3 σ3 H3 X.xe I3 (stat fr3) st3 go) fun r s4 ⟨u, hr, h4⟩ => ?_)
    subst hr
    refine wpAny_passesOwn hp (thn h4 fun _ s5 ⟨x, H5, I5, r5, y5, st5, fr5⟩ => ?_)
    have I5' := I5.pinned (stat fr5) (T.obj _ _ st5)
    refine wpAny_passesOwn hp (thn (hg _ s5 σ3 H5 x u _ I5' r5 (step x H5 y5)) fun _ s6 ⟨σ6, H6, I6, q6⟩ => ?_)
    refine wpAny_passesOwn hp (thn (hb _ s6 σ6 H6 _ I6 q6) fun f s7 q7 => ?_)
    have again : ∀ {σ7 : St} {H7 : Hp}, Inv X (pins ++ pinsAt fp s5.heap) σ7 H7 s7 → N σ7 H7 → ∃ m, m < n ∧ ∃ i σ' H', Inv X pins σ' H' s7 ∧ tn i s7.heap ∧ (∀ b ∈ fp, H' b = none) ∧ W i m σ' H' := fun {σ7 H7} I7 n7 => by
      obtain ⟨m', hm, w7⟩ := hN σ7 H7 n7
      refine ⟨m', hm, i + 1, σ7, H7, I7.unpinned, T.keep _ _ _ st5 fun b hb o e => (I7.pin (b, o) (List.mem_append_right _ (List.mem_append_right _ (mem_pinsAt hb e)))).1, fun b hb => ?_, w7⟩
      obtain ⟨o, e, d⟩ := T.obj _ _ st5 b hb
      exact (I7.pin (b, o) (List.mem_append_right _ (List.mem_append_right _ (mem_pinsAt hb e)))).2.1
    cases f with
    | next => obtain ⟨σ7, H7, I7, n7⟩ := q7; exact again I7 n7
    | cont => obtain ⟨σ7, H7, I7, n7⟩ := q7; exact again I7 n7
    | brk => obtain ⟨σ7, H7, I7, q7⟩ := q7; exact ⟨σ7, H7, I7.unpinned, q7⟩
    | ret v => obtain ⟨x7, σ7, H7, I7, r7, q7⟩ := q7; exact ⟨x7, σ7, H7, I7.unpinned, r7, q7⟩
end
theorem for_list {K : PySem.W.Frag} {a : Addr} {xs : List V} {g : TG} {tb : TS} {D : Ends} {σ : St} {H : Hp} (Pv : Nat → St → Hp → Prop) (h0 : Pv 0 σ H) (hl : ∀ i σ H, i ≤ xs.length → Pv i σ H → SqL K H a xs)
    (hs : ∀ i x σ H, xs[i]? = some x → Pv i σ H → g x σ H fun σ2 H2 => tb { D with nx := Pv (i + 1), ct := Pv (i + 1), bk := D.nx } σ2 H2) (hd : ∀ σ H, Pv xs.length σ H → D.nx σ H) :
    ∃ W : Nat → Nat → St → Hp → Prop, (∃ m, W 0 m σ H) ∧ ∀ i m σ H, W i m σ H →
      ((Itl K a).stop i H ∧ D.nx σ H) ∨ ((Itl K a).go i H ∧ ∃ N : St → Hp → Prop, (∀ σ' H', N σ' H' → ∃ m', m' < m ∧ W (i + 1) m' σ' H') ∧ ∀ x H', (Itl K a).yld i H x H' → g x σ H' fun σ2 H2 => tb { D with nx := N, ct := N, bk := D.nx } σ2 H2) := by
  refine ⟨fun i m σ H => m = xs.length - i ∧ i ≤ xs.length ∧ Pv i σ H, ⟨xs.length, by simp, Nat.zero_le _, h0⟩, ?_⟩
  rintro i m σ H ⟨rfl, hi, p⟩
  have q := hl i σ H hi p
  by_cases hlt : i < xs.length
  · refine .inr ⟨⟨xs, xs[i], q, by simp [hlt]⟩, Pv (i + 1), fun σ' H' p' => ⟨xs.length - (i + 1), by omega, rfl, hlt, p'⟩, fun x H' y => ?_⟩
    obtain ⟨e, y⟩ := y
    subst e
    exact hs i x σ _ (y xs q) p
  · have e : i = xs.length := by omega
    subst e
    exact .inl ⟨⟨xs, q, Nat.le_refl _⟩, hd σ H p⟩
theorem for_tup {K : PySem.W.Frag} {a : Addr} {xs : List V} {g : TG} {tb : TS} {D : Ends} {σ : St} {H : Hp} (Pv : Nat → St → Hp → Prop) (h0 : Pv 0 σ H) (hl : ∀ i σ H, i ≤ xs.length → Pv i σ H → SqT K H a xs)
    (hs : ∀ i x σ H, xs[i]? = some x → Pv i σ H → g x σ H fun σ2 H2 => tb { D with nx := Pv (i + 1), ct := Pv (i + 1), bk := D.nx } σ2 H2) (hd : ∀ σ H, Pv xs.length σ H → D.nx σ H) :
    ∃ W : Nat → Nat → St → Hp → Prop, (∃ m, W 0 m σ H) ∧ ∀ i m σ H, W i m σ H →
      ((Itt K a).stop i H ∧ D.nx σ H) ∨ ((Itt K a).go i H ∧ ∃ N : St → Hp → Prop, (∀ σ' H', N σ' H' → ∃ m', m' < m ∧ W (i + 1) m' σ' H') ∧ ∀ x H', (Itt K a).yld i H x H' → g x σ H' fun σ2 H2 => tb { D with nx := N, ct := N, bk := D.nx } σ2 H2) := by
  refine ⟨fun i m σ H => m = xs.length - i ∧ i ≤ xs.length ∧ Pv i σ H, ⟨xs.length, by simp, Nat.zero_le _, h0⟩, ?_⟩
  rintro i m σ H ⟨rfl, hi, p⟩
  have q := hl i σ H hi p
  by_cases hlt : i < xs.length
  · refine .inr ⟨⟨xs, xs[i], q, by simp [hlt]⟩, Pv (i + 1), fun σ' H' p' => ⟨xs.length - (i + 1), by omega, rfl, hlt, p'⟩, fun x H' y => ?_⟩
    obtain ⟨e, y⟩ := y
    subst e
    exact hs i x σ _ (y xs q) p
  · have e : i = xs.length := by omega
    subst e
    exact .inl ⟨⟨xs, q, Nat.le_refl _⟩, hd σ H p⟩
theorem for_range {lo : Int} {n : Nat} {g : TG} {tb : TS} {D : Ends} {σ : St} {H : Hp} (Pv : Nat → St → Hp → Prop) (h0 : Pv 0 σ H)
    (hs : ∀ i σ H, i < n → Pv i σ H → g (.int (lo + i)) σ H fun σ2 H2 => tb { D with nx := Pv (i + 1), ct := Pv (i + 1), bk := D.nx } σ2 H2) (hd : ∀ σ H, Pv n σ H → D.nx σ H) :
    ∃ W : Nat → Nat → St → Hp → Prop, (∃ m, W 0 m σ H) ∧ ∀ i m σ H, W i m σ H →
      ((Itr lo n).stop i H ∧ D.nx σ H) ∨ ((Itr lo n).go i H ∧ ∃ N : St → Hp → Prop, (∀ σ' H', N σ' H' → ∃ m', m' < m ∧ W (i + 1) m' σ' H') ∧ ∀ x H', (Itr lo n).yld i H x H' → g x σ H' fun σ2 H2 => tb { D with nx := N, ct := N, bk := D.nx } σ2 H2) := by
  refine ⟨fun i m σ H => m = n - i ∧ i ≤ n ∧ Pv i σ H, ⟨n, by simp, Nat.zero_le _, h0⟩, ?_⟩
  rintro i m σ H ⟨rfl, hi, p⟩
  by_cases hlt : i < n
  · refine .inr ⟨hlt, Pv (i + 1), fun σ' H' p' => ⟨n - (i + 1), by omega, rfl, hlt, p'⟩, fun x H' y => ?_⟩
    obtain ⟨e, y⟩ := y
    subst e y
    exact hs i σ _ hlt p
  · have e : i = n := by omega
    subst e
    exact .inl ⟨Nat.le_refl _, hd σ H p⟩
end L2
namespace L2
open PySem PySem.Spec PyProof.Rows
abbrev R2 := V → V → Hp → VK → Prop
def OpR (X : Cx) (f : Value → Value → Sem Value) (r : R2) : Prop :=
  ∀ (pins : List (Addr × Obj)) (s : Shared) (σ : St) (H : Hp) (x y : V) (v u : Value) (Q : VK), Inv X pins σ H s → RelV x v → RelV y u → r x y H Q →
    wpAny (model X.prog X.w) X.A (f v u) (EP X pins σ Q) X.xe s
def CallR (X : Cx) (f : Value) (r : List V → Hp → VK → Prop) : Prop :=
  ∀ (pins : List (Addr × Obj)) (s : Shared) (σ : St) (H : Hp) (xs : List V) (us : List Value) (Q : VK), Inv X pins σ H s → Vals xs us → r xs H Q →
    wpAny (model X.prog X.w) X.A (call f us) (EP X pins σ Q) X.xe s
def TruR (X : Cx) (r : V → Hp → (Bool → Hp → Prop) → Prop) : Prop :=
  ∀ (pins : List (Addr × Obj)) (s : Shared) (σ : St) (H : Hp) (x : V) (v : Value) (Q : Bool → Hp → Prop), Inv X pins σ H s → RelV x v → r x H Q →
    wpAny (model X.prog X.w) X.A (truthy v) (TP X pins σ Q) X.xe s
def tOp (r : R2) (ta tb : TE) : TE := fun σ H Q => ta σ H fun x H1 => tb σ H1 fun y H2 => r x y H2 Q
def rI (C : Int → Int → Prop) (g : Int → Int → V) : R2 := fun x y H Q => ∃ i j, x = .int i ∧ y = .int j ∧ C i j ∧ Q (g i j) H
def rI0 (g : Int → Int → V) : R2 := fun x y H Q => ∃ i j, x = .int i ∧ y = .int j ∧ Q (g i j) H
section
variable {X : Cx} {a b c : Expr} {ta tb tc : TE} {pos : Pos}
theorem binT (ha : PE X a ta) (hb : PE X b tb) {pins : List (Addr × Obj)} {s : Shared} {σ : St} {H : Hp} {R : V → V → Hp → Prop} (I : Inv X pins σ H s)
    (h : ta σ H fun x H1 => tb σ H1 fun y H2 => R x y H2) {Q : Value → Shared → Prop} {f : Value → Value → Sem Value}
    (hf : ∀ v u s2 x y H2, Inv X pins σ H2 s2 → RelV x v → RelV y u → R x y H2 → wpAny (model X.prog X.w) X.A (f v u) Q X.xe s2) :
    wpAny (model X.prog X.w) X.A (eval a X.env) (fun v s₁ => wpAny (model X.prog X.w) X.A (eval b X.env) (fun u s₂ => wpAny (model X.prog X.w) X.A (f v u) Q X.xe s₂) X.xe s₁) X.xe s := by
  refine thn (ha pins s σ H _ I h) fun v s1 ⟨x, H1, I1, r1, q1⟩ => ?_
  refine thn (hb pins s1 σ H1 _ I1 q1) fun u s2 ⟨y, H2, I2, r2, q2⟩ => ?_
  exact hf v u s2 x y H2 I2 r1 r2 q2
theorem pe_op {op : Operator} {r : R2} (ho : OpR X (binaryOp op) r) (ha : PE X a ta) (hb : PE X b tb) : PE X (.BinOp a op b pos) (tOp r ta tb) := by
  intro pins s σ H Q I h
  exact wpAny_BinOp (binT ha hb I h fun v u s2 x y H2 I2 rx ry q => ho pins s2 σ H2 x y v u Q I2 rx ry q)
theorem opI {f : Value → Value → Sem Value} {C : Int → Int → Prop} {g : Int → Int → Int}
    (rule : ∀ (i j : Int) (t u : Tok) (s : Shared) (Q : Value → Shared → Prop) (E : Value → Shared → Prop), C i j → Q (.int (g i j) s.toks) { s with toks := s.toks + 1 } → wpAny (model X.prog X.w) X.A (f (.int i t) (.int j u)) Q E s) :
    OpR X f (rI C fun i j => .int (g i j)) := by
  intro pins s σ H x y v u Q I rx ry h
  obtain ⟨i, j, rfl, rfl, hc, q⟩ := h
  obtain ⟨t, rfl⟩ := rx
  obtain ⟨t', rfl⟩ := ry
  exact rule i j t t' s _ _ hc ⟨.int (g i j), H, I.tok _, ⟨_, rfl⟩, q⟩
theorem opI0 {f : Value → Value → Sem Value} {g : Int → Int → Int}
    (rule : ∀ (i j : Int) (t u : Tok) (s : Shared) (Q : Value → Shared → Prop) (E : Value → Shared → Prop), Q (.int (g i j) s.toks) { s with toks := s.toks + 1 } → wpAny (model X.prog X.w) X.A (f (.int i t) (.int j u)) Q E s) :
    OpR X f (rI0 fun i j => .int (g i j)) := by
  intro pins s σ H x y v u Q I rx ry h
  obtain ⟨i, j, rfl, rfl, q⟩ := h
  obtain ⟨t, rfl⟩ := rx
  obtain ⟨t', rfl⟩ := ry
  exact rule i j t t' s _ _ ⟨.int (g i j), H, I.tok _, ⟨_, rfl⟩, q⟩
theorem opB0 {f : Value → Value → Sem Value} {g : Int → Int → Bool}
    (rule : ∀ (i j : Int) (t u : Tok) (s : Shared) (Q : Value → Shared → Prop) (E : Value → Shared → Prop), Q (.bool (g i j)) s → wpAny (model X.prog X.w) X.A (f (.int i t) (.int j u)) Q E s) :
    OpR X f (rI0 fun i j => .bl (g i j)) := by
  intro pins s σ H x y v u Q I rx ry h
  obtain ⟨i, j, rfl, rfl, q⟩ := h
  obtain ⟨t, rfl⟩ := rx
  obtain ⟨t', rfl⟩ := ry
  exact rule i j t t' s _ _ ⟨.bl (g i j), H, I, rfl, q⟩
def CPow (i j : Int) : Prop := 0 ≤ j ∧ j ≤ 1000000 ∧ i.natAbs < 2 ^ 64
theorem op_add : OpR X (binaryOp .Add) (rI0 fun i j => .int (i + j)) := opI0 fun _ _ _ _ _ _ _ q => add_int q
theorem op_mod : OpR X (binaryOp .Mod) (rI (fun _ j => 0 < j) fun i j => .int (i % j)) := opI fun i j _ _ _ _ _ hc q => by
  have h1 : (0 : Int) < j := hc
  exact mod_int' (by omega) (by rw [Int.fmod_eq_emod_of_nonneg i (by omega)]; exact q)
theorem op_pow : OpR X (binaryOp .Pow) (rI CPow fun i j => .int (i ^ j.toNat)) := opI fun _ _ _ _ _ _ _ hc q => pow_int_small hc.1 hc.2.1 hc.2.2 q
end
def scal : V → V → Bool
  | .non, .non => true | .non, .int _ => true | .int _, .non => true | .non, .bl _ => true | .bl _, .non => true | .non, .str _ => true | .str _, .non => true
  | .int _, .int _ => true | .bl _, .bl _ => true | .str _, .str _ => true | .byt _, .byt _ => true
  | .int _, .str _ => true | .str _, .int _ => true | .bl _, .str _ => true | .str _, .bl _ => true
  | _, _ => false
def rEq : R2 := fun x y H Q => scal x y = true ∧ Q (.bl (decide (x = y))) H
def rNe : R2 := fun x y H Q => scal x y = true ∧ Q (.bl (!decide (x = y))) H
theorem dec_int {i j : Int} : decide (V.int i = V.int j) = (i == j) := by
  rw [Bool.eq_iff_iff]
  simp
theorem dec_bl {i j : Bool} : decide (V.bl i = V.bl j) = (i == j) := by
  rw [Bool.eq_iff_iff]
  simp
theorem dec_str {i j : Str} : decide (V.str i = V.str j) = (i == j) := by
  rw [Bool.eq_iff_iff]
  simp
theorem dec_byt {i j : Array UInt8} : decide (V.byt i = V.byt j) = (i.toList == j.toList) := by
  rw [Bool.eq_iff_iff]
  cases i
  cases j
  simp
section
variable {X : Cx} {a b c : Expr} {ta tb tc : TE} {pos : Pos}
theorem fin_bl {pins : List (Addr × Obj)} {σ : St} {H : Hp} {s : Shared} {Q : VK} {k k' : Bool} (I : Inv X pins σ H s) (q : Q (.bl k) H) (e : k = k') : EP X pins σ Q (.bool k') s := by
  subst e
  exact ⟨.bl k, H, I, rfl, q⟩
theorem op_eq : OpR X (compareOp .Eq) rEq := by
  intro pins s σ H x y v u Q I rx ry h
  obtain ⟨hs, q⟩ := h
  cases x with
  | non =>
    cases rx
    cases y with
    | non => cases ry; exact PySem.EqNone.eq_none_none (fin_bl I q (by simp))
    | bl j => cases ry; exact PySem.EqNone.eq_none_bool (fin_bl I q (by simp))
    | int j => obtain ⟨t', rfl⟩ := ry; exact PySem.EqNone.eq_none_int (fin_bl I q (by simp))
    | str j => obtain ⟨t', rfl⟩ := ry; exact PySem.EqNone.eq_none_str (fin_bl I q (by simp))
    | _ => exact absurd (show false = true from hs) Bool.false_ne_true
  | bl i =>
    cases rx
    cases y with
    | non => cases ry; exact PySem.EqNone.eq_bool_none (fin_bl I q (by simp))
    | bl j => cases ry; exact eq_bool (fin_bl I q dec_bl)
    | str j => obtain ⟨t', rfl⟩ := ry; exact PySem.EqMixed.eq_bool_str (fin_bl I q (by simp))
    | _ => exact absurd (show false = true from hs) Bool.false_ne_true
  | int i =>
    obtain ⟨t, rfl⟩ := rx
    cases y with
    | non => cases ry; exact PySem.EqNone.eq_int_none (fin_bl I q (by simp))
    | int j => obtain ⟨t', rfl⟩ := ry; exact eq_int (fin_bl I q dec_int)
    | str j => obtain ⟨t', rfl⟩ := ry; exact PySem.EqMixed.eq_int_str (fin_bl I q (by simp))
    | _ => exact absurd (show false = true from hs) Bool.false_ne_true
  | str i =>
    obtain ⟨t, rfl⟩ := rx
    cases y with
    | non => cases ry; exact PySem.EqNone.eq_str_none (fin_bl I q (by simp))
    | bl j => cases ry; exact PySem.EqMixed.eq_str_bool (fin_bl I q (by simp))
    | int j => obtain ⟨t', rfl⟩ := ry; exact PySem.EqMixed.eq_str_int (fin_bl I q (by simp))
    | str j => obtain ⟨t', rfl⟩ := ry; exact eq_str (fin_bl I q dec_str)
    | _ => exact absurd (show false = true from hs) Bool.false_ne_true
  | byt i =>
    obtain ⟨t, rfl⟩ := rx
    cases y with
    | byt j => obtain ⟨t', rfl⟩ := ry; exact PySem.W.eq_bytes (fin_bl I q dec_byt)
    | _ => exact absurd (show false = true from hs) Bool.false_ne_true
  | _ => cases y <;> exact absurd (show false = true from hs) Bool.false_ne_true
theorem op_ne : OpR X (compareOp .NotEq) rNe := by
  intro pins s σ H x y v u Q I rx ry h
  obtain ⟨hs, q⟩ := h
  cases x with
  | non =>
    cases rx
    cases y with
    | non => cases ry; exact PySem.EqNone.ne_none_none (fin_bl I q (by simp))
    | bl j => cases ry; exact PySem.EqNone.ne_none_bool (fin_bl I q (by simp))
    | int j => obtain ⟨t', rfl⟩ := ry; exact PySem.EqNone.ne_none_int (fin_bl I q (by simp))
    | str j => obtain ⟨t', rfl⟩ := ry; exact PySem.EqNone.ne_none_str (fin_bl I q (by simp))
    | _ => exact absurd (show false = true from hs) Bool.false_ne_true
  | bl i =>
    cases rx
    cases y with
    | non => cases ry; exact PySem.EqNone.ne_bool_none (fin_bl I q (by simp))
    | bl j => cases ry; exact ne_bool (fin_bl I q (congrArg not dec_bl))
    | str j => obtain ⟨t', rfl⟩ := ry; exact PySem.EqMixed.ne_bool_str (fin_bl I q (by simp))
    | _ => exact absurd (show false = true from hs) Bool.false_ne_true
  | int i =>
    obtain ⟨t, rfl⟩ := rx
    cases y with
    | non => cases ry; exact PySem.EqNone.ne_int_none (fin_bl I q (by simp))
    | int j => obtain ⟨t', rfl⟩ := ry; exact ne_int (fin_bl I q (congrArg not dec_int))
    | str j => obtain ⟨t', rfl⟩ := ry; exact PySem.EqMixed.ne_int_str (fin_bl I q (by simp))
    | _ => exact absurd (show false = true from hs) Bool.false_ne_true
  | str i =>
    obtain ⟨t, rfl⟩ := rx
    cases y with
    | non => cases ry; exact PySem.EqNone.ne_str_none (fin_bl I q (by simp))
    | bl j => cases ry; exact PySem.EqMixed.ne_str_bool (fin_bl I q (by simp))
    | int j => obtain ⟨t', rfl⟩ := ry; exact PySem.EqMixed.ne_str_int (fin_bl I q (by simp))
    | str j => obtain ⟨t', rfl⟩ := ry; exact ne_str (fin_bl I q (congrArg not dec_str))
    | _ => exact absurd (show false = true from hs) Bool.false_ne_true
  | byt i =>
    obtain ⟨t, rfl⟩ := rx
    cases y with
    | byt j => obtain ⟨t', rfl⟩ := ry; exact PySem.W.ne_bytes (fin_bl I q (congrArg not dec_byt))
    | _ => exact absurd (show false = true from hs) Bool.false_ne_true
  | _ => cases y <;> exact absurd (show false = true from hs) Bool.false_ne_true
theorem op_lt : OpR X (compareOp .Lt) (rI0 fun i j => .bl (decide (i < j))) := opB0 fun _ _ _ _ _ _ _ q => lt_int q
theorem op_le : OpR X (compareOp .LtE) (rI0 fun i j => .bl (decide (i ≤ j))) := opB0 fun _ _ _ _ _ _ _ q => le_int q
theorem op_gt : OpR X (compareOp .Gt) (rI0 fun i j => .bl (decide (j < i))) := opB0 fun _ _ _ _ _ _ _ q => gt_int q
theorem op_in_str : OpR X (compareOp .In) (fun x y H Q => ∃ i j, x = .str i ∧ y = .str j ∧ Q (.bl (!(Builtin.Str.occurrences j i 0 j.length 1).isEmpty)) H) := by
  intro pins s σ H x y v u Q I rx ry h
  obtain ⟨i, j, rfl, rfl, q⟩ := h
  obtain ⟨t, rfl⟩ := rx
  obtain ⟨t', rfl⟩ := ry
  exact in_str (fin_bl I q rfl)
theorem OpR.or {f : Value → Value → Sem Value} {r r' : R2} (h : OpR X f r) (h' : OpR X f r') : OpR X f (fun x y H Q => r x y H Q ∨ r' x y H Q) := by
  intro pins s σ H x y v u Q I rx ry q
  rcases q with q | q
  · exact h pins s σ H x y v u Q I rx ry q
  · exact h' pins s σ H x y v u Q I rx ry q
theorem nomark (b : Expr) {op : CmpOp} (h : op ≠ .In := by decide) (h2 : op ≠ .NotIn := by decide) : behindInMarks op b = false := by
  have e1 : (op == CmpOp.In) = false := by cases op <;> first | rfl | exact absurd rfl h
  have e2 : (op == CmpOp.NotIn) = false := by cases op <;> first | rfl | exact absurd rfl h2
  cases b <;> simp [behindInMarks, e1, e2]
theorem pe_cmpR {op : CmpOp} {r : R2} (ho : OpR X (compareOp op) r) (ha : PE X a ta) (hb : PE X b tb) (hm : behindInMarks op b = false) : PE X (.Compare a [op] [b] pos) (tOp r ta tb) := by
  intro pins s σ H Q I h
  exact wpAny_Compare1 (binT ha hb I h fun v u s2 x y H2 I2 rx ry q => ho pins s2 σ H2 x y v u Q I2 rx ry q) hm
def tTest (t : TE) : TT := fun σ H Q => t σ H fun x H' => ∃ k, x = .bl k ∧ Q k H'
theorem pt_cmpR {op : CmpOp} {r : R2} (ho : OpR X (compareOp op) r) (ha : PE X a ta) (hb : PE X b tb) (hm : behindInMarks op b = false) : PT X (.Compare a [op] [b] pos) (tTest (tOp r ta tb)) := by
  intro pins s σ H Q I h
  refine wpAny_isTrue_Compare1 (thn (ha pins s σ H _ I h) fun v s1 ⟨x, H1, I1, r1, q1⟩ => thn (hb pins s1 σ H1 _ I1 q1) fun u s2 ⟨y, H2, I2, r2, q2⟩ =>
    thn (ho pins s2 σ H2 x y v u _ I2 r1 r2 q2) fun c s3 ⟨z, H3, I3, r3, k, e, q3⟩ => ?_) hm
  subst e
  cases r3
  exact wpAny_truthy_bool ⟨H3, I3, q3⟩
def tChain (r r' : R2) (ta tb tc : TE) : TE := fun σ H Q => ta σ H fun x H1 => tb σ H1 fun y H2 => r x y H2 fun z H3 => ∃ k, z = .bl k ∧
  (if k = true then tc σ H3 fun w' H4 => r' y w' H4 Q else Q (.bl false) H3)
theorem pe_chain {op op' : CmpOp} {r r' : R2} (ho : OpR X (compareOp op) r) (ho' : OpR X (compareOp op') r') (ha : PE X a ta) (hb : PE X b tb) (hc : PE X c tc)
    (hm : lastMarks [op, op'] [b, c] = false := by with_unfolding_all rfl) : PE X (.Compare a [op, op'] [b, c] pos) (tChain r r' ta tb tc) := by
  intro pins s σ H Q I h
  refine Compare_chain (thn (ha pins s σ H _ I h) fun v s1 ⟨x, H1, I1, r1, q1⟩ => chain_link (thn (hb pins s1 σ H1 _ I1 q1) fun u s2 ⟨y, H2, I2, r2, q2⟩ =>
    thn (ho pins s2 σ H2 x y v u _ I2 r1 r2 q2) fun d s3 ⟨z, H3, I3, r3, k, e, q3⟩ => ?_)) hm
  subst e
  cases r3
  refine wpAny_truthy_bool ?_
  cases k with
  | false => exact ite_ff ⟨.bl false, H3, I3, rfl, q3⟩
  | true => exact ite_tt (chain_last (thn (hc pins s3 σ H3 _ I3 q3) fun w' s4 ⟨z', H4, I4, r4, q4⟩ => ho' pins s4 σ H4 y z' u w' Q I4 r2 r4 q4))
theorem pt_chain {op op' : CmpOp} {r r' : R2} (ho : OpR X (compareOp op) r) (ho' : OpR X (compareOp op') r') (ha : PE X a ta) (hb : PE X b tb) (hc : PE X c tc)
    (hm : lastMarks [op, op'] [b, c] = false := by with_unfolding_all rfl) : PT X (.Compare a [op, op'] [b, c] pos) (tTest (tChain r r' ta tb tc)) := by
  intro pins s σ H Q I h
  refine isTrue_chain (thn (ha pins s σ H _ I h) fun v s1 ⟨x, H1, I1, r1, q1⟩ => test_link (thn (hb pins s1 σ H1 _ I1 q1) fun u s2 ⟨y, H2, I2, r2, q2⟩ =>
    thn (ho pins s2 σ H2 x y v u _ I2 r1 r2 q2) fun d s3 ⟨z, H3, I3, r3, k, e, q3⟩ => ?_)) hm
  subst e
  cases r3
  refine wpAny_truthy_bool ?_
  cases k with
  | false =>
    obtain ⟨k', e', q'⟩ := q3
    cases e'
    exact ite_ff ⟨H3, I3, q'⟩
  | true =>
    refine ite_tt (test_last (thn (hc pins s3 σ H3 _ I3 q3) fun w' s4 ⟨z', H4, I4, r4, q4⟩ => thn (ho' pins s4 σ H4 y z' u w' _ I4 r2 r4 q4) fun d' s5 ⟨z2, H5, I5, r5, k2, e2, q5⟩ => ?_))
    subst e2
    cases r5
    exact wpAny_truthy_bool ⟨H5, I5, q5⟩
def TruV (K : PySem.W.Frag) (x : V) (H : Hp) (k : Bool) : Prop :=
  match x with
  | .non => k = false
  | .bl b => k = b
  | .int i => k = (i != 0)
  | .str y => y.length ≤ sizeLine ∧ k = ((y.length : Int) != 0)
  | .byt y => y.size ≤ sizeLine ∧ k = ((y.size : Int) != 0)
  | .ref p => (∃ xs, SqL K H p xs ∧ k = !xs.isEmpty) ∨ (∃ xs, SqT K H p xs ∧ k = !xs.isEmpty) ∨ ∃ kvs, H p = some (.dK kvs) ∧ k = !kvs.isEmpty
  | _ => False
theorem isEmpty_kv {κ : Type} {kvs : List (κ × V)} {vs : List (κ × Value)} (r : KV kvs vs) : (!vs.isEmpty) = !kvs.isEmpty := by
  cases r <;> rfl
theorem isEmpty_of {xs : List V} {its : List Value} (r : Vals xs its) : (!its.toArray.isEmpty) = !xs.isEmpty := by
  cases r <;> simp
theorem line63 : (sizeLine : Nat) < 2 ^ 63 := by rw [sizeLine_eq]; decide
theorem tru_ok : TruR X (fun x H Q => ∃ k, TruV X.K x H k ∧ Q k H) := by
  intro pins s σ H x v Q I rx h
  obtain ⟨k, e, q⟩ := h
  have hl := line63
  have hs : sizeLine = 16777216 := sizeLine_eq
  cases x with
  | non =>
    cases rx
    have e' : k = false := e
    subst e'
    exact truthy_none ⟨H, I, q⟩
  | bl b =>
    cases rx
    have e' : k = b := e
    subst e'
    exact wpAny_truthy_bool ⟨H, I, q⟩
  | int i =>
    obtain ⟨t, rfl⟩ := rx
    have e' : k = (i != 0) := e
    subst e'
    exact PySem.P.truthy_int ⟨H, I, q⟩
  | str y =>
    obtain ⟨t, rfl⟩ := rx
    obtain ⟨hy, e'⟩ : y.length ≤ sizeLine ∧ k = ((y.length : Int) != 0) := e
    subst e'
    exact PySem.P.truthy_str (by omega) ⟨H, I.tok _, q⟩
  | byt y =>
    obtain ⟨t, rfl⟩ := rx
    obtain ⟨hy, e'⟩ : y.size ≤ sizeLine ∧ k = ((y.size : Int) != 0) := e
    subst e'
    exact PySem.W.truthy_bytes (by omega) ⟨H, I.tok _, q⟩
  | ref p =>
    cases rx
    have e' : (∃ xs, SqL X.K H p xs ∧ k = !xs.isEmpty) ∨ (∃ xs, SqT X.K H p xs ∧ k = !xs.isEmpty) ∨ ∃ kvs, H p = some (.dK kvs) ∧ k = !kvs.isEmpty := e
    rcases e' with ⟨xs, hx, e'⟩ | ⟨xs, hx, e'⟩ | ⟨kvs, hx, e'⟩
    · subst e'
      obtain ⟨its, r, pl, hz⟩ := I.list hx
      have hlen := r.length
      exact wpAny_truthy_list pl.isList (by simp only [List.size_toArray]; omega) ⟨H, I.tok _, by rw [isEmpty_of r]; exact q⟩
    · subst e'
      obtain ⟨its, r, pl, hz⟩ := I.tuple hx
      have hlen := r.length
      exact truthy_tuple pl (by simp only [List.size_toArray]; omega) ⟨H, I.tok _, by rw [isEmpty_of r]; exact q⟩
    · subst e'
      obtain ⟨hz, hS, vs, r, m⟩ : kvs.length ≤ sizeLine ∧ (p == sysModules) = false ∧ ∃ vs, KV kvs vs ∧ s.heap.DictOf (mixKind X.prog X.w) p vs := I.hok p _ hx
      have hlen : kvs.length = vs.length := Paired.length r
      exact wpAny_truthy_dict hS m (by omega) ⟨H, I.tok _, by rw [isEmpty_kv r]; exact q⟩
  | _ => exact (show False from e).elim
theorem pt_truth (ha : PE X a ta) (he : ∀ whole, isTrue a X.env whole = (do let v ← whole; standAt a.pos; holding [v] (truthy v))) :
    PT X a (fun σ H Q => ta σ H fun x H' => ∃ k, TruV X.K x H' k ∧ Q k H') := by
  intro pins s σ H Q I h
  exact isTrue_plain (thn (ha pins s σ H _ I h) fun v s1 ⟨x, H1, I1, r1, q1⟩ => tru_ok pins s1 σ H1 x v Q I1 r1 q1) (he _)
theorem op_add_str : OpR X (binaryOp .Add) (fun x y H Q => ∃ i j, x = .str i ∧ y = .str j ∧ i.length + j.length ≤ sizeLine ∧ Q (.str (i ++ j)) H) := by
  intro pins s σ H x y v u Q I rx ry h
  obtain ⟨i, j, rfl, rfl, hz, q⟩ := h
  obtain ⟨t, rfl⟩ := rx
  obtain ⟨t', rfl⟩ := ry
  exact add_str (fun t' tk => ⟨.str (i ++ j), H, I.tok _, ⟨_, rfl⟩, q⟩) hz
theorem vals1 {x : V} {us : List Value} (r : Vals [x] us) : ∃ u, us = [u] ∧ RelV x u := by
  cases r with
  | cons r1 r2 => cases r2; exact ⟨_, rfl, r1⟩
theorem vals2 {x y : V} {us : List Value} (r : Vals [x, y] us) : ∃ u w', us = [u, w'] ∧ RelV x u ∧ RelV y w' := by
  cases r with
  | cons r1 r2 =>
    cases r2 with
    | cons r3 r4 => cases r4; exact ⟨_, _, rfl, r1, r3⟩
theorem call_max2 (hc : X.calm = true) : CallR X (.builtin "max") (fun xs H Q => ∃ i j, xs = [.int i, .int j] ∧ Q (.int (if j > i then j else i)) H) := by
  intro pins s σ H xs us Q I r h
  obtain ⟨i, j, rfl, q⟩ := h
  obtain ⟨u, w', rfl, ⟨t, rfl⟩, ⟨t', rfl⟩⟩ := vals2 r
  refine max_two_ints (I.ok.hd hc) fun h' tk k => ⟨_, H, I.kept k, ?_, q⟩
  by_cases hj : j > i
  · rw [if_pos hj, if_pos hj]; exact ⟨_, rfl⟩
  · rw [if_neg hj, if_neg hj]; exact ⟨_, rfl⟩
theorem call_min2 (hc : X.calm = true) : CallR X (.builtin "min") (fun xs H Q => ∃ i j, xs = [.int i, .int j] ∧ Q (.int (if j < i then j else i)) H) := by
  intro pins s σ H xs us Q I r h
  obtain ⟨i, j, rfl, q⟩ := h
  obtain ⟨u, w', rfl, ⟨t, rfl⟩, ⟨t', rfl⟩⟩ := vals2 r
  refine min_two_ints (I.ok.hd hc) fun h' tk k => ⟨_, H, I.kept k, ?_, q⟩
  by_cases hj : j < i
  · rw [if_pos hj, if_pos hj]; exact ⟨_, rfl⟩
  · rw [if_neg hj, if_neg hj]; exact ⟨_, rfl⟩
theorem call_str_int : CallR X (.type "str") (fun xs H Q => ∃ i, xs = [.int i] ∧ i.natAbs.log2 < 1920 ∧ Q (.str (toString i)) H) := by
  intro pins s σ H xs us Q I r h
  obtain ⟨i, rfl, hz, q⟩ := h
  obtain ⟨u, rfl, t, rfl⟩ := vals1 r
  exact PySem.P.str_of_int hz ⟨.str _, H, I.tok _, ⟨_, rfl⟩, q⟩
def LenV (K : PySem.W.Frag) (x : V) (H : Hp) (n : Nat) : Prop :=
  match x with
  | .str y => y.length ≤ sizeLine ∧ n = y.length
  | .byt y => y.size ≤ sizeLine ∧ n = y.size
  | .ref p => (∃ xs, SqL K H p xs ∧ n = xs.length) ∨ ∃ xs, SqT K H p xs ∧ n = xs.length
  | _ => False
theorem call_len : CallR X (.builtin "len") (fun xs H Q => ∃ x n, xs = [x] ∧ LenV X.K x H n ∧ Q (.int n) H) := by
  intro pins s σ H xs us Q I r h
  obtain ⟨x, n, rfl, e, q⟩ := h
  obtain ⟨u, rfl, rx⟩ := vals1 r
  have hl := line63
  have hs : sizeLine = 16777216 := sizeLine_eq
  cases x with
  | str y =>
    obtain ⟨t, rfl⟩ := rx
    obtain ⟨hy, e'⟩ : y.length ≤ sizeLine ∧ n = y.length := e
    subst e'
    exact len_str (by omega) ⟨.int _, H, I.tok _, ⟨_, rfl⟩, q⟩
  | byt y =>
    obtain ⟨t, rfl⟩ := rx
    obtain ⟨hy, e'⟩ : y.size ≤ sizeLine ∧ n = y.size := e
    subst e'
    exact PySem.W.len_bytes (by omega) ⟨.int _, H, I.tok _, ⟨_, rfl⟩, q⟩
  | ref p =>
    cases rx
    have e' : (∃ xs, SqL X.K H p xs ∧ n = xs.length) ∨ ∃ xs, SqT X.K H p xs ∧ n = xs.length := e
    rcases e' with ⟨xs, hx, e'⟩ | ⟨xs, hx, e'⟩
    · subst e'
      obtain ⟨its, r', pl, hz⟩ := I.list hx
      have hlen := r'.length
      exact Calls.call_len_list pl.isList (by simp only [List.size_toArray]; omega) ⟨.int xs.length, H, I.tok _, ⟨_, by simp only [List.size_toArray]; rw [hlen]⟩, q⟩
    · subst e'
      obtain ⟨its, r', pl, hz⟩ := I.tuple hx
      have hlen := r'.length
      exact len_tuple pl (by simp only [List.size_toArray]; omega) ⟨.int xs.length, H, I.tok _, ⟨_, by simp only [List.size_toArray]; rw [hlen]⟩, q⟩
  | _ => exact (show False from e).elim
end
end L2
namespace L2
open PySem PySem.Spec PyProof.Rows
structure ObjM (h : Heap) (x dx C : Addr) (mA : Str → Option Value) : Prop where
  obj : h.get? x = some (PySem.W.instObj C dx)
  ns : h.Ns1 dx mA
  ne : dx ≠ x
theorem lookIn_ns {h : Heap} {dx : Addr} {mA : Str → Option Value} (n : h.Ns1 dx mA) : ∃ od, h.get? dx = some od ∧ ∀ name, PySem.W.lookIn name od = some (mA name) := by
  obtain ⟨o, es, ep, ho, hd, hk, _, hm⟩ := n
  refine ⟨o, ho, fun name => ?_⟩
  have e := hm name
  unfold nsFind findBy at e
  rw [← Array.find?_toList] at e
  unfold PySem.W.lookIn
  rw [hd]
  dsimp only
  split
  · rename_i y q
    rw [q] at e
    exact congrArg some e
  · rename_i q
    rw [q] at e
    have a : es.toList.any (·.refKey) = false := by
      rw [List.any_eq_false]
      intro y hy
      obtain ⟨z, t, hkey⟩ := hk y (Array.mem_toList_iff.mp hy)
      simp [DictEntry.refKey, hkey]
    have a' : ¬ es.toList.any (·.refKey) = true := by rw [a]; exact Bool.false_ne_true
    rw [if_neg a']
    exact congrArg some e
theorem ObjM.look {h : Heap} {x dx C : Addr} {mA : Str → Option Value} (I : ObjM h x dx C mA) : ∃ od, PySem.W.InstAt h x (PySem.W.instObj C dx) C (some od) ∧ ∀ name, PySem.W.lookIn name od = some (mA name) :=
  let ⟨od, ho, hl⟩ := lookIn_ns I.ns
  ⟨od, ⟨I.obj, rfl, rfl, ho⟩, hl⟩
section
variable {prog : Program} {w : World} {A : Around} {E : Value → Shared → Prop} {s : Shared} {K : PySem.W.Frag} {x dx C f : Addr} {mA : Str → Option Value} {name : Str} {v : Value}
end
section
variable {P : Program} {w : World} {H H' : Hp} {h h' : Heap} {a C dx : Addr} {fs fs' : List (Str × V)}
theorem ins_get (hok : HOk P w H h) (e : H a = some (.ins C dx fs)) : ∃ mA, ObjM h a dx C mA ∧ (∀ f, RelO (fs.lookup f) (mA f)) ∧ PySem.Within mA (fs.map (·.1)) ∧ fs.length ≤ 1000 ∧ H dx = some (.own a) := by
  obtain ⟨d, z, ne, ob, mA, n, r, q⟩ := (show ObjOk P w H h a (.ins C dx fs) from hok a _ e)
  exact ⟨mA, ⟨ob, n, ne⟩, r, q, z, d⟩
end
structure Cls (K : PySem.W.Frag) (C : Addr) : Prop where
  pg : PySem.W.plainGet K C Str.empty = true
  hd : PySem.W.hasDictIn K C = true
  po : PySem.W.plainOver K C = true
  sa : PySem.W.findIn K (.ref C) "__setattr__" = some (some (.builtin "object.__setattr__"))
theorem Cls.get {K : PySem.W.Frag} {C : Addr} (c : Cls K C) (f : Str) : PySem.W.plainGet K C f = true := c.pg
section
variable {X : Cx} {pins : List (Addr × Obj)} {σ : St} {H : Hp} {s : Shared} {a C dx : Addr} {fs : List (Str × V)} {f : Str} {v : V} {A : Around} {E : Value → Shared → Prop}
end
section
variable {X : Cx} {o e value : Expr} {f : Str} {pos pos' tpos : Pos} {ta tv : TE}
end
section
variable {X : Cx} {pins : List (Addr × Obj)} {σ : St} {H : Hp} {s : Shared} {A : Around} {E : Value → Shared → Prop} {Q : Value → Shared → Prop} {c : Value} {b : Bool}
inductive TyOf (K : PySem.W.Frag) (H : Hp) : V → Value → Prop where
  | non : TyOf K H .non (.type "NoneType")
  | bl (x : Bool) : TyOf K H (.bl x) (.type "bool")
  | int (i : Int) : TyOf K H (.int i) (.type "int")
  | str (x : Str) : TyOf K H (.str x) (.type "str")
  | flt (x : UInt64) : TyOf K H (.flt x) (.type "float")
  | lst {a : Addr} {xs : List V} (e : H a = some (.lst xs)) : TyOf K H (.ref a) (.type "list")
  | frz {a : Addr} {o : Obj} {xs : List V} (e : H a = some (.frz o (.lst xs))) : TyOf K H (.ref a) (.type "list")
  | tup {a : Addr} {xs : List V} (e : H a = some (.tup xs)) : TyOf K H (.ref a) (.type "tuple")
  | dK {a : Addr} {kvs : List (Key × V)} (e : H a = some (.dK kvs)) : TyOf K H (.ref a) (.type "dict")
  | dT {a : Addr} {kvs : List (List Key × V)} (e : H a = some (.dT kvs)) : TyOf K H (.ref a) (.type "dict")
  | ins {a C dx : Addr} {fs : List (Str × V)} (e : H a = some (.ins C dx fs)) (cl : Cls K C) (ha : PySem.W.findIn K (.ref C) "__class__" = some (some (.builtin "object.__class__")))
      (hn : PySem.W.specialIn K (.builtin "object.__class__") "__get__" = some (some (.builtin "getset_descriptor.__get__"))) (htk : PySem.W.takesIn K (.builtin "object.__class__") = some true)
      (hm : PySem.W.mroIn K C (.type "object") = some true) : TyOf K H (.ref a) (.ref C)
theorem isinst_ok {x : V} {u t : Value} (I : Inv X pins σ H s) (rx : RelV x u) (ty : TyOf X.K H x t) (e : PySem.W.kitOne X.K t c = some b) (h : ∀ tk, Q (.bool b) { s with toks := tk }) :
    wpAny (model X.prog X.w) A (call (.builtin "isinstance") [u, c]) Q E s := by
  cases ty with
  | non => cases (show u = Value.none from rx); exact PySem.W.kia_one PySem.W.kitx_none I.kIn True.intro e (fun z => nomatch z) h
  | bl y => cases (show u = Value.bool y from rx); exact PySem.W.kia_one PySem.W.kitx_bool I.kIn True.intro e (fun z => nomatch z) h
  | int i => obtain ⟨t, q⟩ := (show ∃ t, u = Value.int i t from rx); cases q; exact PySem.W.kia_one PySem.W.kitx_int I.kIn True.intro e (fun z => nomatch z) h
  | str y => obtain ⟨t, q⟩ := (show ∃ t, u = Value.str y t from rx); cases q; exact PySem.W.kia_one PySem.W.kitx_str I.kIn True.intro e (fun z => nomatch z) h
  | flt y => obtain ⟨t, q⟩ := (show ∃ t, u = Value.float y t from rx); cases q; exact PySem.W.kia_one PySem.W.kitx_float I.kIn True.intro e (fun z => nomatch z) h
  | @lst a xs ea =>
    cases (show u = Value.ref a from rx)
    obtain ⟨_, _, n, _, h1⟩ := (show ObjOk X.prog X.w H s.heap a (.lst xs) from I.hok a _ ea)
    exact PySem.W.kia_one PySem.W.kitx_list I.kIn ⟨_, h1, rfl⟩ e (fun z => nomatch z) h
  | @frz a ob xs ea =>
    cases (show u = Value.ref a from rx)
    obtain ⟨_, _, _, n, _, h1⟩ := (show ObjOk X.prog X.w H s.heap a (.frz ob (.lst xs)) from I.hok a _ ea)
    exact PySem.W.kia_one PySem.W.kitx_list I.kIn ⟨_, h1, rfl⟩ e (fun z => nomatch z) h
  | @tup a xs ea =>
    cases (show u = Value.ref a from rx)
    obtain ⟨_, _, _, p⟩ := (show ObjOk X.prog X.w H s.heap a (.tup xs) from I.hok a _ ea)
    obtain ⟨o, h1, h2, _⟩ := p
    exact PySem.W.kia_one PySem.W.kitx_tuple I.kIn ⟨o, h1, h2⟩ e (fun z => nomatch z) h
  | @dK a kvs ea =>
    cases (show u = Value.ref a from rx)
    obtain ⟨_, _, vs, _, p⟩ := (show ObjOk X.prog X.w H s.heap a (.dK kvs) from I.hok a _ ea)
    obtain ⟨o, es, ep, h1, h2, _⟩ := p
    exact PySem.W.kia_one PySem.W.kitx_dict I.kIn ⟨o, h1, h2.1⟩ e (fun z => nomatch z) h
  | @dT a kvs ea =>
    cases (show u = Value.ref a from rx)
    obtain ⟨_, _, xs, _, o, es, ep, h1, h2, _⟩ := (show ObjOk X.prog X.w H s.heap a (.dT kvs) from I.hok a _ ea)
    exact PySem.W.kia_one PySem.W.kitx_dict I.kIn ⟨o, h1, h2.1⟩ e (fun z => nomatch z) h
  | @ins a C dx fs ea cl ha hn htk hm =>
    cases (show u = Value.ref a from rx)
    obtain ⟨mA, O, _⟩ := ins_get I.hok ea
    obtain ⟨od, J, _⟩ := O.look
    exact PySem.W.kia_one (PySem.W.kitx_own (cl.get _) cl.hd ha hn htk hm) I.kIn J e (fun z => nomatch z) h
end
end L2
namespace L2
open PySem PySem.Spec PyProof.Rows
structure Room (k : Nat) (A : Around) : Prop where
  hd : A.handled = none
  dp : A.depth + 3 * k + 5 < recursionLimit
  un : A.units + 16 * k + 200 < cLine
theorem Room.mono {j k : Nat} {A : Around} (r : Room k A) (h : j ≤ k) : Room j A := ⟨r.hd, by have := r.dp; omega, by have := r.un; omega⟩
theorem Room.deeper {k : Nat} {A : Around} (r : Room (k + 1) A) (env : Env) : Room k (A.deeper env) :=
  ⟨r.hd, by have := r.dp; show A.depth + 1 + 3 * k + 5 < _; omega, by have := r.un; show A.units + 3 + 16 * k + 200 < _; omega⟩
theorem Room.depth {k : Nat} {A : Around} (r : Room k A) : A.depth < recursionLimit := by have := r.dp; omega
theorem Room.units {k : Nat} {A : Around} (r : Room k A) : A.units + 64 < cLine := by have := r.un; omega
def tNil : TA := fun _ H Q => Q [] H
def tCons (ta : TE) (tr : TA) : TA := fun σ H Q => ta σ H fun x H1 => tr σ H1 fun xs H2 => Q (x :: xs) H2
section
variable {X : Cx} {e : Expr} {es : List Expr} {te : TE} {t : TA} {pos : Pos}
theorem pa_nil : PA X [] tNil := fun _ _ _ _ H Q I h => Calls.spliced_nil ⟨[], H, I, .nil, h⟩
theorem pa_cons (ha : PE X e te) (hr : PA X es t) (hs : starEach (e :: es) X.env = (false, eval e X.env) :: starEach es X.env := by rfl) : PA X (e :: es) (tCons te t) := by
  intro pos pins s σ H Q I h
  rw [hs]
  show wpAny _ _ (spliced ((false, eval e X.env) :: backTo pos (starEach es X.env))) _ _ s
  refine Calls.spliced_cons (thn (ha pins s σ H _ I h) fun u s1 ⟨x, H1, I1, r1, q1⟩ => ?_)
  exact thn (hr pos pins s1 σ H1 _ I1 q1) fun us s2 ⟨xs, H2, I2, r2, q2⟩ => ⟨x :: xs, H2, I2, .cons r1 r2, q2⟩
def tTup (t : TA) : TE := fun σ H Q => t σ H fun xs H1 => xs.length ≤ sizeLine ∧ ∀ p, H1 p = none → Q (.ref p) (upd H1 p (.tup xs))
def tLst (t : TA) : TE := fun σ H Q => t σ H fun xs H1 => xs.length ≤ sizeLine ∧ ∀ p, H1 p = none → Q (.ref p) (upd H1 p (.lst xs))
theorem pe_tup {x1} (h : PA X es t) : PE X (.Tuple es x1 pos) (tTup t) := by
  intro pins s σ H Q I hq
  refine wpAny_Tuple_spliced (thn (h pos pins s σ H _ I hq) fun us s1 ⟨xs, H1, I1, r, z, q⟩ => ⟨by rw [← r.length]; exact z, ?_⟩)
  have hf : H1 s1.heap.objs.size = none := I1.hok.fresh (Nat.le_refl _)
  refine ⟨.ref s1.heap.objs.size, upd H1 s1.heap.objs.size (.tup xs), I1.laid (t' := s1.toks) (fun b u e => Heap.get?_push_of_some _ e) (Nat.le_refl _) ?_, rfl, q _ hf⟩
  exact ⟨z, us, r, ⟨_, Heap.get?_push_size _ rfl, rfl, _, rfl⟩⟩
theorem pe_lst (h : PA X es t) : PE X (.List es pos) (tLst t) := by
  intro pins s σ H Q I hq
  refine wpAny_List_spliced (thn (h pos pins s σ H _ I hq) fun us s1 ⟨xs, H1, I1, r, z, q⟩ => ⟨by rw [← r.length]; exact z, ?_⟩)
  have hf : H1 s1.heap.objs.size = none := I1.hok.fresh (Nat.le_refl _)
  refine ⟨.ref s1.heap.objs.size, upd H1 s1.heap.objs.size (.lst xs), I1.laid (t' := s1.toks) (fun b u e => Heap.get?_push_of_some _ e) (Nat.le_refl _) ?_, rfl, q _ hf⟩
  exact ⟨z, us, 0, r, Heap.get?_push_size _ rfl⟩
end
abbrev Sp := List V → Hp → VK → XK → Prop
abbrev CXT := List Env → Hp → Shared → XK → Value → Shared → Prop
structure Env0 (P : Program) (w : World) (K : PySem.W.Frag) (mg : Str → Option Value) (base : Heap) (A : Around) (outer : List Env) (s : Shared) (H : Hp) : Prop where
  frames : A.frames = some outer
  mod : Mod K mg base
  bs : ∀ b o, base.get? b = some o → s.heap.get? b = some o ∧ H b = none
  bsz : base.objs.size ≤ s.heap.objs.size
  funs : s.heap.FunFrames base outer
  frf : ∀ b ∈ frs outer, H b = none
  hok : HOk P w H s.heap
  bare : AllBare s.gens
def CE (outer : List Env) (P : Program) (w : World) (H : Hp) (s : Shared) (Q : VK) (u : Value) (s' : Shared) : Prop :=
  ∃ v H', s'.os = s.os ∧ AllBare s'.gens ∧ Un (frs outer) [] H H' s.heap s'.heap ∧ HOk P w H' s'.heap ∧ RelV v u ∧ Q v H'
def CR (CX : CXT) (outer : List Env) (P : Program) (w : World) (H : Hp) (s : Shared) (Q : VK) (E : XK) (r : Result) (s' : Shared) : Prop :=
  match r with
  | .ok (.ret u) => CE outer P w H s Q u s'
  | .ok _ => False
  | .error e => CX outer H s E e s'
structure FnOk (P : Program) (w : World) (K : PySem.W.Frag) (mg : Str → Option Value) (base : Heap) (CX : CXT) (k : Nat) (f : Addr) (fd : FuncData) (ps : List Str) (sp : Sp) : Prop where
  len : ∀ vs H Q E, sp vs H Q E → vs.length = ps.length
  run : ∀ (A : Around) (outer : List Env) (s : Shared) (H : Hp) (args : Args) (us : List Value) (vs : List V) (Q : VK) (E : XK), Room k A → Env0 P w K mg base A outer s H → BindsTo s fd args (ps.zip us) → Vals vs us → sp vs H Q E →
    codeAny (model P w) A (.call (.ref f) args) (CR CX outer P w H s Q E) s
section
variable {X : Cx} {pins : List (Addr × Obj)} {σ : St} {H : Hp} {s s' : Shared}
theorem Inv.env0 (I : Inv X pins σ H s) : Env0 X.prog X.w X.K X.mg X.base X.A X.stack s H :=
  ⟨I.ok.frames, I.ok.mod, I.bs, Nat.le_trans I.ok.bsz I.sz, I.stack, I.stkFree, I.hok, I.bare⟩
theorem Inv.after {Q : VK} {u : Value} (I : Inv X pins σ H s) (h : CE X.stack X.prog X.w H s Q u s') : EP X pins σ Q u s' := by
  obtain ⟨v, H', os, bare, un, hok, r, q⟩ := h
  obtain ⟨hh, g, d, t, os'⟩ := s'
  obtain rfl : os' = s.os := os
  exact ⟨v, H', I.call (h' := hh) (g' := g) (d' := d) (t' := t) (ch := []) un hok bare (fun b z => absurd z (by simp)), r, q⟩
end
def tCall (sp : Sp) (dvs : List V) (E : XK) (t : TA) : TE := fun σ H Q => t σ H fun vs H1 => sp (vs ++ dvs) H1 Q E
def Binds (K : PySem.W.Frag) (fd : FuncData) (ps : List Str) (ds : List Value) : Prop :=
  ∀ (s : Shared) (us : List Value), K.In s.heap → (us ++ ds).length = ps.length → BindsTo s fd ⟨us, []⟩ (ps.zip (us ++ ds))
theorem Binds.all {K : PySem.W.Frag} {fd : FuncData} {ps : List Str} (h : ∀ us : List Value, us.length = ps.length → bindArgs fd ⟨us, []⟩ = pure (ps.zip us)) : Binds K fd ps [] := fun s us _ hl => by
  rw [List.append_nil] at hl ⊢
  exact .of_eq (h us hl)
def Passes (CX : CXT) (X : Cx) (E : XK) : Prop := ∀ (pins : List (Addr × Obj)) (σ : St) (H : Hp) (s : Shared) (e : Value) (s' : Shared), Inv X pins σ H s → CX X.stack H s E e s' → X.xe e s'
section
variable {X : Cx} {CX : CXT} {k : Nat} {f C : Addr} {fd : FuncData} {ps : List Str} {sp : Sp} {dvs : List V} {ds : List Value} {E : XK} {x m : Str} {p pos apos : Pos} {e o : Expr} {es : List Expr} {ta : TE} {t : TA}
theorem run_fn {pins : List (Addr × Obj)} {σ : St} {H : Hp} {s : Shared} {Q : VK} {us : List Value} {vs : List V} (F : FnOk X.prog X.w X.K X.mg X.base CX k f fd ps sp) (hr : Room k X.A) (hb : Binds X.K fd ps ds) (hd : Vals dvs ds) (hx : Passes CX X E)
    (I : Inv X pins σ H s) (r : Vals vs us) (h : sp (vs ++ dvs) H Q E) : wpAny (model X.prog X.w) X.A (call (.ref f) us) (EP X pins σ Q) X.xe s := by
  have r2 : Vals (vs ++ dvs) (us ++ ds) := r.append hd
  have hl : (us ++ ds).length = ps.length := by rw [← r2.length]; exact F.len _ _ _ _ h
  refine wpAny_call (codeAny_mono (F.run X.A X.stack s H ⟨us, []⟩ (us ++ ds) (vs ++ dvs) Q E hr I.env0 (hb s us I.kIn hl) r2 h) fun r s' hq => ?_)
  cases r with
  | error e => exact hx pins σ H s e s' I hq
  | ok fl =>
    cases fl with
    | ret u => exact I.after hq
    | next => exact False.elim hq
    | brk => exact False.elim hq
    | cont => exact False.elim hq
theorem pe_call (F : FnOk X.prog X.w X.K X.mg X.base CX k f fd ps sp) (hr : Room k X.A) (hg : Gl X x) (hm : X.mg x = some (.ref f)) (hk : PySem.W.keepIn X.K (.ref f) = true) (hb : Binds X.K fd ps ds) (hd : Vals dvs ds) (hx : Passes CX X E)
    (ha : PA X (e :: es) t) (hdb : (x == ("__debug__" : Str)) = false := by decide) (he : starEach (e :: es) X.env = (false, eval e X.env) :: starEach es X.env := by rfl) (hpl : (backTo pos (starEach es X.env)).any (·.1) = false := by rfl) :
    PE X (.Call (.Name x p) (e :: es) [] pos) (tCall sp dvs E t) := by
  intro pins s σ H Q I h
  refine wpAny_Call_Name_kw (ld_glob I hg hm ?_ hdb)
  refine PySem.W.callWith_K (h₀ := X.base) I.ok.mod.kin hk (thn (ha pos pins s σ H _ I h) fun us s1 ⟨vs, H1, I1, r, q⟩ => ⟨I1.kIn, ?_⟩) he hpl
  exact run_fn F hr hb hd hx I1 r q
end
section
variable {X : Cx} {CX : CXT} {k : Nat} {f C : Addr} {fd : FuncData} {ps ks : List Str} {sp : Sp} {E : XK} {x m : Str} {p pos apos kpos : Pos} {e o : Expr} {es : List Expr} {kws : List Keyword} {te ta : TE} {t tk : TA} {nm : Option Str}
variable {g : List Value → List Value → List Value} {gV : List V → List V → List V}
end
structure FnScope (N P : List Str) (sc : Scope) : Prop where
  kind : sc.kind = .function
  co : sc.isCoroutine = false
  gen : sc.isGenerator = false
  nd : N.Nodup
  pre : N.take P.length = P
  par : ∀ x ∈ P, sc.names.lookup x = some .local ∨ sc.names.lookup x = some .cell
  nofree : ∀ y ∈ sc.names, y.2 ≠ .free
theorem bindL_out {kindOf : Str → Option NameKind} {x : Str} : ∀ {binds : List (Str × Value)} {m : Str → Option Value}, (∀ v, (x, v) ∉ binds) → bindL kindOf binds m x = m x
  | [], _, _ => rfl
  | (n, v) :: r, m, h => by
    unfold bindL
    rw [bindL_out fun w hw => h w (List.mem_cons_of_mem _ hw)]
    split
    · have : x ≠ n := by rintro rfl; exact h v List.mem_cons_self
      simp [this]
    · rfl
theorem bindC_out {kindOf : Str → Option NameKind} {x : Str} : ∀ {binds : List (Str × Value)} {m : Str → Option Value}, (∀ v, (x, v) ∉ binds) → bindC kindOf binds m x = m x
  | [], _, _ => rfl
  | (n, v) :: r, m, h => by
    unfold bindC
    rw [bindC_out fun w hw => h w (List.mem_cons_of_mem _ hw)]
    split
    · rfl
    · have : x ≠ n := by rintro rfl; exact h v List.mem_cons_self
      simp [this]
theorem bindL_get {kindOf : Str → Option NameKind} {x : Str} {v : Value} : ∀ {P : List Str} {vs : List Value} {i : Nat} {m : Str → Option Value}, P.Nodup → P[i]? = some x → vs[i]? = some v → kindOf x = some .local →
    bindL kindOf (P.zip vs) m x = some v
  | [], _, _, _, _, h, _, _ => by simp at h
  | _ :: _, [], _, _, _, _, h, _ => by simp at h
  | p :: P, w :: vs, 0, m, nd, h1, h2, hk => by
    simp at h1 h2; subst h1; subst h2
    show bindL kindOf ((p, w) :: P.zip vs) m p = _
    unfold bindL
    rw [bindL_out fun v hv => (List.nodup_cons.mp nd).1 (List.of_mem_zip hv).1, if_pos hk]
    simp
  | p :: P, w :: vs, i + 1, m, nd, h1, h2, hk => by
    show bindL kindOf ((p, w) :: P.zip vs) m x = _
    unfold bindL
    exact bindL_get (i := i) (List.nodup_cons.mp nd).2 (by simpa using h1) (by simpa using h2) hk
theorem bindC_get {kindOf : Str → Option NameKind} {x : Str} {v : Value} : ∀ {P : List Str} {vs : List Value} {i : Nat} {m : Str → Option Value}, P.Nodup → P[i]? = some x → vs[i]? = some v → kindOf x ≠ some .local →
    bindC kindOf (P.zip vs) m x = some v
  | [], _, _, _, _, h, _, _ => by simp at h
  | _ :: _, [], _, _, _, _, h, _ => by simp at h
  | p :: P, w :: vs, 0, m, nd, h1, h2, hk => by
    simp at h1 h2; subst h1; subst h2
    show bindC kindOf ((p, w) :: P.zip vs) m p = _
    unfold bindC
    rw [bindC_out fun v hv => (List.nodup_cons.mp nd).1 (List.of_mem_zip hv).1, if_neg hk]
    simp
  | p :: P, w :: vs, i + 1, m, nd, h1, h2, hk => by
    show bindC kindOf ((p, w) :: P.zip vs) m x = _
    unfold bindC
    exact bindC_get (i := i) (List.nodup_cons.mp nd).2 (by simpa using h1) (by simpa using h2) hk
def start (N : List Str) (vs : List V) : St := vs.map some ++ List.replicate (N.length - vs.length) none
def cxOf (CX : CXT) (P : Program) (w : World) (K : PySem.W.Frag) (mg : Str → Option Value) (base : Heap) (N : List Str) (qual : Str) (scope : Scope) (f : Addr) (cd : Value) (A : Around) (outer : List Env) (s : Shared) (H : Hp) (E : XK) : Cx where
  prog := P
  w := w
  K := K
  mg := mg
  base := base
  A := A.deeper (envOfC qual scope s.heap.objs.size f cd)
  N := N
  s₀ := s
  H₀ := H
  env := envOfC qual scope s.heap.objs.size f cd
  outer := outer
  stack := envOfC qual scope s.heap.objs.size f cd :: outer
  ex := []
  calm := true
  fn := fun _ => true
  pn := []
  xe := fun e s' => wpAny (model P w) (A.deeper (envOfC qual scope s.heap.objs.size f cd)) (leaving (envOfC qual scope s.heap.objs.size f cd) e) (fun _ s'' => CX outer H s E e s'') (fun e' s'' => CX outer H s E e' s'') s'
theorem cell_has {sc : Scope} {n : Nat} {x : Str} (h : sc.names.lookup x = some .cell) : ∃ c, (cellsFrom n sc.names []).lookup x = some c := by
  have q := PySem.W.cellsFrom_some sc.names n [] (.inl h)
  exact Option.isSome_iff_exists.mp q
theorem inv_start {CX : CXT} {P : Program} {w : World} {K : PySem.W.Frag} {mg : Str → Option Value} {base : Heap} {N ps : List Str} {qual : Str} {scope : Scope} {f : Addr} {cd : Value} {A : Around} {outer : List Env} {s s1 : Shared} {H : Hp} {E : XK} {us : List Value} {vs : List V}
    (S : FnScope N ps scope) (hd : A.handled = none) (e0 : Env0 P w K mg base A outer s H) (hl : vs.length = ps.length) (r : Vals vs us)
    (x : InCallC s s.heap.objs.size (bindL (envOfC qual scope s.heap.objs.size f cd).kindOf (ps.zip us) fun _ => none) (cellsFrom (s.heap.objs.size + 1) scope.names []) (bindC (envOfC qual scope s.heap.objs.size f cd).kindOf (ps.zip us) fun _ => none) s1) :
    Inv (cxOf CX P w K mg base N qual scope f cd A outer s H E) [] (start N vs) H s1 := by
  have hpl : ps.length ≤ N.length := by have := congrArg List.length S.pre; rw [List.length_take] at this; omega
  obtain ⟨h1, tk, rfl, hk⟩ := x.done
  have noA : ∀ b : Addr, b ∉ (cxOf CX P w K mg base N qual scope f cd A outer s H E).ex := fun b z => absurd (show b ∈ ([] : List Addr) from z) (by simp)
  refine ⟨⟨e0.mod, S.kind, rfl, rfl, Nat.le_refl _, fun y z c h1 h2 => ?_, fun y hy => ?_, fun y c _ h => ?_, fun _ => hd, Around.frames_deeper e0.frames, .inr ⟨rfl, rfl⟩, fun b z => absurd z (noA b), e0.bs, e0.bsz, fun b _ _ => noA b, fun b z => absurd z (noA b), e0.funs, e0.frf⟩,
    rfl, e0.bare, Un.kept hk, ⟨_, x.toInCall.ns, fun i y v h1 h2 h3 => ?_⟩, fun y c h => ⟨_, x.cell y c h⟩, e0.hok.fresh (Nat.le_refl _), fun y c h => ?_, fun p hp => absurd (show p ∈ ([] : List (Addr × Obj)) from hp) (by simp), e0.hok.kept hk, ?_⟩
  · exact name_of_addr x.apart (PySem.mem_of_lookup h1) (PySem.mem_of_lookup h2)
  · have hy : scope.names.lookup y = some .cell ∨ scope.names.lookup y = some .free := hy
    rcases hy with hy | hy
    · exact cell_has hy
    · exact absurd rfl (S.nofree _ (PySem.mem_of_lookup hy))
  · exact Nat.le_of_lt (x.above y c (PySem.mem_of_lookup h))
  · have hi : i < vs.length := by
      unfold start at h2
      by_cases hi : i < vs.length
      · exact hi
      · rw [List.getElem?_append_right (by simpa using hi)] at h2
        rw [List.getElem?_replicate] at h2
        split at h2 <;> cases h2
    have ha : vs[i]? = some v := by
      unfold start at h2
      rw [List.getElem?_append_left (by simpa using hi), List.getElem?_map] at h2
      cases e : vs[i]? with
      | none => rw [e] at h2; cases h2
      | some a => rw [e] at h2; cases h2; rfl
    obtain ⟨u, hu, rv⟩ := r.get ha
    have hp : ps[i]? = some y := by
      rw [← S.pre, List.getElem?_take_of_lt (by omega)]; exact h1
    have ndP : ps.Nodup := by rw [← S.pre]; exact S.nd.sublist (List.take_sublist _ _)
    refine ⟨u, rv, ?_⟩
    rcases S.par y (List.mem_of_getElem? hp) with k | k
    · exact .inl ⟨k, bindL_get ndP hp hu k⟩
    · obtain ⟨c, e⟩ := cell_has (n := s.heap.objs.size + 1) k
      refine .inr ⟨.inl k, c, e, ?_⟩
      have q := x.cell y c e
      rw [bindC_get ndP hp hu (by show scope.names.lookup y ≠ _; rw [k]; decide)] at q
      exact q
  · exact e0.hok.fresh (Nat.le_of_lt (x.above y c (PySem.mem_of_lookup h)))
  · unfold start
    show _ = N.length
    rw [List.length_append, List.length_map, List.length_replicate]
    omega
theorem fn_of {CX : CXT} {P : Program} {w : World} {K : PySem.W.Frag} {mg : Str → Option Value} {base : Heap} {k : Nat} {f : Addr} {name qual : Str} {params : Arguments} {body : List Stmt} {scope : Scope} {dV kV doc pm cdv ct oc : Value} {an od : Option Addr}
    {osl : Array (Option Value)} {N ps : List Str} {sp : Sp} (lk : K.lookup f = some ⟨oc, od, .func (PySem.W.fnOf name qual params body scope dV kV doc pm an cdv ct), osl⟩) (hcd : PySem.W.codeIn K cdv qual = true) (S : FnScope N ps scope)
    (len : ∀ vs H Q E, sp vs H Q E → vs.length = ps.length)
    (hbody : ∀ (A : Around) (outer : List Env) (s : Shared) (H : Hp) (vs : List V) (Q : VK) (E : XK), Room k (A.deeper (envOfC qual scope s.heap.objs.size f cdv)) → sp vs H Q E →
      ∃ t, PSs (cxOf CX P w K mg base N qual scope f cdv A outer s H E) body t ∧ t { nx := fun _ H' => Q .non H', rt := Q } (start N vs) H) :
    FnOk P w K mg base CX (k + 1) f (PySem.W.fnOf name qual params body scope dV kV doc pm an cdv ct) ps sp := by
  refine ⟨len, fun A outer s H args us vs Q E hr e0 hb r hsp => ?_⟩
  have hl := len _ _ _ _ hsp
  have KX : K.In s.heap := e0.mod.kin.keeps fun b o e => (e0.bs b o e).1
  have lim : s.heap.NoLimit := e0.mod.nolimit.keeps fun b o e => (e0.bs b o e).1
  have hkind : ∀ y ∈ ps.zip us, scope.names.lookup y.1 = some .local ∨ (scope.names.lookup y.1 = some .cell ∧ ((cellsFrom (s.heap.objs.size + 1) scope.names []).lookup y.1).isSome = true) := fun ⟨n, v⟩ hy => by
    rcases S.par n (List.of_mem_zip hy).1 with q | q
    · exact .inl q
    · exact .inr ⟨q, PySem.W.cellsFrom_some _ _ _ (.inl q)⟩
  refine codeAny_call_function hr.depth (KX _ _ lk) rfl S.co S.gen rfl (PySem.W.codeRec_of KX hcd) (hb _ _ _ _ ?_)
  refine wpAny_newFunctionEnv_cells S.kind hkind fun env he s1 x => ?_
  subst he
  refine ⟨lim.keeps x.toInCall.keep, codeAny_func ?_⟩
  obtain ⟨t, ht, hq⟩ := hbody A outer s H vs Q E (hr.deeper _) hsp
  have I : Inv (cxOf CX P w K mg base N qual scope f cdv A outer s H E) [] (start N vs) H s1 := inv_start S hr.hd e0 hl r x
  refine wpAny_mono (ht [] s1 (start N vs) H _ I hq) (fun fl s' hs => ?_) fun e s' hs => hs
  have fin : ∀ {σ' : St} {H' : Hp} {v : V} {u : Value}, Inv (cxOf CX P w K mg base N qual scope f cdv A outer s H E) [] σ' H' s' → RelV v u → Q v H' → CE outer P w H s Q u s' :=
    fun {σ' H' v u} J rv q => ⟨v, H', J.os, J.bare, J.base, J.hok, rv, q⟩
  cases fl with
  | ret u =>
    obtain ⟨v, σ', H', J, rv, q⟩ := hs
    exact fin J rv q
  | next =>
    obtain ⟨σ', H', J, q⟩ := hs
    exact fin (v := V.non) (u := Value.none) J rfl q
  | brk =>
    obtain ⟨_, _, _, q⟩ := hs
    exact False.elim q
  | cont =>
    obtain ⟨_, _, _, q⟩ := hs
    exact False.elim q
end L2
namespace L2
open PySem PySem.Spec PyProof.Rows
section
variable {X : Cx} {x : Str} {p pos : Pos} {e : Expr} {es : List Expr} {t : TA} {id T : String} {r : List V → Hp → VK → Prop}
def tCB (r : List V → Hp → VK → Prop) (t : TA) : TE := fun σ H Q => t σ H fun vs H1 => r vs H1 Q
theorem pe_callB (hc : CallR X (.builtin id) r) (hg : Gl X x) (hm : X.mg x = none) (hv : bootBuiltins x = some (.builtin id)) (ha : PA X (e :: es) t) (hn : x ≠ "__name__" := by decide) (hdb : (x == ("__debug__" : Str)) = false := by decide)
    (he : starEach (e :: es) X.env = (false, eval e X.env) :: starEach es X.env := by rfl) (hpl : (backTo pos (starEach es X.env)).any (·.1) = false := by rfl) : PE X (.Call (.Name x p) (e :: es) [] pos) (tCB r t) := by
  intro pins s σ H Q I h
  refine wpAny_Call_Name_kw (ld_blt I hg hm hv ?_ hn hdb)
  exact PyProof.Rows.callWith_builtin1 (thn (ha pos pins s σ H _ I h) fun us s1 ⟨vs, H1, I1, r1, q1⟩ => hc pins s1 σ H1 vs us Q I1 r1 q1) he hpl
theorem pe_callTy (hc : CallR X (.type T) r) (hg : Gl X x) (hm : X.mg x = none) (hv : bootBuiltins x = some (.type T)) (ha : PA X (e :: es) t) (hn : x ≠ "__name__" := by decide) (hdb : (x == ("__debug__" : Str)) = false := by decide)
    (he : starEach (e :: es) X.env = (false, eval e X.env) :: starEach es X.env := by rfl) (hpl : (backTo pos (starEach es X.env)).any (·.1) = false := by rfl) : PE X (.Call (.Name x p) (e :: es) [] pos) (tCB r t) := by
  intro pins s σ H Q I h
  refine wpAny_Call_Name_kw (ld_blt I hg hm hv ?_ hn hdb)
  exact PyProof.Rows.callWith_type1 (thn (ha pos pins s σ H _ I h) fun us s1 ⟨vs, H1, I1, r1, q1⟩ => hc pins s1 σ H1 vs us Q I1 r1 q1) he hpl
end
end L2
namespace HT
open PySem PyProof.Rows
section
open PySem.SeqAt
open PySem.AutoSeq1 (wpAny_loadPart')
open PySem.MeetsSeq PySem.MeetsSeq2 PySem.MeetsSeq3
end
section
variable {prog : Program} {w : World} {A : Around} {E : Value → Shared → Prop} {s : Shared}
theorem cat_tup {t b : Addr} {vs ws : List Value} {Q : Value → Shared → Prop} (ht : IsTup s.heap t vs.toArray) (hb : IsTup s.heap b ws.toArray) (hv : vs ≠ [])
    (h1 : ws = [] → Q (.ref t) s) (h2 : ws ≠ [] → Q (.ref s.heap.objs.size) { s with heap := s.heap.push { cls := .type "tuple", data := .seq (vs ++ ws).toArray } })
    (hsz : vs.length + ws.length ≤ sizeLine) : wpAny (model prog w) A (binaryOp .Add (.ref t) (.ref b)) Q E s := by
  obtain ⟨⟨cls, dd, data, sl⟩, ho, hc, n, hd⟩ := id ht
  obtain ⟨⟨cls2, dd2, data2, sl2⟩, ho2, hc2, n2, hd2⟩ := id hb
  simp only at hc hd hc2 hd2
  subst hc hd hc2 hd2
  have e : vs.toArray ++ ws.toArray = (vs ++ ws).toArray := by simp
  by_cases hw : ws = []
  · exact concat_meets ⟨_, ho, rfl⟩ ⟨_, ho2, rfl⟩ noFill_tuple_add seq_tuple_add PySem.F.slot_tuple_add PySem.F.entry_tuple_add (PySem.F.args_tuple_add_2 _ _)
      (tuple_addW1 t b vs.toArray ws.toArray n n2 dd dd2 sl sl2 (by simpa using hv) (by simp [hw])) ⟨ho, ho2, h1 hw⟩
  · refine concat_meets ⟨_, ho, rfl⟩ ⟨_, ho2, rfl⟩ noFill_tuple_add seq_tuple_add PySem.F.slot_tuple_add PySem.F.entry_tuple_add (PySem.F.args_tuple_add_2 _ _)
      (tuple_addW2 t b vs.toArray ws.toArray n n2 dd dd2 sl sl2 (by simpa using hv) (by simpa using hw) (by rw [List.size_toArray, List.size_toArray]; exact hsz)) ⟨ho, ho2, ?_⟩
    rw [e]
    exact h2 hw
def sIx (n d : Nat) : Option Int → Nat
  | none => d
  | some v => if v < 0 then (v + (n : Int)).toNat else min v.toNat n
end
end HT
namespace L2
open PySem PySem.Spec PyProof.Rows
abbrev TO := St → Hp → (Option Int → Hp → Prop) → Prop
section
variable {X : Cx} {e : Expr} {te : TE} {lo hi : Option Expr} {tl th : TO} {pos p2 : Pos}
def SlR (X : Cx) (r : V → Option Int → Option Int → Hp → VK → Prop) : Prop :=
  ∀ (pins : List (Addr × Obj)) (s : Shared) (σ : St) (H : Hp) (x : V) (v vl vu : Value) (lo hi : Option Int) (sl : Addr) (Q : VK), Inv X pins σ H s → RelV x v → s.heap.IsSliceOf sl vl vu .none → IsPart vl lo → IsPart vu hi → r x lo hi H Q →
    ∃ T id, typeLookup (.type T) "__getitem__" = pure (some (.builtin id)) ∧ s.TypeIs v T ∧ wpAny (model X.prog X.w) X.A (getItem v (.ref sl)) (EP X pins σ Q) X.xe s
def cutV (xs : List V) (lo hi : Option Int) : List V := (xs.drop (HT.sIx xs.length 0 lo)).take (HT.sIx xs.length xs.length hi - HT.sIx xs.length 0 lo)
theorem cutV_length (xs : List V) (lo hi : Option Int) : (cutV xs lo hi).length ≤ xs.length := by
  unfold cutV
  rw [List.length_take, List.length_drop]
  omega
def rCatT (K : PySem.W.Frag) : R2 := fun x y H Q => ∃ a b xs ys, x = .ref a ∧ y = .ref b ∧ SqT K H a xs ∧ SqT K H b ys ∧ xs ≠ [] ∧ xs.length + ys.length ≤ sizeLine ∧
  (ys = [] → Q (.ref a) H) ∧ (ys ≠ [] → ∀ p, H p = none → Q (.ref p) (upd H p (.tup (xs ++ ys))))
theorem Vals.nil_iff {xs : List V} {us : List Value} (r : Vals xs us) : us = [] ↔ xs = [] := by
  cases r with
  | nil => simp
  | cons _ _ => simp
theorem op_catT : OpR X (binaryOp .Add) (rCatT X.K) := by
  intro pins s σ H x y v u Q I rx ry h
  obtain ⟨a, b, xs, ys, rfl, rfl, ha, hb, hx, hz, q1, q2⟩ := h
  cases rx
  cases ry
  obtain ⟨its, r1, p1, _⟩ := I.tuple ha
  obtain ⟨its2, r2, p2, _⟩ := I.tuple hb
  refine HT.cat_tup p1 p2 (fun z => hx (r1.nil_iff.mp z)) (fun z => ⟨.ref a, H, I, rfl, q1 (r2.nil_iff.mp z)⟩) (fun z => ?_) (by rw [← r1.length, ← r2.length]; exact hz)
  refine ⟨.ref s.heap.objs.size, _, I.laid (t' := s.toks) (o := .tup (xs ++ ys)) (fun b ob q => Heap.get?_push_of_some _ q) (Nat.le_refl _) ?_, rfl, q2 (fun w => z (r2.nil_iff.mpr w)) _ (I.hok.fresh (Nat.le_refl _))⟩
  exact ⟨by rw [List.length_append]; exact hz, _, r1.append r2, IsTup.new _ _⟩
end
end L2
namespace L2
open PySem PySem.Spec PyProof.Rows
def ixN (n : Nat) (i : Int) : Option Nat := if 0 ≤ i then (if i < n then some i.toNat else none) else if -(n : Int) ≤ i then some (i + n).toNat else none
def atI {α : Type} (xs : List α) (i : Int) : Option α := (ixN xs.length i).bind fun j => xs[j]?
theorem ixN_seq {n : Nat} {i : Int} {j : Nat} (h : ixN n i = some j) : seqIndex? i n = some j ∧ j < n ∧ -(n : Int) ≤ i ∧ i < n := by
  unfold ixN at h
  by_cases h0 : 0 ≤ i
  · rw [if_pos h0] at h
    by_cases h1 : i < n
    · rw [if_pos h1] at h
      have e : i.toNat = j := Option.some.inj h
      exact ⟨by rw [seqIndex_of h0 h1, e], by omega, by omega, h1⟩
    · rw [if_neg h1] at h; cases h
  · rw [if_neg h0] at h
    by_cases h1 : -(n : Int) ≤ i
    · rw [if_pos h1] at h
      have e : (i + n).toNat = j := Option.some.inj h
      exact ⟨by rw [seqIndex_neg (by omega) h1, e], by omega, h1, by omega⟩
    · rw [if_neg h1] at h; cases h
theorem atI_get {α : Type} {xs : List α} {i : Int} {v : α} (h : atI xs i = some v) : ∃ j, seqIndex? i xs.length = some j ∧ xs[j]? = some v ∧ j < xs.length ∧ -(xs.length : Int) ≤ i ∧ i < xs.length := by
  unfold atI at h
  cases e : ixN xs.length i with
  | none => rw [e] at h; cases h
  | some j =>
    rw [e] at h
    obtain ⟨h1, h2, h3, h4⟩ := ixN_seq e
    exact ⟨j, h1, h, h2, h3, h4⟩
theorem atI_nat {α : Type} {xs : List α} {j : Nat} {v : α} (h : xs[j]? = some v) : atI xs (j : Int) = some v := by
  have hj : j < xs.length := (List.getElem?_eq_some_iff.mp h).1
  have e : ixN xs.length (j : Int) = some j := by
    unfold ixN
    rw [if_pos (by omega), if_pos (by omega)]; simp
  unfold atI; rw [e]; exact h
def PlainIx (b : Expr) : Prop := ∀ o i, subscripted b false o i = operate [o, i] (getItem o i)
def IxR (X : Cx) (r : R2) : Prop :=
  ∀ (value slice : Expr) (pins : List (Addr × Obj)) (s : Shared) (σ : St) (H : Hp) (x y : V) (v u : Value) (Q : VK), Inv X pins σ H s → RelV x v → RelV y u → r x y H Q →
    subscripted slice false v u = operate [v, u] (getItem v u) → wpAny (model X.prog X.w) X.A (subscriptTail value slice v u) (EP X pins σ Q) X.xe s
def MtR (X : Cx) (id : String) (r : V → List V → Hp → VK → Prop) : Prop :=
  ∀ (pins : List (Addr × Obj)) (s : Shared) (σ : St) (H : Hp) (x : V) (xs : List V) (v : Value) (us : List Value) (Q : VK), Inv X pins σ H s → RelV x v → Vals xs us → r x xs H Q →
    wpAny (model X.prog X.w) X.A (call (.builtin id) (v :: us)) (EP X pins σ Q) X.xe s
section
variable {X : Cx} {a b : Expr} {ta tb : TE} {pos : Pos}
theorem IxR.or {r r' : R2} (h : IxR X r) (h' : IxR X r') : IxR X (fun x y H Q => r x y H Q ∨ r' x y H Q) := by
  intro value slice pins s σ H x y v u Q I rx ry q hs
  rcases q with q | q
  · exact h value slice pins s σ H x y v u Q I rx ry q hs
  · exact h' value slice pins s σ H x y v u Q I rx ry q hs
theorem pe_ix {r : R2} (hr : IxR X r) (ha : PE X a ta) (hb : PE X b tb) (hs : PlainIx b) : PE X (.Subscript a b pos) (tOp r ta tb) := by
  intro pins s σ H Q I h
  exact Subscript_ (binT ha hb I h fun v u s2 x y H2 I2 rx ry q => hr a b pins s2 σ H2 x y v u Q I2 rx ry q (hs _ _))
def rIxL (K : PySem.W.Frag) : R2 := fun x y H Q => ∃ p xs i v, x = .ref p ∧ y = .int i ∧ SqL K H p xs ∧ atI xs i = some v ∧ Q v H
def rIxT (K : PySem.W.Frag) : R2 := fun x y H Q => ∃ p xs i v, x = .ref p ∧ y = .int i ∧ SqT K H p xs ∧ atI xs i = some v ∧ Q v H
def rIxS : R2 := fun x y H Q => ∃ z i c, x = .str z ∧ y = .int i ∧ z.length ≤ sizeLine ∧ atI z.cps.toList i = some c ∧ Q (.str ⟨#[c]⟩) H
theorem ix_list : IxR X (rIxL X.K) := by
  intro value slice pins s σ H x y v u Q I rx ry h hs
  obtain ⟨p, xs, i, z, rfl, rfl, hq, he, q⟩ := h
  cases rx
  obtain ⟨t, rfl⟩ := ry
  obtain ⟨its, r, pl, hz⟩ := I.list hq
  obtain ⟨j, h1, h2, h3, h4, h5⟩ := atI_get he
  obtain ⟨w, ew, rw'⟩ := r.get h2
  have hl := r.length
  have hn := line63
  have fin : EP X pins σ Q w s := ⟨z, H, I, rw', q⟩
  by_cases h0 : 0 ≤ i
  · have hj : i.toNat = j := by
      rw [seqIndex_of h0 h5] at h1
      exact Option.some.inj h1
    exact item_listR pl.isList h0 (by omega) (by rw [hj]; simpa using ew) fin hs
  · have hj : (i + (its.toArray.size : Int)).toNat = j := by
      rw [seqIndex_neg (by omega) h4] at h1
      rw [List.size_toArray, ← hl]
      exact Option.some.inj h1
    exact subscriptTail_builtinR (x := w) pl.isList.typeIs slot_list_getitem.lookup
      (wpAny_getItem_list_neg (Q := fun r s' => r = w ∧ EP X pins σ Q r s') pl.isList (by omega) (by rw [List.size_toArray] <;> omega) (by omega) (by rw [hj]; simpa using ew) ⟨rfl, fin⟩) hs
theorem ix_tup : IxR X (rIxT X.K) := by
  intro value slice pins s σ H x y v u Q I rx ry h hs
  obtain ⟨p, xs, i, z, rfl, rfl, hq, he, q⟩ := h
  cases rx
  obtain ⟨t, rfl⟩ := ry
  obtain ⟨its, r, pl, hz⟩ := I.tuple hq
  obtain ⟨j, h1, h2, h3, h4, h5⟩ := atI_get he
  obtain ⟨w, ew, rw'⟩ := r.get h2
  have hl := r.length
  have hn := line63
  have fin : EP X pins σ Q w s := ⟨z, H, I, rw', q⟩
  exact subscriptTail_builtinR (x := w) pl.typeIs slot_tuple_getitem.lookup
    (getItem_tuple (j := j) (Q := fun r s' => r = w ∧ EP X pins σ Q r s') pl (by omega) (by omega) (by rw [List.size_toArray, ← hl]; exact h1) (by simpa using ew) ⟨rfl, fin⟩) hs
theorem ix_str : IxR X rIxS := by
  intro value slice pins s σ H x y v u Q I rx ry h hs
  obtain ⟨z, i, c, rfl, rfl, hz, he, q⟩ := h
  obtain ⟨t, rfl⟩ := rx
  obtain ⟨t', rfl⟩ := ry
  obtain ⟨j, h1, h2, h3, h4, h5⟩ := atI_get he
  have hl : z.cps.toList.length = z.length := by simp [Str.length]
  rw [hl] at h1 h4 h5
  have hn := line63
  exact tail_any (typeIs_str s z t) slot_str_getitem.lookup (getItem_str (c := c) (by
    have e1 : decide (i < -(2 ^ 63 : Int)) = false := decide_eq_false (by omega)
    have e2 : decide (i ≥ 2 ^ 63) = false := decide_eq_false (by omega)
    rw [e1, e2, Bool.or_false]) (by rw [h1]; simpa using h2) ⟨.str ⟨#[c]⟩, H, I.tok _, ⟨_, rfl⟩, q⟩) hs
def rIx (K : PySem.W.Frag) : R2 := fun x y H Q => rIxL K x y H Q ∨ rIxT K x y H Q ∨ rIxS x y H Q
theorem ix_seq : IxR X (rIx X.K) := ix_list.or (ix_tup.or ix_str)
theorem mapSeq_set (its : List Value) (n j : Nat) (u : Value) : Obj.mapSeq (·.setIfInBounds j u) { cls := .type "list", data := .seq its.toArray n } = { cls := .type "list", data := .seq (its.set j u).toArray n } := by
  simp [Obj.mapSeq]
theorem Inv.lst {pins : List (Addr × Obj)} {σ : St} {H : Hp} {s : Shared} {p : Addr} {xs : List V} (I : Inv X pins σ H s) (h : H p = some (.lst xs)) :
    ∃ (its : List Value) (n : Nat), Vals xs its ∧ s.heap.get? p = some { cls := .type "list", data := .seq its.toArray n } ∧ xs.length ≤ sizeLine := by
  obtain ⟨z, its, n, r, e⟩ := I.hok p _ h
  exact ⟨its, n, r, e, z⟩
theorem Inv.lstUpd {pins : List (Addr × Obj)} {σ : St} {H : Hp} {s : Shared} {p : Addr} {xs ys : List V} {its its' : List Value} {n n' : Nat} {f : Obj → Obj} (I : Inv X pins σ H s) (h : H p = some (.lst xs))
    (ho : s.heap.get? p = some { cls := .type "list", data := .seq its.toArray n }) (hf : f { cls := .type "list", data := .seq its.toArray n } = { cls := .type "list", data := .seq its'.toArray n' }) (r : Vals ys its') (hz : ys.length ≤ sizeLine) (t : Nat) :
    Inv X pins σ (upd H p (.lst ys)) { s with heap := s.heap.update p f, toks := t } := by
  have e : (s.heap.update p f).get? p = some { cls := .type "list", data := .seq its'.toArray n' } := by
    rw [Heap.get?_update_self f ho (by rw [hf] <;> rfl), hf]
  refine I.write (x := p) (e := p) (by rw [h]; trivial) (.inl rfl) (fun b u hb q => (Heap.get?_update_other _ _ (Ne.symm hb)).trans q) ⟨_, e⟩ ?_
  exact ⟨hz, its', n', r, e⟩
def rSetL : V → V → V → Hp → (Hp → Prop) → Prop := fun o i v H Q => ∃ p xs k j, o = .ref p ∧ i = .int k ∧ H p = some (.lst xs) ∧ ixN xs.length k = some j ∧ Q (upd H p (.lst (xs.set j v)))
theorem set_list : PSet X rSetL := by
  intro pins s σ H o i v ov iv u Q I ro ri rv h
  obtain ⟨p, xs, k, j, rfl, rfl, hp, hj, q⟩ := h
  cases ro
  obtain ⟨t, rfl⟩ := ri
  obtain ⟨its, n, r, ho, hz⟩ := I.lst hp
  obtain ⟨h1, h2, h3, h4⟩ := ixN_seq hj
  have hl := r.length
  have hn := line63
  have I' : Inv X pins σ (upd H p (.lst (xs.set j v))) { s with heap := s.heap.update p (Obj.mapSeq (·.setIfInBounds j u)) } :=
    I.lstUpd hp ho (mapSeq_set its n j u) (r.set rv j) (by rw [List.length_set]; exact hz) s.toks
  by_cases h0 : 0 ≤ k
  · have hk : k.toNat = j := by
      rw [seqIndex_of h0 h4] at h1
      exact Option.some.inj h1
    exact PySem.W.ki_setAt ho h0 (by omega) (by rw [List.size_toArray, ← hl]; exact h4) (by rw [hk]; exact ⟨_, I', q⟩)
  · have hk : (k + (its.toArray.size : Int)).toNat = j := by
      rw [seqIndex_neg (by omega) h3] at h1
      rw [List.size_toArray, ← hl]
      exact Option.some.inj h1
    exact PySem.W.ki_setBack ho (by omega) (by rw [List.size_toArray, ← hl]; exact h3) (by omega) (by rw [hk]; exact ⟨_, I', q⟩)
theorem slice_bounds (lo hi : Option Int) (n : Nat) : (sliceBounds lo hi none n).1 = ((HT.sIx n 0 lo : Nat) : Int) ∧ (sliceBounds lo hi none n).2.1 = ((HT.sIx n n hi : Nat) : Int) ∧ (sliceBounds lo hi none n).2.2 = 1 := by
  refine ⟨?_, ?_, rfl⟩
  · cases lo with
    | none => simp [sliceBounds, HT.sIx]
    | some i =>
      simp only [sliceBounds, HT.sIx, Option.getD_none, show (1 : Int) > 0 by decide, if_true]
      by_cases h : i < 0
      · simp only [h, if_true] <;> omega
      · simp only [h, if_false] <;> omega
  · cases hi with
    | none => simp [sliceBounds, HT.sIx]
    | some i =>
      simp only [sliceBounds, HT.sIx, Option.getD_none, show (1 : Int) > 0 by decide, if_true]
      by_cases h : i < 0
      · simp only [h, if_true] <;> omega
      · simp only [h, if_false] <;> omega
theorem slicePick_cut (its : List Value) (lo hi : Option Int) : slicePick its.toArray lo hi none = ((its.drop (HT.sIx its.length 0 lo)).take (HT.sIx its.length its.length hi - HT.sIx its.length 0 lo)).toArray := by
  obtain ⟨h1, h2, h3⟩ := slice_bounds lo hi its.toArray.size
  unfold slicePick
  rw [h1, h2, h3]
  simp only [sliceRange_one, pick_run, List.size_toArray] <;> rfl
def rSlL (K : PySem.W.Frag) : V → Option Int → Option Int → Hp → VK → Prop := fun x lo hi H Q => ∃ a xs, x = .ref a ∧ SqL K H a xs ∧ ∀ p, H p = none → Q (.ref p) (upd H p (.lst (cutV xs lo hi)))
theorem sl_list : SlR X (rSlL X.K) := by
  intro pins s σ H x v vl vu lo hi sl Q I rx hs pl pu h
  obtain ⟨a, xs, rfl, hx, q⟩ := h
  cases rx
  obtain ⟨its, r, ht, hz⟩ := I.list hx
  have hlen := r.length
  refine ⟨"list", _, slot_list_getitem.lookup, ht.isList.typeIs, ?_⟩
  refine wpAny_getItem_list_slice ht.isList hs pl pu .none (by simp) ?_ (by rw [List.size_toArray] <;> omega)
  rw [slicePick_cut, ← hlen]
  refine ⟨.ref s.heap.objs.size, _, I.laid (t' := s.toks) (o := .lst (cutV xs lo hi)) (fun b ob q => Heap.get?_push_of_some _ q) (Nat.le_refl _) ?_, rfl, q _ (I.hok.fresh (Nat.le_refl _))⟩
  exact ⟨Nat.le_trans (cutV_length xs lo hi) hz, _, 0, (r.drop (HT.sIx xs.length 0 lo)).take (HT.sIx xs.length xs.length hi - HT.sIx xs.length 0 lo), Heap.get?_push_size _ rfl⟩
theorem call_tuple_of : CallR X (.type "tuple") (fun xs H Q => ∃ p ys, xs = [.ref p] ∧ ((SqL X.K H p ys ∧ ∀ l, H l = none → Q (.ref l) (upd H l (.tup ys))) ∨ (SqT X.K H p ys ∧ Q (.ref p) H))) := by
  intro pins s σ H xs us Q I r h
  obtain ⟨p, ys, rfl, h⟩ := h
  obtain ⟨u, rfl, rx⟩ := vals1 r
  cases rx
  rcases h with ⟨hq, q⟩ | ⟨hq, q⟩
  · obtain ⟨its, r', pl, hz⟩ := I.list hq
    have hlen := r'.length
    refine call_tuple_list pl.isList (fun h' kp => ?_) (by simp only [List.size_toArray] <;> omega)
    have I1 : Inv X pins σ H { s with heap := h' } := I.kept (t' := s.toks) kp
    have I2 : Inv X pins σ (upd H h'.objs.size (.tup ys)) { s with heap := h'.push { cls := .type "tuple", data := .seq its.toArray } } :=
      I1.laid (t' := s.toks) (fun b o e => Heap.get?_push_of_some _ e) (Nat.le_refl _) (show ObjOk X.prog X.w _ _ _ (.tup ys) from ⟨hz, its, r', IsTup.new _ _⟩)
    exact ⟨.ref h'.objs.size, _, I2, rfl, q _ (I1.hok.fresh (Nat.le_refl _))⟩
  · obtain ⟨its, r', pl, hz⟩ := I.tuple hq
    exact call_tuple_same pl ⟨.ref p, H, I, rfl, q⟩
def tyV (K : PySem.W.Frag) (T : String) (x : V) (H : Hp) : Prop := match x with
  | .str _ => T = "str"
  | .int _ => T = "int"
  | .ref p => (T = "list" ∧ ∃ xs, SqL K H p xs) ∨ (T = "tuple" ∧ ∃ o, K.lookup p = some o ∧ o.cls = .type "tuple" ∧ o.dict = none) ∨
      (T = "dict" ∧ ((∃ kvs, H p = some (.dK kvs)) ∨ ∃ kvs, H p = some (.dT kvs))) ∨ (T = "set" ∧ ∃ S n, H p = some (.set S n))
  | _ => False
theorem tyV_is {pins : List (Addr × Obj)} {σ : St} {H : Hp} {s : Shared} {T : String} {x : V} {v : Value} (I : Inv X pins σ H s) (r : RelV x v) (ty : tyV X.K T x H) :
    s.TypeIs v T ∧ ∀ a, v = .ref a → ∃ ob, s.heap.get? a = some ob ∧ ob.dict = none := by
  cases x with
  | str z =>
    obtain ⟨t, rfl⟩ := r
    cases (show T = "str" from ty)
    exact ⟨typeIs_str s z t, fun _ e => nomatch e⟩
  | int i =>
    obtain ⟨t, rfl⟩ := r
    cases (show T = "int" from ty)
    exact ⟨typeIs_int s i t, fun _ e => nomatch e⟩
  | ref p =>
    cases r
    rcases ty with ⟨rfl, xs, hq⟩ | ⟨rfl, o, hk, hc, hd⟩ | ⟨rfl, hk⟩ | ⟨rfl, S, n, hk⟩
    · obtain ⟨its, _, pl, _⟩ := I.list hq
      refine ⟨pl.isList.typeIs, fun a e => ?_⟩
      cases e
      obtain ⟨o, n, e, c, hd, _⟩ := pl
      exact ⟨o, e, hd⟩
    · refine ⟨⟨o, I.kIn p o hk, hc⟩, fun a e => ?_⟩
      cases e
      exact ⟨o, I.kIn _ o hk, hd⟩
    · have z : ∃ o, s.heap.get? p = some o ∧ o.ExactDict := by
        rcases hk with ⟨kvs, hk⟩ | ⟨kvs, hk⟩
        · obtain ⟨_, _, _, _, o, _, _, e, ex, _⟩ := I.hok p _ hk
          exact ⟨o, e, ex⟩
        · obtain ⟨_, _, _, _, o, _, _, e, ex, _⟩ := I.hok p _ hk
          exact ⟨o, e, ex⟩
      obtain ⟨o, e, ex⟩ := z
      refine ⟨⟨o, e, ex.1⟩, fun a e2 => ?_⟩
      cases e2
      exact ⟨o, e, ex.2.1⟩
    · obtain ⟨o, _, _, _, e, ex, _⟩ := I.hok p _ hk
      refine ⟨⟨o, e, ex.1⟩, fun a e2 => ?_⟩
      cases e2
      exact ⟨o, e, ex.2.1⟩
  | _ => exact False.elim ty
def tBM (K : PySem.W.Frag) (T : String) (r : V → List V → Hp → VK → Prop) (to : TE) (t : TA) : TE := fun σ H Q => to σ H fun x H1 => tyV K T x H1 ∧ t σ H1 fun xs H2 => r x xs H2 Q
variable {o e : Expr} {es : List Expr} {to : TE} {t : TA} {name : Str} {apos cpos : Pos} {T id : String} {r : V → List V → Hp → VK → Prop}
theorem pe_bm (pa : PlainAttrs T) (slot : Slot T name id) (hty : typeOf (.builtin id) = pure (.type "method_descriptor")) (hm : MtR X id r) (ho : PE X o to) (ha : PA X (e :: es) t)
    (hbase : attributeBase o name X.env (eval o X.env) = eval o X.env := by rfl)
    (hfew : ((backTo cpos (starEach (e :: es) X.env)).all (fun x => !x.1) && (backToKw cpos (keywordEach [] X.env)).all (fun x => x.1.isSome)
      && decide ((e :: es).length + ([] : List Keyword).length + (if ([] : List Keyword).isEmpty then 0 else 1) < 30)) = true := by rfl)
    (hline : (apos.endLine == cpos.line) = true := by rfl) (hs : starEach (e :: es) X.env = (false, eval e X.env) :: starEach es X.env := by rfl) (hplain : (backTo cpos (starEach es X.env)).any (·.1) = false := by rfl) :
    PE X (.Call (.Attribute o name apos) (e :: es) [] cpos) (tBM X.K T r to t) := by
  intro pins s σ H Q I h
  refine wpAny_Call_method_late hbase hfew hline rfl (thn (ho pins s σ H _ I h) fun v s1 ⟨x, H1, I1, r1, ty, q1⟩ => ?_)
  obtain ⟨h1, h2⟩ := tyV_is I1 r1 ty
  refine ⟨T, id, pa, slot, hty, h1, h2, ?_⟩
  have hA := ha cpos pins s1 σ H1 _ I1 q1
  rw [hs] at hA ⊢
  refine Calls.callWith_builtin (by show (false || (backTo cpos (starEach es X.env)).any (·.1)) = false; rw [hplain] <;> rfl) (Calls.evalArgs_plain ?_)
  exact thn hA fun us s2 ⟨vs, H2, I2, r2, q2⟩ => hm pins s2 σ H2 x vs v us Q I2 r1 r2 q2
/- xs.append(e), list.index on a module's tuple .. are MtR facts of 06m -/
end
end L2
namespace L2
open PySem PySem.Spec PyProof.Rows
def MtM (X : Cx) (id : String) (r : V → List V → Hp → VK → Prop) : Prop :=
  ∀ (pins : List (Addr × Obj)) (s : Shared) (σ : St) (H : Hp) (x : V) (xs : List V) (v : Value) (us : List Value) (Q : VK), Inv X pins σ H s → RelV x v → Vals xs us → r x xs H Q →
    wpAny (model X.prog X.w) X.A (call (.builtin id) (v :: us)) (EP X pins σ Q) X.xe s
theorem Vals.one : ∀ {x : V} {us : List Value}, Vals [x] us → ∃ u, us = [u] ∧ RelV x u
  | _, _, .cons r .nil => ⟨_, rfl, r⟩
theorem Vals.rep {xs : List V} {us : List Value} (h : Vals xs us) : ∀ k : Nat, Vals (List.replicate k xs).flatten (List.replicate k us).flatten
  | 0 => .nil
  | k + 1 => by
    rw [List.replicate_succ, List.replicate_succ, List.flatten_cons, List.flatten_cons]
    exact Vals.append h (Vals.rep h k)
theorem foldl_rep (its : List Value) : ∀ (k : Nat) (acc : List Value),
    List.foldl (fun x1 x2 => x1 ++ x2) acc.toArray (List.replicate k its.toArray) = (acc ++ (List.replicate k its).flatten).toArray
  | 0, acc => by simp
  | k + 1, acc => by
    have e : acc.toArray ++ its.toArray = (acc ++ its).toArray := by simp
    have e2 : (acc ++ its) ++ (List.replicate k its).flatten = acc ++ (List.replicate (k + 1) its).flatten := by
      rw [List.replicate_succ, List.flatten_cons, List.append_assoc]
    rw [← e2, ← foldl_rep its k (acc ++ its), ← e, List.replicate_succ, List.foldl_cons]
section
variable {X : Cx} {pins : List (Addr × Obj)} {σ : St} {H : Hp} {s : Shared} {l b : Addr} {xs ys zs : List V}
theorem Inv.lset {its its' : List Value} {n : Nat} {f : Array Value → Array Value} {t' : Nat} (I : Inv X pins σ H s) (hH : H l = some (.lst xs))
    (e : s.heap.get? l = some { cls := .type "list", data := .seq its.toArray n }) (hf : f its.toArray = its'.toArray) (hv : Vals ys its') (hz : ys.length ≤ sizeLine) :
    Inv X pins σ (upd H l (.lst ys)) { s with heap := s.heap.update l (Obj.mapSeq f), toks := t' } := by
  have q := PySem.IsL.update e f
  rw [hf] at q
  refine I.write (x := l) (e := l) (by rw [hH]; exact trivial) (.inl rfl) (fun b' u hb hu => (Heap.get?_update_other s.heap (Obj.mapSeq f) (Ne.symm hb)).trans hu) ⟨_, q⟩ ?_
  exact ⟨hz, its', _, hv, q⟩
theorem Inv.lnew {its : List Value} {t' : Nat} (I : Inv X pins σ H s) (hv : Vals ys its) (hz : ys.length ≤ sizeLine) :
    Inv X pins σ (upd H s.heap.objs.size (.lst ys)) { s with heap := s.heap.push { cls := .type "list", data := .seq its.toArray }, toks := t' } :=
  I.laid (fun _ _ q => Heap.get?_push_of_some _ q) (Nat.le_refl _) ⟨hz, its, 0, hv, Heap.get?_push_size _ rfl⟩
theorem Inv.fresh (I : Inv X pins σ H s) : H s.heap.objs.size = none := I.hok.fresh (Nat.le_refl _)
theorem Inv.lstM (I : Inv X pins σ H s) (hH : H l = some (.lst xs)) : xs.length ≤ sizeLine ∧ ∃ (its : List Value) (n : Nat), Vals xs its ∧ xs.length = its.length ∧ s.heap.get? l = some { cls := .type "list", data := .seq its.toArray n } := by
  obtain ⟨z, its, n, r, e⟩ := I.hok l _ hH
  exact ⟨z, its, n, r, r.length, e⟩
theorem notLongL {n : Nat} (h : n ≤ sizeLine) : Builtin.List.listTooLong n = false := by
  unfold Builtin.List.listTooLong
  exact decide_eq_false (by omega)
end
section
variable {X : Cx}
def rAppend : V → List V → Hp → VK → Prop := fun x vs H Q => ∃ l xs y, x = .ref l ∧ vs = [y] ∧ H l = some (.lst xs) ∧ xs.length < sizeLine ∧ Q .non (upd H l (.lst (xs ++ [y])))
theorem mt_append : MtM X "list.append" rAppend := by
  intro pins s σ H x vs v us Q I rx rv h
  obtain ⟨l, xs, y, rfl, rfl, hH, hz, q⟩ := h
  cases rx
  obtain ⟨u, rfl, ru⟩ := rv.one
  obtain ⟨z, its, n, r, hl, e⟩ := I.lstM hH
  refine call_meets F.slot_list_append ⟨_, e, rfl⟩ F.entry_list_append (F.args_list_append_2 _ _) (PySem.list_append l its.toArray n u (by rw [List.size_toArray]; omega)) ⟨e, ?_⟩
  refine ⟨.non, _, I.lset (its' := its ++ [u]) hH e (by simp) (r.append (.cons ru .nil)) ?_, rfl, q⟩
  rw [List.length_append, List.length_singleton]
  omega
def rExtend : V → List V → Hp → VK → Prop := fun x vs H Q => ∃ l b xs zs, x = .ref l ∧ vs = [.ref b] ∧ H l = some (.lst xs) ∧ H b = some (.lst zs) ∧ xs.length + zs.length ≤ sizeLine ∧ Q .non (upd H l (.lst (xs ++ zs)))
theorem mt_extend : MtM X "list.extend" rExtend := by
  intro pins s σ H x vs v us Q I rx rv h
  obtain ⟨l, b, xs, zs, rfl, rfl, hH, hB, hz, q⟩ := h
  cases rx
  obtain ⟨u, rfl, ru⟩ := rv.one
  cases ru
  obtain ⟨z, its, n, r, hl, e⟩ := I.lstM hH
  obtain ⟨z2, its2, n2, r2, hl2, e2⟩ := I.lstM hB
  have hsz : its.toArray.size + its2.toArray.size ≤ sizeLine := by rw [List.size_toArray, List.size_toArray]; omega
  have hlong : ¬ (!its.toArray.isEmpty && Builtin.List.listTooLong (its.toArray.size + its2.toArray.size)) = true := by
    rw [notLongL hsz, Bool.and_false]
    exact Bool.false_ne_true
  refine call_meets F.slot_list_extend ⟨_, e, rfl⟩ F.entry_list_extend (F.args_list_extend_2 _ _)
    (AutoSeq1.list_extend_list_list_0 l its.toArray n b its2.toArray n2 hlong (by rw [List.size_toArray]; omega) (by omega)) ⟨e, e2, ?_⟩
  refine ⟨.non, _, I.lset (its' := its ++ its2) hH e (by simp) (r.append r2) ?_, rfl, q⟩
  rw [List.length_append]
  omega
def rCat : R2 := fun x y H Q => ∃ l b xs zs, x = .ref l ∧ y = .ref b ∧ H l = some (.lst xs) ∧ H b = some (.lst zs) ∧ xs.length + zs.length ≤ sizeLine ∧ ∀ p, H p = none → Q (.ref p) (upd H p (.lst (xs ++ zs)))
theorem op_cat : OpR X (binaryOp .Add) rCat := by
  intro pins s σ H x y v u Q I rx ry h
  obtain ⟨l, b, xs, zs, rfl, rfl, hH, hB, hz, q⟩ := h
  cases rx
  cases ry
  obtain ⟨z, its, n, r, hl, e⟩ := I.lstM hH
  obtain ⟨z2, its2, n2, r2, hl2, e2⟩ := I.lstM hB
  refine PySem.P.add_list e e2 ?_ (by rw [List.size_toArray, List.size_toArray]; omega)
  have ea : its.toArray ++ its2.toArray = (its ++ its2).toArray := by simp
  rw [ea]
  exact ⟨.ref _, _, I.lnew (t' := s.toks) (r.append r2) (by rw [List.length_append]; omega), rfl, q _ I.fresh⟩
def rRep : R2 := fun x y H Q => ∃ l k xs, x = .ref l ∧ y = .int k ∧ H l = some (.lst xs) ∧ -(2 ^ 63) ≤ k ∧ k < 2 ^ 63 ∧ xs.length * k.toNat ≤ sizeLine ∧
  ∀ p, H p = none → Q (.ref p) (upd H p (.lst (List.replicate k.toNat xs).flatten))
theorem len_rep {α : Type} (xs : List α) (k : Nat) : (List.replicate k xs).flatten.length = k * xs.length := by
  induction k with
  | zero => simp
  | succ k ih => rw [List.replicate_succ, List.flatten_cons, List.length_append, ih, Nat.succ_mul, Nat.add_comm]
theorem op_rep : OpR X (binaryOp .Mult) rRep := by
  intro pins s σ H x y v u Q I rx ry h
  obtain ⟨l, k, xs, rfl, rfl, hH, h1, h2, hz, q⟩ := h
  cases rx
  obtain ⟨t, rfl⟩ := ry
  obtain ⟨z, its, n, r, hl, e⟩ := I.lstM hH
  have hlen : its.toArray.size * k.toNat ≤ sizeLine := by rw [List.size_toArray, ← hl]; exact hz
  have hcap : ¬ its.toArray.size * k.toNat > (2 ^ 63 - 1) / 8 := by
    have : (sizeLine : Nat) ≤ (2 ^ 63 - 1) / 8 := by decide
    omega
  have hfit : ¬ (!Builtin.List.listFitsIndex k) = true := by
    rw [fitsIndex_both h1 h2]
    exact Bool.false_ne_true
  have hlong : ¬ Builtin.List.listTooLong (its.toArray.size * k.toNat) = true := by
    rw [notLongL hlen]
    exact Bool.false_ne_true
  have hnew : List.foldl (fun x1 x2 => x1 ++ x2) #[] (List.replicate (if its.toArray.isEmpty = true then 0 else k.toNat) its.toArray) = (List.replicate k.toNat its).flatten.toArray := by
    have f0 : ∀ m : Nat, List.foldl (fun x1 x2 => x1 ++ x2) #[] (List.replicate m its.toArray) = (List.replicate m its).flatten.toArray := fun m => by
      have := foldl_rep its m []
      rw [List.nil_append] at this
      exact this
    rw [f0]
    cases its with
    | nil => simp
    | cons a r' => rw [if_neg (by simp)]
  refine wpAny_binaryOp_repeat_ref (T := "list") (U := "int") (by decide) ⟨_, e, rfl⟩ (fun s' => typeIs_int s' k t) noFill_list_mul F.fills_int_mul F.slot_int_rmul repeat_list F.slot_int_index.lookup
    (call_meets F.slot_int_rmul (typeIs_int s k t) F.entry_int_rmul (F.args_int_rmul_2 _ _) (int___rmul___int_list k t l its.toArray n)
      ⟨e, rfl, ⟨_, e, rfl⟩, call_meets F.slot_list_mul ⟨_, e, rfl⟩ F.entry_list_mul (F.args_list_mul_2 _ _) (AutoListH.list___mul___list_int_3 l its.toArray n k t hfit hcap hlong) ⟨e, ?_⟩⟩)
  rw [hnew]
  exact ⟨.ref _, _, I.lnew (t' := s.toks) (r.rep k.toNat) (by rw [len_rep, Nat.mul_comm]; exact hz), rfl, q _ I.fresh⟩
end
section
variable {prog : Program} {w : World} {A : Around} {E : Value → Shared → Prop} {s : Shared}
end
section
variable {X : Cx}
end
end L2
namespace Att
open PySem PySem.W PySem.Calls PyProof.Rows
theorem ints_of_wellAll {P : Params} {h : Heap} : ∀ (ns : List Int) (vs : List Value), WellAll P h vs (ns.map WData.int) → IntsAre vs ns := by
  intro ns
  induction ns with
  | nil =>
    intro vs w
    rw [List.map_nil] at w
    cases w
    exact .nil
  | cons n ns ih =>
    intro vs w
    rw [List.map_cons] at w
    cases w with
    | cons a b =>
      cases a
      exact .cons _ _ (ih _ b)
theorem script_of {l : OpenLaw} {n : Nat} (hn : l.most = some n) {P : Params} {h : Heap} {args : List WData} {vals : List Value}
    (hpre : l.row.toRowW.claim.pre args = true) (hwl : WellAll P h vals args) :
    ∃ a vs ns, vals = [Value.ref a] ∧ args = [WData.list (ns.map WData.int)] ∧ h.get? a = some { cls := .type "list", data := .seq vs.toArray } ∧ IntsAre vs ns ∧ ns.length ≤ n := by
  have hsh : WShape.hasAll [] args [.list .int] = true := (pre_splitW hpre).1
  have hc : l.pre.holds [] { args := args } = true := (pre_splitW hpre).2
  obtain ⟨d, r, rfl, h1, h2⟩ := hasAllW_cons hsh
  obtain rfl := hasAllW_nil h2
  obtain ⟨xs, rfl, h3⟩ := hasW_list h1
  obtain ⟨ns, rfl⟩ := items_int h3
  have hlen : ns.length ≤ n := by
    unfold OpenLaw.pre at hc
    have h4 : (WTm.not (.lt (.lit (.int (n : Int))) (.len (.arg 0)))).holds [] { args := [.list (ns.map .int)] } = true := by
      have h4 := (holds_andW hc).1
      rw [hn] at h4
      exact h4
    have h5 := condW_of h4 (w_not (w_lt w_lit (w_len_list (w_arg rfl))))
    rw [List.length_map] at h5
    refine Nat.le_of_not_lt fun q => ?_
    have q' : (n : Int) < ((ns.length : Nat) : Int) := by omega
    first
      | (rw [decide_eq_true q'] at h5; exact absurd h5 (by decide))
      | (simp at h5; omega)
  cases hwl with
  | cons w1 w2 =>
    cases w2
    cases w1 with
    | list ho hall => exact ⟨_, _, ns, rfl, rfl, ho, ints_of_wellAll ns _ hall, hlen⟩
theorem post_true (l : OpenLaw) (args : List WData) : l.row.toRowW.claim.post args (.bool true) args = true :=
  postW_of (r := l.row.toRowW) (X := (true == true))
    (show WShape.has [] (.bool true) .bool = true by first | rfl | decide | simp [WShape.has, WShape.arms, WShape.armsAll])
    (show (WTm.eq .res (.lit (.bool true))).value [] { args := args, res := some (.bool true), after := args } = some (.bool (true == true)) from w_eq_bool (w_res rfl) w_lit) rfl
section
variable {prog : Program} {w : World} {A : Around} {E : Value → Shared → Prop} {s : Shared} {K : Frag}
def ledger (h : Heap) (L d : Addr) : List (Addr × Obj) := (List.range h.objs.size).filterMap fun a => if a = L ∨ a = d then none else (h.get? a).map fun o => (a, o)
end
end Att
namespace L2
open PySem PySem.Spec PyProof.Rows
theorem vals_ints : ∀ {vs : List Value} {ns : List Int}, IntsAre vs ns → Vals (ns.map V.int) vs
  | _, _, .nil => .nil
  | _, _, .cons n t h => .cons ⟨t, rfl⟩ (vals_ints h)
def Only (H : Hp) : Prop := ∀ b, H b = none ∨ ∃ o xs, H b = some (.frz o (.lst xs))
theorem law_call {P : Program} {w : World} {K : PySem.W.Frag} {mg mb : Str → Option Value} {CX : CXT} {k : Nat} {fa a : Addr} {fd : FuncData} {x : Str} {sp : Sp} {s₁ : Shared} {vs : List Value} {ns : List Int}
    (KX : K.In s₁.heap) (hns : s₁.heap.Ns mainGlobals mg) (hb : s₁.heap.Ns builtinsNs mb) (hbb : ∀ x : Str, x ≠ "__name__" → mb x = bootBuiltins x) (hlim : s₁.heap.NoLimit) (hg : s₁.gens = #[])
    (ha : s₁.heap.get? a = some { cls := .type "list", data := .seq vs.toArray }) (hi : IntsAre vs ns) (hl : ns.length ≤ sizeLine) (hr : Room k callerA)
    (F : ∀ base : Heap, K.In base → base.Ns mainGlobals mg → FnOk P w K mg base CX k fa fd [x] sp) (hbind : ∀ (s : Shared) (u : Value), BindsTo s fd ⟨[u], []⟩ [(x, u)])
    (hsp : ∀ H : Hp, Only H → SqL K H a (ns.map V.int) → sp [.ref a] H (fun v _ => v = .bl true) fun _ _ _ => False)
    (hCX : ∀ H e s', CX [] H s₁ (fun _ _ _ => False) e s' → False) :
    codeAny (model P w) callerA (.call (.ref fa) ⟨[.ref a], []⟩) (fun r s' => r = .ok (.ret (.bool true)) ∧ OldK s₁.heap s'.heap ∧ s'.os = s₁.os ∧ AllBare s'.gens) s₁ := by
  have rv := vals_ints hi
  have lenV := hi.length
  have core : ∀ H : Hp, Only H → SqL K H a (ns.map V.int) → HOk P w H s₁.heap → (∀ b, H b ≠ none → b = a) → (H a ≠ none → K.lookup a = none) →
      codeAny (model P w) callerA (.call (.ref fa) ⟨[.ref a], []⟩) (fun r s' => r = .ok (.ret (.bool true)) ∧ OldK s₁.heap s'.heap ∧ s'.os = s₁.os ∧ AllBare s'.gens) s₁ := by
    intro H hO hS hok hA hK
    have base_of : ∀ {b : Addr} {o : Obj}, s₁.heap.get? b = some o → H b = none → (hidT s₁.heap H).get? b = some o := fun e n => hidT_get e n
    have noA : ∀ {b : Addr} {o : Obj} {es : Array DictEntry} {ep : Nat}, s₁.heap.get? b = some o → o.data = .dict es ep → H b = none := fun {b o es ep} e d => by
      cases q : H b with
      | none => rfl
      | some u =>
        have e' : b = a := hA b (by rw [q]; simp)
        subst e'
        rw [ha] at e; cases e
        have d' : Data.seq vs.toArray _ = Data.dict es ep := d
        cases d'
    have nsK : ∀ {b : Addr} {m : Str → Option Value}, s₁.heap.Ns b m → (hidT s₁.heap H).Ns b m := fun {b m} ⟨o, es, ep, e, d, r⟩ => ⟨o, es, ep, base_of e (noA e d), d, r⟩
    have hKb : K.In (hidT s₁.heap H) := fun b o e => base_of (KX b o e) (by
      cases q : H b with
      | none => rfl
      | some u =>
        have e' : b = a := hA b (by rw [q]; simp)
        subst e'
        rw [hK (by rw [q]; simp)] at e; cases e)
    have hM : Mod K mg (hidT s₁.heap H) := ⟨hKb, nsK hns, ⟨mb, nsK hb, hbb⟩, let ⟨mc, h1, h2⟩ := hlim; ⟨mc, nsK h1, h2⟩⟩
    have e0 : Env0 P w K mg (hidT s₁.heap H) callerA [] s₁ H := ⟨rfl, hM, fun b o e => of_hidT e, Nat.le_of_eq (hidT_size _ _), trivial, fun b hb => absurd (show b ∈ ([] : List Addr) from hb) (by simp), hok, .of_eq hg⟩
    refine codeAny_mono ((F _ hKb (nsK hns)).run callerA [] s₁ H ⟨[.ref a], []⟩ [.ref a] [.ref a] _ _ hr e0 (hbind s₁ (.ref a)) (.cons rfl .nil) (hsp H hO hS)) fun r s' h => ?_
    cases r with
    | error e => exact (hCX H e s' h).elim
    | ok fl =>
      cases fl with
      | next => exact False.elim h
      | brk => exact False.elim h
      | cont => exact False.elim h
      | ret u =>
        obtain ⟨v, H', os, bare, un, hok', r', q⟩ := h
        have q' : v = .bl true := q
        subst q'
        obtain rfl : u = Value.bool true := r'
        refine ⟨rfl, OldK.of_keep fun b o e => ?_, os, bare⟩
        cases q : H b with
        | none => exact un.keep b o e q (by intro z; exact absurd (show b ∈ ([] : List Addr) from z) (by simp)) (by simp)
        | some u =>
          rcases hO b with z | ⟨ob, xs, z⟩
          · rw [q] at z; cases z
          · have z2 := un.frzs b ob _ z
            obtain ⟨e1, _⟩ := hok b _ z
            obtain ⟨e2, _⟩ := hok' b _ z2
            rw [e] at e1; cases e1
            exact e2
  cases hk : K.lookup a with
  | some o =>
    have e := KX a o hk
    rw [ha] at e
    cases e
    refine core (fun _ => none) (fun _ => .inl rfl) (.inr ⟨_, vs.toArray, _, hk, rfl, rfl, rfl, by rw [List.size_toArray, lenV]; exact hl, by simpa using rv⟩) (fun b u z => by have z' : (none : Option HO) = some u := z; cases z') (fun b z => absurd rfl z) fun z => absurd rfl z
  | none =>
    refine core (fun b => if b = a then some (.frz { cls := .type "list", data := .seq vs.toArray } (.lst (ns.map V.int))) else none) (fun b => ?_) (.inl (.inr ⟨{ cls := .type "list", data := .seq vs.toArray }, if_pos rfl⟩)) (fun b u z => ?_) (fun b z => ?_) fun _ => hk
    · by_cases hb : b = a
      · exact .inr ⟨_, _, if_pos hb⟩
      · exact .inl (if_neg hb)
    · by_cases hb : b = a
      · have z' := (if_pos hb).symm.trans z
        cases z'
        subst hb
        exact ⟨ha, by rw [List.length_map]; exact hl, vs, _, rv, ha⟩
      · have z' := (if_neg hb).symm.trans z
        cases z'
    · by_cases hb : b = a
      · exact hb
      · exact absurd (if_neg hb) z
end L2
namespace L2
open PySem PySem.Spec PyProof.Rows
abbrev KOf {K : PySem.W.Frag} {h : Heap} (_ : K.In h) : PySem.W.Frag := K
end L2
namespace L2
open PySem PySem.Spec PyProof.Rows
def defArgs (s : Stmt) : Arguments := match s with
  | .FunctionDef _ a _ _ _ _ _ _ _ _ => a
  | _ => { posonlyargs := [], args := [], vararg := none, kwonlyargs := [], kw_defaults := [], kwarg := none, defaults := [] }
def defBody (s : Stmt) : List Stmt := match s with
  | .FunctionDef _ _ b _ _ _ _ _ _ _ => b
  | _ => []
def defScope (s : Stmt) : Scope := match s with
  | .FunctionDef _ _ _ _ _ _ sc _ _ _ => sc
  | _ => { kind := .function, names := [], isGenerator := false, isCoroutine := false }
abbrev CX0 : CXT := fun _ _ _ _ _ _ => False
abbrev E0 : XK := fun _ _ _ => False
theorem pass0 {X : Cx} : Passes CX0 X E0 := fun _ _ _ _ _ _ _ h => h.elim
structure Fun (K : PySem.W.Frag) (x qual : Str) (st : Stmt) (f : Addr) (fd : FuncData) : Prop where
  ex : ∃ (oc : Value) (od : Option Addr) (kV doc pm : Value) (an : Option Addr) (cdv ct : Value) (osl : Array (Option Value)),
    fd = PySem.W.fnOf x qual (defArgs st) (defBody st) (defScope st) .none kV doc pm an cdv ct ∧ K.lookup f = some ⟨oc, od, .func fd, osl⟩ ∧ PySem.W.codeIn K cdv qual = true
  kp : PySem.W.keepIn K (.ref f) = true
section
variable {P : Program} {w : World} {K : PySem.W.Frag} {mg : Str → Option Value} {base : Heap}
theorem Fun.ok {x qual : Str} {st : Stmt} {f : Addr} {fd : FuncData} {N ps : List Str} {k : Nat} {sp : Sp} (F : Fun K x qual st f fd) (S : FnScope N ps (defScope st)) (len : ∀ vs H Q E, sp vs H Q E → vs.length = ps.length)
    (hbody : ∀ (cdv : Value) (A : Around) (outer : List Env) (s : Shared) (H : Hp) (vs : List V) (Q : VK) (E : XK), Room k (A.deeper (envOfC qual (defScope st) s.heap.objs.size f cdv)) → sp vs H Q E →
      ∃ t, PSs (cxOf CX0 P w K mg base N qual (defScope st) f cdv A outer s H E).nox (defBody st) t ∧ t { nx := fun _ H' => Q .non H', rt := Q } (start N vs) H) : FnOk P w K mg base CX0 (k + 1) f fd ps sp := by
  obtain ⟨oc, od, kV, doc, pm, an, cdv, ct, osl, rfl, lk, hcd⟩ := F.ex
  refine fn_of lk hcd S len fun A outer s H vs Q E hr hsp => ?_
  obtain ⟨t, h, q⟩ := hbody cdv A outer s H vs Q E hr hsp
  exact ⟨t, h.nox, q⟩
theorem Fun.binds {x qual : Str} {st : Stmt} {f : Addr} {fd : FuncData} {ps : List Str} (F : Fun K x qual st f fd)
    (h : ∀ (kV doc pm : Value) (an : Option Addr) (cdv ct : Value) (us : List Value), us.length = ps.length → bindArgs (PySem.W.fnOf x qual (defArgs st) (defBody st) (defScope st) .none kV doc pm an cdv ct) ⟨us, []⟩ = pure (ps.zip us)) : Binds K fd ps [] := by
  obtain ⟨oc, od, kV, doc, pm, an, cdv, ct, osl, rfl, lk, hcd⟩ := F.ex
  exact .all (h kV doc pm an cdv ct)
theorem fun_mk {x qual : Str} {st : Stmt} {f : Addr} {oc : Value} {od an : Option Addr} {osl : Array (Option Value)} {kV doc pm cdv ct : Value} (l : K.lookup f = some ⟨oc, od, .func (PySem.W.fnOf x qual (defArgs st) (defBody st) (defScope st) .none kV doc pm an cdv ct), osl⟩)
    (c : PySem.W.codeIn K cdv qual = true) (k : PySem.W.keepIn K (.ref f) = true) : Fun K x qual st f (PySem.W.fnOf x qual (defArgs st) (defBody st) (defScope st) .none kV doc pm an cdv ct) := ⟨⟨oc, od, kV, doc, pm, an, cdv, ct, osl, rfl, l, c⟩, k⟩
end
theorem small1000 {n : Nat} (h : n ≤ 1000) : n < sizeLine := Nat.lt_of_le_of_lt h (by decide)
section
variable {X : Cx}
theorem pv (i : Nat) {x : Str} {pos : Pos} (hN : X.N[i]? = some x := by rfl) (hv : Vis X.env.scope x := by first | exact Or.inl rfl | exact Or.inr (Or.inl rfl) | exact Or.inr (Or.inr rfl)) (hd : (x == ("__debug__" : Str)) = false := by decide)
    (hcd : (x == ("__classdict__" : Str)) = false := by decide) : PE X (.Name x pos) (tVar i) := pe_var hN hv hd hcd
end
theorem iteF {A B : Prop} (h : B) : if false = true then A else B := by
  rw [if_neg Bool.false_ne_true]
  exact h
theorem iteT {A B : Prop} (h : A) : if true = true then A else B := by
  rw [if_pos rfl]
  exact h
def Same (H H' : Hp) : Prop := ∀ b o, H b = some o → H' b = some o
theorem Same.refl (H : Hp) : Same H H := fun _ _ h => h
theorem Same.trans {H H1 H2 : Hp} (a : Same H H1) (b : Same H1 H2) : Same H H2 := fun c o h => b c o (a c o h)
theorem Same.free {H H' : Hp} (e : Same H H') {l : Addr} (h : H' l = Option.none) : H l = Option.none := by
  cases q : H l with
  | none => rfl
  | some o =>
    rw [e l o q] at h
    cases h
theorem Same.seq {K : PySem.W.Frag} {H H' : Hp} {a : Addr} {xs : List V} (e : Same H H') (h : SqL K H a xs) : SqL K H' a xs := by
  rcases h with (h | ⟨o, h⟩) | h
  · exact .inl (.inl (e _ _ h))
  · exact .inl (.inr ⟨o, e _ _ h⟩)
  · exact .inr h
end L2
set_option Elab.async false
set_option linter.all false
set_option maxRecDepth 100000
set_option maxHeartbeats 4000000
namespace L2
open PySem PySem.Spec PyProof.Rows
theorem closure_go {env : Env} : ∀ (ns : List (Str × NameKind)) (cs : List (Str × Addr)), (∀ y ∈ ns, y.2 = .free → ∃ c, env.cells.lookup y.1 = some c) → (∀ x c, cs.lookup x = some c → env.cells.lookup x = some c) →
    ∃ cl : List (Str × Addr), (forIn ns cs fun (p : Str × NameKind) (r : List (Str × Addr)) => if (p.2 == NameKind.free) = true then (cellOf env p.1 >>= fun c => pure (ForInStep.yield ((p.1, c) :: r))) else (pure (ForInStep.yield r) : Sem (ForInStep (List (Str × Addr))))) = (pure cl : Sem (List (Str × Addr))) ∧
      (∀ x c, cl.lookup x = some c → env.cells.lookup x = some c) ∧ (∀ x c, cs.lookup x = some c → ∃ c', cl.lookup x = some c') ∧ ∀ y ∈ ns, y.2 = .free → ∃ c, cl.lookup y.1 = some c
  | [], cs, _, hc => ⟨cs, rfl, hc, fun x c e => ⟨c, e⟩, fun y hy => absurd hy (by simp)⟩
  | (n, k) :: r, cs, h, hc => by
    by_cases hk : k = .free
    · subst hk
      obtain ⟨c, e⟩ := h (n, .free) (by simp) rfl
      have hc2 : ∀ x c', ((n, c) :: cs).lookup x = some c' → env.cells.lookup x = some c' := fun x c' q => by
        rw [List.lookup_cons] at q
        cases hx : x == n with
        | true => rw [hx] at q; cases q; rw [eq_of_beq hx]; exact e
        | false => rw [hx] at q; exact hc x c' q
      obtain ⟨cl, e1, e2, e3, e4⟩ := closure_go r ((n, c) :: cs) (fun y hy => h y (List.mem_cons_of_mem _ hy)) hc2
      refine ⟨cl, ?_, e2, fun x c' q => ?_, fun y hy hf => ?_⟩
      · rw [List.forIn_cons]
        show (if (NameKind.free == NameKind.free) = true then _ else _) >>= _ = _
        rw [if_pos (by decide)]
        unfold cellOf
        rw [e]
        exact e1
      · by_cases hx : x = n
        · exact e3 x c (by rw [hx, List.lookup_cons]; simp)
        · exact e3 x c' (by rw [List.lookup_cons, beq_eq_false_iff_ne.mpr hx]; exact q)
      · rcases List.mem_cons.mp hy with z | z
        · rw [z]; exact e3 n c (by rw [List.lookup_cons]; simp)
        · exact e4 y z hf
    · obtain ⟨cl, e1, e2, e3, e4⟩ := closure_go r cs (fun y hy => h y (List.mem_cons_of_mem _ hy)) hc
      refine ⟨cl, ?_, e2, e3, fun y hy hf => ?_⟩
      · rw [List.forIn_cons]
        have hb : (k == NameKind.free) = false := by simpa using hk
        show (if (k == NameKind.free) = true then _ else _) >>= _ = _
        rw [hb]
        exact e1
      · rcases List.mem_cons.mp hy with z | z
        · rw [z] at hf; exact absurd hf hk
        · exact e4 y z hf
theorem closure_is {scope : Scope} {env : Env} (h : ∀ y ∈ scope.names, y.2 = .free → ∃ c, env.cells.lookup y.1 = some c) :
    ∃ cl, closureFor scope env = pure cl ∧ (∀ x c, cl.lookup x = some c → env.cells.lookup x = some c) ∧ ∀ y ∈ scope.names, y.2 = .free → ∃ c, cl.lookup y.1 = some c := by
  obtain ⟨cl, e1, e2, _, e4⟩ := closure_go (env := env) scope.names [] h (fun x c q => by simp at q)
  refine ⟨cl, ?_, e2, e4⟩
  show ((forIn scope.names [] fun (p : Str × NameKind) (r : List (Str × Addr)) => if (p.2 == NameKind.free) = true then (cellOf env p.1 >>= fun c => pure (ForInStep.yield ((p.1, c) :: r))) else (pure (ForInStep.yield r) : Sem (ForInStep (List (Str × Addr))))) >>= fun r => (pure r : Sem (List (Str × Addr)))) = pure cl
  rw [e1]
  rfl
def compCx (X : Cx) (N : List Str) (scope : Scope) (cl : List (Str × Addr)) (C : Addr) (s₀ : Shared) (H₀ : Hp) (ex : List Addr) : Cx where
  prog := X.prog
  w := X.w
  K := X.K
  mg := X.mg
  base := X.base
  A := X.A
  N := N
  s₀ := s₀
  H₀ := H₀
  env := compEnvC scope cl C X.env
  outer := X.stack
  stack := X.stack
  ex := ex
  fn := fun _ => false
  calm := X.calm
  pn := []
  xe := fun _ _ => False
def iniOf (l : List (Option Nat)) (σ : St) : St := l.map fun o => match o with | none => none | some k => (σ[k]?).join
def CompN (X : Cx) (scope : Scope) : List Str → List (Option Nat) → Prop
  | [], [] => True
  | _ :: N, none :: l => CompN X scope N l
  | x :: N, some k :: l => (X.N[k]? = some x ∧ (X.env.scope.names.lookup x = some .cell ∨ X.env.scope.names.lookup x = some .free) ∧ scope.names.lookup x = some .free) ∧ CompN X scope N l
  | _, _ => False
theorem CompN.len {X : Cx} {scope : Scope} : ∀ {N : List Str} {l : List (Option Nat)}, CompN X scope N l → l.length = N.length
  | [], [], _ => rfl
  | _ :: N, none :: l, h => by simp [CompN.len (N := N) (l := l) h]
  | _ :: N, some _ :: l, h => by simp [CompN.len (N := N) (l := l) h.2]
  | [], none :: _, h => h.elim
  | [], some _ :: _, h => h.elim
  | _ :: _, [], h => h.elim
theorem CompN.get {X : Cx} {scope : Scope} : ∀ {N : List Str} {l : List (Option Nat)} {i k : Nat} {x : Str}, CompN X scope N l → N[i]? = some x → l[i]? = some (some k) →
    X.N[k]? = some x ∧ (X.env.scope.names.lookup x = some .cell ∨ X.env.scope.names.lookup x = some .free) ∧ scope.names.lookup x = some .free
  | [], [], _, _, _, _, e, _ => by simp at e
  | _ :: N, none :: l, 0, _, _, _, _, e => by simp at e
  | _ :: N, none :: l, i + 1, k, x, h, e1, e2 => CompN.get (N := N) (l := l) (i := i) h (by simpa using e1) (by simpa using e2)
  | y :: N, some j :: l, 0, k, x, h, e1, e2 => by
    have e1' : y = x := by simpa using e1
    have e2' : j = k := by simpa using e2
    rw [← e1', ← e2']
    exact h.1
  | _ :: N, some _ :: l, i + 1, k, x, h, e1, e2 => CompN.get (N := N) (l := l) (i := i) h.2 (by simpa using e1) (by simpa using e2)
  | [], none :: _, _, _, _, h, _, _ => h.elim
  | [], some _ :: _, _, _, _, h, _, _ => h.elim
  | _ :: _, [], _, _, _, h, _, _ => h.elim
theorem iniOf_len (l : List (Option Nat)) (σ : St) : (iniOf l σ).length = l.length := by unfold iniOf; rw [List.length_map]
theorem iniOf_get {l : List (Option Nat)} {σ : St} {i : Nat} {v : V} (h : (iniOf l σ)[i]? = some (some v)) : ∃ k, l[i]? = some (some k) ∧ σ[k]? = some (some v) := by
  unfold iniOf at h
  rw [List.getElem?_map] at h
  cases e : l[i]? with
  | none => rw [e] at h; cases h
  | some o =>
    rw [e] at h
    cases o with
    | none => simp at h
    | some k =>
      refine ⟨k, rfl, ?_⟩
      have h2 : (σ[k]?).join = some v := by simpa using h
      cases q : σ[k]? with
      | none => rw [q] at h2; cases h2
      | some z =>
        rw [q] at h2
        have h3 : z = some v := by simpa using h2
        rw [h3]
structure CompScope (X : Cx) (N : List Str) (l : List (Option Nat)) (scope : Scope) : Prop where
  kind : scope.kind = .function
  loc : (scope.names.all fun y => y.2 != .local || (scope.names.lookup y.1 == some .local)) = true
  nocell : (scope.names.all fun y => y.2 != .cell) = true
  fre : (scope.names.all fun y => y.2 != .free || (X.env.scope.names.lookup y.1 == some .cell || X.env.scope.names.lookup y.1 == some .free)) = true
  nm : CompN X scope N l
  nd : N.Nodup
theorem relabel_lookup {env : Env} {x : Str} {k : NameKind} : ∀ {names : List (Str × NameKind)}, (names.map fun (p : Str × NameKind) => if (p.2 == NameKind.free && env.scope.kind == .function && env.kindOf p.1 == some .cell) = true then (p.1, NameKind.cell) else (p.1, p.2)).lookup x = some k →
    ∃ k0, names.lookup x = some k0 ∧ (k = k0 ∨ (k0 = .free ∧ k = .cell))
  | [], h => by simp at h
  | (n, k1) :: r, h => by
    rw [List.map_cons] at h
    by_cases hc : (k1 == NameKind.free && env.scope.kind == .function && env.kindOf n == some .cell) = true
    · have hk : k1 = .free := by
        have h1 := hc
        rw [Bool.and_eq_true, Bool.and_eq_true] at h1
        simpa using h1.1.1
      rw [if_pos hc, List.lookup_cons] at h
      rw [List.lookup_cons]
      cases hx : x == n with
      | true => rw [hx] at h; exact ⟨k1, rfl, .inr ⟨hk, by simpa using h.symm⟩⟩
      | false => rw [hx] at h; exact relabel_lookup h
    · rw [if_neg hc, List.lookup_cons] at h
      rw [List.lookup_cons]
      cases hx : x == n with
      | true => rw [hx] at h; exact ⟨k1, rfl, .inl (by simpa using h.symm)⟩
      | false => rw [hx] at h; exact relabel_lookup h
theorem relabel_free {env : Env} {x : Str} : ∀ {names : List (Str × NameKind)}, names.lookup x = some .free →
    ∃ k, (names.map fun (p : Str × NameKind) => if (p.2 == NameKind.free && env.scope.kind == .function && env.kindOf p.1 == some .cell) = true then (p.1, NameKind.cell) else (p.1, p.2)).lookup x = some k ∧ (k = .cell ∨ k = .free)
  | [], h => by simp at h
  | (n, k1) :: r, h => by
    rw [List.map_cons]
    rw [List.lookup_cons] at h
    by_cases hc : (k1 == NameKind.free && env.scope.kind == .function && env.kindOf n == some .cell) = true
    · rw [if_pos hc, List.lookup_cons]
      cases hx : x == n with
      | true => exact ⟨_, rfl, .inl rfl⟩
      | false => rw [hx] at h; exact relabel_free h
    · rw [if_neg hc, List.lookup_cons]
      cases hx : x == n with
      | true =>
        rw [hx] at h
        have hk : k1 = .free := by simpa using h
        exact ⟨_, rfl, .inr hk⟩
      | false => rw [hx] at h; exact relabel_free h
section
variable {X : Cx} {pins : List (Addr × Obj)} {σ : St} {H : Hp} {s : Shared} {N : List Str} {l : List (Option Nat)} {scope : Scope} {cl : List (Str × Addr)} {fp : List Addr}
theorem inv_comp (S : CompScope X N l scope) (I : Inv X pins σ H s) (c1 : ∀ x c, cl.lookup x = some c → X.env.cells.lookup x = some c) (c2 : ∀ y ∈ scope.names, y.2 = .free → ∃ c, cl.lookup y.1 = some c)
    (f : ∀ b ∈ fp, FpOk X pins H b) (fo : ∀ b ∈ fp, ∃ o, s.heap.get? b = some o) {h' : Heap} {m : Str → Option Value} (hn : h'.Ns s.heap.objs.size m) (hk : ∀ b o, s.heap.get? b = some o → h'.get? b = some o) (t' : Nat) :
    Inv (compCx X N scope cl s.heap.objs.size s H fp) [] (iniOf l σ) H { s with heap := h', toks := t' } := by
  have cellH : ∀ x c, cl.lookup x = some c → ∃ v, h'.IsCell c v := fun x c e => by
    obtain ⟨v, o, ho, hd⟩ := I.cell x c (c1 x c e)
    exact ⟨v, o, hk c o ho, hd⟩
  have fr : ∀ b ∈ fp, b < s.heap.objs.size := fun b hb => by
    obtain ⟨o, e⟩ := fo b hb
    exact Heap.lt_size e
  refine ⟨⟨I.ok.mod, S.kind, I.ok.glob, I.ok.blt, Nat.le_refl _, fun x y c h1 h2 => I.ok.inj x y c (c1 x c h1) (c1 y c h2), fun x hx => ?_, fun x c h => (nomatch h), I.ok.hd, I.ok.frames, .inl rfl, fun b hb => ⟨Nat.ne_of_lt (fr b hb), fun x c e => (f b hb).2.2.2.2.1 x c (c1 x c e)⟩,
      I.bs, Nat.le_trans I.ok.bsz I.sz, fun b o e hb => ?_, fun b hb hf => ?_, I.stack, I.stkFree⟩,
    rfl, I.bare, Un.kept hk, ⟨m, hn, fun i x v e1 e2 e3 => ?_⟩, cellH, I.hok.fresh (Nat.le_refl _), fun x c e => I.freeC x c (c1 x c e), fun p hp => absurd (show p ∈ ([] : List (Addr × Obj)) from hp) (by simp), I.hok.kept hk, (iniOf_len l σ).trans S.nm.len⟩
  · have hx2 : (relabel scope X.env).names.lookup x = some .cell ∨ (relabel scope X.env).names.lookup x = some .free := hx
    have fin : ∀ k, (relabel scope X.env).names.lookup x = some k → (k = .cell ∨ k = .free) → ∃ c, cl.lookup x = some c := fun k e hk => by
      obtain ⟨k0, e0, q⟩ := relabel_lookup (names := scope.names) (env := X.env) (x := x) (k := k) e
      have hm := PySem.mem_of_lookup e0
      have nc := List.all_eq_true.mp S.nocell _ hm
      have hfree : k0 = .free := by
        rcases q with q | q
        · subst q
          rcases hk with z | z
          · subst z; simp at nc
          · exact z
        · exact q.1
      exact c2 _ hm hfree
    rcases hx2 with z | z
    · exact fin _ z (.inl rfl)
    · exact fin _ z (.inr rfl)
  · rcases (f b hb).2.2.2.1 with z | z
    · exact I.ok.noex b o e z
    · exact absurd (Nat.lt_of_lt_of_le (Heap.lt_size e) (Nat.le_trans I.ok.bsz z)) (Nat.lt_irrefl _)
  · rcases List.mem_cons.mp (I.stkSub b hf) with z | z
    · exact (f b hb).2.1 z
    · exact (f b hb).2.2.1 z
  · obtain ⟨k, g1, g2⟩ := iniOf_get e2
    obtain ⟨n1, n2, n3⟩ := S.nm.get e1 g1
    obtain ⟨mx, _, hl⟩ := I.loc
    have vis : Vis X.env.scope x := .inr n2
    obtain ⟨u, r, lk⟩ := hl k x v n1 g2 vis
    refine ⟨u, r, ?_⟩
    obtain ⟨kk, e4, e5⟩ := relabel_free (env := X.env) n3
    obtain ⟨c, ec⟩ := c2 _ (PySem.mem_of_lookup n3) rfl
    have kf : (compEnvC scope cl s.heap.objs.size X.env).kindOf x = some .cell ∨ (compEnvC scope cl s.heap.objs.size X.env).kindOf x = some .free := by
      rcases e5 with z | z
      · exact .inl (z ▸ e4)
      · exact .inr (z ▸ e4)
    refine .inr ⟨kf, c, ec, ?_⟩
    rcases lk with ⟨k1, _⟩ | ⟨_, c', e', ⟨o, ho, hd⟩⟩
    · have k1' : X.env.scope.names.lookup x = some .local := k1
      rcases n2 with z | z <;> (rw [z] at k1'; cases k1')
    · have ee := c1 x c ec
      rw [e'] at ee
      have ee' : c' = c := Option.some.inj ee
      subst ee'
      exact ⟨o, hk _ o ho, hd⟩
theorem comp_end {C : Addr} {σ' : St} {H' : Hp} {s' : Shared} (I : Inv X pins σ H s) (f : ∀ b ∈ fp, FpOk X pins H b) (J : Inv (compCx X N scope cl C s H fp) [] σ' H' s') : Inv X pins σ H' s' :=
  I.call' (ch := fp) J.os J.base J.hok J.bare fun b hb => ⟨(f b hb).2.2.2.1, (f b hb).2.1, (f b hb).2.2.2.2.1, (f b hb).2.2.2.2.2⟩
theorem comp_gone {σ2 : St} {H' : Hp} {s' : Shared} {h'' : Heap} (I : Inv X pins σ H s) (hf : H' s.heap.objs.size = none) (I' : Inv X pins σ2 H' s') (sb : Heap.SameBut s.heap.objs.size s'.heap h'') : Inv X pins σ2 H' { s' with heap := h'' } := by
  refine I'.turned (t' := s'.toks) (it := s.heap.objs.size) (fun b o hb e => (sb.2 b hb).trans e) hf (Nat.ne_of_gt I.lt) (.inr I.sz) (fun x c e z => ?_) fun p hp z => ?_
  · obtain ⟨v, q⟩ := I.cell x c e
    exact absurd q.lt (by rw [z]; exact Nat.lt_irrefl _)
  · exact absurd (Heap.lt_size (I.pin p hp).1) (by rw [z]; exact Nat.lt_irrefl _)
end
def testsOf (ifs : List Expr) (env : Env) : Sem Bool := forIn ifs true fun c r => if r = true then do let ok ← isTrue c env (eval c env); pure (ForInStep.yield ok) else pure (ForInStep.yield r)
abbrev NoX : Value → Shared → Prop := fun _ _ => False
theorem comp_loop {prog : Program} {w : World} {A : Around} {R : Result → Shared → Prop} {s : Shared} {elt target iter : Expr} {ifs : List Expr} {scope : Scope} {pos : Pos} {it acc : Value} {env : Env} (Iv : Nat → Shared → Prop)
    (turn : ∀ n s, Iv n s → wpAny (model prog w) A (pyNext it) (fun r s1 => match r with
      | none => R (.ok .next) s1
      | some v => wpAny (model prog w) A (letOwnedTupleGo target it v) (fun _ s2 => wpAny (model prog w) A (assign target env v) (fun _ s3 => wpAny (model prog w) A (testsOf ifs env) (fun ok s4 =>
          if ok = true then wpAny (model prog w) A (eval elt env) (fun x s5 => wpAny (model prog w) A (call (.builtin "list.append") [acc, x]) (fun _ s6 => ∃ m, m < n ∧ Iv m s6) NoX s5) NoX s4
          else ∃ m, m < n ∧ Iv m s4) NoX s3) NoX s2) NoX s1) NoX s)
    (n : Nat) (h : Iv n s) : codeAny (model prog w) A (.compLoop (.ListComp elt [⟨target, iter, ifs, 0⟩] scope pos) 0 it acc env) R s := by
  refine codeAny_loop rfl Iv (fun n s hI => ?_) n h
  show wpAny (model prog w) A ((compTurn (.ListComp elt [⟨target, iter, ifs, 0⟩] scope pos) 0 it acc env).onRaise fun x => (noteFrame x env >>= fun _ => theTreesLotGoes x)) _ _ s
  refine wpAny_noted (wpAny_mono ?_ (fun _ _ q => q) fun _ _ q => False.elim q)
  rw [compTurn_list]
  refine wpAny_bind (wpAny_standAt (wpAny_bind (thn (turn n s hI) fun r s1 h1 => ?_)))
  cases r with
  | none => exact wpAny_pure h1
  | some v =>
    refine wpAny_bind (thn h1 fun _ s2 h2 => wpAny_bind (thn h2 fun _ s3 h3 => wpAny_bind (thn h3 fun ok s4 h4 => ?_)))
    cases ok with
    | false => exact wpAny_pure ⟨rfl, h4⟩
    | true => exact wpAny_bind (wpAny_bind (thn h4 fun x s5 h5 => wpAny_bind (thn h5 fun _ s6 h6 => wpAny_pure (wpAny_pure ⟨rfl, h6⟩))))
def PIfs (X : Cx) (ifs : List Expr) (t : TT) : Prop :=
  ∀ (pins : List (Addr × Obj)) (s : Shared) (σ : St) (H : Hp) (Q : Bool → Hp → Prop), Inv X pins σ H s → t σ H Q → wpAny (model X.prog X.w) X.A (testsOf ifs X.env) (TP X pins σ Q) X.xe s
def tYes : TT := fun _ H Q => Q true H
theorem pif_nil {X : Cx} : PIfs X [] tYes := fun _ _ _ H _ I h => wpAny_pure ⟨H, I, h⟩
theorem pif_one {X : Cx} {c : Expr} {t : TT} (hc : PT X c t) : PIfs X [c] t := fun pins s σ H Q I h => wpAny_tests_one (hc pins s σ H Q I h)
abbrev CompW := Nat → Nat → List V → St → Hp → Prop
def compStep (J : It) (g : TG) (tc : TT) (te : TE) (D : Addr) (W : CompW) (Q : Hp → Prop) : Prop :=
  ∀ i m ys σ H, W i m ys σ H → H D = some (.lst ys) ∧ ((J.stop i H ∧ Q H) ∨ (J.go i H ∧ ∃ (A : V → St → Hp → Prop) (B : St → Hp → Prop),
    (∀ v σ2 H4, A v σ2 H4 → H4 D = some (.lst ys) ∧ ys.length < sizeLine ∧ ∃ m', m' < m ∧ W (i + 1) m' (ys ++ [v]) σ2 (upd H4 D (.lst (ys ++ [v])))) ∧ (∀ σ2 H3, B σ2 H3 → ∃ m', m' < m ∧ W (i + 1) m' ys σ2 H3) ∧
    ∀ x H', J.yld i H x H' → g x σ H' fun σ2 H2 => tc σ2 H2 fun b H3 => if b = true then te σ2 H3 fun v H4 => A v σ2 H4 else B σ2 H3))
def tComp (l : List (Option Nat)) (wi : TI) (g : TG) (tc : TT) (te : TE) : TE := fun σ H Q => wi σ H fun J H1 => ∀ D, H1 D = none → ∃ W : CompW, (∃ m, W 0 m [] (iniOf l σ) (upd H1 D (.lst []))) ∧ compStep J g tc te D W fun H' => Q (.ref D) H'
section
variable {X : Cx} {tg elt iter : Expr} {ifs : List Expr} {N : List Str} {l : List (Option Nat)} {scope : Scope} {pos : Pos} {wi : TI} {g : TG} {tc : TT} {te : TE}
theorem comp_block {cl : List (Str × Addr)} {pins : List (Addr × Obj)} {σ : St} {H : Hp} {s : Shared} {J : It} {fp : List Addr} {it : Addr} {tn : Nat → Heap → Prop} {RR : Value → Addr → Result → Shared → Prop} {Q : Addr → Hp → Prop} {E : Value → Shared → Prop}
    (hc : X.calm = true) (S : CompScope X N l scope) (c1 : ∀ x c, cl.lookup x = some c → X.env.cells.lookup x = some c) (c2 : ∀ y ∈ scope.names, y.2 = .free → ∃ c, cl.lookup y.1 = some c)
    (hg : ∀ C s H ex, PG (compCx X N scope cl C s H ex) tg g) (hi : ∀ C s H ex, PIfs (compCx X N scope cl C s H ex) ifs tc) (he : ∀ C s H ex, PE (compCx X N scope cl C s H ex) elt te)
    (I : Inv X pins σ H s) (T : Turn X.prog X.w X.K tg J fp it tn) (t0 : tn 0 s.heap) (f : ∀ b ∈ fp, FpOk X pins H b)
    (hW : ∀ D, H D = none → ∃ W : CompW, (∃ m, W 0 m [] (iniOf l σ) (upd H D (.lst []))) ∧ compStep J g tc te D W (Q D))
    (hR : ∀ D s0 H' s', Inv X pins σ (upd H D (.lst [])) s0 → Inv X pins σ H' s' → H' s0.heap.objs.size = none → (∃ m, s'.heap.Ns s0.heap.objs.size m) → Q D H' → RR (.ref D) s0.heap.objs.size (.ok .next) s') :
    wpAny (model X.prog X.w) X.A (newList []) (fun acc s3 => wpAny (model X.prog X.w) X.A (newFunctionEnv scope X.env.globals cl [] X.env.qual none .none (some X.env)) (fun cenv s4 =>
      codeAny (model X.prog X.w) X.A (.compStart (.ListComp elt [⟨tg, iter, ifs, 0⟩] scope pos) 0 (.ref it) acc { cenv with scope := relabel scope X.env }) (RR acc cenv.locals) s4) E s3) E s := by
  refine wpAny_newObj_type (wpAny_newFunctionEnv (fun y hy => by have := List.all_eq_true.mp S.nocell y hy; simpa using this) (fun y hy => absurd hy (by simp)) (fun h4 hn4 sb4 => ?_) S.kind)
  have kept3 : ∀ b u, s.heap.get? b = some u → (s.heap.push { cls := .type "list", dict := none, data := .seq ([] : List Value).toArray }).get? b = some u := fun b u e => Heap.get?_push_of_some _ e
  have hD : H s.heap.objs.size = none := I.hok.fresh (Nat.le_refl _)
  have I3 : Inv X pins σ (upd H s.heap.objs.size (.lst [])) { s with heap := s.heap.push { cls := .type "list", dict := none, data := .seq ([] : List Value).toArray } } :=
    I.laid (t' := s.toks) kept3 (Nat.le_refl _) ⟨Nat.zero_le _, [], 0, .nil, Heap.get?_push_size _ rfl⟩
  generalize hh3 : s.heap.push { cls := .type "list", dict := none, data := .seq ([] : List Value).toArray } = h3 at kept3 I3 hn4 sb4 ⊢
  have fpIn : ∀ b ∈ fp, ∃ o, s.heap.get? b = some o := fun b hb => let ⟨o, e, _⟩ := T.obj _ _ t0 b hb; ⟨o, e⟩
  have f3 : ∀ b ∈ fp, FpOk X pins (upd H s.heap.objs.size (.lst [])) b := fun b hb => by
    obtain ⟨o, e⟩ := fpIn b hb
    exact ⟨by rw [upd_ne (Nat.ne_of_lt (Heap.lt_size e))]; exact (f b hb).1, (f b hb).2⟩
  have kept4 : ∀ b o, h3.get? b = some o → h4.get? b = some o := fun b o e => sb4.extBut b o (Nat.ne_of_lt (Heap.lt_size e)) (Heap.get?_push_of_some _ e)
  have J4 := inv_comp S I3 c1 c2 f3 (fun b hb => let ⟨o, e⟩ := fpIn b hb; ⟨o, kept3 b o e⟩) hn4 kept4 (s.toks + ([] : List (Str × Value)).length)
  have t4 : tn 0 h4 := T.keep _ _ _ t0 fun b _ o e => kept4 b o (kept3 b o e)
  obtain ⟨W, ⟨m0, w0⟩, step⟩ := hW _ hD
  have loop : ∀ s4 : Shared, s4 = { s with heap := h4, toks := s.toks + ([] : List (Str × Value)).length } →
      codeAny (model X.prog X.w) X.A (.compLoop (.ListComp elt [⟨tg, iter, ifs, 0⟩] scope pos) 0 (.ref it) (.ref s.heap.objs.size) (compEnvC scope cl h3.objs.size X.env)) (RR (.ref s.heap.objs.size) h3.objs.size) s4 := by
    rintro s4 rfl
    generalize hY : compCx X N scope cl h3.objs.size { s with heap := h3 } (upd H s.heap.objs.size (.lst [])) fp = Y at J4
    have eP : Y.prog = X.prog := by rw [← hY]; rfl
    have ew : Y.w = X.w := by rw [← hY]; rfl
    have eK : Y.K = X.K := by rw [← hY]; rfl
    have ec : Y.calm = true := by rw [← hY]; exact hc
    have eA : Y.A = X.A := by rw [← hY]; rfl
    have ee : Y.env = compEnvC scope cl h3.objs.size X.env := by rw [← hY]; rfl
    have ex : Y.xe = NoX := by rw [← hY]; rfl
    have stat : ∀ {H' : Hp}, (∀ b ∈ fp, H' b = none) → ∀ b ∈ fp, FpOk Y [] H' b := fun {H'} hn b hb => by
      rw [← hY]
      obtain ⟨o, e⟩ := fpIn b hb
      refine ⟨hn b hb, Nat.ne_of_lt (Heap.lt_size (kept3 b o e)), fun z => ?_, .inl hb, fun x c q => (f3 b hb).2.2.2.2.1 x c (c1 x c q), fun p hp => absurd (show p ∈ ([] : List (Addr × Obj)) from hp) (by simp)⟩
      rcases List.mem_cons.mp (I3.stkSub b z) with q | q
      · exact (f3 b hb).2.1 q
      · exact (f3 b hb).2.2.1 q
    refine comp_loop (fun n s' => ∃ i ys σ' H', Inv Y [] σ' H' s' ∧ tn i s'.heap ∧ (∀ b ∈ fp, H' b = none) ∧ W i n ys σ' H') ?_ m0 ⟨0, [], iniOf l σ, _, J4, t4, fun b hb => (f3 b hb).1, w0⟩
    rintro n s5 ⟨i, ys, σ5, H5, J5, t5, fr5, w5⟩
    obtain ⟨hDl, st⟩ := step i n ys σ5 H5 w5
    rw [← eP, ← ew, ← eA, ← ee]
    rcases st with ⟨stop, q⟩ | ⟨go, NA, NB, hA, hB, nxt⟩
    · have d := T.done Y eP ew eK ec i [] s5 σ5 H5 NoX J5 (stat fr5) t5 stop
      rw [← eP, ← ew] at d
      refine thn d fun r s6 ⟨hr, J6⟩ => ?_
      subst hr
      rw [← hY] at J6
      obtain ⟨m6, n6, _⟩ := J6.loc
      exact hR _ { s with heap := h3 } H5 s6 I3 (comp_end I3 f3 J6) J6.free ⟨m6, n6⟩ q
    · have d := T.item Y eP ew eK ec i [] s5 σ5 H5 NoX J5 (stat fr5) t5 go
      rw [← eP, ← ew] at d
      refine thn d fun r s6 ⟨u, hr, h6⟩ => ?_
      subst hr
      refine thn h6 fun _ s7 ⟨x, H7, J7, r7, y7, t7, fr7⟩ => ?_
      have J7' := J7.pinned (stat fr7) (T.obj _ _ t7)
      have back : ∀ {σ8 : St} {H8 : Hp} {s8 : Shared}, Inv Y ([] ++ pinsAt fp s7.heap) σ8 H8 s8 → tn (i + 1) s8.heap ∧ (∀ b ∈ fp, H8 b = none) := fun {σ8 H8 s8} J8 => by
        refine ⟨T.keep _ _ _ t7 fun b hb o e => (J8.pin (b, o) (List.mem_append_right _ (List.mem_append_right _ (mem_pinsAt hb e)))).1, fun b hb => ?_⟩
        obtain ⟨o, e, _⟩ := T.obj _ _ t7 b hb
        exact (J8.pin (b, o) (List.mem_append_right _ (List.mem_append_right _ (mem_pinsAt hb e)))).2.1
      have hg' : PG Y tg g := by rw [← hY]; exact hg _ _ _ _
      have hi' : PIfs Y ifs tc := by rw [← hY]; exact hi _ _ _ _
      have he' : PE Y elt te := by rw [← hY]; exact he _ _ _ _
      have a7 := hg' _ s7 σ5 H7 x u _ J7' r7 (nxt x H7 y7)
      rw [ex] at a7
      refine thn a7 fun _ s8 ⟨σ8, H8, J8, q8⟩ => ?_
      have a8 := hi' _ s8 σ8 H8 _ J8 q8
      rw [ex] at a8
      refine thn a8 fun ok s9 ⟨H9, J9, q9⟩ => ?_
      cases ok with
      | false =>
        have q9' : NB σ8 H9 := by simpa using q9
        obtain ⟨m', hm, w9⟩ := hB _ _ q9'
        obtain ⟨t9, fr9⟩ := back J9
        show ∃ m, m < n ∧ _
        exact ⟨m', hm, i + 1, ys, σ8, H9, J9.unpinned, t9, fr9, w9⟩
      | true =>
        rw [if_pos rfl] at q9
        show wpAny _ _ (eval elt Y.env) _ _ s9
        have a9 := he' _ s9 σ8 H9 _ J9 q9
        rw [ex] at a9
        refine thn a9 fun xv s10 ⟨v, H10, J10, r10, q10⟩ => ?_
        obtain ⟨hD10, hz, m', hm, w10⟩ := hA _ _ _ q10
        have a10 := mt_append _ s10 σ8 H10 (.ref s.heap.objs.size) [v] (.ref s.heap.objs.size) [xv] (fun _ H' => H' = upd H10 s.heap.objs.size (.lst (ys ++ [v]))) J10 rfl (.cons r10 .nil) ⟨_, ys, v, rfl, rfl, hD10, hz, rfl⟩
        rw [ex] at a10
        refine thn a10 fun _ s11 ⟨_, H11, J11, _, e11⟩ => ?_
        subst e11
        obtain ⟨t11, fr11⟩ := back J11
        exact ⟨m', hm, i + 1, ys ++ [v], σ8, _, J11.unpinned, t11, fr11, w10⟩
  exact codeAny_compStart_list (loop _ rfl) (T.self _ 0 _ _ _ t4 (loop _ rfl))
theorem comp_cells {pins : List (Addr × Obj)} {σ : St} {H : Hp} {s : Shared} (S : CompScope X N l scope) (I : Inv X pins σ H s) :
    ∃ cl, closureFor scope X.env = pure cl ∧ (∀ x c, cl.lookup x = some c → X.env.cells.lookup x = some c) ∧ ∀ y ∈ scope.names, y.2 = .free → ∃ c, cl.lookup y.1 = some c := by
  refine closure_is fun y hy hf => ?_
  have q := List.all_eq_true.mp S.fre y hy
  rw [hf] at q
  have q2 : (X.env.scope.names.lookup y.1 == some .cell || X.env.scope.names.lookup y.1 == some .free) = true := by simpa using q
  rw [Bool.or_eq_true] at q2
  rcases q2 with z | z
  · exact I.ok.has y.1 (.inl (show X.env.scope.names.lookup y.1 = some .cell by simpa using z))
  · exact I.ok.has y.1 (.inr (show X.env.scope.names.lookup y.1 = some .free by simpa using z))
theorem comp_locals (S : CompScope X N l scope) : ∀ y ∈ scope.names, y.2 = .local → scope.names.lookup y.1 = some .local := fun y hy hl => by
  have q := List.all_eq_true.mp S.loc y hy
  rw [hl] at q
  simpa using q
theorem pe_comp (hc : X.calm = true) (S : CompScope X N l scope) (hw : PI X tg iter wi)
    (hg : ∀ cl C s H ex, PG (compCx X N scope cl C s H ex) tg g) (hi : ∀ cl C s H ex, PIfs (compCx X N scope cl C s H ex) ifs tc) (he : ∀ cl C s H ex, PE (compCx X N scope cl C s H ex) elt te)
    (hs : ∀ x, foldedSetIterable iter X.env x = pure x := by intro _; rfl) : PE X (.ListComp elt [⟨tg, iter, ifs, 0⟩] scope pos) (tComp l wi g tc te) := by
  intro pins s σ H Q I h
  obtain ⟨cl, e1, c1, c2⟩ := comp_cells S I
  rw [eval_ListComp]
  refine wpAny_comprehension_free (use := none) rfl hs e1 S.kind (comp_locals S) (thn (hw pins s σ H _ I h) fun v s1 h1 => thn h1 fun itv s2 h2 => ?_)
  obtain ⟨it, fp, tn, J, H2, e, I2, T, st2, f2, hW⟩ := h2
  subst e
  refine comp_block hc S c1 c2 (hg cl) (hi cl) (he cl) I2 T st2 f2 hW fun D s0 H' s' I0 I' hf hns q => ?_
  obtain ⟨m, hm⟩ := hns
  exact ⟨m, hm, fun h'' sb => ⟨.ref D, H', comp_gone I0 hf I' sb, rfl, q⟩⟩
theorem ps_setComp {i : Nat} {x : Str} {pos' pos2 : Pos} (hc : X.calm = true) (hN : X.N.Nodup) (hi' : X.N[i]? = some x) (hx : X.env.scope.names.lookup x = some .local) (S : CompScope X N l scope) (hw : PI X tg iter wi)
    (hg : ∀ cl C s H ex, PG (compCx X N scope cl C s H ex) tg g) (hi : ∀ cl C s H ex, PIfs (compCx X N scope cl C s H ex) ifs tc) (he : ∀ cl C s H ex, PE (compCx X N scope cl C s H ex) elt te)
    (hsw : swapsWith (.ListComp elt [⟨tg, iter, ifs, 0⟩] scope pos) (some (.Name x pos')) pos2.line X.env = pure true := by rfl)
    (hs : ∀ x, foldedSetIterable iter X.env x = pure x := by intro _; rfl) : PS X (.Assign [.Name x pos'] (.ListComp elt [⟨tg, iter, ifs, 0⟩] scope pos) pos2) (tAsg (tComp l wi g tc te) (gName i)) := by
  intro pins s σ H D I h
  obtain ⟨cl, e1, c1, c2⟩ := comp_cells S I
  rw [exec_Assign_Name_used _ _ _ _ hsw]
  refine wpAny_bind (wpAny_standAt (wpAny_bind ?_))
  show wpAny _ X.A (comprehension (.ListComp elt [⟨tg, iter, ifs, 0⟩] scope pos) scope X.env _ (newList []) false (eval iter X.env) (some (assign (.Name x pos') X.env)) >>= fun _ => _) _ _ s
  refine wpAny_bind (thn (wpAny_comprehension_free (use := some (assign (.Name x pos') X.env)) (Q := fun _ s' => SP X pins D .next s') rfl hs e1 S.kind (comp_locals S) (thn (hw pins s σ H _ I h) fun v s1 h1 => thn h1 fun itv s2 h2 => ?_)) fun _ s' hq => wpAny_pure (wpAny_pure hq))
  obtain ⟨it, fp, tn, J, H2, e, I2, T, st2, f2, hW⟩ := h2
  subst e
  refine comp_block hc S c1 c2 (hg cl) (hi cl) (he cl) I2 T st2 f2 hW fun L s0 H' s' I0 I' hf hns q => ?_
  obtain ⟨m, hm⟩ := hns
  show wpAny _ X.A (assign (.Name x pos') X.env (.ref L)) _ _ s'
  refine wpAny_assign_Name (store_ok2 I' hN hi' (.inl hx) (v := .ref L) rfl (fun s2 I2 hsb => ?_) (.inr hx))
  obtain ⟨a, sb, ha⟩ := hsb
  have hne : s0.heap.objs.size ≠ a := by
    rcases ha with z | z
    · rw [z]; exact Nat.ne_of_gt I0.lt
    · obtain ⟨v, cc⟩ := I0.cell x a z
      exact Nat.ne_of_gt cc.lt
  exact ⟨m, hm.sameBut sb hne, fun h'' sb2 => ⟨_, H', comp_gone I0 hf I2 sb2, q⟩⟩
end
theorem comp_seq {J : It} {l : List (Option Nat)} {g : TG} {tc : TT} {te : TE} {σ : St} {H1 : Hp} {Q : Hp → Prop} (D : Addr) (xs : List V) (Pv : Nat → List V → St → Hp → Prop) (hn : xs.length ≤ 1000) (hy : ∀ i ys σ H, Pv i ys σ H → ys.length ≤ i)
    (hJ : ∀ i ys σ H, Pv i ys σ H → H D = some (.lst ys) → (∀ x, xs[i]? = some x → J.go i H ∧ ∀ y H', J.yld i H y H' → H' = H ∧ y = x) ∧ (xs.length ≤ i → J.stop i H)) (h0 : Pv 0 [] (iniOf l σ) (upd H1 D (.lst [])))
    (hs : ∀ i x ys σ H, xs[i]? = some x → Pv i ys σ H → H D = some (.lst ys) → g x σ H fun σ2 H2 => tc σ2 H2 fun b H3 =>
      if b = true then te σ2 H3 fun v H4 => H4 D = some (.lst ys) ∧ Pv (i + 1) (ys ++ [v]) σ2 (upd H4 D (.lst (ys ++ [v]))) else H3 D = some (.lst ys) ∧ Pv (i + 1) ys σ2 H3)
    (hd : ∀ ys σ H, Pv xs.length ys σ H → H D = some (.lst ys) → Q H) :
    ∃ W : CompW, (∃ m, W 0 m [] (iniOf l σ) (upd H1 D (.lst []))) ∧ compStep J g tc te D W Q := by
  refine ⟨fun i m ys σ H => m = xs.length - i ∧ i ≤ xs.length ∧ H D = some (.lst ys) ∧ Pv i ys σ H, ⟨xs.length, by simp, Nat.zero_le _, upd_same, h0⟩, ?_⟩
  rintro i m ys σ H ⟨rfl, hi, hD, p⟩
  refine ⟨hD, ?_⟩
  by_cases hlt : i < xs.length
  · obtain ⟨hg, hyl⟩ := (hJ i ys σ H p hD).1 xs[i] (by simp [hlt])
    refine .inr ⟨hg, fun v σ2 H4 => H4 D = some (.lst ys) ∧ Pv (i + 1) (ys ++ [v]) σ2 (upd H4 D (.lst (ys ++ [v]))), fun σ2 H3 => H3 D = some (.lst ys) ∧ Pv (i + 1) ys σ2 H3, fun v σ2 H4 q => ?_, fun σ2 H3 q => ⟨xs.length - (i + 1), by omega, rfl, hlt, q⟩, fun x H' y => ?_⟩
    · exact ⟨q.1, small1000 (Nat.le_trans (hy _ _ _ _ p) (by omega)), xs.length - (i + 1), by omega, rfl, hlt, upd_same, q.2⟩
    · obtain ⟨e, e2⟩ := hyl x H' y
      subst e e2
      exact hs i _ ys σ _ (by simp [hlt]) p hD
  · have e : i = xs.length := by omega
    subst e
    exact .inl ⟨(hJ _ ys σ H p hD).2 (Nat.le_refl _), hd ys σ H p hD⟩
theorem itt_of {K : PySem.W.Frag} {a : Addr} {xs : List V} {H : Hp} (hq : SqT K H a xs) (i : Nat) :
    (∀ x, xs[i]? = some x → (Itt K a).go i H ∧ ∀ y H', (Itt K a).yld i H y H' → H' = H ∧ y = x) ∧ (xs.length ≤ i → (Itt K a).stop i H) :=
  ⟨fun x hx => ⟨⟨xs, x, hq, hx⟩, fun y H' h => ⟨h.1, by have := h.2 xs hq; rw [hx] at this; exact (Option.some.inj this).symm⟩⟩, fun h => ⟨xs, hq, h⟩⟩
theorem itl_of {K : PySem.W.Frag} {a : Addr} {xs : List V} {H : Hp} (hq : SqL K H a xs) (i : Nat) :
    (∀ x, xs[i]? = some x → (Itl K a).go i H ∧ ∀ y H', (Itl K a).yld i H y H' → H' = H ∧ y = x) ∧ (xs.length ≤ i → (Itl K a).stop i H) :=
  ⟨fun x hx => ⟨⟨xs, x, hq, hx⟩, fun y H' h => ⟨h.1, by have := h.2 xs hq; rw [hx] at this; exact (Option.some.inj this).symm⟩⟩, fun h => ⟨xs, hq, h⟩⟩
end L2
set_option Elab.async false
set_option linter.all false
set_option maxRecDepth 100000
set_option maxHeartbeats 4000000
namespace L2
open PySem PySem.Spec PyProof.Rows
section
variable {X : Cx}
theorem op_mulB : OpR X (binaryOp .Mult) (rI IntMulOk fun i j => .int (i * j)) := opI fun _ _ _ _ _ _ _ hc q => mul_int q hc
def CDivB (i j : Int) : Prop := 0 < j ∧ j.natAbs.log2 < 9000
theorem CDivB.of {i j : Int} (h0 : 0 < j) (h : j < 2 ^ 9000) : CDivB i j := by
  refine ⟨h0, (Nat.log2_lt (by omega)).mpr ?_⟩
  have e : ((j.natAbs : Nat) : Int) = j := by omega
  have h' : ((j.natAbs : Nat) : Int) < ((2 ^ 9000 : Nat) : Int) := by
    rw [e]
    rw [Int.natCast_pow]; exact h
  exact Int.ofNat_lt.mp h'
theorem op_fdivB : OpR X (binaryOp .FloorDiv) (rI CDivB fun i j => .int (i / j)) := opI fun i j _ _ _ _ _ hc q =>
  floordiv_int (by have := hc.1; omega) (by rw [Int.fdiv_eq_ediv_of_nonneg i (Int.le_of_lt hc.1)]; exact q) (.inl (PyProof.noPylong_of_log2 hc.2))
theorem bits_of {x : Int} {k : Nat} (h1 : -(2 ^ k) < x) (h2 : x < 2 ^ k) : Builtin.Int.intBits x ≤ k := by
  unfold Builtin.Int.intBits
  split
  · exact Nat.zero_le _
  · rename_i hx
    have h0 : x.natAbs ≠ 0 := fun z => hx (by simp; omega)
    have e2 : ((2 ^ k : Nat) : Int) = (2 : Int) ^ k := by rw [Int.natCast_pow]; rfl
    have hn : x.natAbs < 2 ^ k := by
      have : ((x.natAbs : Nat) : Int) < ((2 ^ k : Nat) : Int) := by rw [e2]; omega
      exact Int.ofNat_lt.mp this
    have := (Nat.log2_lt h0).mpr hn
    omega
def SqA (K : PySem.W.Frag) (H : Hp) (a : Addr) (xs : List V) : Prop := SqL K H a xs ∨ SqT K H a xs
theorem walk_seq {pins : List (Addr × Obj)} {σ : St} {H : Hp} {s : Shared} {a : Addr} {xs : List V} {A : Around} {E : Value → Shared → Prop} {Q : Value → Shared → Prop} (hA : A.handled = none) (I : Inv X pins σ H s) (h : SqA X.K H a xs)
    (hq : ∀ (its : List Value) (It : Addr) (fp wr : List Addr) (St : Nat → Heap → Prop) (s2 : Shared), Vals xs its → Walks X.prog X.w A It fp wr its.length (fun i v => its.toArray[i]? = some v) St → St 0 s2.heap → (∀ b ∈ fp, b < s2.heap.objs.size) →
      (∀ h' tk, (∀ b o, b ∉ wr → s2.heap.get? b = some o → h'.get? b = some o) → Inv X pins σ H { s2 with heap := h', toks := tk }) → Q (.ref It) s2) :
    wpAny (model X.prog X.w) A (pyIter (.ref a)) Q E s := by
  rcases h with h | h
  · obtain ⟨its, rv, p, hz⟩ := I.list h
    have pl := p.isList
    have hlt : a < s.heap.objs.size := by obtain ⟨_, e, _⟩ := id pl; exact Heap.lt_size e
    refine wpAny_pyIter_list pl (hq its s.heap.objs.size _ _ _ { s with heap := s.heap.push _ } rv (show Walks X.prog X.w A s.heap.objs.size _ _ its.toArray.size _ _ from Walks.list hA s.heap.objs.size a (Nat.ne_of_lt hlt) its.toArray) ⟨⟨_, Heap.get?_push_size _ rfl, rfl, rfl⟩, pl.push _⟩ (fun b hb => ?_) fun h' tk k => ?_)
    · show b < (s.heap.push _).objs.size
      rw [Heap.size_push]
      rcases List.mem_cons.mp hb with e | hb
      · rw [e]; exact Nat.lt_succ_self _
      · rw [List.mem_singleton.mp hb]; exact Nat.lt_succ_of_lt hlt
    · refine I.kept fun b o e => k b o (fun z => ?_) (Heap.get?_push_of_some _ e)
      rw [List.mem_singleton.mp z] at e
      exact absurd (Heap.lt_size e) (Nat.lt_irrefl _)
  · obtain ⟨its, rv, p, hz⟩ := I.tuple h
    have pl : s.heap.IsTuple a its.toArray := p
    have hlt : a < s.heap.objs.size := by obtain ⟨_, e, _⟩ := id pl; exact Heap.lt_size e
    refine wpAny_pyIter_tuple pl (hq its s.heap.objs.size _ _ _ { s with heap := s.heap.push _ } rv (show Walks X.prog X.w A s.heap.objs.size _ _ its.toArray.size _ _ from Walks.tuple hA s.heap.objs.size a (Nat.ne_of_lt hlt) its.toArray) ⟨⟨_, Heap.get?_push_size _ rfl, rfl, rfl⟩, ?_⟩ (fun b hb => ?_) fun h' tk k => ?_)
    · obtain ⟨o, e, r⟩ := id pl
      exact ⟨o, Heap.get?_push_of_some _ e, r⟩
    · show b < (s.heap.push _).objs.size
      rw [Heap.size_push]
      rcases List.mem_cons.mp hb with e | hb
      · rw [e]; exact Nat.lt_succ_self _
      · rw [List.mem_singleton.mp hb]; exact Nat.lt_succ_of_lt hlt
    · refine I.kept fun b o e => k b o (fun z => ?_) (Heap.get?_push_of_some _ e)
      rw [List.mem_singleton.mp z] at e
      exact absurd (Heap.lt_size e) (Nat.lt_irrefl _)
theorem preSum_eq (ns : List Int) : ∀ k, k ≤ ns.length → preSum (fun i => ns.getD i 0) k = (ns.take k).sum
  | 0, _ => by simp [preSum]
  | k + 1, h => by
    have e := preSum_eq ns k (by omega)
    show preSum _ k + ns.getD k 0 = _
    rw [e, List.take_succ_eq_append_getElem (by omega : k < ns.length), List.sum_append]
    simp [List.getD, (by omega : k < ns.length)]
theorem ints_at {ns : List Int} {its : List Value} (rv : Vals (ns.map V.int) its) {i : Nat} {v : Value} (h : its[i]? = some v) : ∃ t, v = .int (ns.getD i 0) t := by
  have hl := rv.length
  rw [List.length_map] at hl
  have hi : i < its.length := (List.getElem?_eq_some_iff.mp h).1
  have hx : (ns.map V.int)[i]? = some (V.int (ns.getD i 0)) := by
    rw [List.getElem?_map, List.getD, List.getElem?_eq_getElem (by omega)]
    rfl
  obtain ⟨u, e1, t, e2⟩ := rv.get hx
  rw [h] at e1
  cases e1
  exact ⟨t, e2⟩
theorem bls_at {bs : List Bool} {its : List Value} (rv : Vals (bs.map V.bl) its) {i : Nat} {v : Value} (h : its[i]? = some v) : v = .bool (bs.getD i false) := by
  have hl := rv.length
  rw [List.length_map] at hl
  have hi : i < its.length := (List.getElem?_eq_some_iff.mp h).1
  have hx : (bs.map V.bl)[i]? = some (V.bl (bs.getD i false)) := by
    rw [List.getElem?_map, List.getD, List.getElem?_eq_getElem (by omega)]
    rfl
  obtain ⟨u, e1, e2⟩ := rv.get hx
  rw [h] at e1
  cases e1
  exact e2
theorem call_sumL (hc : X.calm = true) : CallR X (.builtin "sum") (fun xs H Q => ∃ (p : Addr) (ns : List Int), xs = [.ref p] ∧ SqA X.K H p (ns.map V.int) ∧ Q (.int ns.sum) H) := by
  intro pins s σ H xs us Q I r h
  obtain ⟨p, ns, rfl, hs, q⟩ := h
  obtain ⟨u, rfl, ru⟩ := vals1 r
  cases ru
  refine call_sum_walkG (walk_seq (I.ok.hd hc) I hs fun its It fp wr St s2 rv W st hfp fin => ?_)
  refine ⟨It, fp, wr, its.length, _, St, fun i => ns.getD i 0, rfl, W, st, hfp, fun i v hv => ints_at rv (by simpa using hv), fun h' tk t' k => ⟨.int ns.sum, H, fin h' tk k, ⟨t', ?_⟩, q⟩⟩
  have hl := rv.length
  rw [List.length_map] at hl
  rw [preSum_eq ns its.length (by omega), ← hl, List.take_length]
theorem range_all (bs : List Bool) : (List.range bs.length).all (fun i => bs.getD i false) = bs.all id := by
  rw [Bool.eq_iff_iff, List.all_eq_true, List.all_eq_true]
  constructor
  · intro h x hx
    obtain ⟨i, hi, e⟩ := List.mem_iff_getElem.mp hx
    have := h i (List.mem_range.mpr hi)
    rw [List.getD, List.getElem?_eq_getElem hi] at this
    rw [← e]; exact this
  · intro h i hi
    have hi' := List.mem_range.mp hi
    rw [List.getD, List.getElem?_eq_getElem hi']
    exact h _ (List.getElem_mem hi')
theorem range_any (bs : List Bool) : (List.range bs.length).any (fun i => bs.getD i false) = bs.any id := by
  rw [Bool.eq_iff_iff, List.any_eq_true, List.any_eq_true]
  constructor
  · rintro ⟨i, hi, h⟩
    have hi' := List.mem_range.mp hi
    rw [List.getD, List.getElem?_eq_getElem hi'] at h
    exact ⟨_, List.getElem_mem hi', h⟩
  · rintro ⟨x, hx, h⟩
    obtain ⟨i, hi, e⟩ := List.mem_iff_getElem.mp hx
    refine ⟨i, List.mem_range.mpr hi, ?_⟩
    rw [List.getD, List.getElem?_eq_getElem hi]
    show bs[i] = true
    rw [e]; exact h
theorem call_allL (hc : X.calm = true) : CallR X (.builtin "all") (fun xs H Q => ∃ (p : Addr) (bs : List Bool), xs = [.ref p] ∧ SqA X.K H p (bs.map V.bl) ∧ Q (.bl (bs.all id)) H) := by
  intro pins s σ H xs us Q I r h
  obtain ⟨p, bs, rfl, hs, q⟩ := h
  obtain ⟨u, rfl, ru⟩ := vals1 r
  cases ru
  refine call_all_walk (walk_seq (I.ok.hd hc) I hs fun its It fp wr St s2 rv W st hfp fin => ?_)
  refine ⟨It, fp, wr, its.length, _, St, fun i => bs.getD i false, rfl, W, st, fun i v s3 Q3 E3 hv h3 => ?_, fun h' tk k => ⟨.bl (bs.all id), H, fin h' tk k, ?_, q⟩⟩
  · have e := bls_at rv (show its[i]? = some v by simpa using hv)
    rw [e]; exact wpAny_truthy_bool h3
  · have hl := rv.length
    rw [List.length_map] at hl
    show Value.bool _ = Value.bool _
    rw [← hl, range_all]
theorem call_anyL (hc : X.calm = true) : CallR X (.builtin "any") (fun xs H Q => ∃ (p : Addr) (bs : List Bool), xs = [.ref p] ∧ SqA X.K H p (bs.map V.bl) ∧ Q (.bl (bs.any id)) H) := by
  intro pins s σ H xs us Q I r h
  obtain ⟨p, bs, rfl, hs, q⟩ := h
  obtain ⟨u, rfl, ru⟩ := vals1 r
  cases ru
  refine call_any_walk (walk_seq (I.ok.hd hc) I hs fun its It fp wr St s2 rv W st hfp fin => ?_)
  refine ⟨It, fp, wr, its.length, _, St, fun i => bs.getD i false, rfl, W, st, fun i v s3 Q3 E3 hv h3 => ?_, fun h' tk k => ⟨.bl (bs.any id), H, fin h' tk k, ?_, q⟩⟩
  · have e := bls_at rv (show its[i]? = some v by simpa using hv)
    rw [e]; exact wpAny_truthy_bool h3
  · have hl := rv.length
    rw [List.length_map] at hl
    show Value.bool _ = Value.bool _
    rw [← hl, range_any]
theorem getD_mem {ns : List Int} {i : Nat} (h : i < ns.length) : ns.getD i 0 ∈ ns := by
  rw [List.getD, List.getElem?_eq_getElem h]
  exact List.getElem_mem _
end
end L2
set_option Elab.async false
set_option linter.all false
set_option maxRecDepth 100000
set_option maxHeartbeats 4000000
namespace L2
open PySem PySem.Spec PyProof.Rows
def Fn (P : Program) (w : World) (K : PySem.W.Frag) (mg : Str → Option Value) (base : Heap) (CX : CXT) (x : Str) (k : Nat) (ps : List Str) (sp : Sp) : Prop :=
  ∃ f fd, FnOk P w K mg base CX k f fd ps sp ∧ mg x = some (.ref f) ∧ PySem.W.keepIn K (.ref f) = true ∧ Binds K fd ps []
def Df (K : PySem.W.Frag) (mg : Str → Option Value) (x : Str) (st : Stmt) : Prop := ∃ f fd, Fun K x x st f fd ∧ mg x = some (.ref f)
theorem df_mk {K : PySem.W.Frag} {mg : Str → Option Value} {h : Heap} {x : Str} {st : Stmt} {f : Addr} {oc : Value} {od an : Option Addr} {osl : Array (Option Value)} {kV doc pm cdv ct : Value} (X : K.In h) (G : h.Ns mainGlobals mg)
    (a : PySem.W.nsIn K mainGlobals x = some (some (.ref f))) (l : K.lookup f = some ⟨oc, od, .func (PySem.W.fnOf x x (defArgs st) (defBody st) (defScope st) .none kV doc pm an cdv ct), osl⟩)
    (c : PySem.W.codeIn K cdv x = true) (k : PySem.W.keepIn K (.ref f) = true) : Df K mg x st := ⟨f, _, fun_mk l c k, PySem.W.mg_of X G a⟩
section
variable {P : Program} {w : World} {K : PySem.W.Frag} {mg : Str → Option Value} {base : Heap}
theorem Df.to {CX : CXT} {x : Str} {st : Stmt} {ps : List Str} {k : Nat} {sp : Sp} (D : Df K mg x st) (h : ∀ {f : Addr} {fd : FuncData}, Fun K x x st f fd → FnOk P w K mg base CX k f fd ps sp)
    (hb : ∀ (kV doc pm : Value) (an : Option Addr) (cdv ct : Value) (us : List Value), us.length = ps.length → bindArgs (PySem.W.fnOf x x (defArgs st) (defBody st) (defScope st) .none kV doc pm an cdv ct) ⟨us, []⟩ = pure (ps.zip us)) : Fn P w K mg base CX x k ps sp := by
  obtain ⟨f, fd, F, hm⟩ := D
  exact ⟨f, fd, h F, hm, F.kp, F.binds hb⟩
theorem Fun.bind1 {x p : Str} {st : Stmt} {f : Addr} {fd : FuncData} (F : Fun K x x st f fd)
    (hb : ∀ (kV doc pm : Value) (an : Option Addr) (cdv ct : Value) (us : List Value), us.length = [p].length → bindArgs (PySem.W.fnOf x x (defArgs st) (defBody st) (defScope st) .none kV doc pm an cdv ct) ⟨us, []⟩ = pure ([p].zip us))
    (s : Shared) (u : Value) : BindsTo s fd ⟨[u], []⟩ [(p, u)] := by
  obtain ⟨oc, od, kV, doc, pm, an, cdv, ct, osl, rfl, lk, hcd⟩ := F.ex
  exact .of_eq (hb kV doc pm an cdv ct [u] rfl)
end
def sp1 (f : V → Hp → VK → XK → Prop) : Sp := fun vs H Q E => ∃ a, vs = [a] ∧ f a H Q E
def sp2 (f : V → V → Hp → VK → XK → Prop) : Sp := fun vs H Q E => ∃ a b, vs = [a, b] ∧ f a b H Q E
def sp3 (f : V → V → V → Hp → VK → XK → Prop) : Sp := fun vs H Q E => ∃ a b c, vs = [a, b, c] ∧ f a b c H Q E
theorem sp1_len {f} {vs : List V} {H Q E} (h : sp1 f vs H Q E) : vs.length = 1 := by obtain ⟨_, rfl, _⟩ := h; rfl
theorem sp2_len {f} {vs : List V} {H Q E} (h : sp2 f vs H Q E) : vs.length = 2 := by obtain ⟨_, _, rfl, _⟩ := h; rfl
theorem sp3_len {f} {vs : List V} {H Q E} (h : sp3 f vs H Q E) : vs.length = 3 := by obtain ⟨_, _, _, rfl, _⟩ := h; rfl
def isStar : Expr → Bool
  | .Starred _ _ => true
  | _ => false
theorem star_cons {e : Expr} {es : List Expr} {env : Env} (h : isStar e = false) : starEach (e :: es) env = (false, eval e env) :: starEach es env := by
  cases e <;> first | rfl | (cases h)
theorem star_any {pos : Pos} {env : Env} : ∀ {es : List Expr}, es.all (fun e => !isStar e) = true → (backTo pos (starEach es env)).any (·.1) = false
  | [], _ => rfl
  | e :: es, h => by
    rw [List.all_cons, Bool.and_eq_true] at h
    rw [star_cons (by simpa using h.1)]
    show (false || (backTo pos (starEach es env)).any (·.1)) = false
    rw [star_any h.2]; rfl
theorem star_few {pos : Pos} {env : Env} {e : Expr} (h : isStar e = false) : ((backTo pos (starEach [e] env)).all (fun x => !x.1) && (backToKw pos (keywordEach [] env)).all (fun x => x.1.isSome)
      && decide ([e].length + ([] : List Keyword).length + (if ([] : List Keyword).isEmpty then 0 else 1) < 30)) = true := by
  rw [star_cons h]
  rfl
section
variable {X : Cx} {CX : CXT} {k : Nat} {x : Str} {ps : List Str} {sp : Sp} {E : XK} {p pos : Pos} {e : Expr} {es : List Expr} {te : TE} {t : TA}
theorem pa_c (ha : PE X e te) (hr : PA X es t) (h : isStar e = false := by rfl) : PA X (e :: es) (tCons te t) := pa_cons ha hr (star_cons h)
theorem pe_fn (G : Fn X.prog X.w X.K X.mg X.base CX x k ps sp) (hr : Room k X.A) (hg : Gl X x) (hx : Passes CX X E) (ha : PA X (e :: es) t)
    (hdb : (x == ("__debug__" : Str)) = false := by decide) (he : isStar e = false := by rfl) (hpl : es.all (fun e => !isStar e) = true := by rfl) :
    PE X (.Call (.Name x p) (e :: es) [] pos) (tCall sp [] E t) := by
  obtain ⟨f, fd, F, hm, hk, hb⟩ := G
  exact pe_call F hr hg hm hk hb .nil hx ha hdb (star_cons he) (star_any hpl)
theorem pe_cB {id : String} {r : List V → Hp → VK → Prop} (hc : CallR X (.builtin id) r) (hg : Gl X x) (hm : X.mg x = none) (hv : bootBuiltins x = some (.builtin id)) (ha : PA X (e :: es) t) (hn : x ≠ "__name__" := by decide) (hdb : (x == ("__debug__" : Str)) = false := by decide)
    (he : isStar e = false := by rfl) (hpl : es.all (fun e => !isStar e) = true := by rfl) : PE X (.Call (.Name x p) (e :: es) [] pos) (tCB r t) := pe_callB hc hg hm hv ha hn hdb (star_cons he) (star_any hpl)
theorem pe_cTy {T : String} {r : List V → Hp → VK → Prop} (hc : CallR X (.type T) r) (hg : Gl X x) (hm : X.mg x = none) (hv : bootBuiltins x = some (.type T)) (ha : PA X (e :: es) t) (hn : x ≠ "__name__" := by decide) (hdb : (x == ("__debug__" : Str)) = false := by decide)
    (he : isStar e = false := by rfl) (hpl : es.all (fun e => !isStar e) = true := by rfl) : PE X (.Call (.Name x p) (e :: es) [] pos) (tCB r t) := pe_callTy hc hg hm hv ha hn hdb (star_cons he) (star_any hpl)
theorem pe_bm1 {o : Expr} {to : TE} {name : Str} {apos cpos : Pos} {T id : String} {r : V → List V → Hp → VK → Prop} (pa : PlainAttrs T) (slot : Slot T name id) (hty : typeOf (.builtin id) = pure (.type "method_descriptor")) (hm : MtR X id r) (ho : PE X o to) (ha : PA X [e] t)
    (he : isStar e = false := by rfl) (hbase : attributeBase o name X.env (eval o X.env) = eval o X.env := by rfl) (hline : (apos.endLine == cpos.line) = true := by rfl) : PE X (.Call (.Attribute o name apos) [e] [] cpos) (tBM X.K T r to t) :=
  pe_bm pa slot hty hm ho ha hbase (star_few he) hline (star_cons he) rfl
end
theorem bt_len : bootBuiltins "len" = some (.builtin "len") := by decide +kernel
theorem bt_sum : bootBuiltins "sum" = some (.builtin "sum") := by decide +kernel
theorem bt_all : bootBuiltins "all" = some (.builtin "all") := by decide +kernel
theorem bt_any : bootBuiltins "any" = some (.builtin "any") := by decide +kernel
theorem bt_min : bootBuiltins "min" = some (.builtin "min") := by decide +kernel
theorem bt_max : bootBuiltins "max" = some (.builtin "max") := by decide +kernel
theorem bt_isinstance : bootBuiltins "isinstance" = some (.builtin "isinstance") := by decide +kernel
theorem bt_tuple : bootBuiltins "tuple" = some (.type "tuple") := by decide +kernel
theorem bt_int : bootBuiltins "int" = some (.type "int") := by decide +kernel
theorem bt_bool : bootBuiltins "bool" = some (.type "bool") := by decide +kernel
theorem bt_str : bootBuiltins "str" = some (.type "str") := by decide +kernel
section
variable {X : Cx} {pos : Pos}
theorem pe_gint {x : Str} {i : Int} (h : ∃ t, X.mg x = some (.int i t)) (hg : Gl X x := by rfl) (hd : (x == ("__debug__" : Str)) = false := by decide) : PE X (.Name x pos) (tC (.int i)) := by
  obtain ⟨t, h⟩ := h
  exact pe_glob hg h ⟨t, rfl⟩ hd
theorem pe_gstr {x y : Str} (h : ∃ t, X.mg x = some (.str y t)) (hg : Gl X x := by rfl) (hd : (x == ("__debug__" : Str)) = false := by decide) : PE X (.Name x pos) (tC (.str y)) := by
  obtain ⟨t, h⟩ := h
  exact pe_glob hg h ⟨t, rfl⟩ hd
theorem pe_gty {x : Str} {T : String} (hm : X.mg x = none) (hv : bootBuiltins x = some (.type T)) (hg : Gl X x := by rfl) (hn : x ≠ "__name__" := by decide) (hd : (x == ("__debug__" : Str)) = false := by decide) : PE X (.Name x pos) (tC (.ty T)) :=
  pe_bltn hg hm hv rfl hn hd
theorem pe_powC {a b r : Int} {i j : Nat} {p q : Pos} (e : a ^ b.toNat = r) (h0 : 0 ≤ b) (h1 : b ≤ 1000000) (h2 : a.natAbs < 2 ^ 64) : PE X (.BinOp (.Constant (.int a) i p) .Pow (.Constant (.int b) j q) pos) (tC (.int r)) := by
  intro pins s σ H Q I h
  exact pe_op op_pow pe_int pe_int pins s σ H Q I ⟨a, b, rfl, rfl, ⟨h0, h1, h2⟩, by show Q (.int (a ^ b.toNat)) H; rw [e]; exact h⟩
def tTru (K : PySem.W.Frag) (t : TE) : TT := fun σ H Q => t σ H fun x H' => ∃ k, TruV K x H' k ∧ Q k H'
theorem pt_tru {a : Expr} {ta : TE} (ha : PE X a ta) (he : ∀ whole, isTrue a X.env whole = (do let v ← whole; standAt a.pos; holding [v] (truthy v))) : PT X a (tTru X.K ta) := pt_truth ha he
end
mutual
def Rep (H : Hp) : V → PyData → Prop
  | v, .none => v = .non
  | v, .bool b => v = .bl b
  | v, .int i => v = .int i
  | v, .str x => v = .str x
  | v, .list ds => ∃ a xs, v = .ref a ∧ H a = some (.lst xs) ∧ Reps H xs ds
  | v, .tuple ds => ∃ a xs, v = .ref a ∧ H a = some (.tup xs) ∧ Reps H xs ds
  | v, .dict kvs => kvs = [] ∧ ∃ a, v = .ref a ∧ H a = some (.dK [])
def Reps (H : Hp) : List V → List PyData → Prop
  | xs, [] => xs = []
  | xs, d :: ds => ∃ x r, xs = x :: r ∧ Rep H x d ∧ Reps H r ds
end
def Tu (H H' : Hp) : Prop := ∀ b xs, H b = some (.tup xs) → H' b = some (.tup xs)
theorem Same.tu {H H' : Hp} (e : Same H H') : Tu H H' := fun b xs h => e b _ h
theorem Tu.put {H : Hp} {p : Addr} {xs ys : List V} (h : H p = some (.lst xs)) : Tu H (upd H p (.lst ys)) := fun b zs e => by
  rw [upd_ne (fun z => by subst z; rw [h] at e; cases e)]; exact e
mutual
theorem Rep.mono {H H' : Hp} (e : Same H H') : ∀ (d : PyData) (v : V), Rep H v d → Rep H' v d
  | .none, v, h => by unfold Rep at h ⊢; exact h
  | .bool b, v, h => by unfold Rep at h ⊢; exact h
  | .int i, v, h => by unfold Rep at h ⊢; exact h
  | .str x, v, h => by unfold Rep at h ⊢; exact h
  | .list ds, v, h => by
    unfold Rep at h ⊢
    obtain ⟨a, xs, r, q, z⟩ := h
    exact ⟨a, xs, r, e _ _ q, Reps.mono e ds xs z⟩
  | .tuple ds, v, h => by
    unfold Rep at h ⊢
    obtain ⟨a, xs, r, q, z⟩ := h
    exact ⟨a, xs, r, e _ _ q, Reps.mono e ds xs z⟩
  | .dict _, v, h => by
    unfold Rep at h ⊢
    obtain ⟨z, a, r, q⟩ := h
    exact ⟨z, a, r, e _ _ q⟩
theorem Reps.mono {H H' : Hp} (e : Same H H') : ∀ (ds : List PyData) (xs : List V), Reps H xs ds → Reps H' xs ds
  | [], xs, h => by unfold Reps at h ⊢; exact h
  | d :: ds, xs, h => by
    unfold Reps at h ⊢
    obtain ⟨x, r, q, z, y⟩ := h
    exact ⟨x, r, q, Rep.mono e d x z, Reps.mono e ds r y⟩
end
mutual
theorem Rep.reads {X : Cx} {pins : List (Addr × Obj)} {σ : St} {H : Hp} {s : Shared} (I : Inv X pins σ H s) : ∀ (d : PyData) (v : V) (u : Value), d.canLay0 = true → Rep H v d → RelV v u → ∃ as, Reads s.heap u d as
  | .none, v, u, _, h, r => by unfold Rep at h; subst h; cases r; exact ⟨_, .none⟩
  | .bool b, v, u, _, h, r => by unfold Rep at h; subst h; cases r; exact ⟨_, .bool b⟩
  | .int i, v, u, _, h, r => by unfold Rep at h; subst h; obtain ⟨t, r⟩ := r; subst r; exact ⟨_, .int i t⟩
  | .str x, v, u, _, h, r => by unfold Rep at h; subst h; obtain ⟨t, r⟩ := r; subst r; exact ⟨_, .str x t⟩
  | .list ds, v, u, c, h, r => by
    unfold Rep at h
    obtain ⟨a, xs, e, q, z⟩ := h
    subst e
    cases r
    obtain ⟨its, rv, p, hz⟩ := I.list (SqL.of q)
    obtain ⟨as, ra⟩ := Reps.reads I ds xs its (by simpa only [PyData.canLay0] using c) z rv
    obtain ⟨o, e1, e2, n, e3⟩ := p.isList
    exact ⟨_, .list e1 e2 e3 ra⟩
  | .tuple ds, v, u, c, h, r => by
    unfold Rep at h
    obtain ⟨a, xs, e, q, z⟩ := h
    subst e
    cases r
    obtain ⟨its, rv, p, hz⟩ := I.tuple (SqT.of q)
    obtain ⟨as, ra⟩ := Reps.reads I ds xs its (by simpa only [PyData.canLay0] using c) z rv
    obtain ⟨o, e1, e2, n, e3⟩ := p
    exact ⟨_, .tuple e1 e2 e3 ra⟩
  | .dict _, v, u, c, h, r => by simp [PyData.canLay0] at c
theorem Reps.reads {X : Cx} {pins : List (Addr × Obj)} {σ : St} {H : Hp} {s : Shared} (I : Inv X pins σ H s) : ∀ (ds : List PyData) (xs : List V) (us : List Value), PyData.canLayAll0 ds = true → Reps H xs ds → Vals xs us → ∃ as, ReadsAll s.heap us ds as
  | [], xs, us, _, h, r => by unfold Reps at h; subst h; cases r; exact ⟨_, .nil⟩
  | d :: ds, xs, us, c, h, r => by
    unfold Reps at h
    obtain ⟨x, t, e, z, y⟩ := h
    subst e
    have c' : d.canLay0 = true ∧ PyData.canLayAll0 ds = true := by simpa [PyData.canLayAll0] using c
    cases r with
    | cons r1 r2 =>
      obtain ⟨as, ra⟩ := Rep.reads I d x _ c'.1 z r1
      obtain ⟨bs, rb⟩ := Reps.reads I ds t _ c'.2 y r2
      exact ⟨_, .cons ra rb⟩
end
theorem Reps.length {H : Hp} : ∀ {ds : List PyData} {xs : List V}, Reps H xs ds → xs.length = ds.length
  | [], _, h => by unfold Reps at h; rw [h]; rfl
  | _ :: _, _, h => by
    unfold Reps at h
    obtain ⟨x, r, rfl, _, y⟩ := h
    simp [Reps.length y]
theorem Reps.get {H : Hp} : ∀ {ds : List PyData} {xs : List V} {i : Nat} {x : V}, Reps H xs ds → xs[i]? = some x → ∃ d, ds[i]? = some d ∧ Rep H x d
  | [], _, _, _, h, e => by unfold Reps at h; subst h; simp at e
  | d :: ds, _, 0, x, h, e => by
    unfold Reps at h
    obtain ⟨y, r, rfl, q, _⟩ := h
    have : y = x := by simpa using e
    subst this
    exact ⟨d, rfl, q⟩
  | d :: ds, _, i + 1, x, h, e => by
    unfold Reps at h
    obtain ⟨y, r, rfl, _, q⟩ := h
    exact Reps.get (i := i) q (by simpa using e)
theorem Reps.ints {H : Hp} : ∀ (ns : List Int), Reps H (ns.map V.int) (ns.map PyData.int)
  | [] => by unfold Reps; rfl
  | n :: ns => by
    show Reps H (V.int n :: ns.map V.int) (PyData.int n :: ns.map PyData.int)
    unfold Reps
    exact ⟨_, _, rfl, by unfold Rep; rfl, Reps.ints ns⟩
def tyD : PyData → Value
  | .none => .type "NoneType"
  | .bool _ => .type "bool"
  | .int _ => .type "int"
  | .str _ => .type "str"
  | .list _ => .type "list"
  | .tuple _ => .type "tuple"
  | .dict _ => .type "dict"
theorem Rep.ty {K : PySem.W.Frag} {H : Hp} : ∀ {d : PyData} {v : V}, Rep H v d → TyOf K H v (tyD d)
  | .none, _, h => by unfold Rep at h; subst h; exact .non
  | .bool _, _, h => by unfold Rep at h; subst h; exact .bl _
  | .int _, _, h => by unfold Rep at h; subst h; exact .int _
  | .str _, _, h => by unfold Rep at h; subst h; exact .str _
  | .list _, _, h => by unfold Rep at h; obtain ⟨a, xs, rfl, q, _⟩ := h; exact .lst q
  | .tuple _, _, h => by unfold Rep at h; obtain ⟨a, xs, rfl, q, _⟩ := h; exact .tup q
  | .dict _, _, h => by unfold Rep at h; obtain ⟨_, a, rfl, q⟩ := h; exact .dK q
abbrev rDivU : R2 := rI CDivB fun i j => .int (i / j)
abbrev rModU : R2 := rI (fun _ j => 0 < j) fun i j => .int (i % j)
abbrev rLtU : R2 := rI0 fun i j => .bl (decide (i < j))
abbrev rLeU : R2 := rI0 fun i j => .bl (decide (i ≤ j))
abbrev rGtU : R2 := rI0 fun i j => .bl (decide (j < i))
def rCatN (K : PySem.W.Frag) : R2 := fun x y H Q => ∃ a b ys, x = .ref a ∧ y = .ref b ∧ SqT K H a [] ∧ SqT K H b ys ∧ Q (.ref b) H
abbrev rAddU (K : PySem.W.Frag) : R2 := fun x y H Q => rI0 (fun i j => .int (i + j)) x y H Q ∨ (fun x y H Q => rCatT K x y H Q ∨ (fun x y H Q => rCatN K x y H Q ∨ rCat x y H Q) x y H Q) x y H Q
abbrev rMulU (K : PySem.W.Frag) : R2 := fun x y H Q => rI IntMulOk (fun i j => .int (i * j)) x y H Q ∨ rRep x y H Q
def rEqD (K : PySem.W.Frag) : R2 := fun x y H Q => ∃ d e, Rep H x d ∧ Rep H y e ∧ d.canLay0 = true ∧ e.canLay0 = true ∧ min d.depth e.depth ≤ 64 ∧ Q (.bl (PyData.eqv d e)) H
def rNeD (K : PySem.W.Frag) : R2 := fun x y H Q => ∃ d e, Rep H x d ∧ Rep H y e ∧ d.canLay0 = true ∧ e.canLay0 = true ∧ min d.depth e.depth ≤ 64 ∧ Q (.bl (!PyData.eqv d e)) H
abbrev rEqU (K : PySem.W.Frag) : R2 := fun x y H Q => rEq x y H Q ∨ rEqD K x y H Q
abbrev rNeU (K : PySem.W.Frag) : R2 := fun x y H Q => rNe x y H Q ∨ rNeD K x y H Q
section
variable {X : Cx}
theorem op_divU : OpR X (binaryOp .FloorDiv) rDivU := op_fdivB
theorem op_modU : OpR X (binaryOp .Mod) rModU := op_mod
theorem op_catN : OpR X (binaryOp .Add) (rCatN X.K) := by
  intro pins s σ H x y v u Q I rx ry h
  obtain ⟨a, b, ys, rfl, rfl, ha, hb, q⟩ := h
  cases rx
  cases ry
  obtain ⟨its, r1, p1, _⟩ := I.tuple ha
  obtain ⟨its2, r2, p2, _⟩ := I.tuple hb
  cases r1
  obtain ⟨⟨cls, dd, data, sl⟩, ho, hc, n, hd⟩ := id p1
  obtain ⟨⟨cls2, dd2, data2, sl2⟩, ho2, hc2, n2, hd2⟩ := id p2
  simp only at hc hd hc2 hd2
  subst hc hd hc2 hd2
  exact concat_meets ⟨_, ho, rfl⟩ ⟨_, ho2, rfl⟩ noFill_tuple_add seq_tuple_add PySem.F.slot_tuple_add PySem.F.entry_tuple_add (PySem.F.args_tuple_add_2 _ _)
      (tuple_addW0 a b ([] : List Value).toArray its2.toArray n n2 dd dd2 sl sl2 (by simp)) ⟨ho, ho2, ⟨.ref b, H, I, rfl, q⟩⟩
theorem op_addU : OpR X (binaryOp .Add) (rAddU X.K) := op_add.or (op_catT.or (op_catN.or op_cat))
theorem op_mulU : OpR X (binaryOp .Mult) (rMulU X.K) := op_mulB.or op_rep
theorem op_eqD (hu : X.A.units + 64 < cLine) : OpR X (compareOp .Eq) (rEqD X.K) := by
  intro pins s σ H x y v u Q I rx ry h
  obtain ⟨d, e, h1, h2, c1, c2, hm, q⟩ := h
  obtain ⟨as, ra⟩ := Rep.reads I d x v c1 h1 rx
  obtain ⟨bs, rb⟩ := Rep.reads I e y u c2 h2 ry
  exact SeqAt.compareEq_reads ra rb c1 c2 (by omega) ⟨.bl _, H, I, rfl, q⟩
theorem op_neD (hu : X.A.units + 64 < cLine) : OpR X (compareOp .NotEq) (rNeD X.K) := by
  intro pins s σ H x y v u Q I rx ry h
  obtain ⟨d, e, h1, h2, c1, c2, hm, q⟩ := h
  obtain ⟨as, ra⟩ := Rep.reads I d x v c1 h1 rx
  obtain ⟨bs, rb⟩ := Rep.reads I e y u c2 h2 ry
  exact SeqAt.compareNe_reads ra rb c1 c2 (by omega) ⟨.bl _, H, I, rfl, q⟩
theorem op_eqU (hu : X.A.units + 64 < cLine) : OpR X (compareOp .Eq) (rEqU X.K) := op_eq.or (op_eqD hu)
theorem op_neU (hu : X.A.units + 64 < cLine) : OpR X (compareOp .NotEq) (rNeU X.K) := op_ne.or (op_neD hu)
def rIsinst (K : PySem.W.Frag) : List V → Hp → VK → Prop := fun xs H Q => ∃ x T t b, xs = [x, .ty T] ∧ TyOf K H x t ∧ PySem.W.kitOne K t (.type T) = some b ∧ Q (.bl b) H
theorem call_isinst : CallR X (.builtin "isinstance") (rIsinst X.K) := by
  intro pins s σ H xs us Q I r h
  obtain ⟨x, T, t, b, rfl, ty, e, q⟩ := h
  obtain ⟨u, w', rfl, rx, ry⟩ := vals2 r
  cases ry
  exact isinst_ok I rx ty e fun tk => ⟨.bl b, H, I.tok tk, rfl, q⟩
def rLenU (K : PySem.W.Frag) : List V → Hp → VK → Prop := fun xs H Q => ∃ x n, xs = [x] ∧ LenV K x H n ∧ Q (.int (n : Nat)) H
theorem call_lenU : CallR X (.builtin "len") (rLenU X.K) := call_len
def rSumU (K : PySem.W.Frag) : List V → Hp → VK → Prop := fun xs H Q => ∃ (p : Addr) (ns : List Int), xs = [.ref p] ∧ SqA K H p (ns.map V.int) ∧ Q (.int ns.sum) H
theorem call_sumU (hc : X.calm = true) : CallR X (.builtin "sum") (rSumU X.K) := call_sumL hc
def rAllU (K : PySem.W.Frag) : List V → Hp → VK → Prop := fun xs H Q => ∃ (p : Addr) (bs : List Bool), xs = [.ref p] ∧ SqA K H p (bs.map V.bl) ∧ Q (.bl (bs.all id)) H
theorem call_allU (hc : X.calm = true) : CallR X (.builtin "all") (rAllU X.K) := call_allL hc
def rAnyU (K : PySem.W.Frag) : List V → Hp → VK → Prop := fun xs H Q => ∃ (p : Addr) (bs : List Bool), xs = [.ref p] ∧ SqA K H p (bs.map V.bl) ∧ Q (.bl (bs.any id)) H
theorem call_anyU (hc : X.calm = true) : CallR X (.builtin "any") (rAnyU X.K) := call_anyL hc
def rTy_tuple (K : PySem.W.Frag) : List V → Hp → VK → Prop := fun xs H Q => ∃ p ys, xs = [.ref p] ∧ ((SqL K H p ys ∧ ∀ l, H l = none → Q (.ref l) (upd H l (.tup ys))) ∨ (SqT K H p ys ∧ Q (.ref p) H))
theorem call_ty_tuple : CallR X (.type "tuple") (rTy_tuple X.K) := call_tuple_of
def iSeq (K : PySem.W.Frag) (tl : TE) : TI := fun σ H R => tl σ H fun x H1 => ∃ a, x = .ref a ∧ (((∃ xs, SqL K H1 a xs) ∧ R (Itl K a) H1) ∨ ((∃ xs, SqT K H1 a xs) ∧ R (Itt K a) H1))
theorem pi_seq {tg l : Expr} {tl : TE} (hl : PE X l tl) : PI X tg l (iSeq X.K tl) := by
  intro pins s σ H R I h
  refine thn (hl pins s σ H _ I h) fun v s1 ⟨x, H1, I1, r1, q1⟩ => ?_
  obtain ⟨a, e, q⟩ := q1
  subst e
  cases r1
  rcases q with ⟨⟨xs, hq⟩, q⟩ | ⟨⟨xs, hq⟩, q⟩
  · obtain ⟨its, rv, p, hz⟩ := I1.list hq
    refine wpAny_pyIter_list p.isList ?_
    refine ⟨s1.heap.objs.size, [s1.heap.objs.size], _, _, H1, rfl, I1.kept (t' := s1.toks) fun b o e => Heap.get?_push_of_some _ e, turn_list a _, ⟨_, Heap.get?_push_size _ rfl, rfl, rfl⟩, fun b hb => ?_, q⟩
    have e : b = s1.heap.objs.size := by simpa using hb
    subst e
    exact I1.fpOk (Nat.le_refl _) (I1.hok.fresh (Nat.le_refl _))
  · obtain ⟨its, rv, p, hz⟩ := I1.tuple hq
    refine wpAny_pyIter_tuple (show s1.heap.IsTuple a its.toArray from p) ?_
    refine ⟨s1.heap.objs.size, [s1.heap.objs.size], _, _, H1, rfl, I1.kept (t' := s1.toks) fun b o e => Heap.get?_push_of_some _ e, turn_tuple a _, ⟨_, Heap.get?_push_size _ rfl, rfl, rfl⟩, fun b hb => ?_, q⟩
    have e : b = s1.heap.objs.size := by simpa using hb
    subst e
    exact I1.fpOk (Nat.le_refl _) (I1.hok.fresh (Nat.le_refl _))
end
theorem weight_mem : ∀ {xs : List PySem.W.WData} {x : PySem.W.WData}, x ∈ xs → x.weight ≤ PySem.W.WData.weightAll xs
  | [], _, h => by simp at h
  | y :: r, x, h => by
    unfold PySem.W.WData.weightAll
    rcases List.mem_cons.mp h with e | e
    · subst e; omega
    · have := weight_mem e
      omega
theorem bits_script {ns : List Int} (h : PySem.W.WData.layableAll [.list (ns.map .int)] = true) : ∀ n ∈ ns, Builtin.Int.intBits n ≤ 1048576 := by
  intro n hn
  have h1 : PySem.W.WData.layable (.list (ns.map .int)) = true := (PySem.W.layW_cons h).1
  unfold PySem.W.WData.layable at h1
  rw [Bool.and_eq_true, Bool.and_eq_true] at h1
  have h2 : PySem.W.WData.weight (.list (ns.map .int)) ≤ 2 ^ 20 := of_decide_eq_true h1.2
  have h3 : PySem.W.WData.weight (.list (ns.map .int)) = PySem.W.WData.weightAll (ns.map .int) := by simp only [PySem.W.WData.weight]
  have h4 := weight_mem (x := .int n) (List.mem_map.mpr ⟨n, hn, rfl⟩ : PySem.W.WData.int n ∈ ns.map .int)
  have h5 : PySem.W.WData.weight (.int n) = Builtin.Int.intBits n := by simp only [PySem.W.WData.weight, Builtin.Int.intBits]
  have e : (2 : Nat) ^ 20 = 1048576 := by decide
  omega
end L2
set_option Elab.async false
set_option linter.all false
set_option maxRecDepth 100000
set_option maxHeartbeats 4000000
namespace L2
open PySem PySem.Spec PyProof.Rows
section
variable {K : PySem.W.Frag} {σ : St} {H : Hp} {Q : VK} {D : Ends} {t u : TS} {te ta tb tc : TE} {g : TG} {R : Bool → Hp → Prop} {c d : TT} {v x y : V} {i j : Int} {p : Addr} {xs : List V} {ns : List Int}
theorem w_seq (h : t { D with nx := u D } σ H) : tSeq t u D σ H := h
theorem w_asg (h : te σ H fun x H1 => g x σ H1 D.nx) : tAsg te g D σ H := h
theorem w_name {n : Nat} {R : St → Hp → Prop} (h : R (σ.set n (some v)) H) : gName n v σ H R := h
theorem w_ret (h : te σ H D.rt) : tRet te D σ H := h
theorem w_drop (h : te σ H fun _ H1 => D.nx σ H1) : tDrop te D σ H := h
theorem w_ifS (h : c σ H fun b H1 => if b = true then t D σ H1 else u D σ H1) : tIfS c t u D σ H := h
theorem w_next (h : D.nx σ H) : tNext D σ H := h
theorem w_var {n : Nat} (e : σ[n]? = some (some v)) (h : Q v H) : tVar n σ H Q := ⟨v, e, h⟩
theorem w_c (h : Q v H) : tC v σ H Q := h
theorem w_op {r : R2} (h : ta σ H fun x H1 => tb σ H1 fun y H2 => r x y H2 Q) : tOp r ta tb σ H Q := h
theorem w_test (h : te σ H fun x H' => ∃ k, x = .bl k ∧ R k H') : tTest te σ H R := h
theorem w_bl {k : Bool} {R : Bool → Prop} (h : R k) : ∃ k', V.bl k = .bl k' ∧ R k' := ⟨k, rfl, h⟩
theorem w_tru (h : te σ H fun x H' => ∃ k, TruV K x H' k ∧ R k H') : tTru K te σ H R := h
theorem w_trub {b : Bool} {R : Bool → Prop} (h : R b) : ∃ k, TruV K (.bl b) H k ∧ R k := ⟨b, rfl, h⟩
theorem w_or (h : c σ H fun b H1 => if b = true then R true H1 else d σ H1 R) : tOr c d σ H R := h
theorem w_not (h : c σ H fun b H1 => R (!b) H1) : tNot c σ H R := h
theorem w_andV (h : ta σ H fun x H1 => ∃ c, x = .bl c ∧ if c = true then tb σ H1 Q else Q (.bl false) H1) : tAndV ta tb σ H Q := h
theorem w_orV (h : ta σ H fun x H1 => ∃ c, x = .bl c ∧ if c = true then Q (.bl true) H1 else tb σ H1 Q) : tOrV ta tb σ H Q := h
theorem w_notV (h : ta σ H fun x H1 => ∃ c, x = .bl c ∧ Q (.bl (!c)) H1) : tNotV ta σ H Q := h
theorem w_chain {r r' : R2} (h : ta σ H fun x H1 => tb σ H1 fun y H2 => r x y H2 fun z H3 => ∃ k, z = .bl k ∧ if k = true then tc σ H3 fun w H4 => r' y w H4 Q else Q (.bl false) H3) : tChain r r' ta tb tc σ H Q := h
theorem w_cb {r : List V → Hp → VK → Prop} {t : TA} (h : t σ H fun vs H1 => r vs H1 Q) : tCB r t σ H Q := h
theorem w_yes (h : R true H) : tYes σ H R := h
theorem w_nil {R : List V → Hp → Prop} (h : R [] H) : tNil σ H R := h
theorem w_cons {t : TA} {R : List V → Hp → Prop} (h : ta σ H fun x H1 => t σ H1 fun xs H2 => R (x :: xs) H2) : tCons ta t σ H R := h
theorem w_call {sp : Sp} {E : XK} {t : TA} (h : t σ H fun vs H1 => sp vs H1 Q E) : tCall sp [] E t σ H Q := by
  show t σ H fun vs H1 => sp (vs ++ []) H1 Q E
  simpa only [List.append_nil] using h
theorem w_tup {t : TA} (h : t σ H fun xs H1 => xs.length ≤ sizeLine ∧ ∀ p, H1 p = none → Q (.ref p) (upd H1 p (.tup xs))) : tTup t σ H Q := h
theorem w_lst {t : TA} (h : t σ H fun xs H1 => xs.length ≤ sizeLine ∧ ∀ p, H1 p = none → Q (.ref p) (upd H1 p (.lst xs))) : tLst t σ H Q := h
theorem w_par {a b : Nat} {t : TA} (h : t σ H fun vs H1 => ∃ v w, vs = [v, w] ∧ D.nx ((σ.set a (some v)).set b (some w)) H1) : tPar a b t D σ H := h
theorem w_sub {to ti : TE} {t : TSet} {R : St → Hp → Prop} (h : to σ H fun o H1 => ti σ H1 fun i H2 => t o i v H2 fun H3 => R σ H3) : gSub to ti t v σ H R := h
theorem w_gnil {R : St → Hp → Prop} (h : R σ H) : gNil [] σ H R := ⟨rfl, h⟩
theorem w_gcons {t : TG} {u : TGs} {R : St → Hp → Prop} (h : t v σ H fun σ' H' => u xs σ' H' R) : gCons t u (v :: xs) σ H R := ⟨v, xs, rfl, h⟩
theorem w_gtup {n : Nat} {t : TGs} {R : St → Hp → Prop} (e : SqT K H p xs) (hn : xs.length = n) (h : t xs σ H R) : gTup K n t (.ref p) σ H R := ⟨p, xs, rfl, e, hn, h⟩
theorem w_bm {T : String} {r : V → List V → Hp → VK → Prop} {to : TE} {t : TA} (h : to σ H fun x H1 => tyV K T x H1 ∧ t σ H1 fun xs H2 => r x xs H2 Q) : tBM K T r to t σ H Q := h
theorem w_addI (h : Q (.int (i + j)) H) : rAddU K (.int i) (.int j) H Q := .inl ⟨i, j, rfl, rfl, h⟩
theorem w_mulI (hc : IntMulOk i j) (h : Q (.int (i * j)) H) : rMulU K (.int i) (.int j) H Q := .inl ⟨i, j, rfl, rfl, hc, h⟩
theorem w_divI (h0 : 0 < j) (h1 : j ≤ 100000000000000000000000000000000000000000000000000000000000000000000000000000000000000000000000000000000000000) (h : Q (.int (i / j)) H) : rDivU (.int i) (.int j) H Q :=
  ⟨i, j, rfl, rfl, CDivB.of h0 (Int.lt_of_le_of_lt h1 (by decide +kernel)), h⟩
theorem w_modI (h0 : 0 < j) (h : Q (.int (i % j)) H) : rModU (.int i) (.int j) H Q := ⟨i, j, rfl, rfl, h0, h⟩
theorem w_ltI (h : Q (.bl (decide (i < j))) H) : rLtU (.int i) (.int j) H Q := ⟨i, j, rfl, rfl, h⟩
theorem w_leI (h : Q (.bl (decide (i ≤ j))) H) : rLeU (.int i) (.int j) H Q := ⟨i, j, rfl, rfl, h⟩
theorem w_gtI (h : Q (.bl (decide (j < i))) H) : rGtU (.int i) (.int j) H Q := ⟨i, j, rfl, rfl, h⟩
theorem decV_int : decide (V.int i = V.int j) = decide (i = j) := by
  by_cases e : i = j
  · subst e; simp
  · rw [decide_eq_false e, decide_eq_false (fun q => e (V.int.inj q))]
theorem w_eqI (h : Q (.bl (decide (i = j))) H) : rEqU K (.int i) (.int j) H Q := .inl ⟨rfl, by rw [decV_int]; exact h⟩
theorem w_neI (h : Q (.bl (!decide (i = j))) H) : rNeU K (.int i) (.int j) H Q := .inl ⟨rfl, by rw [decV_int]; exact h⟩
theorem w_ixL (h : SqL K H p xs) (e : atI xs i = some v) (q : Q v H) : rIx K (.ref p) (.int i) H Q := .inl ⟨p, xs, i, v, rfl, rfl, h, e, q⟩
theorem w_ixT (h : SqT K H p xs) (e : atI xs i = some v) (q : Q v H) : rIx K (.ref p) (.int i) H Q := .inr (.inl ⟨p, xs, i, v, rfl, rfl, h, e, q⟩)
theorem w_lenL (h : SqL K H p xs) (q : Q (.int xs.length) H) : rLenU K [.ref p] H Q := ⟨.ref p, xs.length, rfl, .inl ⟨xs, h, rfl⟩, q⟩
theorem w_lenT (h : SqT K H p xs) (q : Q (.int xs.length) H) : rLenU K [.ref p] H Q := ⟨.ref p, xs.length, rfl, .inr ⟨xs, h, rfl⟩, q⟩
theorem w_tupL (h : SqL K H p xs) (q : ∀ l, H l = none → Q (.ref l) (upd H l (.tup xs))) : rTy_tuple K [.ref p] H Q := ⟨p, xs, rfl, .inl ⟨h, q⟩⟩
theorem w_sumA (h : SqA K H p (ns.map V.int)) (q : Q (.int ns.sum) H) : rSumU K [.ref p] H Q := ⟨p, ns, rfl, h, q⟩
theorem w_allA {bs : List Bool} (h : SqA K H p (bs.map V.bl)) (q : Q (.bl (bs.all id)) H) : rAllU K [.ref p] H Q := ⟨p, bs, rfl, h, q⟩
theorem w_anyA {bs : List Bool} (h : SqA K H p (bs.map V.bl)) (q : Q (.bl (bs.any id)) H) : rAnyU K [.ref p] H Q := ⟨p, bs, rfl, h, q⟩
theorem w_append {R : VK} (h : H p = some (.lst xs)) (hz : xs.length < sizeLine) (q : R .non (upd H p (.lst (xs ++ [v])))) : rAppend (.ref p) [v] H R := ⟨p, xs, v, rfl, rfl, h, hz, q⟩
theorem w_setL {k : Nat} {R : Hp → Prop} (h : H p = some (.lst xs)) (e : ixN xs.length i = some k) (q : R (upd H p (.lst (xs.set k v)))) : rSetL (.ref p) (.int i) v H R := ⟨p, xs, i, k, rfl, rfl, h, e, q⟩
theorem tyV_lst (h : H p = some (.lst xs)) : tyV K "list" (.ref p) H := .inl ⟨rfl, _, SqL.of h⟩
theorem iteD {c A B : Prop} [Decidable c] (h1 : c → A) (h2 : ¬ c → B) : if decide c = true then A else B := by
  by_cases h : c
  · rw [if_pos (decide_eq_true h)]; exact h1 h
  · rw [if_neg (by rw [decide_eq_false h]; decide)]; exact h2 h
theorem iteN {c A B : Prop} [Decidable c] (h1 : ¬ c → A) (h2 : c → B) : if (!decide c) = true then A else B := by
  by_cases h : c
  · rw [if_neg (by rw [decide_eq_true h]; decide)]; exact h2 h
  · rw [if_pos (by rw [decide_eq_false h]; rfl)]; exact h1 h
theorem iteB {b : Bool} {A B : Prop} (h1 : b = true → A) (h2 : b = false → B) : if b = true then A else B := by
  cases b
  · exact iteF (h2 rfl)
  · exact iteT (h1 rfl)
theorem iteDT {c A B : Prop} [Decidable c] (h : c) (h1 : A) : if decide c = true then A else B := iteD (fun _ => h1) fun z => absurd h z
theorem iteNF {c A B : Prop} [Decidable c] (h : c) (h1 : B) : if (!decide c) = true then A else B := iteN (fun z => absurd h z) fun _ => h1
theorem atI_at {α : Type} {xs : List α} {i : Int} {v : α} (h0 : 0 ≤ i) (h : xs[i.toNat]? = some v) : atI xs i = some v := by
  have e : ((i.toNat : Nat) : Int) = i := Int.toNat_of_nonneg h0
  rw [← e]; exact atI_nat h
theorem get_ints {ns : List Int} {k : Nat} (h : k < ns.length) : (ns.map V.int)[k]? = some (.int (ns.getD k 0)) := by
  rw [List.getElem?_map, List.getD, List.getElem?_eq_getElem h]; rfl
theorem atI_ints {ns : List Int} (h0 : 0 ≤ i) (h1 : i < ns.length) : atI (ns.map V.int) i = some (.int (ns.getD i.toNat 0)) := atI_at h0 (get_ints (by omega))
theorem ixN_at {n : Nat} (h0 : 0 ≤ i) (h1 : i < n) : ixN n i = some i.toNat := by unfold ixN; rw [if_pos h0, if_pos h1]
theorem mulok_l (h1 : -18446744073709551616 < i) (h2 : i < 18446744073709551616) : IntMulOk i j := IntMulOk.of_left (intBits_le_64 h1 h2)
theorem mulok_r (h1 : -18446744073709551616 < j) (h2 : j < 18446744073709551616) : IntMulOk i j := IntMulOk.of_right (intBits_le_64 h1 h2)
theorem bits_1000 (h1 : -1000000000000000000000000000000000000000000000000000000000000000000000000000000000000000000000000000000000000000000000000000000000000000000000000000000000000000000000000000000000000 < i)
    (h2 : i < 1000000000000000000000000000000000000000000000000000000000000000000000000000000000000000000000000000000000000000000000000000000000000000000000000000000000000000000000000000000000000) : Builtin.Int.intBits i ≤ 1000 := by
  have e : (1000000000000000000000000000000000000000000000000000000000000000000000000000000000000000000000000000000000000000000000000000000000000000000000000000000000000000000000000000000000000 : Int) ≤ 2 ^ 1000 := by decide +kernel
  exact bits_of (by omega) (by omega)
theorem mulok_big (h1 : -1000000000000000000000000000000000000000000000000000000000000000000000000000000000000000000000000000000000000000000000000000000000000000000000000000000000000000000000000000000000000 < i)
    (h2 : i < 1000000000000000000000000000000000000000000000000000000000000000000000000000000000000000000000000000000000000000000000000000000000000000000000000000000000000000000000000000000000000)
    (h3 : -1000000000000000000000000000000000000000000000000000000000000000000000000000000000000000000000000000000000000000000000000000000000000000000000000000000000000000000000000000000000000 < j)
    (h4 : j < 1000000000000000000000000000000000000000000000000000000000000000000000000000000000000000000000000000000000000000000000000000000000000000000000000000000000000000000000000000000000000) : IntMulOk i j :=
  IntMulOk.of_le (bits_1000 h1 h2) (bits_1000 h3 h4) (by decide)
theorem Same.laid {o : HO} (h : H p = none) : Same H (upd H p o) := fun b u e => by
  rw [upd_ne (ne_of_none e h)]; exact e
theorem Same.laidT {H0 : Hp} {o : HO} (s : Same H0 H) (h : H p = none) : Same H0 (upd H p o) := s.trans (Same.laid h)
theorem Same.put {H0 : Hp} {o : HO} (s : Same H0 H) (h : H0 p = none) : Same H0 (upd H p o) := fun b u e => by
  rw [upd_ne (ne_of_none e h)]; exact s b u e
theorem w_for {wi : TI} {tb : TS} (h : wi σ H fun J H1 => ∃ W : Nat → Nat → St → Hp → Prop, (∃ m, W 0 m σ H1) ∧ ∀ i m σ H, W i m σ H →
    (J.stop i H ∧ D.nx σ H) ∨ (J.go i H ∧ ∃ N : St → Hp → Prop, (∀ σ' H', N σ' H' → ∃ m', m' < m ∧ W (i + 1) m' σ' H') ∧ ∀ x H', J.yld i H x H' → g x σ H' fun σ2 H2 => tb { D with nx := N, ct := N, bk := D.nx } σ2 H2)) : tFor wi g tb D σ H := h
theorem w_rng1 {ta : TA} {R : It → Hp → Prop} (h : ta σ H fun vs H1 => ∃ j : Int, vs = [.int j] ∧ -(2 ^ 62) ≤ j ∧ j < 2 ^ 62 ∧ R (Itr 0 j.toNat) H1) : iRng1 ta σ H R := h
theorem rng_ok {n : Nat} (h : n ≤ 1000) : -(2 ^ 62) ≤ (n : Int) ∧ (n : Int) < 2 ^ 62 := by omega
theorem w_seq0 {tl : TE} {R : It → Hp → Prop} (h : tl σ H fun x H1 => ∃ a, x = .ref a ∧ (((∃ xs, SqL K H1 a xs) ∧ R (Itl K a) H1) ∨ ((∃ xs, SqT K H1 a xs) ∧ R (Itt K a) H1))) : iSeq K tl σ H R := h
theorem w_comp {l : List (Option Nat)} {wi : TI} (h : wi σ H fun J H1 => ∀ D, H1 D = none → ∃ W : CompW, (∃ m, W 0 m [] (iniOf l σ) (upd H1 D (.lst []))) ∧ compStep J g c te D W fun H' => Q (.ref D) H') : tComp l wi g c te σ H Q := h
end
theorem for_range0 {n : Nat} {g : TG} {tb : TS} {D : Ends} {σ : St} {H : Hp} (Pv : Nat → St → Hp → Prop) (h0 : Pv 0 σ H)
    (hs : ∀ i σ H, i < n → Pv i σ H → g (.int (i : Nat)) σ H fun σ2 H2 => tb { D with nx := Pv (i + 1), ct := Pv (i + 1), bk := D.nx } σ2 H2) (hd : ∀ σ H, Pv n σ H → D.nx σ H) :
    ∃ W : Nat → Nat → St → Hp → Prop, (∃ m, W 0 m σ H) ∧ ∀ i m σ H, W i m σ H →
      ((Itr 0 n).stop i H ∧ D.nx σ H) ∨ ((Itr 0 n).go i H ∧ ∃ N : St → Hp → Prop, (∀ σ' H', N σ' H' → ∃ m', m' < m ∧ W (i + 1) m' σ' H') ∧ ∀ x H', (Itr 0 n).yld i H x H' → g x σ H' fun σ2 H2 => tb { D with nx := N, ct := N, bk := D.nx } σ2 H2) :=
  for_range Pv h0 (fun i σ H hi p => by rw [Int.zero_add]; exact hs i σ H hi p) hd
theorem getD_in {ns : List Int} {i : Nat} (h : i < ns.length) : ns.getD i 0 ∈ ns := getD_mem h
section
variable {l : List (Option Nat)} {te : TE} {σ σr : St} {H1 : Hp} {Q : Hp → Prop}
theorem comp_seqP {K : PySem.W.Frag} {J : It} {a : Addr} {xs : List V} (hJ : (J = Itt K a ∧ H1 a = some (.tup xs)) ∨ (J = Itl K a ∧ H1 a = some (.lst xs))) (D : Addr) (P : Nat → V → Hp → Prop) (hP : ∀ i v H H', Tu H H' → P i v H → P i v H') (hn : xs.length ≤ 1000) (hD : H1 D = none) (hini : ∃ r0, iniOf l σ = r0 :: σr)
    (hs : ∀ i x H (R : VK), xs[i]? = some x → Same H1 H → (∀ v H4, Same H H4 → P i v H4 → R v H4) → te (some x :: σr) H R)
    (hd : ∀ ys H, ys.length = xs.length → (∀ i v, ys[i]? = some v → P i v H) → Same H1 H → H D = some (.lst ys) → Q H) :
    ∃ W : CompW, (∃ m, W 0 m [] (iniOf l σ) (upd H1 D (.lst []))) ∧ compStep J (gName 0) tYes te D W Q := by
  obtain ⟨r0, hini⟩ := hini
  refine comp_seq D xs (fun i ys σ2 H => ys.length = i ∧ (∀ j v, ys[j]? = some v → P j v H) ∧ Same H1 H ∧ ∃ r0, σ2 = r0 :: σr) hn (fun i ys σ H h => Nat.le_of_eq h.1) ?_ ⟨rfl, fun j v e => by simp at e, Same.laid hD, r0, hini⟩ ?_ ?_
  · rintro i ys σ2 H ⟨_, _, hs1, _⟩ _
    rcases hJ with ⟨rfl, e⟩ | ⟨rfl, e⟩
    · exact itt_of (SqT.of (hs1 _ _ e)) i
    · exact itl_of (SqL.of (hs1 _ _ e)) i
  · rintro i x ys σ2 H hi ⟨hl, hp, hs1, r1, rfl⟩ hH
    refine w_name (w_yes (iteT ?_))
    refine hs i x H _ hi hs1 fun v H4 h4 hv => ?_
    have hD4 : H4 D = some (.lst ys) := h4 _ _ hH
    refine ⟨hD4, by simp [hl], fun j u e => ?_, (hs1.trans h4).put hD, some x, rfl⟩
    by_cases hj : j < ys.length
    · rw [List.getElem?_append_left hj] at e
      exact hP _ _ _ _ (Tu.put hD4) (hP _ _ _ _ h4.tu (hp j u e))
    · rw [List.getElem?_append_right (by omega)] at e
      have hj2 : j - ys.length = 0 := by
        by_cases z : j - ys.length = 0
        · exact z
        · rw [List.getElem?_eq_none (by simp; omega)] at e; cases e
      rw [hj2] at e
      have e' : v = u := by simpa using e
      have ej : j = i := by omega
      rw [← e', ej]
      exact hP _ _ _ _ (Tu.put hD4) hv
  · rintro ys σ2 H ⟨hl, hp, hs1, _⟩ hH
    exact hd ys H hl hp hs1 hH
theorem all_map {α : Type} {f : α → V} : ∀ {ys : List V} {P : Nat → α → Prop}, (∀ (i : Nat) v, ys[i]? = some v → ∃ x, v = f x ∧ P i x) → ∃ rs : List α, ys = rs.map f ∧ ∀ (i : Nat) x, rs[i]? = some x → ∃ y, f y = f x ∧ P i y
  | [], P, _ => ⟨[], rfl, fun i x e => by simp at e⟩
  | y :: ys, P, h => by
    obtain ⟨x, hx, px⟩ := h 0 y rfl
    obtain ⟨rs, e, hr⟩ := all_map (ys := ys) (P := fun i => P (i + 1)) (fun i v hv => h (i + 1) v (by simpa using hv))
    refine ⟨x :: rs, by rw [e, hx]; rfl, fun i z hz => ?_⟩
    cases i with
    | zero =>
      have : x = z := by simpa using hz
      subst this
      exact ⟨x, rfl, px⟩
    | succ i => exact hr i z (by simpa using hz)
theorem all_bls {ys : List V} {P : Nat → Bool → Prop} (h : ∀ (i : Nat) v, ys[i]? = some v → ∃ x, v = .bl x ∧ P i x) : ∃ rs : List Bool, ys = rs.map V.bl ∧ ∀ (i : Nat) x, rs[i]? = some x → P i x := by
  obtain ⟨rs, e, hr⟩ := all_map h
  exact ⟨rs, e, fun i x hx => by obtain ⟨y, ey, p⟩ := hr i x hx; cases ey; exact p⟩
end
end L2
set_option Elab.async false
set_option linter.all false
set_option maxRecDepth 100000
set_option maxHeartbeats 4000000
namespace L2
open PySem PySem.W PySem.Calls PyProof.Rows
theorem attach_bits {l : OpenLaw} {n : Nat} {q : Program} {loose : List Str} {XP : (Str → Option Value) → Heap → Prop} {YP : World → Heap → Prop} {d : DefRec}
    (hn : l.most = some n) (hdf : d.params.defaults = [])
    (call : ∀ (w : World) (s₀ s₁ : Shared) (mg mb : Str → Option Value) (fa : Addr) (a : Addr) (vs : List Value) (ns : List Int),
      Ground q loose [] XP w s₀ mg mb s₁.heap → YP w s₁.heap → mg d.name = some (.ref fa) →
      s₁.heap.get? a = some { cls := .type "list", data := .seq vs.toArray } → IntsAre vs ns → ns.length ≤ n → (∀ i ∈ ns, Builtin.Int.intBits i ≤ 1048576) → s₁.gens = #[] →
      codeAny (model l.prog w) callerA (.call (.ref fa) ⟨[.ref a], []⟩) (fun r s' => r = .ok (.ret (.bool true)) ∧ OldK s₁.heap s'.heap ∧ s'.os = s₁.os ∧ AllBare s'.gens) s₁) :
    WalkO q loose XP YP l.row.toRowW d [] (fun f vs => PySem.call f vs) := by
  intro w s₀ s₁ mg mb G Y fa o pm cd doc dV kV ho hd hcd hD hmg hg args vals as hpre hlay hrd hwl hlo
  obtain ⟨a, vs, ns, rfl, rfl, hobj, hints, hlen⟩ := Att.script_of hn hpre hwl
  refine enter_call (codeAny_mono (call w s₀ s₁ mg mb fa a vs ns G Y hmg hobj hints hlen (bits_script hlay) hg) fun r s' hq => ?_)
  obtain ⟨rfl, h2, h3, h4⟩ := hq
  exact ⟨.inl ⟨.bool true, .bool true, [], rfl, fun _ => rfl, .bool true, Att.post_true l _, fun _ => ⟨List.Pairwise.nil, fun _ hm => (nomatch hm)⟩⟩, h2, h3, h4⟩
def sb_top (K : PySem.W.Frag) (a : V) (H : Hp) (Q : VK) (E : XK) : Prop := ∃ (l : Addr) (ns : List Int), a = .ref l ∧ SqL K H l (ns.map V.int) ∧ (∀ n ∈ ns, Builtin.Int.intBits n ≤ 1048576) ∧ ns.length ≤ 63 ∧ ∀ H', Q (.bl true) H'
theorem walk_fn {l : OpenLaw} {q : Program} {loose : List Str} {XP : (Str → Option Value) → Heap → Prop} {YP : World → Heap → Prop} {d : DefRec} {K : Params → Frag} {x : Str} (k : Nat)
    (hn : l.most = some 63) (hdf : d.params.defaults = []) (hk : k ≤ 40)
    (hY : ∀ (w : World) (h : Heap), YP w h → (K w.params).In h)
    (F : ∀ (w : World) (mg : Str → Option Value) (h : Heap), (K w.params).In h → h.Ns mainGlobals mg → ∃ f fd, mg d.name = some (.ref f) ∧ (∀ (s : Shared) (u : Value), BindsTo s fd ⟨[u], []⟩ [(x, u)]) ∧
      ∀ base : Heap, (K w.params).In base → base.Ns mainGlobals mg → FnOk l.prog w (K w.params) mg base CX0 k f fd [x] (sp1 (sb_top (K w.params)))) :
    WalkO q loose XP YP l.row.toRowW d [] (fun f vs => PySem.call f vs) := by
  refine attach_bits hn hdf fun w s₀ s₁ mg mb fa a vs ns G Y hmg hobj hints hlen hbits hg => ?_
  have KX := hY w _ Y
  obtain ⟨f, fd, hf, hb, hF⟩ := F w mg _ KX G.T.g
  rw [hmg] at hf
  cases hf
  have hr : Room 40 callerA := ⟨rfl, by decide, by decide⟩
  exact law_call KX G.T.g G.T.b G.T.builtins G.T.nolimit hg hobj hints (Nat.le_trans hlen (by decide)) (hr.mono hk) hF hb
    (fun H hO hS => ⟨_, rfl, a, ns, rfl, hS, hbits, hlen, fun _ => rfl⟩) fun H e s' h => h
end L2
set_option Elab.async false
set_option linter.all false
set_option maxRecDepth 100000
set_option maxHeartbeats 4000000
namespace L2
open PySem PySem.Spec PyProof.Rows
section
variable {P : Program} {w : World} {base : Heap} {outer : List Env} {H H' : Hp} {s s' : Shared} {e : Addr} {cls : Value} {B : Heap} {a0 : Value}
end
section
variable {X : Cx} {pins : List (Addr × Obj)} {σ : St} {H : Hp} {s : Shared}
end
section
variable {P : Program} {w : World} {K : PySem.W.Frag} {mg : Str → Option Value} {base : Heap} {N : List Str} {qual : Str} {scope : Scope} {f : Addr} {cd : Value} {A : Around} {outer : List Env} {s : Shared} {H : Hp} {E : XK}
end
end L2
set_option Elab.async false
set_option linter.all false
set_option maxRecDepth 100000
set_option maxHeartbeats 4000000
namespace L2
open PySem PySem.Spec PyProof.Rows
section
variable {X : Cx} {x : Str} {C : Addr} {E : XK} {e : Expr} {es : List Expr} {t : TA} {np cpos pos : Pos}
end
abbrev Cx.suite (X : Cx) (e : Addr) : Cx := { X with A := X.A.mark (some (.ref e)), calm := false, xe := fun _ _ => False }
theorem Inv.track {X : Cx} {pins : List (Addr × Obj)} {σ : St} {H : Hp} {s : Shared} {e : Addr} {u : HO} (I : Inv X pins σ H s) (hn : H e = none) (hnew : ∀ b o, X.s₀.heap.get? b = some o → X.H₀ b = none → b ∉ X.ex → b ≠ e) (hL : X.env.locals ≠ e)
    (hc : ∀ x c, X.env.cells.lookup x = some c → c ≠ e) (hp : ∀ p ∈ X.pn ++ pins, p.1 ≠ e) (new : ObjOk X.prog X.w (upd H e u) s.heap e u) : Inv X pins σ (upd H e u) s := by
  have ne : ∀ {b : Addr} {o : HO}, H b = some o → b ≠ e := fun q => ne_of_none q hn
  refine ⟨I.ok, I.os, I.bare, ⟨I.base.keep, I.base.slot, fun b o q n hx => ?_, I.base.there, fun b xs q => ?_, fun b o v q => ?_, fun b ps q => ?_⟩, I.loc, I.cell, ?_, fun x c q => ?_, fun p q => ?_, fun b v q => ?_, I.len⟩
  · rw [upd_ne (hnew b o q n hx)]; exact I.base.free b o q n hx
  · have z := I.base.tups b xs q
    rw [upd_ne (ne z)]; exact z
  · have z := I.base.frzs b o v q
    rw [upd_ne (ne z)]; exact z
  · obtain ⟨m, z⟩ := I.base.tbls b ps q
    exact ⟨m, by rw [upd_ne (ne z)]; exact z⟩
  · rw [upd_ne hL]; exact I.free
  · rw [upd_ne (hc x c q)]; exact I.freeC x c q
  · obtain ⟨a, b, c⟩ := I.pin p q
    exact ⟨a, by rw [upd_ne (hp p q)]; exact b, c⟩
  · by_cases hb : b = e
    · subst hb
      rw [upd_same] at q
      cases q
      exact new
    · rw [upd_ne hb] at q
      exact (I.hok b v q).stay (fun _ _ _ r => r) (fun c z => by rw [upd_ne (ne z)]; exact z) fun c xs z => by rw [upd_ne (ne z)]; exact z
section
variable {X : Cx} {pins : List (Addr × Obj)} {σ : St} {H1 H2 : Hp} {s1 s' : Shared} {e C : Addr} {B : Heap} {a0 : Value}
end
section
variable {X : Cx} {k : Nat} {g x n : Str} {ps : List Str} {sp : Sp} {p np cpos epos hpos pos : Pos} {e : Expr} {es : List Expr} {t : TA} {ts : TS} {D : Addr} {b₀ : Stmt} {suite : List Stmt} {i : Nat}
end
end L2
set_option Elab.async false
set_option linter.all false
set_option maxRecDepth 100000
set_option maxHeartbeats 4000000
namespace L2
open PySem PySem.Spec PyProof.Rows
section
variable {prog : Program} {w : World} {A : Around} {E : Value → Shared → Prop} {s : Shared}
theorem nextT_item {it t : Addr} {i : Nat} {items : Array Value} {x : Value} {Q : Value → Shared → Prop} (hit : s.heap.IsTupleIter it t i) (ht : s.heap.IsTuple t items) (hx : items[i]? = some x)
    (hQ : ∀ h', h'.IsTupleIter it t (i + 1) → Heap.SameBut it s.heap h' → Q x { s with heap := h' }) : wpAny (model prog w) A (Builtin.SmallTypes.nextOf (.ref it)) Q E s := by
  obtain ⟨o, p1, p2, p3⟩ := id hit
  obtain ⟨u, r1, r2, r3, r4⟩ := ht
  unfold Builtin.SmallTypes.nextOf
  refine wpAny_bind (wpAny_callSpecial?_slot (name := Str.ofString "__next__") hit.typeIs F.slot_tuple_iterator_next (wpAny_call_entry F.slot_tuple_iterator_next hit.typeIs F.entry_tuple_iterator_next ?_ (F.args_tuple_iterator_next_1 _)))
  show wpAny _ _ (field (.ref it) 0 >>= _) _ _ s
  refine wpAny_bind (wpAny_field p1 p3 (x := .ref t) rfl ?_)
  show wpAny _ _ (if (Value.ref t == Value.none) = true then _ else _) _ _ s
  rw [if_neg (fun z => by cases z)]
  show wpAny _ _ (field (.ref it) 1 >>= _) _ _ s
  refine wpAny_bind (wpAny_field p1 p3 (x := .int i 0) rfl ?_)
  show wpAny _ _ (seqItems? (.ref t) >>= _) _ _ s
  refine wpAny_bind (wpAny_seqItems r1 r4 ?_)
  simp only [Int.toNat_natCast, hx]
  refine wpAny_bind (wpAny_setField p1 p3 (by simp) (wpAny_pure ⟨x, rfl, wpAny_pure (hQ _ ⟨_, Heap.get?_update_self _ p1 (Obj.isFreed_of_fields (Obj.data_mapFields p3 _)), (Obj.cls_mapFields ..).trans p2, ?_⟩ (Heap.SameBut.update ..))⟩))
  rw [Obj.data_mapFields p3]
  simp [rawInt]
theorem nextT_end {it t : Addr} {i : Nat} {items : Array Value} {Q : Value → Shared → Prop} (hh : A.handled = none) (hit : s.heap.IsTupleIter it t i) (ht : s.heap.IsTuple t items) (hx : items[i]? = none)
    (hE : ∀ h' e, Heap.ExtBut it s.heap h' → (∃ o, h'.get? e = some o ∧ o.cls = .type "StopIteration") → E (.ref e) { s with heap := h' }) : wpAny (model prog w) A (Builtin.SmallTypes.nextOf (.ref it)) Q E s := by
  obtain ⟨o, p1, p2, p3⟩ := id hit
  obtain ⟨u, r1, r2, r3, r4⟩ := ht
  unfold Builtin.SmallTypes.nextOf
  refine wpAny_bind (wpAny_callSpecial?_slot (name := Str.ofString "__next__") hit.typeIs F.slot_tuple_iterator_next (wpAny_call_entry F.slot_tuple_iterator_next hit.typeIs F.entry_tuple_iterator_next ?_ (F.args_tuple_iterator_next_1 _)))
  show wpAny _ _ (field (.ref it) 0 >>= _) _ _ s
  refine wpAny_bind (wpAny_field p1 p3 (x := .ref t) rfl ?_)
  show wpAny _ _ (if (Value.ref t == Value.none) = true then _ else _) _ _ s
  rw [if_neg (fun z => by cases z)]
  show wpAny _ _ (field (.ref it) 1 >>= _) _ _ s
  refine wpAny_bind (wpAny_field p1 p3 (x := .int i 0) rfl ?_)
  show wpAny _ _ (seqItems? (.ref t) >>= _) _ _ s
  refine wpAny_bind (wpAny_seqItems r1 r4 ?_)
  simp only [Int.toNat_natCast, hx]
  refine wpAny_bind (wpAny_rule (wpAny_bind (wpAny_setField p1 p3 (by simp) ?_)))
  show wpAny _ _ (newExc (.type "StopIteration") [] >>= _) _ _ _
  refine wpAny_bind ?_
  simp only [newExc, newTuple]
  refine wpAny_bind (wpAny_newObj_type ?_ (by size_fits))
  refine wpAny_bind (m := firstArgMember _ _) (wpAny_of_eq (a := Value.none) (by first | rfl | (simp only [firstArgMember]; rfl)) ?_)
  refine wpAny_newObj_type ?_ (by size_fits)
  simp only [raiseNew]
  refine wpAny_bind (wpAny_handled ?_)
  first | rw [show A.in1.handled = none from hh] | rw [hh]
  exact wpAny_bind (wpAny_pure (wpAny_throw (hE _ _ (((Heap.SameBut.update ..).extBut.push _).push _) ⟨_, Heap.get?_push_size _ rfl, rfl⟩)))
end
def SqB (b : Bool) (h : Heap) (a : Addr) (xs : Array Value) : Prop := if b = true then h.IsTuple a xs else h.IsList a xs
def ItB (b : Bool) (h : Heap) (it a : Addr) (k : Nat) : Prop := if b = true then h.IsTupleIter it a k else h.IsListIter it a k
def itObj (b : Bool) (a : Addr) : Obj := if b = true then { cls := .type "tuple_iterator", data := .fields #[.ref a, .int 0 0] } else { cls := .type "list_iterator", data := .fields #[.ref a, .int 0 0] }
theorem ItB.at {b : Bool} {h h' : Heap} {it a : Addr} {k : Nat} (x : ItB b h it a k) (f : ∀ o, h.get? it = some o → h'.get? it = some o) : ItB b h' it a k := by
  cases b with
  | true => exact Heap.IsTupleIter.at (show h.IsTupleIter it a k from x) f
  | false => exact Heap.IsListIter.at (show h.IsListIter it a k from x) f
theorem ItB.ob {b : Bool} {h : Heap} {it a : Addr} {k : Nat} (x : ItB b h it a k) : ∃ o, h.get? it = some o ∧ ∀ v, o.data ≠ .cell v := by
  cases b with
  | true => obtain ⟨o, e, c, d⟩ := (show h.IsTupleIter it a k from x); exact ⟨o, e, fun v z => by rw [d] at z; cases z⟩
  | false => obtain ⟨o, e, c, d⟩ := (show h.IsListIter it a k from x); exact ⟨o, e, fun v z => by rw [d] at z; cases z⟩
theorem ItB.new {b : Bool} {h : Heap} {it a : Addr} (e : h.get? it = some (itObj b a)) : ItB b h it a 0 := by
  cases b with
  | true => exact ⟨_, e, rfl, rfl⟩
  | false => exact ⟨_, e, rfl, rfl⟩
theorem SqB.at {b : Bool} {h h' : Heap} {a : Addr} {xs : Array Value} (x : SqB b h a xs) (f : ∀ o, h.get? a = some o → h'.get? a = some o) : SqB b h' a xs := by
  cases b with
  | true => obtain ⟨o, e, r⟩ := (show h.IsTuple a xs from x); exact ⟨o, f o e, r⟩
  | false => obtain ⟨o, e, r⟩ := (show h.IsList a xs from x); exact ⟨o, f o e, r⟩
section
variable {prog : Program} {w : World} {A : Around} {E : Value → Shared → Prop} {s : Shared}
theorem nextB_item {b : Bool} {it a : Addr} {k : Nat} {xs : Array Value} {x : Value} {Q : Value → Shared → Prop} (hi : ItB b s.heap it a k) (hs : SqB b s.heap a xs) (hx : xs[k]? = some x)
    (hQ : ∀ h', ItB b h' it a (k + 1) → Heap.SameBut it s.heap h' → Q x { s with heap := h' }) : wpAny (model prog w) A (Builtin.SmallTypes.nextOf (.ref it)) Q E s := by
  cases b with
  | true => exact nextT_item hi hs hx fun h' i' sb => hQ h' i' sb
  | false => exact wpAny_nextOf_list_item hi hs hx fun h' i' sb => hQ h' i' sb
theorem nextB_end {b : Bool} {it a : Addr} {k : Nat} {xs : Array Value} {Q : Value → Shared → Prop} (hh : A.handled = none) (hi : ItB b s.heap it a k) (hs : SqB b s.heap a xs) (hx : xs[k]? = none)
    (hE : ∀ h' e, Heap.ExtBut it s.heap h' → (∃ o, h'.get? e = some o ∧ o.cls = .type "StopIteration") → E (.ref e) { s with heap := h' }) : wpAny (model prog w) A (Builtin.SmallTypes.nextOf (.ref it)) Q E s := by
  cases b with
  | true => exact nextT_end hh hi hs hx hE
  | false => exact wpAny_nextOf_list_end hh hi hs hx hE
theorem iterB {b : Bool} {a : Addr} {xs : Array Value} {Q : Value → Shared → Prop} (hs : SqB b s.heap a xs) (hQ : Q (.ref s.heap.objs.size) { s with heap := s.heap.push (itObj b a) }) : wpAny (model prog w) A (pyIter (.ref a)) Q E s := by
  cases b with
  | true => exact wpAny_pyIter_tuple hs hQ
  | false => exact wpAny_pyIter_list hs hQ
structure Apz (z TI TO i1 i2 : Addr) : Prop where
  a1 : TI ≠ z
  a2 : TO ≠ z
  a3 : i1 ≠ z
  a4 : i2 ≠ z
  a5 : TI ≠ TO
  a6 : TI ≠ i1
  a7 : TI ≠ i2
  a8 : TO ≠ i1
  a9 : TO ≠ i2
  b1 : i1 ≠ i2
theorem zip_item {b1 b2 : Bool} {z TI TO i1 i2 l1 l2 : Addr} {k : Nat} {xs ys : Array Value} {x y a b : Value} {Q : Option Value → Shared → Prop} (D : Apz z TI TO i1 i2)
    (hz : IsZip s.heap z TI TO .none) (hTI : IsPair s.heap TI (.ref i1) (.ref i2)) (hTO : IsPair s.heap TO a b) (h1 : ItB b1 s.heap i1 l1 k) (h2 : ItB b2 s.heap i2 l2 k) (hl1 : SqB b1 s.heap l1 xs) (hl2 : SqB b2 s.heap l2 ys)
    (n1 : ∀ c ∈ [z, TO, i1, i2], l1 ≠ c ∧ l2 ≠ c) (hx : xs[k]? = some x) (hy : ys[k]? = some y)
    (hQ : ∀ h', IsZip h' z TI TO (rawInt s.heap.objs.size) → IsPair h' TO x y → ItB b1 h' i1 l1 (k + 1) → ItB b2 h' i2 l2 (k + 1) → IsPair h' s.heap.objs.size x y → h'.objs.size = s.heap.objs.size + 1 →
      (∀ c o, c ≠ z → c ≠ TO → c ≠ i1 → c ≠ i2 → s.heap.get? c = some o → h'.get? c = some o) → Q (some (.ref s.heap.objs.size)) { s with heap := h' }) :
    wpAny (model prog w) A (pyNext (.ref z)) Q E s := by
  have hT : s.TypeIs (.ref z) "zip" := ⟨_, hz, rfl⟩
  have m1 := n1 z (by simp)
  have m2 := n1 TO (by simp)
  have m3 := n1 i1 (by simp)
  have m4 := n1 i2 (by simp)
  unfold pyNext
  refine wpAny_bind (wpAny_attempt (wpAny_callSpecial?_slot (name := Str.ofString "__next__") hT F.slot_zip_next (wpAny_call_entry F.slot_zip_next hT F.entry_zip_next (?_ : wpAny _ _ (Builtin.«zip.__next__» ⟨[.ref z], []⟩) _ _ s) (F.args_zip_next_1 _))))
  show wpAny _ _ (field (.ref z) 2 >>= _) _ _ _
  refine wpAny_bind (wpAny_field hz rfl (x := .bool false) rfl ?_)
  show wpAny _ _ (field (.ref z) 3 >>= _) _ _ _
  refine wpAny_bind (wpAny_field hz rfl (x := .ref TI) rfl (wpAny_bind (wpAny_seqItems hTI rfl ?_)))
  show wpAny _ _ (Builtin.SmallTypes.ownedTupleIsFree (.ref z) >>= _) _ _ _
  refine wpAny_bind ?_
  unfold Builtin.SmallTypes.ownedTupleIsFree
  refine wpAny_bind (wpAny_field hz rfl (x := .none) rfl (wpAny_pure ?_))
  simp only [if_true]
  refine wpAny_bind (wpAny_rule (wpAny_bind (wpAny_field hz rfl (x := .ref TO) rfl (wpAny_bind (wpAny_setField_rec hz (by simp) fun g1 z1 s1 => ?_)))))
  replace z1 : IsZip g1 z TI TO .ellipsis := z1
  refine wpAny_bind ?_
  simp only [List.zipIdx_cons, List.zipIdx_nil, List.forIn_cons, List.forIn_nil]
  refine wpAny_bind (wpAny_bind (wpAny_onRaise ?_))
  show wpAny _ _ (Builtin.SmallTypes.nextOf (.ref i1) >>= _) _ _ _
  refine wpAny_bind (nextB_item (h1.at fun o q => s1.extBut _ _ D.a3 q) (hl1.at fun o q => s1.extBut _ _ m1.1 q) hx fun g2 j1 s2 => wpAny_pure ?_)
  have t2 : IsPair g2 TO a b := s2.extBut _ _ D.a8 (s1.extBut _ _ D.a2 hTO)
  refine wpAny_bind (wpAny_seqItems t2 rfl (wpAny_bind (wpAny_updateSeq_pair t2 fun g3 t3 s3 => wpAny_bind (wpAny_letGo (wpAny_pure ?_)))))
  replace t3 : IsPair g3 TO x b := t3
  refine wpAny_bind (wpAny_bind (wpAny_onRaise ?_))
  show wpAny _ _ (Builtin.SmallTypes.nextOf (.ref i2) >>= _) _ _ _
  refine wpAny_bind (nextB_item (h2.at fun o q => s3.extBut _ _ D.a9.symm (s2.extBut _ _ D.b1.symm (s1.extBut _ _ D.a4 q))) (hl2.at fun o q => s3.extBut _ _ m2.2 (s2.extBut _ _ m3.2 (s1.extBut _ _ m1.2 q))) hy fun g4 j2 s4 => wpAny_pure ?_)
  have t4 : IsPair g4 TO x b := s4.extBut _ _ D.a9 t3
  refine wpAny_bind (wpAny_seqItems t4 rfl (wpAny_bind (wpAny_updateSeq_pair t4 fun g5 t5 s5 => wpAny_bind (wpAny_letGo (wpAny_pure (wpAny_pure ?_))))))
  replace t5 : IsPair g5 TO x y := t5
  refine wpAny_bind (wpAny_seqItems t5 rfl (wpAny_bind (wpAny_newTuple ?_)))
  have hsz : g5.objs.size = s.heap.objs.size := by rw [s5.1, s4.1, s3.1, s2.1, s1.1]
  have z5 : IsZip g5 z TI TO .ellipsis := s5.extBut _ _ D.a2.symm (s4.extBut _ _ D.a4.symm (s3.extBut _ _ D.a2.symm (s2.extBut _ _ D.a3.symm z1)))
  have k5 : ∀ c o, c ≠ z → c ≠ TO → c ≠ i1 → c ≠ i2 → s.heap.get? c = some o → g5.get? c = some o := fun c o c1 c2 c3 c4 q => s5.extBut _ _ c2 (s4.extBut _ _ c4 (s3.extBut _ _ c2 (s2.extBut _ _ c3 (s1.extBut _ _ c1 q))))
  have j15 : ItB b1 g5 i1 l1 (k + 1) := j1.at fun o q => s5.extBut _ _ D.a8.symm (s4.extBut _ _ D.b1 (s3.extBut _ _ D.a8.symm q))
  have j25 : ItB b2 g5 i2 l2 (k + 1) := j2.at fun o q => s5.extBut _ _ D.a9.symm q
  have zlt : z < g5.objs.size := Heap.lt_size z5
  show wpAny _ _ (Builtin.SmallTypes.ownedTupleHandOut (.ref z) (.ref g5.objs.size) >>= _) _ _ _
  refine wpAny_bind ?_
  unfold Builtin.SmallTypes.ownedTupleHandOut
  have z6 : IsZip (g5.push { cls := .type "tuple", data := .seq #[x, y] }) z TI TO .ellipsis := Heap.get?_push_of_some _ z5
  refine wpAny_bind (wpAny_setField_rec z6 (by simp) fun g7 z7 s7 => ?_)
  replace z7 : IsZip g7 z TI TO (rawInt g5.objs.size) := z7
  refine wpAny_setField_rec z7 (by simp) fun g8 z8 s8 => ?_
  replace z8 : IsZip g8 z TI TO (rawInt g5.objs.size) := z8
  have up : ∀ c o, c ≠ z → g5.get? c = some o → g8.get? c = some o := fun c o c1 q => s8.extBut _ _ c1 (s7.extBut _ _ c1 (Heap.get?_push_of_some _ q))
  have T8 : IsPair g8 g5.objs.size x y := s8.extBut _ _ (Nat.ne_of_gt zlt) (s7.extBut _ _ (Nat.ne_of_gt zlt) (Heap.get?_push_size _ rfl))
  have sz8 : g8.objs.size = g5.objs.size + 1 := by rw [s8.1, s7.1, Heap.size_push]
  rw [hsz] at z8 T8 sz8
  refine wpAny_pure ⟨_, rfl, wpAny_pure ?_⟩
  show Q (some (.ref g5.objs.size)) _
  rw [hsz]
  exact hQ g8 z8 (up _ _ D.a2 t5) (j15.at fun o q => up _ o D.a3 q) (j25.at fun o q => up _ o D.a4 q) T8 sz8 fun c o c1 c2 c3 c4 q => up c o c1 (k5 c o c1 c2 c3 c4 q)
theorem zip_stop {b1 b2 : Bool} {z TI TO i1 i2 l1 l2 : Addr} {k : Nat} {xs ys : Array Value} {a b : Value} {Q : Option Value → Shared → Prop} (hh : A.handled = none) (D : Apz z TI TO i1 i2)
    (hz : IsZip s.heap z TI TO .none) (hTI : IsPair s.heap TI (.ref i1) (.ref i2)) (hTO : IsPair s.heap TO a b) (h1 : ItB b1 s.heap i1 l1 k) (h2 : ItB b2 s.heap i2 l2 k) (hl1 : SqB b1 s.heap l1 xs) (hl2 : SqB b2 s.heap l2 ys)
    (n1 : ∀ c ∈ [z, TO, i1, i2], l1 ≠ c ∧ l2 ≠ c) (hend : xs[k]? = none ∨ ys[k]? = none)
    (hQ : ∀ h', (∀ c o, c ≠ z → c ≠ TO → c ≠ i1 → c ≠ i2 → s.heap.get? c = some o → h'.get? c = some o) → Q none { s with heap := h' }) : wpAny (model prog w) A (pyNext (.ref z)) Q E s := by
  have hT : s.TypeIs (.ref z) "zip" := ⟨_, hz, rfl⟩
  have m1 := n1 z (by simp)
  have m2 := n1 TO (by simp)
  have m3 := n1 i1 (by simp)
  have m4 := n1 i2 (by simp)
  unfold pyNext
  have fin : ∀ (e : Addr) (h' : Heap), (∀ c o, c ≠ z → c ≠ TO → c ≠ i1 → c ≠ i2 → s.heap.get? c = some o → h'.get? c = some o) → (∃ o, h'.get? e = some o ∧ o.cls = .type "StopIteration") →
      wpAny (model prog w) A (do if ← isInstance (.ref e) (.type "StopIteration") then pure none else throw (Value.ref e) : Sem (Option Value)) Q E { s with heap := h' } := by
    rintro e h' kk ⟨o, q1, q2⟩
    exact wpAny_bind (wpAny_isInstance (T := "StopIteration") (b := true) ⟨o, q1, q2⟩ isSubtype_stop (wpAny_pure (hQ _ kk)))
  refine wpAny_bind (wpAny_attempt (wpAny_callSpecial?_slot (name := Str.ofString "__next__") hT F.slot_zip_next (wpAny_call_entry F.slot_zip_next hT F.entry_zip_next (?_ : wpAny _ _ (Builtin.«zip.__next__» ⟨[.ref z], []⟩) _ _ s) (F.args_zip_next_1 _))))
  show wpAny _ _ (field (.ref z) 2 >>= _) _ _ _
  refine wpAny_bind (wpAny_field hz rfl (x := .bool false) rfl ?_)
  show wpAny _ _ (field (.ref z) 3 >>= _) _ _ _
  refine wpAny_bind (wpAny_field hz rfl (x := .ref TI) rfl (wpAny_bind (wpAny_seqItems hTI rfl ?_)))
  show wpAny _ _ (Builtin.SmallTypes.ownedTupleIsFree (.ref z) >>= _) _ _ _
  refine wpAny_bind ?_
  unfold Builtin.SmallTypes.ownedTupleIsFree
  refine wpAny_bind (wpAny_field hz rfl (x := .none) rfl (wpAny_pure ?_))
  simp only [if_true]
  refine wpAny_bind (wpAny_rule (wpAny_bind (wpAny_field hz rfl (x := .ref TO) rfl (wpAny_bind (wpAny_setField_rec hz (by simp) fun g1 z1 s1 => ?_)))))
  replace z1 : IsZip g1 z TI TO .ellipsis := z1
  refine wpAny_bind ?_
  simp only [List.zipIdx_cons, List.zipIdx_nil, List.forIn_cons, List.forIn_nil]
  refine wpAny_bind (wpAny_bind (wpAny_onRaise ?_))
  show wpAny _ _ (Builtin.SmallTypes.nextOf (.ref i1) >>= _) _ _ _
  cases hx : xs[k]? with
  | none =>
    refine wpAny_bind (nextB_end hh (h1.at fun o q => s1.extBut _ _ D.a3 q) (hl1.at fun o q => s1.extBut _ _ m1.1 q) hx fun g2 e s2 he => ?_)
    obtain ⟨oe, p1, p2⟩ := he
    have z2 : IsZip g2 z TI TO .ellipsis := s2 _ _ D.a3.symm z1
    have nez : e ≠ z := fun q => by subst q; rw [z2] at p1; cases p1; simp at p2
    exact wpAny_setField_rec z2 (by simp) fun g3 _ s3 => fin e g3 (fun c o c1 _ c3 _ q => s3.extBut _ _ c1 (s2 _ _ c3 (s1.extBut _ _ c1 q))) ⟨oe, s3.extBut _ _ nez p1, p2⟩
  | some x =>
    have hy : ys[k]? = none := by
      rcases hend with q | q
      · rw [hx] at q; cases q
      · exact q
    refine wpAny_bind (nextB_item (h1.at fun o q => s1.extBut _ _ D.a3 q) (hl1.at fun o q => s1.extBut _ _ m1.1 q) hx fun g2 j1 s2 => wpAny_pure ?_)
    have t2 : IsPair g2 TO a b := s2.extBut _ _ D.a8 (s1.extBut _ _ D.a2 hTO)
    refine wpAny_bind (wpAny_seqItems t2 rfl (wpAny_bind (wpAny_updateSeq_pair t2 fun g3 t3 s3 => wpAny_bind (wpAny_letGo (wpAny_pure ?_)))))
    refine wpAny_bind (wpAny_bind (wpAny_onRaise ?_))
    show wpAny _ _ (Builtin.SmallTypes.nextOf (.ref i2) >>= _) _ _ _
    refine wpAny_bind (nextB_end hh (h2.at fun o q => s3.extBut _ _ D.a9.symm (s2.extBut _ _ D.b1.symm (s1.extBut _ _ D.a4 q))) (hl2.at fun o q => s3.extBut _ _ m2.2 (s2.extBut _ _ m3.2 (s1.extBut _ _ m1.2 q))) hy fun g4 e s4 he => ?_)
    obtain ⟨oe, p1, p2⟩ := he
    have z4 : IsZip g4 z TI TO .ellipsis := s4 _ _ D.a4.symm (s3.extBut _ _ D.a2.symm (s2.extBut _ _ D.a3.symm z1))
    have nez : e ≠ z := fun q => by subst q; rw [z4] at p1; cases p1; simp at p2
    exact wpAny_setField_rec z4 (by simp) fun g5 _ s5 => fin e g5 (fun c o c1 c2 c3 c4 q => s5.extBut _ _ c1 (s4 _ _ c4 (s3.extBut _ _ c2 (s2.extBut _ _ c3 (s1.extBut _ _ c1 q))))) ⟨oe, s5.extBut _ _ nez p1, p2⟩
abbrev zp1 (b1 : Bool) (h : Heap) (l1 : Addr) : Heap := h.push (itObj b1 l1)
abbrev zp2 (b1 b2 : Bool) (h : Heap) (l1 l2 : Addr) : Heap := (zp1 b1 h l1).push (itObj b2 l2)
abbrev zp3 (b1 b2 : Bool) (h : Heap) (l1 l2 : Addr) : Heap := (zp2 b1 b2 h l1 l2).push { cls := .type "tuple", data := .seq #[.ref h.objs.size, .ref (zp1 b1 h l1).objs.size] }
abbrev zp4 (b1 b2 : Bool) (h : Heap) (l1 l2 : Addr) : Heap := (zp3 b1 b2 h l1 l2).push { cls := .type "tuple", data := .seq #[.none, .none] }
abbrev zp5 (b1 b2 : Bool) (h : Heap) (l1 l2 : Addr) : Heap := (zp4 b1 b2 h l1 l2).push { cls := .type "zip", data := .fields #[.none, .bool false, .bool false, .ref (zp2 b1 b2 h l1 l2).objs.size, .ref (zp3 b1 b2 h l1 l2).objs.size] }
theorem zip_meets {b1 b2 : Bool} (l1 l2 : Addr) (xs ys : Array Value) :
    Meets (Builtin.«zip.__new__» ⟨[.type "zip", .ref l1, .ref l2], []⟩) (fun _ R s => SqB b1 s.heap l1 xs ∧ SqB b2 s.heap l2 ys ∧ R (.ok (.ret (.ref (zp4 b1 b2 s.heap l1 l2).objs.size))) { s with heap := zp5 b1 b2 s.heap l1 l2 }) :=
  .of_wp fun prog w A R s h => by
    obtain ⟨hp, g, d, tk, os⟩ := s
    obtain ⟨q1, q2, h⟩ := h
    have hsub := sub_zip
    have L1 : SqB b1 (Shared.heap ⟨hp, g, d, tk, os⟩) l1 xs := q1
    have L2 : SqB b2 (Shared.heap ⟨hp.push (itObj b1 l1), g, d, tk, os⟩) l2 ys := q2.at fun o e => Heap.get?_push_of_some _ e
    wp_walk using iterB L1, iterB L2
    exact ⟨_, rfl, h⟩
theorem zip_call {b1 b2 : Bool} {l1 l2 : Addr} {xs ys : Array Value} {Q : Value → Shared → Prop} (q1 : SqB b1 s.heap l1 xs) (q2 : SqB b2 s.heap l2 ys)
    (h : ∀ h', IsZip h' (s.heap.objs.size + 4) (s.heap.objs.size + 2) (s.heap.objs.size + 3) .none → IsPair h' (s.heap.objs.size + 2) (.ref s.heap.objs.size) (.ref (s.heap.objs.size + 1)) →
      IsPair h' (s.heap.objs.size + 3) .none .none → ItB b1 h' s.heap.objs.size l1 0 → ItB b2 h' (s.heap.objs.size + 1) l2 0 → (∀ c o, s.heap.get? c = some o → h'.get? c = some o) → Q (.ref (s.heap.objs.size + 4)) { s with heap := h' }) :
    wpAny (model prog w) A (call (.type "zip") [.ref l1, .ref l2]) Q E s := by
  refine callType_new F.called_zip (by decide) (F.typeCall_zip_2 _ _) (F.newCall_zip_2 _ _) (fun obj => F.args_object_init_3 obj _ _) F.entry_zip_new (zip_meets l1 l2 xs ys) ⟨q1, q2, ?_⟩
  have y1 : (zp1 b1 s.heap l1).objs.size = s.heap.objs.size + 1 := Heap.size_push ..
  have y2 : (zp2 b1 b2 s.heap l1 l2).objs.size = s.heap.objs.size + 2 := by rw [Heap.size_push, y1]
  have y3 : (zp3 b1 b2 s.heap l1 l2).objs.size = s.heap.objs.size + 3 := by rw [Heap.size_push, y2]
  have y4 : (zp4 b1 b2 s.heap l1 l2).objs.size = s.heap.objs.size + 4 := by rw [Heap.size_push, y3]
  have u5 : (zp5 b1 b2 s.heap l1 l2).get? (zp4 b1 b2 s.heap l1 l2).objs.size = some _ := Heap.get?_push_size _ rfl
  have u4 : (zp5 b1 b2 s.heap l1 l2).get? (zp3 b1 b2 s.heap l1 l2).objs.size = some _ := Heap.get?_push_of_some _ (Heap.get?_push_size _ rfl)
  have u3 : (zp5 b1 b2 s.heap l1 l2).get? (zp2 b1 b2 s.heap l1 l2).objs.size = some _ := Heap.get?_push_of_some _ (Heap.get?_push_of_some _ (Heap.get?_push_size _ rfl))
  have u2 : (zp5 b1 b2 s.heap l1 l2).get? (zp1 b1 s.heap l1).objs.size = some (itObj b2 l2) := Heap.get?_push_of_some _ (Heap.get?_push_of_some _ (Heap.get?_push_of_some _ (Heap.get?_push_size _ (by cases b2 <;> rfl))))
  have u1 : (zp5 b1 b2 s.heap l1 l2).get? s.heap.objs.size = some (itObj b1 l1) := Heap.get?_push_of_some _ (Heap.get?_push_of_some _ (Heap.get?_push_of_some _ (Heap.get?_push_of_some _ (Heap.get?_push_size _ (by cases b1 <;> rfl)))))
  show _ ∧ _
  rw [y2, y3, y4] at u5
  rw [y1, y2] at u3
  rw [y3] at u4
  rw [y1] at u2
  rw [y4]
  exact ⟨⟨_, u5, rfl⟩, h _ u5 u3 u4 (ItB.new u1) (ItB.new u2) fun c o x => Heap.get?_push_of_some _ (Heap.get?_push_of_some _ (Heap.get?_push_of_some _ (Heap.get?_push_of_some _ (Heap.get?_push_of_some _ x))))⟩
end
theorem Inv.turnedN {X : Cx} {pins : List (Addr × Obj)} {σ : St} {H : Hp} {s : Shared} {h' : Heap} {t' : Nat} {fp : List Addr} (I : Inv X pins σ H s) (k : ∀ b o, b ∉ fp → s.heap.get? b = some o → h'.get? b = some o) (hf : ∀ b ∈ fp, FpOk X pins H b) :
    Inv X pins σ H { s with heap := h', toks := t' } := by
  have nit : ∀ b u, H b = some u → b ∉ fp := fun b u e z => by rw [(hf b z).1] at e; cases e
  refine I.step (g' := s.gens) (d' := s.drawn) (ch := fp) (fun b hb => ?_) (fun b o _ _ hc e _ => k b o hc e) (fun b o _ _ hc e _ => ⟨o.slots, k b o hc e⟩) (fun _ _ _ _ n => n)
    (fun b o hc e => ⟨o, k b o hc e⟩) (fun _ _ e => e) (fun _ _ _ e => e) (fun b ps e => ⟨#[], by rw [e]; simp⟩) (fun m hm => ?_) (fun b u e => ?_) I.bare
  · obtain ⟨f0, f1, f2, f3, f4, f5⟩ := hf b hb
    exact ⟨f3, f1, f4, f5⟩
  · obtain ⟨o, es, ep, ho, r⟩ := hm
    exact ⟨o, es, ep, k _ o (fun z => (hf _ z).2.1 rfl) ho, r⟩
  · refine (I.hok b u e).stay (fun c v hc q => k c v ?_ q) (fun _ q => q) fun _ _ q => q
    rcases hc with z | z
    · rw [z]; exact nit b u e
    · exact nit c _ z
def Itz (K : PySem.W.Frag) (a1 a2 : Addr) : It :=
  ⟨fun i H => ∃ xs ys x y, SqT K H a1 xs ∧ SqT K H a2 ys ∧ xs[i]? = some x ∧ ys[i]? = some y,
   fun i H v H' => ∃ p x y, H p = none ∧ v = .ref p ∧ (∀ xs, SqT K H a1 xs → xs[i]? = some x) ∧ (∀ ys, SqT K H a2 ys → ys[i]? = some y) ∧ H' = upd H p (.tup [x, y]),
   fun i H => ∃ xs ys, SqT K H a1 xs ∧ SqT K H a2 ys ∧ (xs.length ≤ i ∨ ys.length ≤ i)⟩
def Tnz (z TI TO i1 i2 l1 l2 : Addr) (i : Nat) (h : Heap) : Prop := IsZip h z TI TO .none ∧ IsPair h TI (.ref i1) (.ref i2) ∧ (∃ a b, IsPair h TO a b) ∧ ItB true h i1 l1 i ∧ ItB true h i2 l2 i
theorem turn_zip {P : Program} {w : World} {K : PySem.W.Frag} {elts : List Expr} {x1} {pos : Pos} {z TI TO i1 i2 l1 l2 : Addr} (D : Apz z TI TO i1 i2) (n1 : ∀ c ∈ [z, TO, i1, i2], l1 ≠ c ∧ l2 ≠ c) :
    Turn P w K (.Tuple elts x1 pos) (Itz K l1 l2) [z, TI, TO, i1, i2] z (Tnz z TI TO i1 i2 l1 l2) where
  mem := by simp
  obj := fun i h st b hb => by
    obtain ⟨q1, q2, ⟨a, b', q3⟩, q4, q5⟩ := st
    have hb' : b = z ∨ b = TI ∨ b = TO ∨ b = i1 ∨ b = i2 := by simpa using hb
    rcases hb' with e | e | e | e | e <;> subst e
    · exact ⟨_, q1, fun v z => by cases z⟩
    · exact ⟨_, q2, fun v z => by cases z⟩
    · exact ⟨_, q3, fun v z => by cases z⟩
    · exact q4.ob
    · exact q5.ob
  keep := fun i h h' st k => by
    obtain ⟨q1, q2, ⟨a, b', q3⟩, q4, q5⟩ := st
    exact ⟨k z (by simp) _ q1, k TI (by simp) _ q2, ⟨a, b', k TO (by simp) _ q3⟩, q4.at fun o e => k i1 (by simp) o e, q5.at fun o e => k i2 (by simp) o e⟩
  item := by
    intro X hP hw hK hc i pins s σ H E I hf st hg
    subst hP hw hK
    obtain ⟨xs, ys, x, y, h1, h2, hx, hy⟩ := hg
    obtain ⟨its, rv, p, hz⟩ := I.tuple h1
    obtain ⟨jts, rv', p', hz'⟩ := I.tuple h2
    obtain ⟨u, hu, ru⟩ := rv.get hx
    obtain ⟨u', hu', ru'⟩ := rv'.get hy
    obtain ⟨q1, q2, ⟨a, b, q3⟩, q4, q5⟩ := st
    refine zip_item D q1 q2 q3 q4 q5 (show s.heap.IsTuple l1 its.toArray from p) (show s.heap.IsTuple l2 jts.toArray from p') n1 (x := u) (y := u') (by simpa using hu) (by simpa using hu') fun h' a1 a2 a3 a4 a5 a6 kk => ?_
    have lt : ∀ {c o}, s.heap.get? c = some o → s.heap.objs.size ≠ c := fun e => Nat.ne_of_gt (Heap.lt_size e)
    refine ⟨_, rfl, wpAny_letOwnedTupleGo_zip a1 fun hh2 z2 s2 => ?_⟩
    have kk2 : ∀ c o, c ∉ [z, TI, TO, i1, i2] → s.heap.get? c = some o → hh2.get? c = some o := fun c o hc e =>
      s2.extBut _ _ (fun x => hc (by simp [x])) (kk c o (fun x => hc (by simp [x])) (fun x => hc (by simp [x])) (fun x => hc (by simp [x])) (fun x => hc (by simp [x])) e)
    have I1 : Inv X pins σ H { s with heap := hh2 } := I.turnedN (t' := s.toks) kk2 hf
    have T2 : IsPair hh2 s.heap.objs.size u u' := s2.extBut _ _ (lt q1) a5
    have hn : H s.heap.objs.size = none := I.hok.fresh (Nat.le_refl _)
    have fr := I.fpOk (H' := H) (Nat.le_refl _) hn
    have I2 : Inv X pins σ (upd H s.heap.objs.size (.tup [x, y])) { s with heap := hh2 } := by
      refine I1.track hn (fun b o q _ _ => ?_) fr.2.1.symm fr.2.2.2.2.1 fr.2.2.2.2.2 ?_
      · exact Nat.ne_of_lt (Nat.lt_of_lt_of_le (Heap.lt_size q) I.sz)
      · exact ⟨by simp [sizeLine], [u, u'], .cons ru (.cons ru' .nil), ⟨_, T2, rfl, _, rfl⟩⟩
    refine ⟨.ref s.heap.objs.size, _, I2, rfl, ⟨_, x, y, hn, rfl, fun zs hzs => ?_, fun zs hzs => ?_, rfl⟩, ?_, fun b hb => ?_⟩
    · rw [I.tuple_inj hzs h1]; exact hx
    · rw [I.tuple_inj hzs h2]; exact hy
    · exact ⟨z2, s2.extBut _ _ D.a1 (kk _ _ D.a1 D.a5 D.a6 D.a7 q2), ⟨_, _, s2.extBut _ _ D.a2 a2⟩, a3.at fun o e => s2.extBut _ _ D.a3 e, a4.at fun o e => s2.extBut _ _ D.a4 e⟩
    · have e : b ≠ s.heap.objs.size := by
        have hb' : b = z ∨ b = TI ∨ b = TO ∨ b = i1 ∨ b = i2 := by simpa using hb
        rcases hb' with e | e | e | e | e <;> subst e
        · exact (lt q1).symm
        · exact (lt q2).symm
        · exact (lt q3).symm
        · obtain ⟨o, e, _⟩ := q4.ob; exact (lt e).symm
        · obtain ⟨o, e, _⟩ := q5.ob; exact (lt e).symm
      rw [upd_ne e]
      exact (hf b hb).1
  done := by
    intro X hP hw hK hc i pins s σ H E I hf st hg
    subst hP hw hK
    obtain ⟨xs, ys, h1, h2, hx⟩ := hg
    obtain ⟨its, rv, p, hz⟩ := I.tuple h1
    obtain ⟨jts, rv', p', hz'⟩ := I.tuple h2
    have e1 := rv.length
    have e2 := rv'.length
    obtain ⟨q1, q2, ⟨a, b, q3⟩, q4, q5⟩ := st
    refine zip_stop (I.ok.hd hc) D q1 q2 q3 q4 q5 (show s.heap.IsTuple l1 its.toArray from p) (show s.heap.IsTuple l2 jts.toArray from p') n1 (by rcases hx with q | q; (· left; simp; omega); (· right; simp; omega)) fun h' kk => ⟨rfl, ?_⟩
    exact I.turnedN (t' := s.toks) (fun c o hc e => kk c o (fun x => hc (by simp [x])) (fun x => hc (by simp [x])) (fun x => hc (by simp [x])) (fun x => hc (by simp [x])) e) hf
  self := fun _ _ _ _ _ st h => wpAny_pyIter_zip st.1 h
theorem apz_new (n : Nat) : Apz (n + 4 : Nat) (n + 2 : Nat) (n + 3 : Nat) n (n + 1 : Nat) := by
  constructor <;> (intro h; have h' : (_ : Nat) = _ := h; omega)
section
variable {X : Cx}
def iZip2 (K : PySem.W.Frag) (ta : TA) : TI := fun σ H R => ta σ H fun vs H1 => ∃ a b, vs = [.ref a, .ref b] ∧ (∃ xs, SqT K H1 a xs) ∧ (∃ ys, SqT K H1 b ys) ∧ R (Itz K a b) H1
theorem boot_zip : bootBuiltins "zip" = some (.type "zip") := by decide +kernel
theorem pi_zip2 {a b : Expr} {ta : TA} {p pos tpos : Pos} {elts : List Expr} {x1} (hg : Gl X "zip") (hm : X.mg "zip" = none) (ha : PA X [a, b] ta) (hs : starEach [a, b] X.env = [(false, eval a X.env), (false, eval b X.env)] := by rfl) (hs2 : starEach [b] X.env = [(false, eval b X.env)] := by rfl) :
    PI X (.Tuple elts x1 tpos) (.Call (.Name "zip" p) [a, b] [] pos) (iZip2 X.K ta) := by
  intro pins s σ H R I h
  refine Call_ (ld_blt I hg hm boot_zip (PyProof.Rows.callWith_type1 (thn (ha pos pins s σ H _ I h) fun us s1 ⟨vs, H1, I1, r1, q1⟩ => ?_) (by rw [hs, hs2]) (by rw [hs2]; rfl)))
  obtain ⟨l1, l2, e, ⟨xs, h1⟩, ⟨ys, h2⟩, q⟩ := q1
  subst e
  cases r1 with
  | cons r rr =>
    cases rr with
    | cons r' rr =>
      cases rr
      cases r
      cases r'
      obtain ⟨its, rv, p, hz⟩ := I1.tuple h1
      obtain ⟨jts, rv', p', hz'⟩ := I1.tuple h2
      have hl1 : l1 < s1.heap.objs.size := by obtain ⟨o, e, _⟩ := (show s1.heap.IsTuple l1 its.toArray from p); exact Heap.lt_size e
      have hl2 : l2 < s1.heap.objs.size := by obtain ⟨o, e, _⟩ := (show s1.heap.IsTuple l2 jts.toArray from p'); exact Heap.lt_size e
      refine zip_call (b1 := true) (b2 := true) (show s1.heap.IsTuple l1 its.toArray from p) (show s1.heap.IsTuple l2 jts.toArray from p') fun h' a1 a2 a3 a4 a5 kk => wpAny_pyIter_zip a1 ?_
      refine ⟨s1.heap.objs.size + 4, _, _, _, H1, rfl, I1.kept (t' := s1.toks) kk, turn_zip (apz_new s1.heap.objs.size) (l1 := l1) (l2 := l2) fun c hc => ?_, ⟨a1, a2, ⟨_, _, a3⟩, a4, a5⟩, fun b hb => ?_, q⟩
      · have hc' : c = s1.heap.objs.size + 4 ∨ c = s1.heap.objs.size + 3 ∨ c = s1.heap.objs.size ∨ c = s1.heap.objs.size + 1 := by simpa using hc
        have hle : s1.heap.objs.size ≤ c := by rcases hc' with e | e | e | e <;> rw [e] <;> first | exact Nat.le_refl _ | exact Nat.le_add_right _ _
        exact ⟨Nat.ne_of_lt (Nat.lt_of_lt_of_le hl1 hle), Nat.ne_of_lt (Nat.lt_of_lt_of_le hl2 hle)⟩
      · have hb' : b = s1.heap.objs.size + 4 ∨ b = s1.heap.objs.size + 2 ∨ b = s1.heap.objs.size + 3 ∨ b = s1.heap.objs.size ∨ b = s1.heap.objs.size + 1 := by simpa using hb
        have hle : s1.heap.objs.size ≤ b := by rcases hb' with e | e | e | e | e <;> rw [e] <;> first | exact Nat.le_refl _ | exact Nat.le_add_right _ _
        exact I1.fpOk hle (I1.hok.fresh hle)
end
end L2
set_option Elab.async false
set_option linter.all false
set_option maxRecDepth 100000
set_option maxHeartbeats 4000000
namespace L2
open PySem PySem.Spec PyProof.Rows
section
variable {X : Cx} {pins : List (Addr × Obj)} {σ : St} {H : Hp} {s : Shared}
end
section
variable {X : Cx} {k : Nat} {g x n : Str} {ps : List Str} {sp : Sp} {p np cpos epos hpos pos : Pos} {e : Expr} {es : List Expr} {t : TA} {ts : TS} {D : Addr} {b₀ : Stmt} {suite : List Stmt} {i : Nat}
end
section
open PySem.W PySem.Calls
end
end L2
set_option Elab.async false
set_option linter.all false
set_option maxRecDepth 100000
set_option maxHeartbeats 4000000
namespace L2
open PySem PySem.Spec PyProof.Rows PySem.W PySem.Calls PySem.Builtin PySem.Builtin.ObjectAttr PySem.Builtin.Getset_descriptor
section
variable {prog : Program} {w : World} {A : Around} {E : Value → Shared → Prop} {s : Shared} {K : Frag} {x C : Addr} {ox : Obj}
end
end L2
set_option Elab.async false
set_option linter.all false
set_option maxRecDepth 100000
set_option maxHeartbeats 4000000
namespace L2
open PySem PySem.Spec PyProof.Rows
section
variable {P : Program} {w : World} {K : PySem.W.Frag} {mg : Str → Option Value} {base : Heap} {N ps : List Str} {qual : Str} {f : Addr}
end
end L2
set_option Elab.async false
set_option linter.all false
set_option maxRecDepth 100000
set_option maxHeartbeats 4000000
namespace L2
open PySem PySem.Spec PyProof.Rows
end L2
set_option Elab.async false
set_option linter.all false
set_option maxRecDepth 100000
set_option maxHeartbeats 4000000
namespace L2
open PySem PySem.Spec PyProof.Rows
structure PB (X : Cx) (es : List Expr) (t : TA) : Prop where
  ok : PA X es t
section
variable {X : Cx} {e a b : Expr} {es : List Expr} {te : TE} {t ta : TA} {p pos np cpos epos hpos tpos : Pos} {x n g : Str} {k i : Nat} {ps : List Str} {sp : Sp} {CX : CXT} {E : XK}
theorem pb_nil : PB X [] tNil := ⟨pa_nil⟩
theorem pb_c (ha : PE X e te) (hr : PB X es t) (h : isStar e = false := by rfl) : PB X (e :: es) (tCons te t) := ⟨pa_c ha hr.ok h⟩
theorem fb_lst (h : PB X es t) : PE X (.List es pos) (tLst t) := pe_lst h.ok
theorem fb_tup {x1} (h : PB X es t) : PE X (.Tuple es x1 pos) (tTup t) := pe_tup h.ok
theorem fb_fn (G : Fn X.prog X.w X.K X.mg X.base CX x k ps sp) (hr : Room k X.A) (hg : Gl X x) (hx : Passes CX X E) (ha : PB X (e :: es) t)
    (hdb : (x == ("__debug__" : Str)) = false := by decide) (he : isStar e = false := by rfl) (hpl : es.all (fun e => !isStar e) = true := by rfl) : PE X (.Call (.Name x p) (e :: es) [] pos) (tCall sp [] E t) := pe_fn G hr hg hx ha.ok hdb he hpl
theorem fb_cB {id : String} {r : List V → Hp → VK → Prop} (hc : CallR X (.builtin id) r) (hg : Gl X x) (hm : X.mg x = none) (hv : bootBuiltins x = some (.builtin id)) (ha : PB X (e :: es) t) (hn : x ≠ "__name__" := by decide) (hdb : (x == ("__debug__" : Str)) = false := by decide)
    (he : isStar e = false := by rfl) (hpl : es.all (fun e => !isStar e) = true := by rfl) : PE X (.Call (.Name x p) (e :: es) [] pos) (tCB r t) := pe_cB hc hg hm hv ha.ok hn hdb he hpl
theorem fb_cTy {T : String} {r : List V → Hp → VK → Prop} (hc : CallR X (.type T) r) (hg : Gl X x) (hm : X.mg x = none) (hv : bootBuiltins x = some (.type T)) (ha : PB X (e :: es) t) (hn : x ≠ "__name__" := by decide) (hdb : (x == ("__debug__" : Str)) = false := by decide)
    (he : isStar e = false := by rfl) (hpl : es.all (fun e => !isStar e) = true := by rfl) : PE X (.Call (.Name x p) (e :: es) [] pos) (tCB r t) := pe_cTy hc hg hm hv ha.ok hn hdb he hpl
theorem fb_bm1 {o : Expr} {to : TE} {name : Str} {apos : Pos} {T id : String} {r : V → List V → Hp → VK → Prop} (pa : PlainAttrs T) (slot : Slot T name id) (hty : typeOf (.builtin id) = pure (.type "method_descriptor")) (hm : MtR X id r) (ho : PE X o to) (ha : PB X [e] t)
    (he : isStar e = false := by rfl) (hbase : attributeBase o name X.env (eval o X.env) = eval o X.env := by rfl) (hline : (apos.endLine == cpos.line) = true := by rfl) : PE X (.Call (.Attribute o name apos) [e] [] cpos) (tBM X.K T r to t) :=
  pe_bm1 pa slot hty hm ho ha.ok he hbase hline
theorem fb_range1 {tg : Expr} (hg : Gl X "range") (hm : X.mg "range" = none) (ha : PB X [a] ta) (he : isStar a = false := by rfl) : PI X tg (.Call (.Name "range" p) [a] [] pos) (iRng1 ta) := pi_range1 hg hm ha.ok (star_cons he)
theorem fb_zip2 {elts : List Expr} {x1} (hg : Gl X "zip") (hm : X.mg "zip" = none) (ha : PB X [a, b] ta) (he : isStar a = false := by rfl) (hf : isStar b = false := by rfl) : PI X (.Tuple elts x1 tpos) (.Call (.Name "zip" p) [a, b] [] pos) (iZip2 X.K ta) :=
  pi_zip2 hg hm ha.ok (by rw [star_cons he, star_cons hf]; rfl) (by rw [star_cons hf]; rfl)
end
end L2
set_option Elab.async false
set_option linter.all false
set_option maxRecDepth 100000
set_option maxHeartbeats 4000000
namespace L2
open PySem PySem.Spec PyProof.Rows
section
variable {X : Cx} {tg : Expr}
end
end L2
set_option Elab.async false
set_option linter.all false
set_option maxRecDepth 100000
set_option maxHeartbeats 4000000
namespace LB
open PySem L2
inductive IsI : Value → Bool → Prop
  | non : IsI (.type "NoneType") false
  | bl : IsI (.type "bool") false
  | int : IsI (.type "int") true
  | str : IsI (.type "str") false
  | lst : IsI (.type "list") false
  | tup : IsI (.type "tuple") false
  | dct : IsI (.type "dict") false
theorem kit_int {K : PySem.W.Frag} {t : Value} {b : Bool} (h : IsI t b) : ∃ c, PySem.W.kitOne K t (.type "int") = some c ∧ (c = false → b = false) ∧ (c = true → ∃ d, PySem.W.kitOne K t (.type "bool") = some d ∧ b = !d) := by
  cases h
  · exact ⟨false, by kernel_rfl, fun _ => rfl, fun z => by cases z⟩
  · exact ⟨true, by kernel_rfl, fun z => (by cases z), fun _ => ⟨true, by kernel_rfl, rfl⟩⟩
  · exact ⟨true, by kernel_rfl, fun z => (by cases z), fun _ => ⟨false, by kernel_rfl, rfl⟩⟩
  · exact ⟨false, by kernel_rfl, fun _ => rfl, fun z => by cases z⟩
  · exact ⟨false, by kernel_rfl, fun _ => rfl, fun z => by cases z⟩
  · exact ⟨false, by kernel_rfl, fun _ => rfl, fun z => by cases z⟩
  · exact ⟨false, by kernel_rfl, fun _ => rfl, fun z => by cases z⟩
def sb_is_int (K : PySem.W.Frag) (a : V) (H : Hp) (Q : VK) (E : XK) : Prop := ∃ t b, TyOf K H a t ∧ IsI t b ∧ Q (.bl b) H
def sp_is_int (K : PySem.W.Frag) : Sp := sp1 (sb_is_int K)
def sp__law_int (K : PySem.W.Frag) : Sp := sp1 (sb_is_int K)
def cellF (ns : List Int) (k : Nat) : Int :=
  if k < ns.length then (ns.getD k 0 + 104729) * 2718281828459045235360287471352662497757 % 10000000000000000000000000000000000000000
  else
    let n : Int := (k : Int) * k * 7919 + 5 + (if 0 < ns.length then ns.getD (k * 7 % ns.length) 0 % 10000000000000000000000000000000000000000 * 48271 else 0)
    n * n % 2147483629 * 2718281828459045235360287471352662497757 % 10000000000000000000000000000000000000000
theorem cellF_lo (ns : List Int) (k : Nat) : 0 ≤ cellF ns k := by unfold cellF; dsimp only; split <;> exact Int.emod_nonneg _ (by decide)
def sb__law_cell (K : PySem.W.Frag) (a b : V) (H : Hp) (Q : VK) (E : XK) : Prop := ∃ (l : Addr) (ns : List Int) (k : Nat), a = .ref l ∧ b = .int k ∧ SqL K H l (ns.map V.int) ∧ (∀ n ∈ ns, Builtin.Int.intBits n ≤ 1048576) ∧ k ≤ 1000 ∧ Q (.int (cellF ns k)) H
def sp__law_cell (K : PySem.W.Frag) : Sp := sp2 (sb__law_cell K)
def tb_is_int (K : PySem.W.Frag) : TS :=
  (tRet (tAndV (tCB (rIsinst K) (tCons (tVar 0) (tCons (tC (.ty "int")) tNil))) (tNotV (tCB (rIsinst K) (tCons (tVar 0) (tCons (tC (.ty "bool")) tNil))))))
def tb__law_cell (K : PySem.W.Frag) : TS :=
  (tSeq (tIfS (tTest (tOp rLtU (tVar 1) (tCB (rLenU K) (tCons (tVar 0) tNil)))) (tRet (tOp rModU (tOp (rMulU K) (tOp (rAddU K) (tOp (rIx K) (tVar 0) (tVar 1)) (tC (.int 104729))) (tC (.int 2718281828459045235360287471352662497757))) (tC (.int 10000000000000000000000000000000000000000)))) tNext)
    (tSeq (tAsg (tOp (rAddU K) (tOp (rMulU K) (tOp (rMulU K) (tVar 1) (tVar 1)) (tC (.int 7919))) (tC (.int 5))) (gName 2))
    (tSeq (tIfS (tTest (tOp rGtU (tCB (rLenU K) (tCons (tVar 0) tNil)) (tC (.int 0)))) (tAsg (tOp (rAddU K) (tVar 2) (tOp (rMulU K) (tOp rModU (tOp (rIx K) (tVar 0) (tOp rModU (tOp (rMulU K) (tVar 1) (tC (.int 7))) (tCB (rLenU K) (tCons (tVar 0) tNil)))) (tC (.int 10000000000000000000000000000000000000000))) (tC (.int 48271)))) (gName 2)) tNext)
    (tRet (tOp rModU (tOp (rMulU K) (tOp rModU (tOp (rMulU K) (tVar 2) (tVar 2)) (tC (.int 2147483629))) (tC (.int 2718281828459045235360287471352662497757))) (tC (.int 10000000000000000000000000000000000000000)))))))
def tb__law_int (K : PySem.W.Frag) : TS :=
  (tRet (tAndV (tCB (rIsinst K) (tCons (tVar 0) (tCons (tC (.ty "int")) tNil))) (tNotV (tCB (rIsinst K) (tCons (tVar 0) (tCons (tC (.ty "bool")) tNil))))))
abbrev Rt (Q : VK) : Ends := { nx := fun _ H' => Q .non H', rt := Q }
theorem rd_is_int {K : PySem.W.Frag} {a : V} {H : Hp} {Q : VK} {E : XK} (h : sb_is_int K a H Q E) : tb_is_int K (Rt Q) [some a] H := by
  obtain ⟨t, b, ty, hi, q⟩ := h
  obtain ⟨c, e, h1, h2⟩ := kit_int (K := K) hi
  unfold tb_is_int
  refine w_ret (w_andV (w_cb (w_cons (w_var rfl (w_cons (w_c (w_nil ?_)))))))
  refine ⟨a, "int", t, c, rfl, ty, e, w_bl ?_⟩
  refine iteB (fun z => ?_) (fun z => ?_)
  · obtain ⟨d, e2, hb⟩ := h2 z
    refine w_notV (w_cb (w_cons (w_var rfl (w_cons (w_c (w_nil ?_))))))
    refine ⟨a, "bool", t, d, rfl, ty, e2, w_bl ?_⟩
    rw [← hb]; exact q
  · rw [← h1 z]; exact q
theorem rd__law_int {K : PySem.W.Frag} {a : V} {H : Hp} {Q : VK} {E : XK} (h : sb_is_int K a H Q E) : tb__law_int K (Rt Q) [some a] H := rd_is_int h
theorem gcd_step (x y : Nat) : Nat.gcd y (x % y) = Nat.gcd x y := by rw [Nat.gcd_comm y (x % y), ← Nat.gcd_rec y x, Nat.gcd_comm]
theorem add_bits {n : Int} (h : Builtin.Int.intBits n ≤ 1048576) : Builtin.Int.intBits (n + 104729) ≤ 1048600 := by
  have h1 : n.natAbs < 2 ^ 1048576 := by
    unfold Builtin.Int.intBits at h
    split at h
    · rename_i e
      have : n = 0 := by simpa using e
      subst this
      exact Nat.two_pow_pos _
    · rename_i e
      have h0 : n.natAbs ≠ 0 := fun z => e (by simp; omega)
      exact (Nat.log2_lt h0).mp (by omega)
  unfold Builtin.Int.intBits
  split
  · omega
  · rename_i e
    have h0 : (n + 104729).natAbs ≠ 0 := fun z => e (by simp; omega)
    have h2 : (n + 104729).natAbs < 2 ^ 1048599 := by
      have e1 : (2 : Nat) ^ 1048599 = 2 ^ 1048576 * 2 ^ 23 := by rw [← Nat.pow_add]
      have e2 : (2 : Nat) ^ 23 = 8388608 := by decide
      have e3 : 1 ≤ (2 : Nat) ^ 1048576 := Nat.one_le_two_pow
      rw [e1, e2]
      generalize (2 : Nat) ^ 1048576 = z at h1 e3 ⊢
      omega
    have := (Nat.log2_lt h0).mpr h2
    omega
theorem cell_mul {n : Int} (h : Builtin.Int.intBits n ≤ 1048576) : IntMulOk (n + 104729) 2718281828459045235360287471352662497757 :=
  IntMulOk.of_le (add_bits h) (bits_1000 (by decide) (by decide)) (by decide)
theorem rd__law_cell {K : PySem.W.Frag} {a b : V} {H : Hp} {Q : VK} {E : XK} (h : sb__law_cell K a b H Q E) : tb__law_cell K (Rt Q) [some a, some b, none] H := by
  obtain ⟨l, ns, k, rfl, rfl, hl, hb, hk, q⟩ := h
  unfold tb__law_cell
  refine w_seq (w_ifS (w_test (w_op (w_var rfl (w_cb (w_cons (w_var rfl (w_nil (w_lenL hl (w_ltI (w_bl ?_)))))))))))
  rw [List.length_map]
  refine iteD (fun hlt => ?_) (fun hge => ?_)
  · have hlt' : k < ns.length := by omega
    refine w_ret (w_op (w_op (w_op (w_op (w_var rfl (w_var rfl (w_ixL hl (atI_ints (by omega) hlt) (w_c (w_addI (w_c (w_mulI ?_ (w_c (w_modI (by decide) ?_)))))))))))))
    · exact cell_mul (hb _ (by rw [Int.toNat_natCast]; exact L2.getD_mem hlt'))
    · unfold cellF at q
      rw [if_pos hlt'] at q
      rw [Int.toNat_natCast]; exact q
  · have hge' : ¬ k < ns.length := by omega
    unfold cellF at q
    rw [if_neg hge'] at q
    dsimp only at q
    have kk : (k : Int) ≤ 1000 := by omega
    have kn : (0 : Int) ≤ k := by omega
    have k2 : (k : Int) * k ≤ 1000 * 1000 := Int.mul_le_mul kk kk kn (by decide)
    have k3 : 0 ≤ (k : Int) * k := Int.mul_nonneg kn kn
    refine w_next (w_seq (w_asg (w_op (w_op (w_op (w_var rfl (w_var rfl (w_mulI (mulok_l (by omega) (by omega)) (w_c (w_mulI (mulok_r (by decide) (by decide)) (w_c (w_addI (w_name ?_)))))))))))))
    have fin : ∀ N : Int, 0 ≤ N → N ≤ 1000000000000000000000000000000000000000000000000000 → N * N % 2147483629 * 2718281828459045235360287471352662497757 % 10000000000000000000000000000000000000000 = N * N % 2147483629 * 2718281828459045235360287471352662497757 % 10000000000000000000000000000000000000000 →
        Q (.int (N * N % 2147483629 * 2718281828459045235360287471352662497757 % 10000000000000000000000000000000000000000)) H →
        (tRet (tOp rModU (tOp (rMulU K) (tOp rModU (tOp (rMulU K) (tVar 2) (tVar 2)) (tC (.int 2147483629))) (tC (.int 2718281828459045235360287471352662497757))) (tC (.int 10000000000000000000000000000000000000000)))) (Rt Q) [some (.ref l), some (.int k), some (.int N)] H := by
      intro N h0 h1 _ hq
      have r0 := Int.emod_nonneg (N * N) (show (2147483629 : Int) ≠ 0 by decide)
      have r1 := Int.emod_lt_of_pos (N * N) (show (0 : Int) < 2147483629 by decide)
      refine w_ret (w_op (w_op (w_op (w_op (w_var rfl (w_var rfl (w_mulI (mulok_big (by omega) (by omega) (by omega) (by omega)) (w_c (w_modI (by decide) (w_c (w_mulI (mulok_l (by omega) (by omega)) (w_c (w_modI (by decide) ?_)))))))))))))
      exact hq
    refine w_seq (w_ifS (w_test (w_op (w_cb (w_cons (w_var rfl (w_nil (w_lenL hl (w_c (w_gtI (w_bl ?_)))))))))))
    rw [List.length_map]
    refine iteD (fun hp => ?_) (fun hz => ?_)
    · have hp' : 0 < ns.length := by omega
      rw [if_pos hp'] at q
      refine w_asg (w_op (w_var rfl (w_op (w_op (w_op (w_var rfl (w_op (w_op (w_var rfl (w_c (w_mulI (mulok_r (by decide) (by decide)) (w_cb (w_cons (w_var rfl (w_nil (w_lenL hl (w_modI ?_ (w_ixL (v := .int (ns.getD (k * 7 % ns.length) 0)) hl ?_ (w_c (w_modI (by decide) (w_c (w_mulI (mulok_r (by decide) (by decide)) (w_addI (w_name ?_))))))))))))))))))))))))
      · rw [List.length_map]; omega
      · rw [List.length_map]
        have e : (k : Int) * 7 % (ns.length : Int) = ((k * 7 % ns.length : Nat) : Int) := by simp
        rw [e]
        exact atI_nat (get_ints (Nat.mod_lt _ hp'))
      · have r0 := Int.emod_nonneg (ns.getD (k * 7 % ns.length) 0) (show (10000000000000000000000000000000000000000 : Int) ≠ 0 by decide)
        have r1 := Int.emod_lt_of_pos (ns.getD (k * 7 % ns.length) 0) (show (0 : Int) < 10000000000000000000000000000000000000000 by decide)
        exact fin _ (by omega) (by omega) rfl q
    · have hz' : ¬ 0 < ns.length := by omega
      rw [if_neg hz'] at q
      rw [Int.add_zero] at q
      exact w_next (fin _ (by omega) (by omega) rfl q)
theorem kit_tup {K : PySem.W.Frag} : PySem.W.kitOne K (.type "tuple") (.type "tuple") = some true := by kernel_rfl
end LB
set_option Elab.async false
set_option linter.all false
set_option maxRecDepth 100000
set_option maxHeartbeats 4000000
namespace LB
open PySem L2
def isIntD : PyData → Bool | .int _ => true | _ => false
def isTupD (lo hi : Nat) : PyData → Bool | .tuple xs => decide (lo ≤ xs.length) && decide (xs.length ≤ hi) | _ => false
def isPriceD : PyData → Bool | .int i => decide (1 ≤ i) && decide (i ≤ 1000000000) | _ => false
def isAmtD : PyData → Bool | .int i => decide (0 ≤ i) && decide (i ≤ 1000000000000000000) | _ => false
def posD : PyData → Bool | .int i => decide (0 < i) | _ => false
def itemsD : PyData → List PyData | .tuple xs => xs | _ => []
def arePricesD (d : PyData) : Bool := isTupD 1 6 d && (itemsD d).all isPriceD
def areAmtsD (d : PyData) : Bool := isTupD 1 6 d && (itemsD d).all isAmtD && (itemsD d).any posD
def isDayD (d : PyData) : Bool := isTupD 2 2 d && arePricesD ((itemsD d).getD 0 .none) && areAmtsD ((itemsD d).getD 1 .none) && decide ((itemsD ((itemsD d).getD 0 .none)).length = (itemsD ((itemsD d).getD 1 .none)).length)
def waresD (d : PyData) : Nat := (itemsD ((itemsD d).getD 0 .none)).length
theorem isI_ty (d : PyData) : IsI (tyD d) (isIntD d) := by cases d <;> constructor
def sb_is_tuple (K : PySem.W.Frag) (a b c : V) (H : Hp) (Q : VK) (E : XK) : Prop := ∃ (d : PyData) (lo hi : Nat), Rep H a d ∧ b = .int lo ∧ c = .int hi ∧ Q (.bl (isTupD lo hi d)) H
def sp_is_tuple (K : PySem.W.Frag) : Sp := sp3 (sb_is_tuple K)
def sb_is_price (K : PySem.W.Frag) (a : V) (H : Hp) (Q : VK) (E : XK) : Prop := ∃ d : PyData, Rep H a d ∧ Q (.bl (isPriceD d)) H
def sp_is_price (K : PySem.W.Frag) : Sp := sp1 (sb_is_price K)
def sb_is_amount (K : PySem.W.Frag) (a : V) (H : Hp) (Q : VK) (E : XK) : Prop := ∃ d : PyData, Rep H a d ∧ Q (.bl (isAmtD d)) H
def sp_is_amount (K : PySem.W.Frag) : Sp := sp1 (sb_is_amount K)
def sb_are_prices (K : PySem.W.Frag) (a : V) (H : Hp) (Q : VK) (E : XK) : Prop := ∃ d : PyData, Rep H a d ∧ ∀ H', Same H H' → Q (.bl (arePricesD d)) H'
def sp_are_prices (K : PySem.W.Frag) : Sp := sp1 (sb_are_prices K)
def sb_are_amounts (K : PySem.W.Frag) (a : V) (H : Hp) (Q : VK) (E : XK) : Prop := ∃ d : PyData, Rep H a d ∧ ∀ H', Same H H' → Q (.bl (areAmtsD d)) H'
def sp_are_amounts (K : PySem.W.Frag) : Sp := sp1 (sb_are_amounts K)
def sb_is_day (K : PySem.W.Frag) (a : V) (H : Hp) (Q : VK) (E : XK) : Prop := ∃ d : PyData, Rep H a d ∧ ∀ H', Same H H' → Q (.bl (isDayD d)) H'
def sp_is_day (K : PySem.W.Frag) : Sp := sp1 (sb_is_day K)
def tb_is_tuple (K : PySem.W.Frag) : TS :=
  (tRet (tAndV (tCB (rIsinst K) (tCons (tVar 0) (tCons (tC (.ty "tuple")) tNil))) (tChain rLeU rLeU (tVar 1) (tCB (rLenU K) (tCons (tVar 0) tNil)) (tVar 2))))
def tb_is_price (K : PySem.W.Frag) : TS :=
  (tRet (tAndV (tCall (sp_is_int K) [] E0 (tCons (tVar 0) tNil)) (tChain rLeU rLeU (tC (.int 1)) (tVar 0) (tC (.int 1000000000)))))
def tb_is_amount (K : PySem.W.Frag) : TS :=
  (tRet (tAndV (tCall (sp_is_int K) [] E0 (tCons (tVar 0) tNil)) (tChain rLeU rLeU (tC (.int 0)) (tVar 0) (tC (.int 1000000000000000000)))))
def tb_are_prices (K : PySem.W.Frag) : TS :=
  (tRet (tAndV (tCall (sp_is_tuple K) [] E0 (tCons (tVar 0) (tCons (tC (.int 1)) (tCons (tC (.int 6)) tNil)))) (tCB (rAllU K) (tCons (tComp [none] (iSeq K (tVar 0)) (gName 0) tYes (tCall (sp_is_price K) [] E0 (tCons (tVar 0) tNil))) tNil))))
def tb_are_amounts (K : PySem.W.Frag) : TS :=
  (tSeq (tIfS (tOr (tNot (tTru K (tCall (sp_is_tuple K) [] E0 (tCons (tVar 0) (tCons (tC (.int 1)) (tCons (tC (.int 6)) tNil)))))) (tNot (tTru K (tCB (rAllU K) (tCons (tComp [none] (iSeq K (tVar 0)) (gName 0) tYes (tCall (sp_is_amount K) [] E0 (tCons (tVar 0) tNil))) tNil))))) (tRet (tC (.bl false))) tNext)
    (tRet (tCB (rAnyU K) (tCons (tComp [none] (iSeq K (tVar 0)) (gName 0) tYes (tOp rGtU (tVar 0) (tC (.int 0)))) tNil))))
def tb_is_day (K : PySem.W.Frag) : TS :=
  (tSeq (tIfS (tNot (tTru K (tCall (sp_is_tuple K) [] E0 (tCons (tVar 0) (tCons (tC (.int 2)) (tCons (tC (.int 2)) tNil)))))) (tRet (tC (.bl false))) tNext)
    (tSeq (tAsg (tOp (rIx K) (tVar 0) (tC (.int 0))) (gName 1))
    (tSeq (tAsg (tOp (rIx K) (tVar 0) (tC (.int 1))) (gName 2))
    (tRet (tAndV (tCall (sp_are_prices K) [] E0 (tCons (tVar 1) tNil)) (tAndV (tCall (sp_are_amounts K) [] E0 (tCons (tVar 2) tNil)) (tOp (rEqU K) (tCB (rLenU K) (tCons (tVar 1) tNil)) (tCB (rLenU K) (tCons (tVar 2) tNil)))))))))
theorem kit_tupD {K : PySem.W.Frag} (d : PyData) : ∃ b, PySem.W.kitOne K (tyD d) (.type "tuple") = some b ∧ (b = true → ∃ xs, d = .tuple xs) ∧ (b = false → ∀ lo hi, isTupD lo hi d = false) := by
  cases d with
  | tuple xs => exact ⟨true, by kernel_rfl, fun _ => ⟨xs, rfl⟩, fun z => by cases z⟩
  | none => exact ⟨false, by kernel_rfl, fun z => (by cases z), fun _ _ _ => rfl⟩
  | bool _ => exact ⟨false, by kernel_rfl, fun z => (by cases z), fun _ _ _ => rfl⟩
  | int _ => exact ⟨false, by kernel_rfl, fun z => (by cases z), fun _ _ _ => rfl⟩
  | str _ => exact ⟨false, by kernel_rfl, fun z => (by cases z), fun _ _ _ => rfl⟩
  | list _ => exact ⟨false, by kernel_rfl, fun z => (by cases z), fun _ _ _ => rfl⟩
  | dict _ => exact ⟨false, by kernel_rfl, fun z => (by cases z), fun _ _ _ => rfl⟩
theorem rd_is_tuple {K : PySem.W.Frag} {a b c : V} {H : Hp} {Q : VK} {E : XK} (h : sb_is_tuple K a b c H Q E) : tb_is_tuple K (Rt Q) [some a, some b, some c] H := by
  obtain ⟨d, lo, hi, r, rfl, rfl, q⟩ := h
  obtain ⟨k, e, h1, h2⟩ := kit_tupD (K := K) d
  unfold tb_is_tuple
  refine w_ret (w_andV (w_cb (w_cons (w_var rfl (w_cons (w_c (w_nil ?_)))))))
  refine ⟨a, "tuple", _, k, rfl, r.ty, e, w_bl (iteB (fun z => ?_) fun z => ?_)⟩
  · obtain ⟨xs, rfl⟩ := h1 z
    unfold Rep at r
    obtain ⟨p, ys, rfl, hp, rs⟩ := r
    have hl := rs.length
    refine w_chain (w_var rfl (w_cb (w_cons (w_var rfl (w_nil (w_lenT (SqT.of hp) (w_leI (w_bl ?_))))))))
    have e1 : isTupD lo hi (.tuple xs) = (decide ((lo : Int) ≤ (ys.length : Int)) && decide ((ys.length : Int) ≤ (hi : Int))) := by
      show (decide (lo ≤ xs.length) && decide (xs.length ≤ hi)) = _
      rw [← hl]
      congr 1 <;> simp only [Int.ofNat_le]
    rw [e1] at q
    refine iteB (fun z => ?_) fun z => ?_
    · refine w_var rfl (w_leI ?_)
      rw [z, Bool.true_and] at q; exact q
    · rw [z, Bool.false_and] at q; exact q
  · rw [h2 z] at q; exact q
theorem rd_is_price {K : PySem.W.Frag} {a : V} {H : Hp} {Q : VK} {E : XK} (h : sb_is_price K a H Q E) : tb_is_price K (Rt Q) [some a] H := by
  obtain ⟨d, r, q⟩ := h
  unfold tb_is_price
  refine w_ret (w_andV (w_call (w_cons (w_var rfl (w_nil ⟨_, rfl, _, _, r.ty, isI_ty d, w_bl ?_⟩)))))
  cases d with
  | int i =>
    unfold Rep at r
    subst r
    refine iteT (w_chain (w_c (w_var rfl (w_leI (w_bl (iteB (fun z => ?_) fun z => ?_))))))
    · refine w_c (w_leI ?_)
      have q : Q (.bl (decide (1 ≤ i) && decide (i ≤ 1000000000))) H := q
      rw [z, Bool.true_and] at q; exact q
    · have q : Q (.bl (decide (1 ≤ i) && decide (i ≤ 1000000000))) H := q
      rw [z, Bool.false_and] at q; exact q
  | none => exact iteF q
  | bool _ => exact iteF q
  | str _ => exact iteF q
  | list _ => exact iteF q
  | tuple _ => exact iteF q
  | dict _ => exact iteF q
theorem rd_is_amount {K : PySem.W.Frag} {a : V} {H : Hp} {Q : VK} {E : XK} (h : sb_is_amount K a H Q E) : tb_is_amount K (Rt Q) [some a] H := by
  obtain ⟨d, r, q⟩ := h
  unfold tb_is_amount
  refine w_ret (w_andV (w_call (w_cons (w_var rfl (w_nil ⟨_, rfl, _, _, r.ty, isI_ty d, w_bl ?_⟩)))))
  cases d with
  | int i =>
    unfold Rep at r
    subst r
    refine iteT (w_chain (w_c (w_var rfl (w_leI (w_bl (iteB (fun z => ?_) fun z => ?_))))))
    · refine w_c (w_leI ?_)
      have q : Q (.bl (decide (0 ≤ i) && decide (i ≤ 1000000000000000000))) H := q
      rw [z, Bool.true_and] at q; exact q
    · have q : Q (.bl (decide (0 ≤ i) && decide (i ≤ 1000000000000000000))) H := q
      rw [z, Bool.false_and] at q; exact q
  | none => exact iteF q
  | bool _ => exact iteF q
  | str _ => exact iteF q
  | list _ => exact iteF q
  | tuple _ => exact iteF q
  | dict _ => exact iteF q
theorem tup_of {lo hi : Nat} {d : PyData} (h : isTupD lo hi d = true) : ∃ xs, d = .tuple xs ∧ lo ≤ xs.length ∧ xs.length ≤ hi := by
  cases d with
  | tuple xs =>
    have h' : (decide (lo ≤ xs.length) && decide (xs.length ≤ hi)) = true := h
    rw [Bool.and_eq_true] at h'
    exact ⟨xs, rfl, of_decide_eq_true h'.1, of_decide_eq_true h'.2⟩
  | none => cases h
  | bool _ => cases h
  | int _ => cases h
  | str _ => cases h
  | list _ => cases h
  | dict _ => cases h
theorem all_eq {ds : List PyData} {bs : List Bool} {f : PyData → Bool} (hl : bs.length = ds.length) (h : ∀ (i : Nat) b, bs[i]? = some b → ∃ d, ds[i]? = some d ∧ b = f d) : bs = ds.map f := by
  apply List.ext_getElem?
  intro i
  rw [List.getElem?_map]
  cases e : bs[i]? with
  | none =>
    have : ds[i]? = none := List.getElem?_eq_none_iff.mpr (by have := List.getElem?_eq_none_iff.mp e; omega)
    rw [this]; rfl
  | some b =>
    obtain ⟨d, e1, e2⟩ := h i b e
    rw [e1, e2]; rfl
theorem rd_allOf {K : PySem.W.Frag} {H : Hp} {σ : St} {p : Addr} {xs : List V} {ds : List PyData} {l : List (Option Nat)} {te : TE} {σr : St} {n : Nat} {Q : VK} (f : PyData → Bool) (hσ : σ[n]? = some (some (.ref p))) (hp : H p = some (.tup xs)) (rs : Reps H xs ds) (hz : ds.length ≤ 8) (hini : ∃ r0, iniOf l σ = r0 :: σr)
    (hs : ∀ (i : Nat) x d H1 (R : VK), xs[i]? = some x → ds[i]? = some d → Same H H1 → Rep H1 x d → (∀ H2, Same H1 H2 → R (.bl (f d)) H2) → te (some x :: σr) H1 R)
    (q : ∀ D H', H D = none → Same H H' → H' D = some (.lst ((ds.map f).map V.bl)) → Q (.ref D) H') :
    tComp l (iSeq K (tVar n)) (gName 0) tYes te σ H Q := by
  have hl := rs.length
  refine w_comp (w_seq0 (w_var hσ (⟨_, rfl, .inr ⟨⟨_, SqT.of hp⟩, fun D hD => ?_⟩⟩)))
  refine comp_seqP (K := K) (a := p) (.inl ⟨rfl, hp⟩) D (fun i v _ => ∃ d, ds[i]? = some d ∧ v = .bl (f d)) (fun _ _ _ _ _ z => z) (by omega) hD hini (fun i x H1 R hi s1 k => ?_) (fun ys H1 hy hall s1 hD1 => ?_)
  · obtain ⟨d, hd, rd⟩ := rs.get hi
    exact hs i x d H1 R hi hd s1 (Rep.mono s1 d x rd) fun H2 s2 => k _ H2 s2 ⟨d, hd, rfl⟩
  · obtain ⟨bs, e, hb⟩ := all_bls (P := fun i b => ∃ d, ds[i]? = some d ∧ b = f d) (fun i v hv => by obtain ⟨d, h1, h2⟩ := hall i v hv; exact ⟨f d, h2, d, h1, rfl⟩)
    have e2 : bs = ds.map f := all_eq (by have := congrArg List.length e; simp at this; omega) hb
    subst e e2
    exact q D H1 hD s1 hD1
theorem all_id (ds : List PyData) (f : PyData → Bool) : (ds.map f).all id = ds.all f := by
  induction ds with
  | nil => rfl
  | cons d ds ih => simp only [List.map_cons, List.all_cons, id, ih]
theorem any_id (ds : List PyData) (f : PyData → Bool) : (ds.map f).any id = ds.any f := by
  induction ds with
  | nil => rfl
  | cons d ds ih => simp only [List.map_cons, List.any_cons, id, ih]
theorem rd_are_prices {K : PySem.W.Frag} {a : V} {H : Hp} {Q : VK} {E : XK} (h : sb_are_prices K a H Q E) : tb_are_prices K (Rt Q) [some a] H := by
  obtain ⟨d, r, q⟩ := h
  unfold tb_are_prices
  refine w_ret (w_andV (w_call (w_cons (w_var rfl (w_cons (w_c (w_cons (w_c (w_nil ⟨_, _, _, rfl, d, 1, 6, r, rfl, rfl, w_bl ?_⟩)))))))))
  refine iteB (fun z => ?_) fun z => ?_
  · obtain ⟨ds, rfl, h1, h2⟩ := tup_of z
    unfold Rep at r
    obtain ⟨p, xs, rfl, hp, rs⟩ := r
    refine w_cb (w_cons (rd_allOf isPriceD rfl hp rs (by omega) ⟨_, rfl⟩ (fun i x d H1 R hi hd s1 rd k => ?_) fun D H1 hD s1 hD1 => w_nil (w_allA (.inl (SqL.of hD1)) ?_)))
    · exact w_call (w_cons (w_var rfl (w_nil ⟨_, rfl, d, rd, k _ (Same.refl _)⟩)))
    · rw [all_id]
      have := q H1 s1
      unfold arePricesD at this
      rw [z, Bool.true_and] at this; exact this
  · have := q H (Same.refl _)
    unfold arePricesD at this
    rw [z, Bool.false_and] at this; exact this
theorem rd_are_amounts {K : PySem.W.Frag} {a : V} {H : Hp} {Q : VK} {E : XK} (h : sb_are_amounts K a H Q E) : tb_are_amounts K (Rt Q) [some a] H := by
  obtain ⟨d, r, q⟩ := h
  unfold tb_are_amounts
  refine w_seq (w_ifS (w_or (w_not (w_tru (w_call (w_cons (w_var rfl (w_cons (w_c (w_cons (w_c (w_nil ⟨_, _, _, rfl, d, 1, 6, r, rfl, rfl, w_trub ?_⟩))))))))))))
  cases z : isTupD 1 6 d with
  | false =>
    refine iteT (iteT (w_ret (w_c ?_)))
    have := q H (Same.refl _)
    unfold areAmtsD at this
    rw [z, Bool.false_and, Bool.false_and] at this; exact this
  | true =>
    obtain ⟨ds, rfl, h1, h2⟩ := tup_of z
    unfold Rep at r
    obtain ⟨p, xs, rfl, hp, rs⟩ := r
    refine iteF (w_not (w_tru (w_cb (w_cons (rd_allOf isAmtD rfl hp rs (by omega) ⟨_, rfl⟩ (fun i x d H1 R hi hd s1 rd k => ?_) fun D H1 hD s1 hD1 => w_nil (w_allA (.inl (SqL.of hD1)) (w_trub ?_)))))))
    · exact w_call (w_cons (w_var rfl (w_nil ⟨_, rfl, d, rd, k _ (Same.refl _)⟩)))
    · rw [all_id]
      have qa : ∀ H', Same H H' → Q (.bl (ds.all isAmtD && ds.any posD)) H' := fun H' s => by
        have := q H' s
        unfold areAmtsD at this
        rw [z, Bool.true_and] at this; exact this
      cases y : ds.all isAmtD with
      | false =>
        refine iteT (w_ret (w_c ?_))
        have := qa H1 s1
        rw [y, Bool.false_and] at this; exact this
      | true =>
        refine iteF (w_next (w_ret (w_cb (w_cons (rd_allOf posD rfl (s1 _ _ hp) (Reps.mono s1 _ _ rs) (by omega) ⟨_, rfl⟩ (fun i x d H2 R hi hd s2 rd k => ?_) fun D2 H2 hD2 s2 hD3 => w_nil (w_anyA (.inl (SqL.of hD3)) ?_))))))
        · have hd' := List.all_eq_true.mp y d (List.mem_of_getElem? hd)
          cases d with
          | int i =>
            unfold Rep at rd
            subst rd
            exact w_op (w_var rfl (w_c (w_gtI (k _ (Same.refl _)))))
          | none => cases hd'
          | bool _ => cases hd'
          | str _ => cases hd'
          | list _ => cases hd'
          | tuple _ => cases hd'
          | dict _ => cases hd'
        · rw [any_id]
          have := qa H2 (s1.trans s2)
          rw [y, Bool.true_and] at this; exact this
theorem rd_is_day {K : PySem.W.Frag} {a : V} {H : Hp} {Q : VK} {E : XK} (h : sb_is_day K a H Q E) : tb_is_day K (Rt Q) [some a, none, none] H := by
  obtain ⟨d, r, q⟩ := h
  unfold tb_is_day
  refine w_seq (w_ifS (w_not (w_tru (w_call (w_cons (w_var rfl (w_cons (w_c (w_cons (w_c (w_nil ⟨_, _, _, rfl, d, 2, 2, r, rfl, rfl, w_trub ?_⟩)))))))))))
  cases z : isTupD 2 2 d with
  | false =>
    refine iteT (w_ret (w_c ?_))
    have := q H (Same.refl _)
    unfold isDayD at this
    rw [z, Bool.false_and, Bool.false_and, Bool.false_and] at this; exact this
  | true =>
    obtain ⟨ds, rfl, h1, h2⟩ := tup_of z
    match ds, h1, h2 with
    | [d0, d1], _, _ =>
    unfold Rep at r
    obtain ⟨p, xs, rfl, hp, rs⟩ := r
    unfold Reps at rs
    obtain ⟨x0, r1, rfl, rd0, rs⟩ := rs
    unfold Reps at rs
    obtain ⟨x1, r2, rfl, rd1, rs⟩ := rs
    unfold Reps at rs
    subst rs
    have qa : ∀ H', Same H H' → Q (.bl (arePricesD d0 && areAmtsD d1 && decide ((itemsD d0).length = (itemsD d1).length))) H' := fun H' s => by
      have := q H' s
      unfold isDayD at this
      rw [z, Bool.true_and] at this; exact this
    refine iteF (w_next (w_seq (w_asg (w_op (w_var rfl (w_c (w_ixT (SqT.of hp) (v := x0) rfl (w_name ?_))))))))
    refine w_seq (w_asg (w_op (w_var rfl (w_c (w_ixT (SqT.of hp) (v := x1) rfl (w_name ?_))))))
    refine w_ret (w_andV (w_call (w_cons (w_var rfl (w_nil ⟨_, rfl, d0, rd0, fun H1 s1 => w_bl ?_⟩)))))
    cases y : arePricesD d0 with
    | false =>
      refine iteF ?_
      have := qa H1 s1
      rw [y, Bool.false_and, Bool.false_and] at this; exact this
    | true =>
      refine iteT (w_andV (w_call (w_cons (w_var rfl (w_nil ⟨_, rfl, d1, Rep.mono s1 _ _ rd1, fun H2 s2 => w_bl ?_⟩)))))
      have s12 := s1.trans s2
      cases x : areAmtsD d1 with
      | false =>
        refine iteF ?_
        have := qa H2 s12
        rw [y, x, Bool.true_and, Bool.false_and] at this; exact this
      | true =>
        have t0 : isTupD 1 6 d0 = true := by unfold arePricesD at y; rw [Bool.and_eq_true] at y; exact y.1
        have t1 : isTupD 1 6 d1 = true := by unfold areAmtsD at x; rw [Bool.and_eq_true, Bool.and_eq_true] at x; exact x.1.1
        obtain ⟨e0, rfl, _, _⟩ := tup_of t0
        obtain ⟨e1, rfl, _, _⟩ := tup_of t1
        have rd0' := Rep.mono s12 _ _ rd0
        have rd1' := Rep.mono s12 _ _ rd1
        unfold Rep at rd0' rd1'
        obtain ⟨p0, ys0, rfl, hp0, rs0⟩ := rd0'
        obtain ⟨p1, ys1, rfl, hp1, rs1⟩ := rd1'
        refine iteT (w_op (w_cb (w_cons (w_var rfl (w_nil (w_lenT (SqT.of hp0) (w_cb (w_cons (w_var rfl (w_nil (w_lenT (SqT.of hp1) (w_eqI ?_))))))))))))
        have := qa H2 s12
        rw [y, x, Bool.true_and, Bool.true_and] at this
        rw [rs0.length, rs1.length]
        have ee : decide ((e0.length : Int) = (e1.length : Int)) = decide ((itemsD (.tuple e0)).length = (itemsD (.tuple e1)).length) := by
          show _ = decide (e0.length = e1.length)
          simp only [Int.ofNat_inj]
        rw [ee]; exact this
end LB
set_option Elab.async false
set_option linter.all false
set_option maxRecDepth 100000
set_option maxHeartbeats 4000000
namespace LB
open PySem L2
def sb__law_next (K : PySem.W.Frag) (a : V) (H : Hp) (Q : VK) (E : XK) : Prop := ∃ c : Int, a = .int c ∧ ∀ c', 0 ≤ c' → c' < 10000000000000000000000000000000000000000 → Q (.int c') H
def sp__law_next (K : PySem.W.Frag) : Sp := sp1 (sb__law_next K)
def dayD (d : List Int × List Int) : PyData := .tuple [.tuple (d.1.map .int), .tuple (d.2.map .int)]
structure GoodDay (n : Nat) (d : List Int × List Int) : Prop where
  l1 : d.1.length = n
  l2 : d.2.length = n
  pr : ∀ x ∈ d.1, 1 ≤ x ∧ x ≤ 1000000000
  am : ∀ x ∈ d.2, 0 ≤ x ∧ x ≤ 1000000000000000000
  ps : ∃ x ∈ d.2, 0 < x
def tb__law_next (K : PySem.W.Frag) : TS :=
  (tRet (tOp rModU (tOp (rAddU K) (tOp (rMulU K) (tVar 0) (tC (.int 6364136223846793007))) (tC (.int 1442695040888963407))) (tC (.int 10000000000000000000000000000000000000000))))
theorem rd__law_next {K : PySem.W.Frag} {a : V} {H : Hp} {Q : VK} {E : XK} (h : sb__law_next K a H Q E) : tb__law_next K (Rt Q) [some a] H := by
  obtain ⟨c, rfl, q⟩ := h
  unfold tb__law_next
  exact w_ret (w_op (w_op (w_op (w_var rfl (w_c (w_mulI (mulok_r (by decide) (by decide)) (w_c (w_addI (w_c (w_modI (by decide) (q _ (Int.emod_nonneg _ (by decide)) (Int.emod_lt_of_pos _ (by decide)))))))))))))
end LB
set_option Elab.async false
set_option linter.all false
set_option maxRecDepth 100000
set_option maxHeartbeats 4000000
namespace LB
open PySem L2
theorem rep_day {H : Hp} {p p1 p2 : Addr} {d : List Int × List Int} (h : H p = some (.tup [.ref p1, .ref p2])) (h1 : H p1 = some (.tup (d.1.map V.int))) (h2 : H p2 = some (.tup (d.2.map V.int))) : Rep H (.ref p) (dayD d) := by
  unfold dayD Rep
  refine ⟨p, _, rfl, h, ?_⟩
  unfold Reps
  refine ⟨_, _, rfl, by unfold Rep; exact ⟨p1, _, rfl, h1, Reps.ints _⟩, ?_⟩
  unfold Reps
  refine ⟨_, _, rfl, by unfold Rep; exact ⟨p2, _, rfl, h2, Reps.ints _⟩, ?_⟩
  unfold Reps
  rfl
theorem reps_ints {H : Hp} : ∀ {ns : List Int} {xs : List V}, Reps H xs (ns.map PyData.int) → xs = ns.map V.int
  | [], xs, h => by unfold List.map Reps at h; exact h
  | n :: ns, xs, h => by
    rw [List.map_cons] at h
    unfold Reps at h
    obtain ⟨x, r, rfl, h1, h2⟩ := h
    unfold Rep at h1
    rw [h1, reps_ints h2]; rfl
theorem day_rep {H : Hp} {v : V} {d : List Int × List Int} (h : Rep H v (dayD d)) : ∃ p p1 p2, v = .ref p ∧ H p = some (.tup [.ref p1, .ref p2]) ∧ H p1 = some (.tup (d.1.map V.int)) ∧ H p2 = some (.tup (d.2.map V.int)) := by
  unfold dayD Rep at h
  obtain ⟨p, xs, rfl, hp, rs⟩ := h
  unfold Reps at rs
  obtain ⟨x0, r1, rfl, rd0, rs⟩ := rs
  unfold Reps at rs
  obtain ⟨x1, r2, rfl, rd1, rs⟩ := rs
  unfold Reps at rs
  subst rs
  unfold Rep at rd0 rd1
  obtain ⟨p1, ys1, rfl, h1, q1⟩ := rd0
  obtain ⟨p2, ys2, rfl, h2, q2⟩ := rd1
  rw [reps_ints q1] at h1
  rw [reps_ints q2] at h2
  exact ⟨p, p1, p2, rfl, hp, h1, h2⟩
theorem all_ints_D {ns : List Int} {f : PyData → Bool} {P : Int → Prop} (hf : ∀ x, P x → f (.int x) = true) (h : ∀ x ∈ ns, P x) : (ns.map PyData.int).all f = true := by
  rw [List.all_eq_true]
  intro d hd
  obtain ⟨x, hx, rfl⟩ := List.mem_map.mp hd
  exact hf x (h x hx)
theorem good_day {n : Nat} {d : List Int × List Int} (h : GoodDay n d) (h1 : 1 ≤ n) (h6 : n ≤ 6) : isDayD (dayD d) = true ∧ waresD (dayD d) = n := by
  have e1 : (d.1.map PyData.int).length = n := by rw [List.length_map]; exact h.l1
  have e2 : (d.2.map PyData.int).length = n := by rw [List.length_map]; exact h.l2
  refine ⟨?_, e1⟩
  unfold isDayD
  show (true && arePricesD (.tuple (d.1.map PyData.int)) && areAmtsD (.tuple (d.2.map PyData.int)) && decide ((d.1.map PyData.int).length = (d.2.map PyData.int).length)) = true
  have p1 : arePricesD (.tuple (d.1.map PyData.int)) = true := by
    unfold arePricesD
    show ((decide (1 ≤ (d.1.map PyData.int).length) && decide ((d.1.map PyData.int).length ≤ 6)) && (d.1.map PyData.int).all isPriceD) = true
    rw [e1, decide_eq_true h1, decide_eq_true h6, all_ints_D (P := fun x => 1 ≤ x ∧ x ≤ 1000000000) (fun x hx => by show (decide (1 ≤ x) && decide (x ≤ 1000000000)) = true; rw [decide_eq_true hx.1, decide_eq_true hx.2]; rfl) h.pr]; rfl
  have p2 : areAmtsD (.tuple (d.2.map PyData.int)) = true := by
    unfold areAmtsD
    show ((decide (1 ≤ (d.2.map PyData.int).length) && decide ((d.2.map PyData.int).length ≤ 6)) && (d.2.map PyData.int).all isAmtD && (d.2.map PyData.int).any posD) = true
    have p3 : (d.2.map PyData.int).any posD = true := by
      obtain ⟨x, hx, h0⟩ := h.ps
      exact List.any_eq_true.mpr ⟨.int x, List.mem_map.mpr ⟨x, hx, rfl⟩, decide_eq_true h0⟩
    rw [e2, decide_eq_true h1, decide_eq_true h6, p3, all_ints_D (P := fun x => 0 ≤ x ∧ x ≤ 1000000000000000000) (fun x hx => by show (decide (0 ≤ x) && decide (x ≤ 1000000000000000000)) = true; rw [decide_eq_true hx.1, decide_eq_true hx.2]; rfl) h.am]; rfl
  rw [p1, p2, e1, e2, decide_eq_true rfl]; rfl
end LB
set_option Elab.async false
set_option linter.all false
set_option maxRecDepth 100000
set_option maxHeartbeats 4000000
namespace LB
open PySem L2
theorem w_zip2 {K : PySem.W.Frag} {ta : TA} {σ : St} {H : Hp} {R : It → Hp → Prop} (h : ta σ H fun vs H1 => ∃ a b, vs = [.ref a, .ref b] ∧ (∃ xs, SqT K H1 a xs) ∧ (∃ ys, SqT K H1 b ys) ∧ R (Itz K a b) H1) : iZip2 K ta σ H R := h
theorem two_of {α : Type} {a b x : α} {i : Nat} (h : [a, b][i]? = some x) : x = a ∨ x = b := by
  match i, h with
  | 0, h => left; simpa using h.symm
  | 1, h => right; simpa using h.symm
  | (n + 2), h => simp at h
theorem emod_at {c : Int} {n : Nat} (h : 0 < n) : ∃ i : Nat, c % (n : Int) = (i : Int) ∧ i < n := by
  have a := Int.emod_nonneg c (show (n : Int) ≠ 0 by omega)
  have b := Int.emod_lt_of_pos c (show (0 : Int) < n by omega)
  exact ⟨(c % (n : Int)).toNat, by omega, by omega⟩
end LB
set_option Elab.async false
set_option linter.all false
set_option maxRecDepth 100000
set_option maxHeartbeats 4000000
namespace L2
open PySem PySem.Spec PyProof.Rows
section
variable {κ : Type} [DecidableEq κ]
end
section
variable {P : Program} {w : World} {H : Hp} {h : Heap} {a : Addr}
end
section
variable {X : Cx} {pins : List (Addr × Obj)} {σ : St} {H : Hp} {s : Shared} {a : Addr} {y v : V} {u r : Value} {o : Option V} {A : Around} {E : Value → Shared → Prop}
end
section
variable {X : Cx} {pins : List (Addr × Obj)} {σ : St} {H : Hp} {s : Shared} {a : Addr} {kvs : List (Key × V)} {k : Key} {u : Value} {A : Around} {E : Value → Shared → Prop}
end
section
variable {X : Cx} {o i e value : Expr} {pos pos' tpos : Pos} {td ty tv : TE}
end
section
variable {X : Cx} {pos : Pos}
end
section
variable {X : Cx} {pins : List (Addr × Obj)} {σ : St} {H : Hp} {s : Shared} {a : Addr} {y d : V} {u r : Value} {o : Option V} {A : Around} {E : Value → Shared → Prop}
end
section
variable {X : Cx} {o e f : Expr} {apos cpos : Pos} {td ty tx : TE}
end
section
variable {X : Cx} {pins : List (Addr × Obj)} {σ : St} {H : Hp} {s : Shared} {a : Addr} {kvs : List (Key × V)} {A : Around} {E : Value → Shared → Prop}
end
section
variable {X : Cx} {pins : List (Addr × Obj)} {σ : St} {H : Hp} {s : Shared} {a : Addr} {y : V} {u : Value} {A : Around} {E : Value → Shared → Prop}
end
end L2
set_option Elab.async false
set_option linter.all false
set_option maxRecDepth 100000
set_option maxHeartbeats 4000000
namespace L2
open PySem PySem.Spec PyProof.Rows
section
variable {X : Cx}
end
end L2
set_option Elab.async false
set_option linter.all false
set_option maxRecDepth 100000
set_option maxHeartbeats 4000000
namespace L2
open PySem PySem.Spec PyProof.Rows
end L2
set_option Elab.async false
set_option linter.all false
set_option maxRecDepth 100000
set_option maxHeartbeats 4000000
namespace L2
open PySem PySem.Spec PyProof.Rows
section
variable {X : Cx}
end
end L2
set_option Elab.async false
set_option linter.all false
set_option maxRecDepth 100000
set_option maxHeartbeats 4000000
namespace LB
open PySem L2
theorem ints_eq {f : Nat → Int} : ∀ {n : Nat} {ys : List V}, ys.length = n → (∀ (i : Nat) v, ys[i]? = some v → v = .int (f i)) → ys = ((List.range n).map f).map V.int := by
  intro n ys hl h
  refine List.ext_getElem? fun i => ?_
  by_cases hi : i < ys.length
  · have e := h i ys[i] (by simp [hi])
    rw [List.getElem?_eq_getElem hi, e]
    simp [show i < n by omega]
  · rw [List.getElem?_eq_none (by omega), List.getElem?_eq_none (by simp; omega)]
end LB
set_option Elab.async false
set_option linter.all false
set_option maxRecDepth 100000
set_option maxHeartbeats 4000000
namespace LB
open PySem L2
end LB
set_option Elab.async false
set_option linter.all false
set_option maxRecDepth 100000
set_option maxHeartbeats 4000000
namespace LB
open PySem L2
end LB
set_option Elab.async false
set_option linter.all false
set_option maxRecDepth 100000
set_option maxHeartbeats 4000000
namespace LB
open PySem L2
end LB
set_option Elab.async false
set_option linter.all false
set_option maxRecDepth 100000
set_option maxHeartbeats 4000000
namespace LB
open PySem L2
def insI (x : Int) : List Int → List Int
  | [] => [x]
  | y :: r => if x ≤ y then x :: y :: r else y :: insI x r
theorem ins_perm (x : Int) : ∀ l, (insI x l).Perm (x :: l)
  | [] => List.Perm.refl _
  | y :: r => by
    unfold insI
    split
    · exact List.Perm.refl _
    · exact ((ins_perm x r).cons y).trans (List.Perm.swap x y r)
theorem lay_ints : ∀ ns : List Int, PyData.canLayAll0 (ns.map .int) = true
  | [] => by simp [PyData.canLayAll0]
  | n :: ns => by rw [List.map_cons]; simp [PyData.canLayAll0, PyData.canLay0, lay_ints ns]
theorem depth_ints : ∀ ns : List Int, PyData.depthAll (ns.map .int) ≤ 1
  | [] => by simp [PyData.depthAll]
  | n :: ns => by
    have := depth_ints ns
    rw [List.map_cons]
    simp only [PyData.depthAll, PyData.depth]
    omega
end LB
set_option Elab.async false
set_option linter.all false
set_option maxRecDepth 100000
set_option maxHeartbeats 4000000
namespace PySem
open Sem (wp)
open AutoSeq1 (wpAny_loadPart')
section
variable {prog : Program} {w : World} {A : Around} {E : Value → Shared → Prop} {s : Shared}
end
end PySem
namespace L2
open PySem PySem.Spec PyProof.Rows
section
variable {X : Cx}
end
end L2
set_option Elab.async false
set_option linter.all false
set_option maxRecDepth 100000
set_option maxHeartbeats 4000000
namespace L2
open PySem PySem.Spec PySem.W PyProof.Rows
section
variable {K : PySem.W.Frag} {mg : Str → Option Value} {h : Heap} {x y m qual fl : Str} {C D f : Addr}
variable {P : Program} {w : World} {base : Heap}
end
section
variable {X : Cx} {CX : CXT} {k : Nat} {C : Addr} {ps : List Str} {sp : Sp} {E : XK} {x m : Str} {p pos apos cpos : Pos} {e o : Expr} {es : List Expr} {ta to : TE} {t : TA}
end
section
variable {X : Cx} {k : Nat} {g x x2 n : Str} {ps : List Str} {sp : Sp} {p np np2 cpos epos hpos hpos2 pos : Pos} {e : Expr} {es : List Expr} {t : TA} {ts ts2 : TS} {D D2 : Addr} {b₀ b₂ : Stmt} {suite suite2 : List Stmt} {i : Nat}
end
section
variable {X : Cx}
end
section
variable {K : PySem.W.Frag} {σ : St} {H : Hp} {Q : VK} {D : Ends} {te ta tb : TE} {t : TA} {C p : Addr} {sp : Sp} {E : XK} {m f : Str}
end
end L2
set_option Elab.async false
set_option linter.all false
set_option maxRecDepth 100000
set_option maxHeartbeats 4000000
namespace LB
open PySem L2
mutual
theorem eqv_self : ∀ d : PyData, d.canLay0 = true → PyData.eqv d d = true
  | .none, _ => by simp [PyData.eqv]
  | .bool b, _ => by simp [PyData.eqv]
  | .int i, _ => by simp [PyData.eqv]
  | .str x, _ => by simp [PyData.eqv]
  | .list xs, h => by simp only [PyData.eqv]; exact eqvAll_self xs (by simpa only [PyData.canLay0] using h)
  | .tuple xs, h => by simp only [PyData.eqv]; exact eqvAll_self xs (by simpa only [PyData.canLay0] using h)
  | .dict _, h => by simp [PyData.canLay0] at h
theorem eqvAll_self : ∀ ds : List PyData, PyData.canLayAll0 ds = true → PyData.eqvAll ds ds = true
  | [], _ => by simp [PyData.eqvAll]
  | d :: ds, h => by
    have c : d.canLay0 = true ∧ PyData.canLayAll0 ds = true := by simpa [PyData.canLayAll0] using h
    simp only [PyData.eqvAll, eqv_self d c.1, eqvAll_self ds c.2, Bool.and_self]
end
theorem lay_day (d : List Int × List Int) : (dayD d).canLay0 = true := by
  unfold dayD
  simp only [PyData.canLay0, PyData.canLayAll0, lay_ints, Bool.and_self]
theorem depth_day (d : List Int × List Int) : (dayD d).depth ≤ 3 := by
  unfold dayD
  have := depth_ints d.1
  have := depth_ints d.2
  simp only [PyData.depth, PyData.depthAll]; omega
theorem w_eqSelf {K : PySem.W.Frag} {H : Hp} {Q : VK} {x y : V} {d : PyData} (h1 : Rep H x d) (h2 : Rep H y d) (l : d.canLay0 = true) (dp : d.depth ≤ 64) (k : Q (.bl true) H) : rEqU K x y H Q := by
  refine .inr ⟨d, d, h1, h2, l, l, by omega, ?_⟩
  rw [eqv_self d l]; exact k
theorem w_neSelf {K : PySem.W.Frag} {H : Hp} {Q : VK} {x y : V} {d : PyData} (h1 : Rep H x d) (h2 : Rep H y d) (l : d.canLay0 = true) (dp : d.depth ≤ 64) (k : Q (.bl false) H) : rNeU K x y H Q := by
  refine .inr ⟨d, d, h1, h2, l, l, by omega, ?_⟩
  rw [eqv_self d l]; exact k
section
variable {K : PySem.W.Frag} {σ : St} {H : Hp} {Q : VK}
end
theorem w_eqS {K : PySem.W.Frag} {H : Hp} {Q : VK} {x y : Str} (h : Q (.bl (decide (x = y))) H) : rEqU K (.str x) (.str y) H Q := .inl ⟨rfl, by rw [show decide (V.str x = V.str y) = decide (x = y) by simp]; exact h⟩
theorem w_neS {K : PySem.W.Frag} {H : Hp} {Q : VK} {x y : Str} (h : Q (.bl (!decide (x = y))) H) : rNeU K (.str x) (.str y) H Q := .inl ⟨rfl, by rw [show decide (V.str x = V.str y) = decide (x = y) by simp]; exact h⟩
end LB
set_option Elab.async false
set_option linter.all false
namespace L2
abbrev rMin2 : List V → Hp → VK → Prop := fun xs H Q => ∃ i j : Int, xs = [.int i, .int j] ∧ Q (.int (if j < i then j else i)) H
abbrev rMax2 : List V → Hp → VK → Prop := fun xs H Q => ∃ i j : Int, xs = [.int i, .int j] ∧ Q (.int (if j > i then j else i)) H
theorem w_min2 {i j : Int} {H : Hp} {Q : VK} (h : Q (.int (min i j)) H) : rMin2 [.int i, .int j] H Q := ⟨i, j, rfl, by
  have e : (if j < i then j else i) = min i j := by split <;> omega
  rw [e]; exact h⟩
theorem w_max2 {i j : Int} {H : Hp} {Q : VK} (h : Q (.int (max i j)) H) : rMax2 [.int i, .int j] H Q := ⟨i, j, rfl, by
  have e : (if j > i then j else i) = max i j := by split <;> omega
  rw [e]; exact h⟩
end L2
set_option Elab.async false
set_option linter.all false
set_option maxRecDepth 100000
set_option maxHeartbeats 4000000
namespace L2
open PySem PySem.Spec PyProof.Rows
section
variable {X : Cx}
theorem strs_vals {ts : List Str} : ∀ {us : List Value}, Vals (ts.map V.str) us → ∃ l : List (Str × Tok), us = strValues l ∧ l.map (·.1) = ts := by
  induction ts with
  | nil => intro us h; cases h; exact ⟨[], rfl, rfl⟩
  | cons t ts ih =>
    intro us h
    cases h with
    | cons r rr =>
      obtain ⟨k, rfl⟩ := r
      obtain ⟨l, rfl, e⟩ := ih rr
      exact ⟨(t, k) :: l, rfl, by rw [List.map_cons, e]⟩
theorem vals_strs : ∀ l : List (Str × Tok), Vals ((l.map (·.1)).map V.str) (strValues l)
  | [] => .nil
  | (x, t) :: l => .cons ⟨t, rfl⟩ (vals_strs l)
def rSplit : V → List V → Hp → VK → Prop := fun x xs H Q => ∃ z c, x = .str z ∧ xs = [.str ⟨#[c]⟩] ∧ z.length ≤ 1000 ∧ ∀ q, H q = none → Q (.ref q) (upd H q (.lst ((Txt.split z ⟨#[c]⟩).map V.str)))
theorem split_len (z : Str) (c : Nat) : (Txt.split z ⟨#[c]⟩).length ≤ z.length + 2 := by
  unfold Txt.split
  split
  · show 1 ≤ _; omega
  · split
    · show 1 ≤ _; omega
    · rw [length_partsBetween]
      have := StrLaws.occ_length_le z ⟨#[c]⟩ 0 z.length (z.length + 1)
      omega
theorem mt_split : MtR X "str.split" rSplit := by
  intro pins s σ H x xs v us Q I rx rv h
  obtain ⟨z, c, rfl, rfl, hz, q⟩ := h
  obtain ⟨t, rfl⟩ := rx
  obtain ⟨u, rfl, ⟨t2, rfl⟩⟩ := rv.one
  have hlay : ∀ (l : List (Str × Tok)) (k : Nat), l.map (·.1) = Txt.split z ⟨#[c]⟩ → EP X pins σ Q (.ref s.heap.objs.size) { s with heap := s.heap.push { cls := .type "list", data := .seq (strValues l).toArray }, toks := k } := fun l k e => by
    have sz := split_len z c
    have old : ∀ b o, s.heap.get? b = some o → (s.heap.push { cls := .type "list", data := .seq (strValues l).toArray }).get? b = some o := fun b o e => Heap.get?_push_of_some _ e
    refine ⟨.ref _, _, I.laid (t' := k) old (Nat.le_refl _) (show ObjOk X.prog X.w _ (s.heap.push { cls := .type "list", data := .seq (strValues l).toArray }) _ (.lst ((Txt.split z ⟨#[c]⟩).map V.str)) from ⟨?_, strValues l, 0, ?_, Heap.get?_push_size _ rfl⟩), rfl, q _ (I.hok.fresh (Nat.le_refl _))⟩
    · rw [List.length_map]; exact Nat.le_trans sz (Nat.le_trans (show z.length + 2 ≤ 1002 by omega) (by decide))
    · rw [← e]; exact vals_strs l
  have hy : ((⟨#[c]⟩ : Str).length == 0) = false := rfl
  cases h1 : (decide (z.length < (⟨#[c]⟩ : Str).length) || decide (Builtin.Str.strKind z < Builtin.Str.strKind ⟨#[c]⟩))
  · cases hf : (Builtin.Str.occurrences z ⟨#[c]⟩ 0 z.length (z.length + 1)).isEmpty
    · refine call_meets F.slot_str_split (typeIs_str _ _ _) F.entry_str_split (F.args_str_split_2 _ _) (meets_str_split_sep z ⟨#[c]⟩ t t2 h1 hy hf (Nat.le_trans hz (by decide)) ?_) ?_
      · have := StrLaws.occ_length_le z ⟨#[c]⟩ 0 z.length (z.length + 1)
        rw [length_partsBetween]
        exact Nat.le_trans (show _ ≤ 1002 by omega) (by decide)
      · show wants (EP X pins σ Q) X.xe _ { s with toks := _, heap := s.heap.push { cls := .type "list", data := .seq (strsFrom s.toks (Builtin.Str.partsBetween z (Builtin.Str.occurrences z ⟨#[c]⟩ 0 z.length (z.length + 1)) (⟨#[c]⟩ : Str).length)).toArray } }
        rw [strsFrom_eq]
        exact hlay _ _ ((numbered_texts _ _).trans ((if_neg (ne_true_of_eq_false h1)).trans (if_neg (ne_true_of_eq_false hf))).symm)
    · refine call_meets F.slot_str_split (typeIs_str _ _ _) F.entry_str_split (F.args_str_split_2 _ _) (meets_str_split_not_found z ⟨#[c]⟩ t t2 h1 hy hf) ?_
      exact hlay [(z, t)] _ ((if_neg (ne_true_of_eq_false h1)).trans (if_pos hf)).symm
  · refine call_meets F.slot_str_split (typeIs_str _ _ _) F.entry_str_split (F.args_str_split_2 _ _) (meets_str_split_cannot_occur z ⟨#[c]⟩ t t2 h1) ?_
    exact hlay [(z, t)] _ (if_pos h1).symm
def rJoin (K : PySem.W.Frag) : V → List V → Hp → VK → Prop := fun x xs H Q => ∃ z p ts, x = .str z ∧ xs = [.ref p] ∧ SqL K H p (ts.map V.str) ∧ JoinOk z ts = true ∧ Q (.str (Txt.join z ts)) H
theorem mt_join : MtR X "str.join" (rJoin X.K) := by
  intro pins s σ H x xs v us Q I rx rv h
  obtain ⟨z, p, ts, rfl, rfl, hq, ok, q⟩ := h
  obtain ⟨t, rfl⟩ := rx
  obtain ⟨u, rfl, ru⟩ := rv.one
  cases ru
  obtain ⟨its, rs, pl, hz⟩ := I.list hq
  obtain ⟨l, rfl, e⟩ := strs_vals rs
  have ok' := ok
  unfold JoinOk at ok'
  rw [Bool.not_eq_true'] at ok'
  rw [← e] at ok' q
  refine call_meets F.slot_str_join (typeIs_str _ _ _) F.entry_str_join (F.args_str_join_2 _ _) (meets_str_join_list z t p l ok') ⟨pl.isList, post_join l ⟨joinFit_length ok', fun t' k => ⟨.str _, H, I.tok k, ⟨t', rfl⟩, q⟩⟩⟩
def rStarts : V → List V → Hp → VK → Prop := fun x xs H Q => ∃ z y, x = .str z ∧ xs = [.str y] ∧ Q (.bl (Txt.startswith z y)) H
theorem mt_starts : MtR X "str.startswith" rStarts := by
  intro pins s σ H x xs v us Q I rx rv h
  obtain ⟨z, y, rfl, rfl, q⟩ := h
  obtain ⟨t, rfl⟩ := rx
  obtain ⟨u, rfl, ⟨t2, rfl⟩⟩ := rv.one
  exact call_gives F.slot_str_startswith (typeIs_str _ _ _) F.entry_str_startswith (F.args_str_startswith_2 _ _) (gives_str_startswith z y t t2) ⟨.bl _, H, I, rfl, q⟩
def rIntS : List V → Hp → VK → Prop := fun xs H Q => ∃ z n, xs = [.str z] ∧ PySem.intText? z = some n ∧ z.length ≤ 640 ∧ Q (.int n) H
theorem call_intS : CallR X (.type "int") rIntS := by
  intro pins s σ H xs us Q I r h
  obtain ⟨z, n, rfl, hn, hl, q⟩ := h
  obtain ⟨u, rfl, t, rfl⟩ := vals1 r
  exact PySem.W.KIN.call_text hn hl ⟨.int n, H, I.tok _, ⟨_, rfl⟩, q⟩
end
def Its (x : Str) : It := { go := fun i _ => i < x.cps.size, yld := fun i H v H' => H' = H ∧ ∃ c, x.cps[i]? = some c ∧ v = .str ⟨#[c]⟩, stop := fun i _ => x.cps.size ≤ i }
theorem turn_str {P : Program} {w : World} {K : PySem.W.Frag} {tg : Expr} (x : Str) (t : Tok) (it : Addr) : Turn P w K tg (Its x) [it] it (fun i h => h.IsStrIter it "str_ascii_iterator" x t i) where
  mem := by simp
  obj := fun i h st b hb => by
    have e : b = it := by simpa using hb
    subst e
    obtain ⟨o, e, c, d⟩ := st
    exact ⟨o, e, fun v z => by rw [d] at z; cases z⟩
  keep := fun i h h' st k => let ⟨o, ho, r⟩ := st; ⟨o, k it (by simp) o ho, r⟩
  item := by
    intro X hP hw hK hc i pins s σ H E I hf st hg
    subst hP hw hK
    have hg' : i < x.cps.size := hg
    obtain ⟨f0, f1, f2, f3, f4, f5⟩ := hf it (by simp)
    refine wpAny_pyNext_ascii_item st (c := x.cps[i]) (by simp [hg']) fun h' st' sb => ?_
    have I1 : Inv X pins σ H { s with heap := h', toks := s.toks + 1 } := I.turned (t' := s.toks + 1) (fun b o hb e => (sb.2 b hb).trans e) f0 f1 f3 f4 f5
    obtain ⟨o, e, c, d⟩ := id st'
    exact ⟨_, rfl, go_of (s := { s with heap := h', toks := s.toks + 1 }) e c d (by decide) ⟨.str ⟨#[x.cps[i]]⟩, H, I1, ⟨_, rfl⟩, ⟨rfl, _, by simp [hg'], rfl⟩, st', fun b hb => (hf b hb).1⟩⟩
  done := by
    intro X hP hw hK hc i pins s σ H E I hf st hg
    subst hP hw hK
    have hg' : x.cps.size ≤ i := hg
    obtain ⟨f0, f1, f2, f3, f4, f5⟩ := hf it (by simp)
    exact wpAny_pyNext_ascii_end (I.ok.hd hc) st (by simp [hg']) fun h' eb => ⟨rfl, I.turned (t' := s.toks) (fun b o hb e => eb b o hb e) f0 f1 f3 f4 f5⟩
  self := fun _ _ _ _ _ st h => wpAny_pyIter_striter_ascii st h
def iStr (te : TE) : TI := fun σ H R => te σ H fun v H1 => ∃ x, v = .str x ∧ x.cps.all (· < 128) = true ∧ R (Its x) H1
theorem pi_str {X : Cx} {tg l : Expr} {tl : TE} (hl : PE X l tl) : PI X tg l (iStr tl) := by
  intro pins s σ H R I h
  refine thn (hl pins s σ H _ I h) fun v s1 ⟨y, H1, I1, r1, q1⟩ => ?_
  obtain ⟨x, rfl, ha, q⟩ := q1
  obtain ⟨t, rfl⟩ := r1
  refine wpAny_pyIter_ascii ha ?_
  refine ⟨s1.heap.objs.size, [s1.heap.objs.size], _, _, H1, rfl, I1.kept (t' := s1.toks) fun b o e => Heap.get?_push_of_some _ e, turn_str x t _, ⟨_, Heap.get?_push_size _ rfl, rfl, rfl⟩, fun b hb => ?_, q⟩
  have e : b = s1.heap.objs.size := by simpa using hb
  subst e
  exact I1.fpOk (Nat.le_refl _) (I1.hok.fresh (Nat.le_refl _))
theorem its_of (x : Str) (H : Hp) (i : Nat) : (∀ v, (x.cps.toList.map fun c => V.str ⟨#[c]⟩)[i]? = some v → (Its x).go i H ∧ ∀ y H', (Its x).yld i H y H' → H' = H ∧ y = v) ∧ ((x.cps.toList.map fun c => V.str ⟨#[c]⟩).length ≤ i → (Its x).stop i H) := by
  refine ⟨fun v hv => ?_, fun h => by rw [List.length_map, Array.length_toList] at h; exact h⟩
  rw [List.getElem?_map, Array.getElem?_toList] at hv
  obtain ⟨c, hc, rfl⟩ := Option.map_eq_some_iff.mp hv
  refine ⟨(Array.getElem?_eq_some_iff.mp hc).1, fun y H' h => ⟨h.1, ?_⟩⟩
  obtain ⟨d, hd, e⟩ := h.2
  rw [hc] at hd
  cases hd
  exact e
theorem w_istr {te : TE} {σ : St} {H : Hp} {R : It → Hp → Prop} (h : te σ H fun v H1 => ∃ x, v = .str x ∧ x.cps.all (· < 128) = true ∧ R (Its x) H1) : iStr te σ H R := h
def tFv (te : TE) : TE := fun σ H Q => te σ H fun v H1 => ∃ i : Int, v = .int i ∧ i.natAbs.log2 < 1920 ∧ Q (.str (Str.ofString (toString i))) H1
theorem pe_fv {X : Cx} {e : Expr} {te : TE} {pos : Pos} (he : PE X e te) : PE X (.FormattedValue e (-1) none pos) (tFv te) := by
  intro pins s σ H Q I h
  refine wpAny_FormattedValue_plain (thn (he pins s σ H _ I h) fun v s1 ⟨x, H1, I1, r1, i, ei, hi, q⟩ => ?_)
  subst ei
  obtain ⟨t, rfl⟩ := r1
  exact wpAny_formatField_int hi ⟨.str _, H1, I1.tok _, ⟨_, rfl⟩, q⟩
def tFs3 (ta tb tc : TE) : TE := fun σ H Q => ta σ H fun x H1 => ∃ a, x = .str a ∧ a.length ≤ 1000 ∧ tb σ H1 fun y H2 => ∃ b, y = .str b ∧ b.length ≤ 1000 ∧ tc σ H2 fun z H3 => ∃ c, z = .str c ∧ c.length ≤ 1000 ∧ Q (.str (a ++ b ++ c)) H3
theorem pe_fs3 {X : Cx} {a b c : Expr} {ta tb tc : TE} {pos : Pos} (ha : PE X a ta) (hb : PE X b tb) (hc : PE X c tc) : PE X (.JoinedStr [a, b, c] pos) (tFs3 ta tb tc) := by
  intro pins s σ H Q I h
  have k : (3000 : Nat) ≤ sizeLine := by decide
  refine wpAny_JoinedStr ?_
  show wpAny _ _ (eval a X.env) _ _ s
  refine thn (ha pins s σ H _ I h) fun v1 s1 ⟨x1, H1, I1, r1, a', e1, l1, h1⟩ => ?_
  subst e1
  obtain ⟨t1, rfl⟩ := r1
  refine ⟨a', t1, rfl, by rw [PySem.Str.empty_append]; omega, ?_⟩
  rw [PySem.Str.empty_append]
  show wpAny _ _ (eval b X.env) _ _ s1
  refine thn (hb pins s1 σ H1 _ I1 h1) fun v2 s2 ⟨x2, H2, I2, r2, b', e2, l2, h2⟩ => ?_
  subst e2
  obtain ⟨t2, rfl⟩ := r2
  refine ⟨b', t2, rfl, by rw [PySem.Str.length_append]; omega, ?_⟩
  show wpAny _ _ (eval c X.env) _ _ s2
  refine thn (hc pins s2 σ H2 _ I2 h2) fun v3 s3 ⟨x3, H3, I3, r3, c', e3, l3, h3⟩ => ?_
  subst e3
  obtain ⟨t3, rfl⟩ := r3
  refine ⟨c', t3, rfl, by rw [PySem.Str.length_append, PySem.Str.length_append]; omega, by rw [PySem.Str.length_append, PySem.Str.length_append]; omega, ?_⟩
  exact ⟨.str _, H3, I3.tok _, ⟨_, rfl⟩, h3⟩
theorem w_fv {te : TE} {σ : St} {H : Hp} {Q : VK} (h : te σ H fun v H1 => ∃ i : Int, v = .int i ∧ i.natAbs.log2 < 1920 ∧ Q (.str (Str.ofString (toString i))) H1) : tFv te σ H Q := h
theorem w_fs3 {ta tb tc : TE} {σ : St} {H : Hp} {Q : VK} (h : ta σ H fun x H1 => ∃ a, x = .str a ∧ a.length ≤ 1000 ∧ tb σ H1 fun y H2 => ∃ b, y = .str b ∧ b.length ≤ 1000 ∧ tc σ H2 fun z H3 => ∃ c, z = .str c ∧ c.length ≤ 1000 ∧ Q (.str (a ++ b ++ c)) H3) : tFs3 ta tb tc σ H Q := h
section
variable {X : Cx}
def rAddS : R2 := fun x y H Q => ∃ i j, x = .str i ∧ y = .str j ∧ i.length + j.length ≤ sizeLine ∧ Q (.str (i ++ j)) H
theorem op_addS : OpR X (binaryOp .Add) rAddS := op_add_str
def rInS : R2 := fun x y H Q => ∃ i j, x = .str i ∧ y = .str j ∧ Q (.bl (!(Builtin.Str.occurrences j i 0 j.length 1).isEmpty)) H
theorem op_inS : OpR X (compareOp .In) rInS := op_in_str
def rStrI : List V → Hp → VK → Prop := fun xs H Q => ∃ i : Int, xs = [.int i] ∧ i.natAbs.log2 < 1920 ∧ Q (.str (Str.ofString (toString i))) H
theorem call_strI : CallR X (.type "str") rStrI := call_str_int
end
end L2
set_option Elab.async false
set_option linter.all false
set_option maxRecDepth 100000
set_option maxHeartbeats 4000000
namespace K83
open PySem L2 LB
def decS (n : Int) : Str := Str.ofString (toString n)
theorem dec_list (m : Nat) : (decS (m : Int)).cps.toList = (Nat.toDigits 10 m).map Char.toNat := PySem.W.KIN.signs_num m
theorem dec_digit {m c : Nat} (h : c ∈ (decS (m : Int)).cps.toList) : 48 ≤ c ∧ c ≤ 57 := by
  rw [dec_list] at h
  obtain ⟨ch, hch, e⟩ := List.mem_map.mp h
  rw [← e]
  exact PyProof.Rows.digit_range (Nat.isDigit_of_mem_toDigits (by decide) (by decide) hch)
theorem dec_ne (m : Nat) : (decS (m : Int)).cps.toList ≠ [] := by
  rw [dec_list]
  intro e
  exact Nat.toDigits_ne_nil (List.map_eq_nil_iff.mp e)
theorem len_list (x : Str) : x.cps.toList.length = x.length := Array.length_toList
theorem dec_len {m k : Nat} (hk : 0 < k) (h : m < 10 ^ k) : 1 ≤ (decS (m : Int)).length ∧ (decS (m : Int)).length ≤ k := by
  refine ⟨?_, ?_⟩
  · have := dec_ne m
    rw [← len_list]
    rcases Nat.eq_zero_or_pos (decS (m : Int)).cps.toList.length with z | z
    · exact absurd (List.length_eq_zero_iff.mp z) this
    · exact z
  · rw [← len_list, dec_list, List.length_map]
    exact (Nat.length_toDigits_le_iff (by decide) hk).mpr h
theorem dec_int {m : Nat} (h : m < 10 ^ 19) : PySem.intText? (decS (m : Int)) = some (m : Int) := by
  have e := intText_digits (x := decS (m : Int)) (fun c hc => dec_digit hc) (dec_ne m) (Nat.le_trans (dec_len (by decide) h).2 (by decide))
  rw [dec_list, PySem.W.KIN.val_back] at e
  exact e
theorem dec_asc (m : Nat) : (decS (m : Int)).cps.all (· < 128) = true := by
  rw [Array.all_eq_true']
  intro c hc
  have := dec_digit (m := m) (c := c) (by simpa using hc)
  exact decide_eq_true (by omega)
theorem dec_head : ∀ {m : Nat}, 0 < m → ∀ c ∈ (Nat.toDigits 10 m).head?, c ≠ '0' := by
  intro m
  induction m using Nat.strongRecOn with
  | _ m ih =>
    intro h0 c hc
    by_cases h : m < 10
    · rw [Nat.toDigits_of_lt_base h] at hc
      have : c = Nat.digitChar m := by simpa using hc.symm
      rw [this]
      rcases (by omega : m = 1 ∨ m = 2 ∨ m = 3 ∨ m = 4 ∨ m = 5 ∨ m = 6 ∨ m = 7 ∨ m = 8 ∨ m = 9) with z | z | z | z | z | z | z | z | z <;> subst z <;> decide
    · have hm : m % 10 < 10 := Nat.mod_lt m (by decide)
      have t : Nat.toDigits 10 (m / 10) ++ Nat.toDigits 10 (m % 10) = Nat.toDigits 10 (10 * (m / 10) + m % 10) := Nat.toDigits_append_toDigits (by decide) (by omega) hm
      rw [Nat.div_add_mod] at t
      obtain ⟨a, r, e⟩ := List.exists_cons_of_ne_nil (Nat.toDigits_ne_nil (n := m / 10) (b := 10))
      rw [← t, e] at hc
      exact ih (m / 10) (by omega) (by omega) c (by rw [e]; exact hc)
def sg (c : Nat) : Str := ⟨#[c]⟩
theorem app_list (a y : Str) : (a ++ y).cps.toList = a.cps.toList ++ y.cps.toList := by rw [PySem.Str.cps_append, Array.toList_append]
theorem str_ext {a b : Str} (h : a.cps.toList = b.cps.toList) : a = b := PySem.Str.ext' (Array.toList_inj.mp h)
theorem join_two (s a b : Str) (r : List Str) : Str.join s (a :: b :: r) = a ++ s ++ Str.join s (b :: r) := rfl
theorem parts_eq (c : Nat) : ∀ {a b : List Nat} {x y : List Nat}, c ∉ a → c ∉ b → a ++ c :: x = b ++ c :: y → a = b ∧ x = y
  | [], [], x, y, _, _, h => ⟨rfl, by simpa using h⟩
  | [], d :: b, x, y, _, hb, h => by
    have : c = d := (List.cons.inj h).1
    exact absurd (by rw [this]; simp) hb
  | d :: a, [], x, y, ha, _, h => by
    have : d = c := (List.cons.inj h).1
    exact absurd (by rw [this]; simp) ha
  | d :: a, e :: b, x, y, ha, hb, h => by
    obtain ⟨h1, h2⟩ := List.cons.inj (show d :: (a ++ c :: x) = e :: (b ++ c :: y) from h)
    obtain ⟨h3, h4⟩ := parts_eq c (fun z => ha (List.mem_cons_of_mem _ z)) (fun z => hb (List.mem_cons_of_mem _ z)) h2
    exact ⟨by rw [h1, h3], h4⟩
theorem join_inj (c : Nat) : ∀ {as bs : List Str}, as ≠ [] → bs ≠ [] → (∀ a ∈ as, c ∉ a.cps.toList) → (∀ b ∈ bs, c ∉ b.cps.toList) → Str.join (sg c) as = Str.join (sg c) bs → as = bs
  | [], _, h, _, _, _, _ => absurd rfl h
  | _ :: _, [], _, h, _, _, _ => absurd rfl h
  | [a], [b], _, _, _, _, h => by rw [show a = b from h]
  | [a], b :: d :: r, _, _, ha, _, h => by
    have h1 := congrArg (fun x : Str => x.cps.toList) h
    have h2 : a.cps.toList = b.cps.toList ++ [c] ++ (Str.join (sg c) (d :: r)).cps.toList := by
      rw [join_two] at h1
      simp only [app_list] at h1
      exact h1
    exact absurd (by rw [h2]; simp) (ha a (by simp))
  | a :: d :: r, [b], _, _, _, hb, h => by
    have h1 := congrArg (fun x : Str => x.cps.toList) h
    have h2 : a.cps.toList ++ [c] ++ (Str.join (sg c) (d :: r)).cps.toList = b.cps.toList := by
      rw [join_two] at h1
      simp only [app_list] at h1
      exact h1
    exact absurd (by rw [← h2]; simp) (hb b (by simp))
  | a :: d :: r, b :: e :: q, _, _, ha, hb, h => by
    have h1 := congrArg (fun x : Str => x.cps.toList) h
    have h2 : a.cps.toList ++ c :: (Str.join (sg c) (d :: r)).cps.toList = b.cps.toList ++ c :: (Str.join (sg c) (e :: q)).cps.toList := by
      rw [join_two, join_two] at h1
      simpa [app_list, sg] using h1
    obtain ⟨h3, h4⟩ := parts_eq c (ha a (by simp)) (hb b (by simp)) h2
    have h5 := join_inj c (as := d :: r) (bs := e :: q) (by simp) (by simp) (fun x hx => ha x (List.mem_cons_of_mem _ hx)) (fun x hx => hb x (List.mem_cons_of_mem _ hx)) (str_ext h4)
    rw [str_ext h3, h5]
theorem split_ne (x : Str) (c : Nat) : Txt.split x (sg c) ≠ [] := by
  unfold Txt.split
  split
  · simp
  · split
    · simp
    · intro e
      have := congrArg List.length e
      rw [length_partsBetween] at this
      simp at this
theorem split_join (c : Nat) {ws : List Str} (h0 : ws ≠ []) (h : ∀ w ∈ ws, c ∉ w.cps.toList) : Txt.split (Str.join (sg c) ws) (sg c) = ws :=
  join_inj c (split_ne _ c) h0 (StrLaws.split_free _ c) h (StrLaws.join_split _ _)
def wordS (p a : Int) : Str := decS a ++ sg 120 ++ decS p
def textD (ps as : List Int) : Str := Txt.join (sg 32) (List.zipWith wordS ps as)
theorem word_join (p a : Int) : wordS p a = Str.join (sg 120) [decS a, decS p] := rfl
theorem dec_free {m c : Nat} (hc : c < 48 ∨ 57 < c) : c ∉ (decS (m : Int)).cps.toList := fun h => by
  have := dec_digit h
  omega
theorem word_split (p a : Nat) : Txt.split (wordS p a) (sg 120) = [decS a, decS p] := by
  rw [word_join]
  refine split_join 120 (by simp) fun w hw => ?_
  rcases List.mem_cons.mp hw with rfl | hw
  · exact dec_free (by omega)
  · rcases List.mem_cons.mp hw with rfl | hw
    · exact dec_free (by omega)
    · cases hw
theorem word_free (p a : Nat) : 32 ∉ (wordS p a).cps.toList := by
  unfold wordS
  rw [app_list, app_list]
  intro h
  rcases List.mem_append.mp h with h | h
  · rcases List.mem_append.mp h with h | h
    · exact dec_free (by omega) h
    · have : 32 = 120 := by simpa [sg] using h
      omega
  · exact dec_free (by omega) h
theorem join_str (s : Str) (ws : List Str) : Txt.join s ws = Str.join s ws := StrLaws.glued_eq_join s ws
theorem zip_mem {ps as : List Int} {w : Str} (h : w ∈ List.zipWith wordS ps as) : ∃ p a, w = wordS p a ∧ p ∈ ps ∧ a ∈ as := by
  obtain ⟨i, hi⟩ := List.getElem?_of_mem h
  rw [List.getElem?_zipWith] at hi
  cases e1 : ps[i]? with
  | none => rw [e1] at hi; cases hi
  | some p =>
    cases e2 : as[i]? with
    | none => rw [e1, e2] at hi; cases hi
    | some a =>
      rw [e1, e2] at hi
      exact ⟨p, a, (Option.some.inj hi).symm, List.mem_of_getElem? e1, List.mem_of_getElem? e2⟩
theorem text_split {ps as : List Int} (hl : as.length = ps.length) (h1 : 1 ≤ ps.length) (hp : ∀ x ∈ ps, 0 ≤ x) (ha : ∀ x ∈ as, 0 ≤ x) : Txt.split (textD ps as) (sg 32) = List.zipWith wordS ps as := by
  unfold textD
  rw [join_str]
  refine split_join 32 (fun e => ?_) fun w hw => ?_
  · have := congrArg List.length e
    rw [List.length_zipWith] at this
    have z : min ps.length as.length = 0 := this
    omega
  · obtain ⟨p, a, e, mp, ma⟩ := zip_mem hw
    obtain ⟨p', rfl⟩ := Int.eq_ofNat_of_zero_le (hp p mp)
    obtain ⟨a', rfl⟩ := Int.eq_ofNat_of_zero_le (ha a ma)
    rw [e]
    exact word_free p' a'
theorem fig_in : ∀ c : Nat, 48 ≤ c → c ≤ 57 → (!(Builtin.Str.occurrences ("0123456789" : Str) ⟨#[c]⟩ 0 ("0123456789" : Str).length 1).isEmpty) = true := by
  intro c h1 h2
  rcases (by omega : c = 48 ∨ c = 49 ∨ c = 50 ∨ c = 51 ∨ c = 52 ∨ c = 53 ∨ c = 54 ∨ c = 55 ∨ c = 56 ∨ c = 57) with z | z | z | z | z | z | z | z | z | z <;> subst z <;> decide +kernel
theorem starts_dec {m : Nat} (h : 0 < m) : Txt.startswith (decS (m : Int)) ("0" : Str) = false := by
  unfold Txt.startswith
  rw [StrLaws.subAt_eq]
  have hd := dec_head h
  obtain ⟨a, r, e⟩ := List.exists_cons_of_ne_nil (Nat.toDigits_ne_nil (n := m) (b := 10))
  have ha : a ≠ '0' := hd a (by rw [e]; rfl)
  have hn : a.toNat ≠ 48 := fun z => ha (Char.toNat_inj.mp (show a.toNat = ('0' : Char).toNat from z))
  rw [dec_list, e]
  have l1 : ("0" : Str).length = 1 := rfl
  have l2 : ("0" : Str).cps.toList = [48] := rfl
  rw [l1, l2]
  show (decide _ && ([a.toNat] == [48])) = false
  rw [Bool.and_eq_false_iff]
  exact .inr (by simp [hn])
def sb_is_number (K : PySem.W.Frag) (a : V) (H : Hp) (Q : VK) (E : XK) : Prop := ∃ m : Nat, a = .str (decS (m : Nat)) ∧ m < 10 ^ 19 ∧ ∀ H', Same H H' → Q (.bl true) H'
def sp_is_number (K : PySem.W.Frag) : Sp := sp1 (sb_is_number K)
def sb_check_text (K : PySem.W.Frag) (a : V) (H : Hp) (Q : VK) (E : XK) : Prop := a = .bl true ∧ Q .non H
def sp_check_text (K : PySem.W.Frag) : Sp := sp1 (sb_check_text K)
def sb_read_ware (K : PySem.W.Frag) (a : V) (H : Hp) (Q : VK) (E : XK) : Prop := ∃ p b : Nat, a = .str (wordS (p : Nat) (b : Nat)) ∧ p < 10 ^ 19 ∧ b < 10 ^ 19 ∧ ∀ t H', Same H H' → H' t = some (.tup [.int (b : Nat), .int (p : Nat)]) → Q (.ref t) H'
def sp_read_ware (K : PySem.W.Frag) : Sp := sp1 (sb_read_ware K)
def sb_read_day (K : PySem.W.Frag) (a : V) (H : Hp) (Q : VK) (E : XK) : Prop := ∃ (n : Nat) (ps as : List Int), a = .str (textD ps as) ∧ GoodDay n (ps, as) ∧ 1 ≤ n ∧ n ≤ 6 ∧ ∀ v H', Same H H' → Rep H' v (dayD (ps, as)) → Q v H'
def sp_read_day (K : PySem.W.Frag) : Sp := sp1 (sb_read_day K)
def sb_shown_day (K : PySem.W.Frag) (a b : V) (H : Hp) (Q : VK) (E : XK) : Prop := ∃ (n : Nat) (p q : Addr) (ps as : List Int), a = .ref p ∧ b = .ref q ∧ H p = some (.tup (ps.map V.int)) ∧ H q = some (.tup (as.map V.int)) ∧ GoodDay n (ps, as) ∧ n ≤ 6 ∧ ∀ H', Same H H' → Q (.str (textD ps as)) H'
def sp_shown_day (K : PySem.W.Frag) : Sp := sp2 (sb_shown_day K)
def sb_shown_share (K : PySem.W.Frag) (a : V) (H : Hp) (Q : VK) (E : XK) : Prop := ∃ (t : Addr) (x y : Nat), a = .ref t ∧ H t = some (.tup [.int (x : Nat), .int (y : Nat)]) ∧ x < 10 ^ 19 ∧ y < 10 ^ 19 ∧ Q (.str (decS (x : Nat) ++ sg 47 ++ decS (y : Nat))) H
def sp_shown_share (K : PySem.W.Frag) : Sp := sp1 (sb_shown_share K)
def sb__law_drawn (K : PySem.W.Frag) (a : V) (H : Hp) (Q : VK) (E : XK) : Prop := ∃ c : Int, a = .int c ∧ ∀ v n ps as H', Same H H' → Rep H' v (dayD (ps, as)) → GoodDay n (ps, as) → 1 ≤ n → n ≤ 6 → Q v H'
def sp__law_drawn (K : PySem.W.Frag) : Sp := sp1 (sb__law_drawn K)
def sb__law_alike (K : PySem.W.Frag) (a b : V) (H : Hp) (Q : VK) (E : XK) : Prop := ∃ (n : Nat) (d : List Int × List Int), Rep H a (dayD d) ∧ Rep H b (dayD d) ∧ GoodDay n d ∧ n ≤ 6 ∧ ∀ H', Same H H' → Q (.bl true) H'
def sp__law_alike (K : PySem.W.Frag) : Sp := sp2 (sb__law_alike K)
def sb__law_lowest (K : PySem.W.Frag) (a b : V) (H : Hp) (Q : VK) (E : XK) : Prop := ∃ x y : Nat, a = .int (x : Nat) ∧ b = .int (y : Nat) ∧ 1 ≤ x ∧ x < 10 ^ 19 ∧ y < 10 ^ 19 ∧ ∀ t u v H', Same H H' → H' t = some (.tup [.int (u : Nat), .int (v : Nat)]) → u < 10 ^ 19 → v < 10 ^ 19 → Q (.ref t) H'
def sp__law_lowest (K : PySem.W.Frag) : Sp := sp2 (sb__law_lowest K)
def sp_law (K : PySem.W.Frag) : Sp := sp1 (sb_top K)
def tb_is_number (K : PySem.W.Frag) : TS :=
  (tSeq (tIfS (tOr (tNot (tTest (tChain rLeU rLeU (tC (.int 1)) (tCB (rLenU K) (tCons (tVar 0) tNil)) (tC (.int 19))))) (tNot (tTru K (tCB (rAllU K) (tCons (tComp [none] (iStr (tVar 0)) (gName 0) tYes (tOp rInS (tVar 0) (tC (.str "0123456789")))) tNil))))) (tRet (tC (.bl false))) tNext)
    (tRet (tOrV (tOp (rEqU K) (tVar 0) (tC (.str "0"))) (tNotV (tBM K "str" rStarts (tVar 0) (tCons (tC (.str "0")) tNil))))))
def tb_check_text (K : PySem.W.Frag) : TS :=
  (tIfS (tNot (tTru K (tVar 0))) tNever tNext)
def tb_read_ware (K : PySem.W.Frag) : TS :=
  (tSeq (tAsg (tBM K "str" rSplit (tVar 0) (tCons (tC (.str "x")) tNil)) (gName 1))
    (tSeq (tDrop (tCall (sp_check_text K) [] E0 (tCons (tAndV (tOp (rEqU K) (tCB (rLenU K) (tCons (tVar 1) tNil)) (tC (.int 2))) (tCB (rAllU K) (tCons (tComp [none] (iSeq K (tVar 1)) (gName 0) tYes (tCall (sp_is_number K) [] E0 (tCons (tVar 0) tNil))) tNil))) tNil)))
    (tRet (tTup (tCons (tCB rIntS (tCons (tOp (rIx K) (tVar 1) (tC (.int 0))) tNil)) (tCons (tCB rIntS (tCons (tOp (rIx K) (tVar 1) (tC (.int 1))) tNil)) tNil))))))
def tb_read_day (K : PySem.W.Frag) : TS :=
  (tSeq (tAsg (tComp [none] (iSeq K (tBM K "str" rSplit (tVar 0) (tCons (tC (.str " ")) tNil))) (gName 0) tYes (tCall (sp_read_ware K) [] E0 (tCons (tVar 0) tNil))) (gName 1))
    (tSeq (tAsg (tTup (tCons (tCB (rTy_tuple K) (tCons (tComp [none] (iSeq K (tVar 1)) (gName 0) tYes (tOp (rIx K) (tVar 0) (tC (.int 1)))) tNil)) (tCons (tCB (rTy_tuple K) (tCons (tComp [none] (iSeq K (tVar 1)) (gName 0) tYes (tOp (rIx K) (tVar 0) (tC (.int 0)))) tNil)) tNil))) (gName 2))
    (tSeq (tDrop (tCall (sp_check_text K) [] E0 (tCons (tCall (sp_is_day K) [] E0 (tCons (tVar 2) tNil)) tNil)))
    (tRet (tVar 2)))))
def tb_shown_day (K : PySem.W.Frag) : TS :=
  (tRet (tBM K "str" (rJoin K) (tC (.str " ")) (tCons (tComp [none, none] (iZip2 K (tCons (tVar 0) (tCons (tVar 1) tNil))) (gTup K 2 (gCons (gName 0) (gCons (gName 1) gNil))) tYes (tFs3 (tFv (tVar 1)) (tC (.str "x")) (tFv (tVar 0)))) tNil)))
def tb_shown_share (K : PySem.W.Frag) : TS :=
  (tSeq (tAsg (tOp (rIx K) (tVar 0) (tC (.int 0))) (gName 1))
    (tSeq (tAsg (tOp (rIx K) (tVar 0) (tC (.int 1))) (gName 2))
    (tRet (tFs3 (tFv (tVar 1)) (tC (.str "/")) (tFv (tVar 2))))))
def tb__law_drawn (K : PySem.W.Frag) : TS :=
  (tSeq (tAsg (tLst tNil) (gName 1))
    (tSeq (tAsg (tLst tNil) (gName 2))
    (tSeq (tFor (iRng1 (tCons (tOp (rAddU K) (tC (.int 1)) (tOp rModU (tVar 0) (tC (.int 6)))) tNil)) (gName 3) (tSeq (tAsg (tCall (sp__law_next K) [] E0 (tCons (tVar 0) tNil)) (gName 0))
    (tSeq (tAsg (tOp rDivU (tVar 0) (tC (.int 1000000000))) (gName 4))
    (tSeq (tDrop (tBM K "list" rAppend (tVar 1) (tCons (tOp (rIx K) (tLst (tCons (tC (.int 1)) (tCons (tC (.int 1000000000)) (tCons (tOp (rAddU K) (tC (.int 1)) (tOp rModU (tVar 4) (tC (.int 1000000000)))) (tCons (tOp (rAddU K) (tC (.int 1)) (tOp rModU (tVar 4) (tC (.int 12)))) tNil))))) (tOp rModU (tOp rDivU (tVar 0) (tC (.int 100000000))) (tC (.int 4)))) tNil)))
    (tDrop (tBM K "list" rAppend (tVar 2) (tCons (tOp (rIx K) (tLst (tCons (tC (.int 0)) (tCons (tC (.int 1000000000000000000)) (tCons (tOp rModU (tVar 4) (tOp (rAddU K) (tC (.int 1000000000000000000)) (tC (.int 1)))) (tCons (tOp rModU (tVar 4) (tC (.int 12))) tNil))))) (tOp rModU (tOp rDivU (tVar 0) (tC (.int 10000000))) (tC (.int 4)))) tNil)))))))
    (tSeq (tIfS (tTest (tOp (rEqU K) (tCB (rSumU K) (tCons (tVar 2) tNil)) (tC (.int 0)))) (tAsg (tC (.int 1)) (gSub (tVar 2) (tOp rModU (tOp rDivU (tVar 0) (tC (.int 1000000))) (tCB (rLenU K) (tCons (tVar 2) tNil))) rSetL)) tNext)
    (tRet (tTup (tCons (tCB (rTy_tuple K) (tCons (tVar 1) tNil)) (tCons (tCB (rTy_tuple K) (tCons (tVar 2) tNil)) tNil))))))))
def tb__law_alike (K : PySem.W.Frag) : TS :=
  (tSeq (tIfS (tOr (tNot (tTru K (tCB (rIsinst K) (tCons (tVar 0) (tCons (tC (.ty "tuple")) tNil))))) (tOr (tTest (tOp (rNeU K) (tCB (rLenU K) (tCons (tVar 0) tNil)) (tC (.int 2)))) (tTest (tOp (rNeU K) (tVar 0) (tVar 1))))) (tRet (tC (.bl false))) tNext)
    (tSeq (tFor (iSeq K (tVar 0)) (gName 2) (tIfS (tOr (tNot (tTru K (tCB (rIsinst K) (tCons (tVar 2) (tCons (tC (.ty "tuple")) tNil))))) (tTest (tOp (rNeU K) (tCB (rLenU K) (tCons (tComp [none] (iSeq K (tVar 2)) (gName 0) (tTru K (tCall (sp__law_int K) [] E0 (tCons (tVar 0) tNil))) (tVar 0)) tNil)) (tCB (rLenU K) (tCons (tVar 2) tNil))))) (tRet (tC (.bl false))) tNext))
    (tRet (tC (.bl true)))))
def tb__law_lowest (K : PySem.W.Frag) : TS :=
  (tSeq (tAsg (tVar 0) (gName 2))
    (tSeq (tAsg (tVar 1) (gName 3))
    (tSeq (tWhile (tTest (tOp rGtU (tVar 3) (tC (.int 0)))) (tPar 2 3 (tCons (tVar 3) (tCons (tOp rModU (tVar 2) (tVar 3)) tNil))))
    (tRet (tTup (tCons (tOp rDivU (tVar 0) (tVar 2)) (tCons (tOp rDivU (tVar 1) (tVar 2)) tNil)))))))
def tb_law (K : PySem.W.Frag) : TS :=
  (tSeq (tFor (iRng1 (tCons (tCB rMax2 (tCons (tC (.int 1)) (tCons (tCB rMin2 (tCons (tC (.int 20)) (tCons (tCB (rLenU K) (tCons (tVar 0) tNil)) tNil))) tNil))) tNil)) (gName 1) (tSeq (tAsg (tCall (sp__law_cell K) [] E0 (tCons (tVar 0) (tCons (tVar 1) tNil))) (gName 2))
    (tSeq (tAsg (tCall (sp__law_drawn K) [] E0 (tCons (tVar 2) tNil)) (gName 3))
    (tSeq (tAsg (tComp [none, none] (iZip2 K (tCons (tOp (rIx K) (tVar 3) (tC (.int 0))) (tCons (tOp (rIx K) (tVar 3) (tC (.int 1))) tNil))) (gTup K 2 (gCons (gName 0) (gCons (gName 1) gNil))) tYes (tOp rAddS (tOp rAddS (tCB rStrI (tCons (tVar 1) tNil)) (tC (.str "x"))) (tCB rStrI (tCons (tVar 0) tNil)))) (gName 4))
    (tSeq (tAsg (tCall (sp_shown_day K) [] E0 (tCons (tOp (rIx K) (tVar 3) (tC (.int 0))) (tCons (tOp (rIx K) (tVar 3) (tC (.int 1))) tNil))) (gName 5))
    (tSeq (tIfS (tOr (tNot (tTru K (tCB (rIsinst K) (tCons (tVar 5) (tCons (tC (.ty "str")) tNil))))) (tTest (tOp (rNeU K) (tVar 5) (tBM K "str" (rJoin K) (tC (.str " ")) (tCons (tVar 4) tNil))))) (tRet (tC (.bl false))) tNext)
    (tSeq (tAsg (tCall (sp_read_day K) [] E0 (tCons (tVar 5) tNil)) (gName 6))
    (tSeq (tIfS (tOr (tNot (tTru K (tCall (sp__law_alike K) [] E0 (tCons (tVar 6) (tCons (tVar 3) tNil))))) (tTest (tOp (rNeU K) (tCall (sp_shown_day K) [] E0 (tCons (tOp (rIx K) (tVar 6) (tC (.int 0))) (tCons (tOp (rIx K) (tVar 6) (tC (.int 1))) tNil))) (tVar 5)))) (tRet (tC (.bl false))) tNext)
    (tSeq (tAsg (tCall (sp__law_lowest K) [] E0 (tCons (tOp (rAddU K) (tC (.int 1)) (tOp rModU (tVar 2) (tC (.int 1000000000000000000)))) (tCons (tOp (rAddU K) (tC (.int 2)) (tOp rModU (tOp rDivU (tVar 2) (tC (.int 1000000000000000000))) (tC (.int 1000000000000000000)))) tNil))) (gName 7))
    (tSeq (tAsg (tCall (sp_shown_share K) [] E0 (tCons (tVar 7) tNil)) (gName 5))
    (tIfS (tOr (tNot (tTru K (tCB (rIsinst K) (tCons (tVar 5) (tCons (tC (.ty "str")) tNil))))) (tTest (tOp (rNeU K) (tVar 5) (tOp rAddS (tOp rAddS (tCB rStrI (tCons (tOp (rIx K) (tVar 7) (tC (.int 0))) tNil)) (tC (.str "/"))) (tCB rStrI (tCons (tOp (rIx K) (tVar 7) (tC (.int 1))) tNil)))))) (tRet (tC (.bl false))) tNext)))))))))))
    (tRet (tC (.bl true))))
def top (i : Nat) : Stmt := PySem.Challenge.pw_tastesbook_k83_days_as_texts.main.body.getD i (.Pass ⟨0, 0, 0, 0⟩)
structure Md (K : PySem.W.Frag) (mg : Str → Option Value) : Prop where
  b_all : mg "all" = none
  b_any : mg "any" = none
  b_bool : mg "bool" = none
  b_int : mg "int" = none
  b_isinstance : mg "isinstance" = none
  b_len : mg "len" = none
  b_max : mg "max" = none
  b_min : mg "min" = none
  b_range : mg "range" = none
  b_str : mg "str" = none
  b_sum : mg "sum" = none
  b_tuple : mg "tuple" = none
  b_zip : mg "zip" = none
  c_FIGURES : ∃ t, mg "FIGURES" = some (.str "0123456789" t)
  c_HIGHEST_AMOUNT : ∃ t, mg "HIGHEST_AMOUNT" = some (.int 1000000000000000000 t)
  c_HIGHEST_PRICE : ∃ t, mg "HIGHEST_PRICE" = some (.int 1000000000 t)
  c_MOST_FIGURES : ∃ t, mg "MOST_FIGURES" = some (.int 19 t)
  c_MOST_WARES : ∃ t, mg "MOST_WARES" = some (.int 6 t)
theorem x_sg : ("x" : Str) = sg 120 := by decide +kernel
theorem b_sg : (" " : Str) = sg 32 := by decide +kernel
theorem s_sg : ("/" : Str) = sg 47 := by decide +kernel
theorem z_dec : decS ((0 : Nat) : Int) = ("0" : Str) := by decide +kernel
theorem ten19 : (10 : Nat) ^ 19 = 10000000000000000000 := by decide
theorem log_ok {m : Nat} (h : m < 10 ^ 19) : (m : Int).natAbs.log2 < 1920 := by
  rw [Int.natAbs_natCast]
  rcases Nat.eq_zero_or_pos m with z | z
  · subst z; decide
  · exact (Nat.log2_lt (by omega)).mpr (Nat.lt_of_lt_of_le h (by decide +kernel))
theorem w_lenStr {K : PySem.W.Frag} {H : Hp} {Q : VK} {z : Str} (hz : z.length ≤ 1000) (q : Q (.int (z.length : Nat)) H) : rLenU K [.str z] H Q := ⟨.str z, z.length, rfl, ⟨Nat.le_trans hz (by decide), rfl⟩, q⟩
theorem bls_true {n : Nat} {ys : List V} (hy : ys.length = n) (h : ∀ (i : Nat) v, ys[i]? = some v → v = .bl true) : ys = (List.replicate n true).map V.bl := by
  rw [List.map_replicate]
  exact List.eq_replicate_iff.mpr ⟨hy, fun b hb => let ⟨i, hi⟩ := List.getElem?_of_mem hb; h i b hi⟩
theorem all_true (n : Nat) : (List.replicate n true).all id = true := by
  rw [List.all_eq_true]
  intro x hx
  rw [(List.mem_replicate.mp hx).2]; rfl
theorem rd_is_number {K : PySem.W.Frag} {a : V} {H : Hp} {Q : VK} {E : XK} (h : sb_is_number K a H Q E) : tb_is_number K (Rt Q) [some a] H := by
  obtain ⟨m, rfl, hm, q⟩ := h
  have ln := dec_len (k := 19) (by decide) hm
  unfold tb_is_number
  refine w_seq (w_ifS (w_or (w_not (w_test (w_chain (w_c (w_cb (w_cons (w_var rfl (w_nil (w_lenStr (by omega) (w_leI (w_bl (iteDT (by omega) (w_c (w_leI (w_bl (iteNF (by omega) ?_))))))))))))))))))
  refine w_not (w_tru (w_cb (w_cons (w_comp (w_istr (w_var rfl ⟨decS (m : Nat), rfl, dec_asc m, fun D hD => ?_⟩))))))
  refine comp_seq D ((decS (m : Nat)).cps.toList.map fun c => V.str ⟨#[c]⟩) (fun i ys σ2 H2 => ys = List.replicate i (.bl true) ∧ Same H H2 ∧ ∃ r0, σ2 = [r0]) (by rw [List.length_map, len_list]; omega) (fun i ys σ H2 h => by rw [h.1, List.length_replicate]; exact Nat.le_refl _) (fun i ys σ H2 _ _ => its_of _ H2 i) ⟨rfl, Same.laid hD, _, rfl⟩ ?_ ?_
  · rintro i x ys σ2 H2 hx ⟨rfl, s2, r0, rfl⟩ hH
    rw [List.getElem?_map] at hx
    obtain ⟨c, hc, rfl⟩ := Option.map_eq_some_iff.mp hx
    have dg := dec_digit (List.mem_of_getElem? hc)
    refine w_name (w_yes (iteT (w_op (w_var rfl (w_c ⟨_, _, rfl, rfl, ?_⟩)))))
    rw [fig_in c dg.1 dg.2]
    exact ⟨hH, List.replicate_succ'.symm, s2.put hD, _, rfl⟩
  · rintro ys σ2 H2 ⟨rfl, s2, _⟩ hH
    have e : List.replicate ((decS (m : Nat)).cps.toList.map fun c => V.str ⟨#[c]⟩).length (V.bl true) = (List.replicate ((decS (m : Nat)).cps.toList.map fun c => V.str ⟨#[c]⟩).length true).map V.bl := by rw [List.map_replicate]
    rw [e] at hH
    refine w_nil (w_allA (.inl (SqL.of hH)) ?_)
    rw [all_true]
    refine w_trub (iteF (w_next ?_))
    try dsimp only
    refine w_ret (w_orV (w_op (w_var rfl (w_c (w_eqS ⟨_, rfl, iteD (fun _ => q _ s2) fun ne => ?_⟩)))))
    have m0 : 0 < m := by
      rcases Nat.eq_zero_or_pos m with z | z
      · subst z; exact absurd z_dec ne
      · exact z
    refine w_notV (w_bm (w_var rfl ⟨rfl, w_cons (w_c (w_nil ⟨_, _, rfl, rfl, _, rfl, ?_⟩))⟩))
    rw [starts_dec m0]
    exact q _ s2
theorem rd_check_text {K : PySem.W.Frag} {a : V} {H : Hp} {Q : VK} {E : XK} (h : sb_check_text K a H Q E) : tb_check_text K (Rt Q) [some a] H := by
  obtain ⟨rfl, q⟩ := h
  unfold tb_check_text
  exact w_ifS (w_not (w_tru (w_var rfl (w_trub (iteF (w_next q))))))
theorem word_len {p b : Nat} (hp : p < 10 ^ 19) (hb : b < 10 ^ 19) : (wordS (p : Nat) (b : Nat)).length ≤ 39 := by
  have l1 := (dec_len (k := 19) (by decide) hp).2
  have l2 := (dec_len (k := 19) (by decide) hb).2
  unfold wordS
  rw [PySem.Str.length_append, PySem.Str.length_append]
  have : (sg 120).length = 1 := rfl
  omega
theorem rd_read_ware {K : PySem.W.Frag} {a : V} {H : Hp} {Q : VK} {E : XK} (h : sb_read_ware K a H Q E) : tb_read_ware K (Rt Q) [some a, none] H := by
  obtain ⟨p, b, rfl, hp, hb, q⟩ := h
  have lw := word_len hp hb
  unfold tb_read_ware
  refine w_seq (w_asg (w_bm (w_var rfl ⟨rfl, w_cons (w_c (w_nil ⟨wordS (p : Nat) (b : Nat), 120, rfl, by rw [x_sg]; rfl, by omega, fun L hL => w_name ?_⟩))⟩)))
  rw [show Txt.split (wordS (p : Nat) (b : Nat)) ⟨#[120]⟩ = [decS (b : Nat), decS (p : Nat)] from word_split p b]
  have s1 := Same.laid (o := .lst ([decS (b : Nat), decS (p : Nat)].map V.str)) hL
  have e1 := upd_same (H := H) (a := L) (o := .lst ([decS (b : Nat), decS (p : Nat)].map V.str))
  generalize upd H L _ = H1 at s1 e1 ⊢
  replace e1 : H1 L = some (.lst [.str (decS (b : Nat)), .str (decS (p : Nat))]) := e1
  try dsimp only
  refine w_seq (w_drop (w_call (w_cons (w_andV (w_op (w_cb (w_cons (w_var rfl (w_nil (w_lenL (SqL.of e1) (w_c (w_eqI ⟨_, rfl, iteDT rfl ?_⟩))))))))))))
  refine w_cb (w_cons (w_comp (w_seq0 (w_var rfl ⟨L, rfl, .inl ⟨⟨_, SqL.of e1⟩, fun D hD => ?_⟩⟩))))
  refine comp_seqP (K := K) (a := L) (xs := [.str (decS (b : Nat)), .str (decS (p : Nat))]) (σr := []) (.inr ⟨rfl, e1⟩) D (fun _ v _ => v = .bl true) (fun _ _ _ _ _ z => z) (by show 2 ≤ 1000; decide) hD ⟨none, rfl⟩ (fun j x H2 R hx s2 kk => ?_) fun ys H2 hy hall s2 h2 => ?_
  · rcases two_of hx with rfl | rfl
    · exact w_call (w_cons (w_var rfl (w_nil ⟨_, rfl, b, rfl, hb, fun H' s' => kk _ _ s' rfl⟩)))
    · exact w_call (w_cons (w_var rfl (w_nil ⟨_, rfl, p, rfl, hp, fun H' s' => kk _ _ s' rfl⟩)))
  · rw [bls_true hy hall] at h2
    have e2 := s2 _ _ e1
    have lb := (dec_len (k := 19) (by decide) hb).2
    have lp := (dec_len (k := 19) (by decide) hp).2
    refine w_nil (w_allA (.inl (SqL.of h2)) (w_nil ⟨_, rfl, rfl, ?_⟩))
    try dsimp only
    exact w_ret (w_tup (w_cons (w_cb (w_cons (w_op (w_var rfl (w_c (w_ixL (v := .str (decS (b : Nat))) (SqL.of e2) rfl (w_nil ⟨_, _, rfl, dec_int hb, by omega, w_cons (w_cb (w_cons (w_op (w_var rfl (w_c (w_ixL (v := .str (decS (p : Nat))) (SqL.of e2) rfl (w_nil ⟨_, _, rfl, dec_int hp, by omega, w_nil ⟨by show 2 ≤ sizeLine; decide, fun t ht => q t _ ((s1.trans s2).laidT ht) upd_same⟩⟩)))))))⟩)))))))))
theorem nat_of {x : Int} (h : 0 ≤ x) : ∃ m : Nat, x = (m : Nat) := ⟨x.toNat, by omega⟩
theorem sum_le {k : Nat} : ∀ {ls : List Nat}, (∀ x ∈ ls, x ≤ k) → ls.sum ≤ ls.length * k
  | [], _ => Nat.zero_le _
  | x :: ls, h => by
    have h1 := h x (by simp)
    have h2 := sum_le (k := k) (ls := ls) fun y hy => h y (List.mem_cons_of_mem _ hy)
    rw [List.sum_cons, List.length_cons, Nat.add_mul]
    omega
theorem words_le {n : Nat} {ps as : List Int} (g : GoodDay n (ps, as)) : ∀ w ∈ List.zipWith wordS ps as, w.length ≤ 39 := fun w hw => by
  obtain ⟨p, a, rfl, mp, ma⟩ := zip_mem hw
  have hp := g.pr p mp
  have ha := g.am a ma
  obtain ⟨p', rfl⟩ := nat_of (show 0 ≤ p by omega)
  obtain ⟨a', rfl⟩ := nat_of ha.1
  exact word_len (by rw [ten19]; omega) (by rw [ten19]; omega)
theorem text_len {n : Nat} {ps as : List Int} (g : GoodDay n (ps, as)) (n6 : n ≤ 6) : (textD ps as).length ≤ 1000 := by
  unfold textD
  rw [join_str]
  have h1 := StrLaws.join_length_le (sg 32) (List.zipWith wordS ps as)
  have h2 := sum_le (k := 39) (ls := (List.zipWith wordS ps as).map (·.length)) fun x hx => by
    obtain ⟨w, hw, rfl⟩ := List.mem_map.mp hx
    exact words_le g w hw
  have l1 : (List.zipWith wordS ps as).length ≤ 6 := by
    rw [List.length_zipWith]
    have : ps.length = n := g.l1
    omega
  have l3 : (sg 32).length = 1 := rfl
  rw [List.length_map] at h2
  rw [l3, Nat.mul_one] at h1
  omega
theorem join_ok' {n : Nat} {ps as : List Int} (g : GoodDay n (ps, as)) (n6 : n ≤ 6) : JoinOk (" " : Str) (List.zipWith wordS ps as) = true := by
  rw [b_sg]
  unfold JoinOk
  rw [Bool.not_eq_true']
  have l1 : (List.zipWith wordS ps as).length ≤ 6 := by
    rw [List.length_zipWith]
    have : ps.length = n := g.l1
    omega
  have l3 : (sg 32).length = 1 := rfl
  exact StrLaws.joinFits (B := 39) (words_le g) (by rw [l3]; omega)
theorem zip_at {ps as : List Int} {i : Nat} {x : V} (h : ((List.zipWith wordS ps as).map V.str)[i]? = some x) : ∃ p a, ps[i]? = some p ∧ as[i]? = some a ∧ x = .str (wordS p a) := by
  rw [List.getElem?_map, List.getElem?_zipWith] at h
  cases e1 : ps[i]? with
  | none => rw [e1] at h; cases h
  | some p =>
    cases e2 : as[i]? with
    | none => rw [e1, e2] at h; cases h
    | some a =>
      rw [e1, e2] at h
      exact ⟨p, a, rfl, rfl, (Option.some.inj h).symm⟩
theorem getD_map (ns : List Int) : ((List.range ns.length).map fun j => ns.getD j 0) = ns := by
  apply List.ext_getElem?
  intro j
  rcases Nat.lt_or_ge j ns.length with z | z
  · rw [List.getElem?_map, List.getElem?_range z]
    simp [z]
  · rw [List.getElem?_eq_none (by simp; omega), List.getElem?_eq_none (by omega)]
theorem rd_read_day {K : PySem.W.Frag} {a : V} {H : Hp} {Q : VK} {E : XK} (h : sb_read_day K a H Q E) : tb_read_day K (Rt Q) [some a, none, none] H := by
  obtain ⟨n, ps, as, rfl, g, n1, n6, q⟩ := h
  have lp : ps.length = n := g.l1
  have la : as.length = n := g.l2
  have sp := text_split (ps := ps) (as := as) (by omega) (by omega) (fun x hx => by have := (g.pr x hx).1; omega) fun x hx => (g.am x hx).1
  unfold tb_read_day
  refine w_seq (w_asg (w_comp (w_seq0 (w_bm (w_var rfl ⟨rfl, w_cons (w_c (w_nil ⟨textD ps as, 32, rfl, by rw [b_sg]; rfl, text_len g n6, fun L hL => ?_⟩))⟩)))))
  rw [show Txt.split (textD ps as) ⟨#[32]⟩ = List.zipWith wordS ps as from sp]
  have s1 := Same.laid (o := .lst ((List.zipWith wordS ps as).map V.str)) hL
  have e1 := upd_same (H := H) (a := L) (o := .lst ((List.zipWith wordS ps as).map V.str))
  generalize upd H L _ = H1 at s1 e1 ⊢
  have lz : ((List.zipWith wordS ps as).map V.str).length = n := by rw [List.length_map, List.length_zipWith]; omega
  refine ⟨L, rfl, .inl ⟨⟨_, SqL.of e1⟩, fun D hD => ?_⟩⟩
  refine comp_seqP (K := K) (a := L) (xs := (List.zipWith wordS ps as).map V.str) (σr := []) (.inr ⟨rfl, e1⟩) D (fun i v H2 => ∃ t, v = .ref t ∧ H2 t = some (.tup [.int (as.getD i 0), .int (ps.getD i 0)])) (fun i v H2 H3 t ⟨u, e, hu⟩ => ⟨u, e, t _ _ hu⟩) (by omega) hD ⟨none, rfl⟩ (fun j x H2 R hx s2 kk => ?_) fun ys H2 hy hall s2 h2 => w_name ?_
  · obtain ⟨p, b, ep, eb, rfl⟩ := zip_at hx
    have hp := g.pr p (List.mem_of_getElem? ep)
    have hb := g.am b (List.mem_of_getElem? eb)
    have e3 : ps.getD j 0 = p := by rw [List.getD, ep]; rfl
    have e4 : as.getD j 0 = b := by rw [List.getD, eb]; rfl
    obtain ⟨p', rfl⟩ := nat_of (show 0 ≤ p by omega)
    obtain ⟨b', rfl⟩ := nat_of hb.1
    exact w_call (w_cons (w_var rfl (w_nil ⟨_, rfl, p', b', rfl, by rw [ten19]; omega, by rw [ten19]; omega, fun t H' s' ht => kk _ _ s' ⟨t, rfl, by rw [e3, e4]; exact ht⟩⟩)))
  rw [lz] at hy
  try dsimp only
  have row : ∀ {i : Nat} {x : V}, ys[i]? = some x → ∃ t, x = .ref t ∧ H2 t = some (.tup [.int (as.getD i 0), .int (ps.getD i 0)]) := fun h => hall _ _ h
  refine w_seq (w_asg (w_tup (w_cons (w_cb (w_cons (w_comp (w_seq0 (w_var rfl ⟨D, rfl, .inl ⟨⟨_, SqL.of h2⟩, fun D3 hD3 => ?_⟩⟩))))))))
  refine comp_seqP (K := K) (a := D) (xs := ys) (σr := []) (.inr ⟨rfl, h2⟩) D3 (fun i v _ => v = .int (ps.getD i 0)) (fun _ _ _ _ _ z => z) (by omega) hD3 ⟨none, rfl⟩ (fun j x H3 R hx s3 kk => ?_) fun zs H3 hz hall3 s3 h3 => ?_
  · obtain ⟨t, rfl, ht⟩ := row hx
    exact w_op (w_var rfl (w_c (w_ixT (v := .int (ps.getD j 0)) (SqT.of (s3 _ _ ht)) rfl (kk _ _ (Same.refl _) rfl))))
  rw [ints_eq (f := fun i => ps.getD i 0) hz hall3, hy, ← lp, getD_map] at h3
  refine w_nil (w_tupL (SqL.of h3) fun t4 ht4 => ?_)
  have y4 := Same.laid (o := .tup (ps.map V.int)) ht4
  have e4 := upd_same (H := H3) (a := t4) (o := .tup (ps.map V.int))
  generalize upd H3 t4 _ = H4 at y4 e4 ⊢
  have s24 := s3.trans y4
  refine w_cons (w_cb (w_cons (w_comp (w_seq0 (w_var rfl ⟨D, rfl, .inl ⟨⟨_, SqL.of (s24 _ _ h2)⟩, fun D5 hD5 => ?_⟩⟩)))))
  refine comp_seqP (K := K) (a := D) (xs := ys) (σr := []) (.inr ⟨rfl, s24 _ _ h2⟩) D5 (fun i v _ => v = .int (as.getD i 0)) (fun _ _ _ _ _ z => z) (by omega) hD5 ⟨none, rfl⟩ (fun j x H5 R hx s5 kk => ?_) fun zs H5 hz hall5 s5 h5 => ?_
  · obtain ⟨t, rfl, ht⟩ := row hx
    exact w_op (w_var rfl (w_c (w_ixT (v := .int (as.getD j 0)) (SqT.of ((s24.trans s5) _ _ ht)) rfl (kk _ _ (Same.refl _) rfl))))
  rw [ints_eq (f := fun i => as.getD i 0) hz hall5, hy, ← la, getD_map] at h5
  refine w_nil (w_tupL (SqL.of h5) fun t6 ht6 => w_nil ⟨by show 2 ≤ sizeLine; decide, fun t7 ht7 => w_name ?_⟩)
  have y6 := Same.laid (o := .tup (as.map V.int)) ht6
  have y7 := Same.laid (o := .tup [.ref t4, .ref t6]) ht7
  have g4 := y7 _ _ (y6 _ _ (s5 _ _ e4))
  have g6 := y7 _ _ (upd_same (H := H5) (a := t6) (o := .tup (as.map V.int)))
  have g7 := upd_same (H := upd H5 t6 (.tup (as.map V.int))) (a := t7) (o := .tup [.ref t4, .ref t6])
  have s07 := ((((s1.trans s2).trans s24).trans s5).trans y6).trans y7
  generalize upd (upd H5 t6 _) t7 _ = H7 at g4 g6 g7 s07 ⊢
  have rd : Rep H7 (.ref t7) (dayD (ps, as)) := rep_day g7 g4 g6
  try dsimp only
  refine w_seq (w_drop (w_call (w_cons (w_call (w_cons (w_var rfl (w_nil ⟨_, rfl, dayD (ps, as), rd, fun H8 s8 => w_nil ⟨_, rfl, by rw [(good_day g n1 n6).1], ?_⟩⟩)))))))
  try dsimp only
  exact w_ret (w_var rfl (q _ _ (s07.trans s8) (Rep.mono s8 _ _ rd)))
theorem comp_zipP {K : PySem.W.Frag} {a b : Addr} {ps as : List Int} {H1 : Hp} {σ : St} {l : List (Option Nat)} {te : TE} {Q : Hp → Prop} (f : Int → Int → V) (D : Addr) (ha : H1 a = some (.tup (ps.map V.int))) (hb : H1 b = some (.tup (as.map V.int))) (hl : as.length = ps.length) (hn : ps.length ≤ 8)
    (hD : H1 D = none) (hini : ∃ r0 r1, iniOf l σ = [r0, r1])
    (hs : ∀ p q H (R : VK), p ∈ ps → q ∈ as → R (f p q) H → te [some (.int p), some (.int q)] H R) (hd : ∀ H, Same H1 H → H D = some (.lst (List.zipWith f ps as)) → Q H) :
    ∃ W : CompW, (∃ m, W 0 m [] (iniOf l σ) (upd H1 D (.lst []))) ∧ compStep (Itz K a b) (gTup K 2 (gCons (gName 0) (gCons (gName 1) gNil))) tYes te D W Q := by
  obtain ⟨r0, r1, hini⟩ := hini
  refine ⟨fun i m ys σ H => m = ps.length - i ∧ i ≤ ps.length ∧ H D = some (.lst ys) ∧ Same H1 H ∧ ys = (List.zipWith f ps as).take i ∧ ∃ r0 r1, σ = [r0, r1], ⟨_, rfl, Nat.zero_le _, upd_same, Same.laid hD, by simp, r0, r1, hini⟩, ?_⟩
  rintro i m ys σ H ⟨rfl, hi, hH, s1, rfl, q0, q1, rfl⟩
  refine ⟨hH, ?_⟩
  have ea := SqT.of (K := K) (s1 _ _ ha)
  have eb := SqT.of (K := K) (s1 _ _ hb)
  by_cases hlt : i < ps.length
  · have hx : (ps.map V.int)[i]? = some (.int (ps.getD i 0)) := get_ints hlt
    have hy : (as.map V.int)[i]? = some (.int (as.getD i 0)) := get_ints (by omega)
    have hz : (List.zipWith f ps as)[i]? = some (f (ps.getD i 0) (as.getD i 0)) := by
      rw [List.getElem?_zipWith, List.getD, List.getD, List.getElem?_eq_getElem hlt, List.getElem?_eq_getElem (show i < as.length by omega)]; rfl
    refine .inr ⟨⟨_, _, _, _, ea, eb, hx, hy⟩, fun v σ2 H4 => v = f (ps.getD i 0) (as.getD i 0) ∧ Same H1 H4 ∧ H4 D = some (.lst ((List.zipWith f ps as).take i)) ∧ ∃ r0 r1, σ2 = [r0, r1], fun _ _ => False, ?_, fun _ _ z => z.elim, ?_⟩
    · rintro v σ2 H4 ⟨rfl, s4, h4, z⟩
      refine ⟨h4, small1000 (by simp; omega), ps.length - (i + 1), by omega, rfl, hlt, upd_same, s4.put hD, ?_, z⟩
      rw [List.take_succ, hz]; rfl
    · rintro v H' ⟨p, x, y, hp0, rfl, gx, gy, rfl⟩
      have e1 : x = .int (ps.getD i 0) := by have := gx _ ea; rw [hx] at this; cases this; rfl
      have e2 : y = .int (as.getD i 0) := by have := gy _ eb; rw [hy] at this; cases this; rfl
      subst e1 e2
      refine w_gtup (SqT.of upd_same) rfl (w_gcons (w_name (w_gcons (w_name (w_gnil (w_yes (iteT ?_)))))))
      exact hs _ _ _ _ (getD_in hlt) (getD_in (by omega)) ⟨rfl, s1.laidT hp0, Same.laid hp0 _ _ hH, _, _, rfl⟩
  · have e : i = ps.length := by omega
    subst e
    refine .inl ⟨⟨_, _, ea, eb, .inl (by simp)⟩, hd H s1 ?_⟩
    rw [hH, List.take_of_length_le (by simp; omega)]
theorem zip_str (ps as : List Int) : List.zipWith (fun p a => V.str (wordS p a)) ps as = (List.zipWith wordS ps as).map V.str := by rw [List.map_zipWith]
theorem rd_shown_day {K : PySem.W.Frag} {a b : V} {H : Hp} {Q : VK} {E : XK} (h : sb_shown_day K a b H Q E) : tb_shown_day K (Rt Q) [some a, some b] H := by
  obtain ⟨n, p, q', ps, as, rfl, rfl, hp, hq, g, n6, q⟩ := h
  have lp : ps.length = n := g.l1
  have la : as.length = n := g.l2
  unfold tb_shown_day
  refine w_ret (w_bm (w_c ⟨rfl, w_cons (w_comp (w_zip2 (w_cons (w_var rfl (w_cons (w_var rfl (w_nil ⟨p, q', rfl, ⟨_, SqT.of hp⟩, ⟨_, SqT.of hq⟩, fun D hD => ?_⟩)))))))⟩))
  refine comp_zipP (K := K) (ps := ps) (as := as) (fun p a => .str (wordS p a)) D hp hq (by omega) (by omega) hD ⟨none, none, rfl⟩ (fun x y H1 R hx hy kk => ?_) fun H1 s1 h1 => ?_
  · have bx := g.pr x hx
    have by_ := g.am y hy
    obtain ⟨x', rfl⟩ := nat_of (show 0 ≤ x by omega)
    obtain ⟨y', rfl⟩ := nat_of by_.1
    have x19 : x' < 10 ^ 19 := by rw [ten19]; omega
    have y19 : y' < 10 ^ 19 := by rw [ten19]; omega
    have l1 := (dec_len (k := 19) (by decide) x19).2
    have l2 := (dec_len (k := 19) (by decide) y19).2
    refine w_fs3 (w_fv (w_var rfl ⟨(y' : Int), rfl, log_ok y19, decS (y' : Nat), rfl, by omega, w_c ⟨_, rfl, by decide, w_fv (w_var rfl ⟨(x' : Int), rfl, log_ok x19, decS (x' : Nat), rfl, by omega, ?_⟩)⟩⟩))
    rw [x_sg]
    exact kk
  · rw [zip_str] at h1
    refine w_nil ⟨_, D, List.zipWith wordS ps as, rfl, rfl, SqL.of h1, join_ok' g n6, ?_⟩
    rw [b_sg]
    exact q _ s1
theorem rd_shown_share {K : PySem.W.Frag} {a : V} {H : Hp} {Q : VK} {E : XK} (h : sb_shown_share K a H Q E) : tb_shown_share K (Rt Q) [some a, none, none] H := by
  obtain ⟨t, x, y, rfl, ht, hx, hy, q⟩ := h
  have l1 := (dec_len (k := 19) (by decide) hx).2
  have l2 := (dec_len (k := 19) (by decide) hy).2
  unfold tb_shown_share
  refine w_seq (w_asg (w_op (w_var rfl (w_c (w_ixT (v := .int (x : Nat)) (SqT.of ht) rfl (w_name ?_))))))
  try dsimp only
  refine w_seq (w_asg (w_op (w_var rfl (w_c (w_ixT (v := .int (y : Nat)) (SqT.of ht) rfl (w_name ?_))))))
  try dsimp only
  refine w_ret (w_fs3 (w_fv (w_var rfl ⟨(x : Int), rfl, log_ok hx, decS (x : Nat), rfl, by omega, w_c ⟨_, rfl, by decide, w_fv (w_var rfl ⟨(y : Int), rfl, log_ok hy, decS (y : Nat), rfl, by omega, ?_⟩)⟩⟩)))
  rw [s_sg]
  exact q
theorem kit_str {K : PySem.W.Frag} : PySem.W.kitOne K (.type "str") (.type "str") = some true := by kernel_rfl
theorem sum_zero : ∀ {as : List Int}, (∀ x ∈ as, 0 ≤ x) → (∀ x ∈ as, ¬ 0 < x) → as.sum = 0
  | [], _, _ => rfl
  | a :: as, h1, h2 => by
    have e1 := h1 a (by simp)
    have e2 := h2 a (by simp)
    rw [List.sum_cons, sum_zero (fun x hx => h1 x (List.mem_cons_of_mem _ hx)) fun x hx => h2 x (List.mem_cons_of_mem _ hx)]
    omega
theorem four_at (x y z w k : Int) : ∃ v : Int, (v = x ∨ v = y ∨ v = z ∨ v = w) ∧ atI [V.int x, .int y, .int z, .int w] (k % 4) = some (.int v) := by
  have r0 := Int.emod_nonneg k (show (4 : Int) ≠ 0 by decide)
  have r1 := Int.emod_lt_of_pos k (show (0 : Int) < 4 by decide)
  generalize k % 4 = k at r0 r1 ⊢
  rcases (by omega : k = 0 ∨ k = 1 ∨ k = 2 ∨ k = 3) with rfl | rfl | rfl | rfl
  · exact ⟨x, .inl rfl, rfl⟩
  · exact ⟨y, .inr (.inl rfl), rfl⟩
  · exact ⟨z, .inr (.inr (.inl rfl)), rfl⟩
  · exact ⟨w, .inr (.inr (.inr rfl)), rfl⟩
theorem rd__law_drawn {K : PySem.W.Frag} {a : V} {H : Hp} {Q : VK} {E : XK} (h : sb__law_drawn K a H Q E) : tb__law_drawn K (Rt Q) [some a, none, none, none, none] H := by
  obtain ⟨c, rfl, q⟩ := h
  unfold tb__law_drawn
  refine w_seq (w_asg (w_lst (w_nil ⟨Nat.zero_le _, fun p1 hp1 => w_name ?_⟩)))
  have s1 := Same.laid (o := .lst []) hp1
  have e1 := upd_same (H := H) (a := p1) (o := .lst [])
  generalize upd H p1 (.lst []) = H1 at s1 e1 ⊢
  try dsimp only
  refine w_seq (w_asg (w_lst (w_nil ⟨Nat.zero_le _, fun p2 hp2 => w_name ?_⟩)))
  have s2 := s1.laidT (o := .lst []) hp2
  have e2 := upd_same (H := H1) (a := p2) (o := .lst [])
  have p12 : p1 ≠ p2 := fun z => by rw [z, hp2] at e1; cases e1
  have e1' : upd H1 p2 (.lst []) p1 = some (.lst []) := by rw [upd_ne p12]; exact e1
  have p20 : H p2 = none := s1.free hp2
  generalize upd H1 p2 (.lst []) = H2 at s2 e2 e1' ⊢
  clear e1 hp2
  try dsimp only
  obtain ⟨n, en, n1, n6⟩ : ∃ n : Nat, 1 + c % 6 = (n : Int) ∧ 1 ≤ n ∧ n ≤ 6 := by
    have r0 := Int.emod_nonneg c (show (6 : Int) ≠ 0 by decide)
    have r1 := Int.emod_lt_of_pos c (show (0 : Int) < 6 by decide)
    exact ⟨(1 + c % 6).toNat, by omega, by omega, by omega⟩
  refine w_seq (w_for (w_rng1 (w_cons (w_op (w_c (w_op (w_var rfl (w_c (w_modI (by decide) (w_addI (w_nil ?_)))))))))))
  rw [en]
  refine ⟨_, rfl, (rng_ok (by omega)).1, (rng_ok (by omega)).2, ?_⟩
  refine for_range0 (n := n) (fun i σ H3 => ∃ (c : Int) (ps as : List Int) (r3 r4 : Option V), Same H H3 ∧ H3 p1 = some (.lst (ps.map V.int)) ∧ H3 p2 = some (.lst (as.map V.int)) ∧ ps.length = i ∧ as.length = i ∧ (∀ x ∈ ps, 1 ≤ x ∧ x ≤ 1000000000) ∧ (∀ x ∈ as, 0 ≤ x ∧ x ≤ 1000000000000000000) ∧ σ = [some (.int c), some (.ref p1), some (.ref p2), r3, r4]) ⟨c, [], [], _, _, s2, e1', e2, rfl, rfl, fun x hx => (by cases hx), fun x hx => (by cases hx), rfl⟩ ?_ ?_
  · rintro i σ H3 hi ⟨c, ps, as, r3, r4, s3, h1, h2, l1, l2, bp, ba, rfl⟩
    refine w_name (w_seq (w_asg (w_call (w_cons (w_var rfl (w_nil ⟨_, rfl, c, rfl, fun c' c0 c1 => w_name ?_⟩))))))
    try dsimp only
    refine w_seq (w_asg (w_op (w_var rfl (w_c (w_divI (by decide) (by decide) (w_name ?_))))))
    generalize c' / 1000000000 = hg
    try dsimp only
    obtain ⟨w1, o1, ew1⟩ := four_at 1 1000000000 (1 + hg % 1000000000) (1 + hg % 12) (c' / 100000000)
    obtain ⟨w2, o2, ew2⟩ := four_at 0 1000000000000000000 (hg % (1000000000000000000 + 1)) (hg % 12) (c' / 10000000)
    have m1 := Int.emod_nonneg hg (show (12 : Int) ≠ 0 by decide)
    have m2 := Int.emod_lt_of_pos hg (show (0 : Int) < 12 by decide)
    have m3 := Int.emod_nonneg hg (show (1000000000 : Int) ≠ 0 by decide)
    have m4 := Int.emod_lt_of_pos hg (show (0 : Int) < 1000000000 by decide)
    have m7 := Int.emod_nonneg hg (show (1000000000000000000 + 1 : Int) ≠ 0 by decide)
    have m8 := Int.emod_lt_of_pos hg (show (0 : Int) < 1000000000000000000 + 1 by decide)
    refine w_seq (w_drop (w_bm (w_var rfl ⟨tyV_lst h1, w_cons (w_op (w_lst (w_cons (w_c (w_cons (w_c (w_cons (w_op (w_c (w_op (w_var rfl (w_c (w_modI (by decide) (w_addI (w_cons (w_op (w_c (w_op (w_var rfl (w_c (w_modI (by decide) (w_addI (w_nil ⟨by show 4 ≤ sizeLine; decide, fun u hu => ?_⟩)))))))))))))))))))))))⟩)))
    have su := Same.laid (o := .lst [.int 1, .int 1000000000, .int (1 + hg % 1000000000), .int (1 + hg % 12)]) hu
    have h1u := su _ _ h1
    refine w_op (w_op (w_var rfl (w_c (w_divI (by decide) (by decide) (w_c (w_modI (by decide) (w_ixL (SqL.of upd_same) ew1 (w_nil (w_append h1u (small1000 (by rw [List.length_map]; omega)) ?_)))))))))
    have h2u := su _ _ h2
    have s4 := (s3.trans su).put (o := .lst (ps.map V.int ++ [.int w1])) hp1
    have g1 := upd_same (H := upd H3 u (.lst [.int 1, .int 1000000000, .int (1 + hg % 1000000000), .int (1 + hg % 12)])) (a := p1) (o := .lst (ps.map V.int ++ [.int w1]))
    have g2 : upd (upd H3 u (.lst [.int 1, .int 1000000000, .int (1 + hg % 1000000000), .int (1 + hg % 12)])) p1 (.lst (ps.map V.int ++ [.int w1])) p2 = some (.lst (as.map V.int)) := by rw [upd_ne (Ne.symm p12)]; exact h2u
    generalize upd (upd H3 u _) p1 _ = H4 at s4 g1 g2 ⊢
    try dsimp only
    refine w_drop (w_bm (w_var rfl ⟨tyV_lst g2, w_cons (w_op (w_lst (w_cons (w_c (w_cons (w_c (w_cons (w_op (w_var rfl (w_op (w_c (w_c (w_addI (w_modI (by decide) (w_cons (w_op (w_var rfl (w_c (w_modI (by decide) (w_nil ⟨by show 4 ≤ sizeLine; decide, fun u2 hu2 => ?_⟩))))))))))))))))))))⟩))
    have su2 := Same.laid (o := .lst [.int 0, .int 1000000000000000000, .int (hg % (1000000000000000000 + 1)), .int (hg % 12)]) hu2
    have g2u := su2 _ _ g2
    refine w_op (w_op (w_var rfl (w_c (w_divI (by decide) (by decide) (w_c (w_modI (by decide) (w_ixL (SqL.of upd_same) ew2 (w_nil (w_append g2u (small1000 (by rw [List.length_map]; omega)) ?_)))))))))
    refine ⟨c', ps ++ [w1], as ++ [w2], _, _, (s4.trans su2).put p20, ?_, ?_, by rw [List.length_append, l1]; rfl, by rw [List.length_append, l2]; rfl, fun x hx => ?_, fun x hx => ?_, rfl⟩
    · rw [upd_ne p12, List.map_append]; exact su2 _ _ g1
    · rw [upd_same, List.map_append]; rfl
    · rcases List.mem_append.mp hx with z | z
      · exact bp x z
      · have : x = w1 := by simpa using z
        omega
    · rcases List.mem_append.mp hx with z | z
      · exact ba x z
      · have : x = w2 := by simpa using z
        omega
  · rintro σ H3 ⟨c, ps, as, r3, r4, s3, h1, h2, l1, l2, bp, ba, rfl⟩
    try dsimp only
    have fin : ∀ {H4 : Hp} {as : List Int}, Same H H4 → H4 p1 = some (.lst (ps.map V.int)) → H4 p2 = some (.lst (as.map V.int)) → as.length = n → (∀ x ∈ as, 0 ≤ x ∧ x ≤ 1000000000000000000) → (∃ x ∈ as, 0 < x) → tRet (tTup (tCons (tCB (rTy_tuple K) (tCons (tVar 1) tNil)) (tCons (tCB (rTy_tuple K) (tCons (tVar 2) tNil)) tNil))) (Rt Q) [some (.int c), some (.ref p1), some (.ref p2), r3, r4] H4 := fun {H4 as} s4 h1 h2 l2 ba ex => by
      refine w_ret (w_tup (w_cons (w_cb (w_cons (w_var rfl (w_nil (w_tupL (SqL.of h1) fun t1 ht1 => ?_)))))))
      have y1 := Same.laid (o := .tup (ps.map V.int)) ht1
      refine w_cons (w_cb (w_cons (w_var rfl (w_nil (w_tupL (SqL.of (y1 _ _ h2)) fun t2 ht2 => w_nil ⟨by show 2 ≤ sizeLine; decide, fun t3 ht3 => ?_⟩)))))
      have y2 := Same.laid (o := .tup (as.map V.int)) ht2
      have y3 := Same.laid (o := .tup [.ref t1, .ref t2]) ht3
      exact q (.ref t3) n ps as _ (((s4.trans y1).trans y2).trans y3) (rep_day upd_same (y3 _ _ (y2 _ _ upd_same)) (y3 _ _ upd_same)) ⟨l1, l2, bp, ba, ex⟩ n1 n6
    refine w_seq (w_ifS (w_test (w_op (w_cb (w_cons (w_var rfl (w_nil (w_sumA (.inl (SqL.of h2)) (w_c (w_eqI (w_bl (iteD (fun e => ?_) fun e => w_next ?_))))))))))))
    · have lp : (0 : Int) < ((as.map V.int).length : Nat) := by rw [List.length_map]; omega
      refine w_asg (w_c (w_sub (w_var rfl (w_op (w_op (w_var rfl (w_c (w_divI (by decide) (by decide) (w_cb (w_cons (w_var rfl (w_nil (w_lenL (SqL.of h2) (w_modI lp ?_))))))))))))))
      obtain ⟨j, ej, hj⟩ := emod_at (c := c / 1000000) (n := (as.map V.int).length) (by rw [List.length_map]; omega)
      rw [ej]
      refine w_setL h2 (ixN_at (by omega) (by omega)) ?_
      rw [Int.toNat_natCast]
      have es : (as.map V.int).set j (.int 1) = (as.set j 1).map V.int := (List.map_set ..).symm
      rw [es]
      rw [List.length_map] at hj
      try dsimp only
      refine fin (s3.put p20) (by rw [upd_ne p12]; exact h1) upd_same (by rw [List.length_set]; exact l2) (fun x hx => ?_) ⟨1, ?_, by decide⟩
      · rcases List.mem_or_eq_of_mem_set hx with z | z
        · exact ba x z
        · subst z; exact ⟨by decide, by decide⟩
      · exact List.mem_set hj 1
    · try dsimp only
      refine fin s3 h1 h2 l2 ba ?_
      by_cases z : ∃ x ∈ as, 0 < x
      · exact z
      · exact absurd (sum_zero (fun x hx => (ba x hx).1) fun x hx w => z ⟨x, hx, w⟩) e
theorem rd__law_alike {K : PySem.W.Frag} {a b : V} {H : Hp} {Q : VK} {E : XK} (h : sb__law_alike K a b H Q E) : tb__law_alike K (Rt Q) [some a, some b, none] H := by
  obtain ⟨n, d, ra, rb, g, n6, q⟩ := h
  obtain ⟨t, p1, p2, rfl, ht, h1, h2⟩ := day_rep ra
  have l1 := g.l1
  have l2 := g.l2
  have dp := depth_day d
  unfold tb__law_alike
  refine w_seq (w_ifS (w_or (w_not (w_tru (w_cb (w_cons (w_var rfl (w_cons (w_c (w_nil ⟨_, "tuple", _, true, rfl, TyOf.tup ht, kit_tup, w_trub (iteF ?_)⟩))))))))))
  refine w_or (w_test (w_op (w_cb (w_cons (w_var rfl (w_nil (w_lenT (SqT.of ht) (w_c (w_neI (w_bl (iteNF rfl ?_)))))))))))
  refine w_test (w_op (w_var rfl (w_var rfl (w_neSelf ra rb (lay_day d) (by omega) (w_bl (iteF (w_next ?_)))))))
  try dsimp only
  refine w_seq (w_for (w_seq0 (w_var rfl ⟨t, rfl, .inr ⟨⟨_, SqT.of ht⟩, ?_⟩⟩)))
  refine for_tup (K := K) (a := t) (xs := [.ref p1, .ref p2]) (fun i σ H2 => Same H H2 ∧ ∃ r2, σ = [some (.ref t), some b, r2]) ⟨Same.refl _, _, rfl⟩ (fun i σ H2 _ z => SqT.of (z.1 _ _ ht)) ?_ ?_
  · rintro i x σ H2 hx ⟨s2, r2, rfl⟩
    obtain ⟨p, ns, rfl, hp, hn⟩ : ∃ p ns, x = .ref p ∧ H p = some (.tup (List.map V.int ns)) ∧ ns.length = n := by
      rcases two_of hx with rfl | rfl
      · exact ⟨p1, d.1, rfl, h1, l1⟩
      · exact ⟨p2, d.2, rfl, h2, l2⟩
    have hp2 := s2 _ _ hp
    refine w_name (w_ifS (w_or (w_not (w_tru (w_cb (w_cons (w_var rfl (w_cons (w_c (w_nil ⟨_, "tuple", _, true, rfl, TyOf.tup hp2, kit_tup, w_trub (iteF ?_)⟩))))))))))
    refine w_test (w_op (w_cb (w_cons (w_comp (w_seq0 (w_var rfl ⟨_, rfl, .inr ⟨⟨_, SqT.of hp2⟩, fun D hD => ?_⟩⟩))))))
    refine comp_seq D (ns.map V.int) (fun i ys σ2 H3 => ys.length = i ∧ Same H2 H3 ∧ ∃ r0, σ2 = [r0]) (by rw [List.length_map]; omega) (fun i ys σ H h => Nat.le_of_eq h.1) (fun i ys σ2 H3 h _ => itt_of (SqT.of (h.2.1 _ _ hp2)) i) ⟨rfl, Same.laid hD, _, rfl⟩ ?_ ?_
    · rintro i x ys σ2 H3 hi ⟨hl, s3, r0, rfl⟩ hD2
      rw [List.getElem?_map] at hi
      obtain ⟨z, hz, rfl⟩ := Option.map_eq_some_iff.mp hi
      refine w_name (w_tru (w_call (w_cons (w_var rfl (w_nil ⟨_, rfl, _, true, TyOf.int _, .int, w_trub (iteT (w_var rfl ⟨hD2, by simp [hl], s3.put hD, _, rfl⟩))⟩)))))
    · rintro ys σ2 H3 ⟨hl, s3, _⟩ hD2
      have s23 := s2.trans s3
      exact w_nil (w_lenL (SqL.of hD2) (w_cb (w_cons (w_var rfl (w_nil (w_lenT (SqT.of (s23 _ _ hp)) (w_neI (w_bl (iteNF (by rw [hl]) (w_next ⟨s23, _, rfl⟩))))))))))
  · rintro σ H2 ⟨s2, r2, rfl⟩
    try dsimp only
    exact w_ret (w_c (q _ s2))
theorem rd__law_lowest {K : PySem.W.Frag} {a b : V} {H : Hp} {Q : VK} {E : XK} (h : sb__law_lowest K a b H Q E) : tb__law_lowest K (Rt Q) [some a, some b, none, none] H := by
  obtain ⟨m, n, rfl, rfl, m1, hm, hn, q⟩ := h
  rw [ten19] at hm hn
  have hg : 0 < Nat.gcd m n := Nat.gcd_pos_of_pos_left _ m1
  have hl : Nat.gcd m n ≤ m := Nat.gcd_le_left _ m1
  unfold tb__law_lowest
  refine w_seq (w_asg (w_var rfl (w_name ?_)))
  try dsimp only
  refine w_seq (w_asg (w_var rfl (w_name ?_)))
  try dsimp only
  refine w_seq ⟨fun k σ H2 => ∃ (x y : Nat), σ = [some (.int (m : Nat)), some (.int (n : Nat)), some (.int (x : Nat)), some (.int (y : Nat))] ∧ H2 = H ∧ Nat.gcd x y = Nat.gcd m n ∧ k = y, ⟨_, m, n, rfl, rfl, rfl, rfl⟩, ?_⟩
  rintro k σ H2 ⟨x, y, rfl, rfl, hgg, rfl⟩
  refine w_test (w_op (w_var rfl (w_c (w_gtI (w_bl (iteD (fun hy => ?_) fun hy => ?_))))))
  · refine ⟨fun σ' H' => ∃ z, z < k ∧ ∃ (x y : Nat), σ' = [some (.int (m : Nat)), some (.int (n : Nat)), some (.int (x : Nat)), some (.int (y : Nat))] ∧ H' = H2 ∧ Nat.gcd x y = Nat.gcd m n ∧ z = y, fun _ _ z => z, ?_⟩
    refine w_par (w_cons (w_var rfl (w_cons (w_op (w_var rfl (w_var rfl (w_modI hy (w_nil ?_))))))))
    exact ⟨_, _, rfl, x % k, Nat.mod_lt _ (by omega), k, x % k, rfl, rfl, by rw [gcd_step]; exact hgg, rfl⟩
  · have e : k = 0 := by omega
    subst e
    rw [Nat.gcd_zero_right] at hgg
    subst hgg
    try dsimp only
    refine w_ret (w_tup (w_cons (w_op (w_var rfl (w_var rfl (w_divI (by omega) (by omega) (w_cons (w_op (w_var rfl (w_var rfl (w_divI (by omega) (by omega) (w_nil ⟨by show 2 ≤ sizeLine; decide, fun t ht => ?_⟩))))))))))))
    have d1 : m / Nat.gcd m n ≤ m := Nat.div_le_self ..
    have d2 : n / Nat.gcd m n ≤ n := Nat.div_le_self ..
    exact q t (m / Nat.gcd m n) (n / Nat.gcd m n) _ (Same.laid ht) upd_same (by rw [ten19]; omega) (by rw [ten19]; omega)
theorem rd_law {K : PySem.W.Frag} {a : V} {H : Hp} {Q : VK} {E : XK} (h : sb_top K a H Q E) : tb_law K (Rt Q) [some a, none, none, none, none, none, none, none] H := by
  obtain ⟨l, sc, rfl, hl, hb, hlen, q⟩ := h
  unfold tb_law
  refine w_seq (w_for (w_rng1 (w_cons (w_cb (w_cons (w_c (w_cons (w_cb (w_cons (w_c (w_cons (w_cb (w_cons (w_var rfl (w_nil (w_lenL hl (w_nil (w_min2 (w_nil (w_max2 (w_nil ?_)))))))))))))))))))))
  obtain ⟨n, en, n20⟩ : ∃ n : Nat, max 1 (min 20 (((sc.map V.int).length : Nat) : Int)) = (n : Int) ∧ n ≤ 20 := ⟨(max 1 (min 20 (((sc.map V.int).length : Nat) : Int))).toNat, by omega, by omega⟩
  rw [en]
  refine ⟨_, rfl, (rng_ok (by omega)).1, (rng_ok (by omega)).2, ?_⟩
  refine for_range0 (n := n) (fun i σ H3 => Same H H3 ∧ ∃ r1 r2 r3 r4 r5 r6 r7, σ = [some (.ref l), r1, r2, r3, r4, r5, r6, r7]) ⟨Same.refl _, _, _, _, _, _, _, _, rfl⟩ ?_ ?_
  · rintro i σ H3 hi ⟨s3, r1, r2, r3, r4, r5, r6, r7, rfl⟩
    refine w_name (w_seq (w_asg (w_call (w_cons (w_var rfl (w_cons (w_var rfl (w_nil ⟨_, _, rfl, l, sc, i, rfl, rfl, s3.seq hl, hb, by omega, w_name ?_⟩))))))))
    have c0 := cellF_lo sc i
    generalize cellF sc i = c at c0
    try dsimp only
    refine w_seq (w_asg (w_call (w_cons (w_var rfl (w_nil ⟨_, rfl, c, rfl, fun v m ps as H4 s4 rd g m1 m6 => w_name ?_⟩)))))
    obtain ⟨t, p1, p2, rfl, ht, h1, h2⟩ := day_rep rd
    replace h1 : H4 p1 = some (.tup (ps.map V.int)) := h1
    replace h2 : H4 p2 = some (.tup (as.map V.int)) := h2
    have lp : ps.length = m := g.l1
    have la : as.length = m := g.l2
    try dsimp only
    refine w_seq (w_asg (w_comp (w_zip2 (w_cons (w_op (w_var rfl (w_c (w_ixT (v := .ref p1) (SqT.of ht) rfl (w_cons (w_op (w_var rfl (w_c (w_ixT (v := .ref p2) (SqT.of ht) rfl (w_nil ⟨p1, p2, rfl, ⟨_, SqT.of h1⟩, ⟨_, SqT.of h2⟩, fun D hD => ?_⟩))))))))))))))
    refine comp_zipP (K := K) (ps := ps) (as := as) (fun p a => .str (wordS p a)) D h1 h2 (by omega) (by omega) hD ⟨none, none, rfl⟩ (fun x y H5 R hx hy kk => ?_) fun H5 s5 h5 => w_name ?_
    · have bx := g.pr x hx
      have by_ := g.am y hy
      obtain ⟨x', rfl⟩ := nat_of (show 0 ≤ x by omega)
      obtain ⟨y', rfl⟩ := nat_of by_.1
      have x19 : x' < 10 ^ 19 := by rw [ten19]; omega
      have y19 : y' < 10 ^ 19 := by rw [ten19]; omega
      have l1 : (decS (x' : Nat)).length ≤ 19 := (dec_len (k := 19) (by decide) x19).2
      have l2 : (decS (y' : Nat)).length ≤ 19 := (dec_len (k := 19) (by decide) y19).2
      have k9 : (1000 : Nat) ≤ sizeLine := by decide
      have lx : ("x" : Str).length = 1 := rfl
      refine w_op (w_op (w_cb (w_cons (w_var rfl (w_nil ⟨(y' : Int), rfl, log_ok y19, w_c ⟨decS (y' : Nat), ("x" : Str), rfl, rfl, by omega, ?_⟩⟩)))))
      refine w_cb (w_cons (w_var rfl (w_nil ⟨(x' : Int), rfl, log_ok x19, decS (y' : Nat) ++ ("x" : Str), decS (x' : Nat), rfl, rfl, by rw [PySem.Str.length_append]; omega, ?_⟩)))
      rw [x_sg]
      exact kk
    rw [zip_str] at h5
    try dsimp only
    have t5 := s5 _ _ ht
    refine w_seq (w_asg (w_call (w_cons (w_op (w_var rfl (w_c (w_ixT (v := .ref p1) (SqT.of t5) rfl (w_cons (w_op (w_var rfl (w_c (w_ixT (v := .ref p2) (SqT.of t5) rfl (w_nil ⟨_, _, rfl, m, p1, p2, ps, as, rfl, rfl, s5 _ _ h1, s5 _ _ h2, g, m6, fun H6 s6 => w_name ?_⟩)))))))))))))
    try dsimp only
    refine w_seq (w_ifS (w_or (w_not (w_tru (w_cb (w_cons (w_var rfl (w_cons (w_c (w_nil ⟨_, "str", _, true, rfl, TyOf.str _, kit_str, w_trub (iteF ?_)⟩))))))))))
    refine w_test (w_op (w_var rfl (w_bm (w_c ⟨rfl, w_cons (w_var rfl (w_nil ⟨_, D, List.zipWith wordS ps as, rfl, rfl, SqL.of (s6 _ _ h5), join_ok' g m6, ?_⟩))⟩))))
    have et : Txt.join (" " : Str) (List.zipWith wordS ps as) = textD ps as := by rw [b_sg]; rfl
    rw [et]
    refine w_neS (w_bl (iteNF rfl (w_next ?_)))
    try dsimp only
    refine w_seq (w_asg (w_call (w_cons (w_var rfl (w_nil ⟨_, rfl, m, ps, as, rfl, g, m1, m6, fun v7 H7 s7 rd7 => w_name ?_⟩)))))
    have s47 := (s5.trans s6).trans s7
    obtain ⟨u, v1, v2, rfl, hu, u1, u2⟩ := day_rep rd7
    replace u1 : H7 v1 = some (.tup (ps.map V.int)) := u1
    replace u2 : H7 v2 = some (.tup (as.map V.int)) := u2
    try dsimp only
    refine w_seq (w_ifS (w_or (w_not (w_tru (w_call (w_cons (w_var rfl (w_cons (w_var rfl (w_nil ⟨_, _, rfl, m, (ps, as), rd7, Rep.mono s47 _ _ rd, g, m6, fun H8 s8 => w_trub (iteF ?_)⟩))))))))))
    refine w_test (w_op (w_call (w_cons (w_op (w_var rfl (w_c (w_ixT (v := .ref v1) (SqT.of (s8 _ _ hu)) rfl (w_cons (w_op (w_var rfl (w_c (w_ixT (v := .ref v2) (SqT.of (s8 _ _ hu)) rfl (w_nil ⟨_, _, rfl, m, v1, v2, ps, as, rfl, rfl, s8 _ _ u1, s8 _ _ u2, g, m6, fun H9 s9 => w_var rfl (w_neS (w_bl (iteNF rfl (w_next ?_))))⟩)))))))))))))
    have s49 := (s47.trans s8).trans s9
    clear h5 hu u1 u2 rd7 s5 s6 s7 s8 s9 s47 t5
    try dsimp only
    have z0 := Int.emod_nonneg c (show (1000000000000000000 : Int) ≠ 0 by decide)
    have z1 := Int.emod_lt_of_pos c (show (0 : Int) < 1000000000000000000 by decide)
    have z2 := Int.emod_nonneg (c / 1000000000000000000) (show (1000000000000000000 : Int) ≠ 0 by decide)
    have z3 := Int.emod_lt_of_pos (c / 1000000000000000000) (show (0 : Int) < 1000000000000000000 by decide)
    obtain ⟨x, ex⟩ := nat_of (show 0 ≤ 1 + c % 1000000000000000000 by omega)
    obtain ⟨y, ey⟩ := nat_of (show 0 ≤ 2 + c / 1000000000000000000 % 1000000000000000000 by omega)
    refine w_seq (w_asg (w_call (w_cons (w_op (w_c (w_op (w_var rfl (w_c (w_modI (by decide) (w_addI (w_cons (w_op (w_c (w_op (w_op (w_var rfl (w_c (w_divI (by decide) (by decide) (w_c (w_modI (by decide) (w_addI (w_nil ?_))))))))))))))))))))))
    rw [ex, ey]
    refine ⟨_, _, rfl, x, y, rfl, rfl, by omega, by rw [ten19]; omega, by rw [ten19]; omega, fun t' x' y' Ha sa ha hx hy => w_name ?_⟩
    try dsimp only
    refine w_seq (w_asg (w_call (w_cons (w_var rfl (w_nil ⟨_, rfl, t', x', y', rfl, ha, hx, hy, w_name ?_⟩)))))
    try dsimp only
    refine w_ifS (w_or (w_not (w_tru (w_cb (w_cons (w_var rfl (w_cons (w_c (w_nil ⟨_, "str", _, true, rfl, TyOf.str _, kit_str, w_trub (iteF ?_)⟩)))))))))
    have l1 : (decS (x' : Nat)).length ≤ 19 := (dec_len (k := 19) (by decide) hx).2
    have l2 : (decS (y' : Nat)).length ≤ 19 := (dec_len (k := 19) (by decide) hy).2
    have k9 : (1000 : Nat) ≤ sizeLine := by decide
    have ls : ("/" : Str).length = 1 := rfl
    refine w_test (w_op (w_var rfl (w_op (w_op (w_cb (w_cons (w_op (w_var rfl (w_c (w_ixT (v := .int (x' : Nat)) (SqT.of ha) rfl (w_nil ⟨(x' : Int), rfl, log_ok hx, w_c ⟨decS (x' : Nat), ("/" : Str), rfl, rfl, by omega, ?_⟩⟩)))))))))))
    refine w_cb (w_cons (w_op (w_var rfl (w_c (w_ixT (v := .int (y' : Nat)) (SqT.of ha) rfl (w_nil ⟨(y' : Int), rfl, log_ok hy, decS (x' : Nat) ++ ("/" : Str), decS (y' : Nat), rfl, rfl, by rw [PySem.Str.length_append]; omega, ?_⟩))))))
    rw [s_sg]
    exact w_neS (w_bl (iteNF rfl (w_next ⟨((s3.trans s4).trans s49).trans sa, _, _, _, _, _, _, _, rfl⟩)))
  · rintro σ H3 ⟨s3, r1, r2, r3, r4, r5, r6, r7, rfl⟩
    try dsimp only
    exact w_ret (w_c (q _))
abbrev BdP (x : Str) (st : Stmt) (ps : List Str) : Prop := ∀ (kV doc pm : Value) (an : Option Addr) (cdv ct : Value) (us : List Value), us.length = ps.length → bindArgs (PySem.W.fnOf x x (defArgs st) (defBody st) (defScope st) .none kV doc pm an cdv ct) ⟨us, []⟩ = pure (ps.zip us)
section
variable {P : Program} {w : World} {K : PySem.W.Frag} {mg : Str → Option Value} {base : Heap}
abbrev s_is_int : Stmt := top 1
abbrev ps_is_int : List Str := ["thing"]
theorem sc_is_int : FnScope ["thing"] ps_is_int (defScope s_is_int) := ⟨rfl, rfl, rfl, by decide +kernel, rfl, by decide +kernel, by decide +kernel⟩
theorem bd_is_int : BdP "is_int" s_is_int ps_is_int :=
  fun _ _ _ _ _ _ us hl => match us, hl with | [_], _ => rfl
theorem fn_is_int (M : Md K mg) (D : Df K mg "is_int" s_is_int)  : Fn P w K mg base CX0 "is_int" 1 ps_is_int (sp_is_int K) := D.to (fun F =>
  F.ok (k := 0) sc_is_int (fun vs _ _ _ h => sp1_len h) (fun cdv A outer s H vs Q E hr h => by
    have hu := hr.units
    obtain ⟨a0, rfl, h⟩ := h
    refine ⟨tb_is_int K, ?_, rd_is_int h⟩
    refine pss_one ?_
    exact (ps_ret (pe_and (fb_cB call_isinst (by rfl) M.b_isinstance bt_isinstance (pb_c (pv 0) (pb_c (pe_gty M.b_int bt_int) pb_nil))) (pe_one (pe_not (fb_cB call_isinst (by rfl) M.b_isinstance bt_isinstance (pb_c (pv 0) (pb_c (pe_gty M.b_bool bt_bool) pb_nil))))))))) bd_is_int
abbrev s_is_tuple : Stmt := top 9
abbrev ps_is_tuple : List Str := ["thing", "shortest", "longest"]
theorem sc_is_tuple : FnScope ["thing", "shortest", "longest"] ps_is_tuple (defScope s_is_tuple) := ⟨rfl, rfl, rfl, by decide +kernel, rfl, by decide +kernel, by decide +kernel⟩
theorem bd_is_tuple : BdP "is_tuple" s_is_tuple ps_is_tuple :=
  fun _ _ _ _ _ _ us hl => match us, hl with | [_, _, _], _ => rfl
theorem fn_is_tuple (M : Md K mg) (D : Df K mg "is_tuple" s_is_tuple)  : Fn P w K mg base CX0 "is_tuple" 1 ps_is_tuple (sp_is_tuple K) := D.to (fun F =>
  F.ok (k := 0) sc_is_tuple (fun vs _ _ _ h => sp3_len h) (fun cdv A outer s H vs Q E hr h => by
    have hu := hr.units
    obtain ⟨a0, a1, a2, rfl, h⟩ := h
    refine ⟨tb_is_tuple K, ?_, rd_is_tuple h⟩
    refine pss_one ?_
    exact (ps_ret (pe_and (fb_cB call_isinst (by rfl) M.b_isinstance bt_isinstance (pb_c (pv 0) (pb_c (pe_gty M.b_tuple bt_tuple) pb_nil))) (pe_one (pe_chain op_le op_le (pv 1) (fb_cB (call_lenU) (by rfl) M.b_len bt_len (pb_c (pv 0) pb_nil)) (pv 2))))))) bd_is_tuple
abbrev s_is_price : Stmt := top 10
abbrev ps_is_price : List Str := ["thing"]
theorem sc_is_price : FnScope ["thing"] ps_is_price (defScope s_is_price) := ⟨rfl, rfl, rfl, by decide +kernel, rfl, by decide +kernel, by decide +kernel⟩
theorem bd_is_price : BdP "is_price" s_is_price ps_is_price :=
  fun _ _ _ _ _ _ us hl => match us, hl with | [_], _ => rfl
theorem fn_is_price (M : Md K mg) (D : Df K mg "is_price" s_is_price) (G_is_int : Fn P w K mg base CX0 "is_int" 1 ps_is_int (sp_is_int K)) : Fn P w K mg base CX0 "is_price" 2 ps_is_price (sp_is_price K) := D.to (fun F =>
  F.ok (k := 1) sc_is_price (fun vs _ _ _ h => sp1_len h) (fun cdv A outer s H vs Q E hr h => by
    have hu := hr.units
    obtain ⟨a0, rfl, h⟩ := h
    refine ⟨tb_is_price K, ?_, rd_is_price h⟩
    refine pss_one ?_
    exact (ps_ret (pe_and (fb_fn G_is_int (hr.mono (by decide)) (by rfl) pass0 (pb_c (pv 0) pb_nil)) (pe_one (pe_chain op_le op_le pe_int (pv 0) (pe_gint M.c_HIGHEST_PRICE))))))) bd_is_price
abbrev s_is_amount : Stmt := top 11
abbrev ps_is_amount : List Str := ["thing"]
theorem sc_is_amount : FnScope ["thing"] ps_is_amount (defScope s_is_amount) := ⟨rfl, rfl, rfl, by decide +kernel, rfl, by decide +kernel, by decide +kernel⟩
theorem bd_is_amount : BdP "is_amount" s_is_amount ps_is_amount :=
  fun _ _ _ _ _ _ us hl => match us, hl with | [_], _ => rfl
theorem fn_is_amount (M : Md K mg) (D : Df K mg "is_amount" s_is_amount) (G_is_int : Fn P w K mg base CX0 "is_int" 1 ps_is_int (sp_is_int K)) : Fn P w K mg base CX0 "is_amount" 2 ps_is_amount (sp_is_amount K) := D.to (fun F =>
  F.ok (k := 1) sc_is_amount (fun vs _ _ _ h => sp1_len h) (fun cdv A outer s H vs Q E hr h => by
    have hu := hr.units
    obtain ⟨a0, rfl, h⟩ := h
    refine ⟨tb_is_amount K, ?_, rd_is_amount h⟩
    refine pss_one ?_
    exact (ps_ret (pe_and (fb_fn G_is_int (hr.mono (by decide)) (by rfl) pass0 (pb_c (pv 0) pb_nil)) (pe_one (pe_chain op_le op_le pe_int (pv 0) (pe_gint M.c_HIGHEST_AMOUNT))))))) bd_is_amount
abbrev s_are_prices : Stmt := top 12
abbrev ps_are_prices : List Str := ["thing"]
theorem sc_are_prices : FnScope ["thing"] ps_are_prices (defScope s_are_prices) := ⟨rfl, rfl, rfl, by decide +kernel, rfl, by decide +kernel, by decide +kernel⟩
theorem bd_are_prices : BdP "are_prices" s_are_prices ps_are_prices :=
  fun _ _ _ _ _ _ us hl => match us, hl with | [_], _ => rfl
theorem fn_are_prices (M : Md K mg) (D : Df K mg "are_prices" s_are_prices) (G_is_tuple : Fn P w K mg base CX0 "is_tuple" 1 ps_is_tuple (sp_is_tuple K)) (G_is_price : Fn P w K mg base CX0 "is_price" 2 ps_is_price (sp_is_price K)) : Fn P w K mg base CX0 "are_prices" 3 ps_are_prices (sp_are_prices K) := D.to (fun F =>
  F.ok (k := 2) sc_are_prices (fun vs _ _ _ h => sp1_len h) (fun cdv A outer s H vs Q E hr h => by
    have hu := hr.units
    obtain ⟨a0, rfl, h⟩ := h
    refine ⟨tb_are_prices K, ?_, rd_are_prices h⟩
    refine pss_one ?_
    exact (ps_ret (pe_and (fb_fn G_is_tuple (hr.mono (by decide)) (by rfl) pass0 (pb_c (pv 0) (pb_c pe_int (pb_c (pe_gint M.c_MOST_WARES) pb_nil)))) (pe_one (fb_cB (call_allU rfl) (by rfl) M.b_all bt_all (pb_c (pe_comp (N := ["price"]) (l := [none]) rfl ⟨rfl, by decide +kernel, by decide +kernel, by first | decide +kernel | rfl,  True.intro, by decide +kernel⟩ (pi_seq (pv 0)) (fun _ _ _ _ _ => (pg_name (i := 0) (show List.Nodup (["price"] : List Str) by decide +kernel) rfl (Or.inl rfl))) (fun _ _ _ _ _ => pif_nil) (fun _ _ _ _ _ => (fb_fn G_is_price (hr.mono (by decide)) (by rfl) pass0 (pb_c (pv 0) pb_nil)))) pb_nil))))))) bd_are_prices
abbrev s_are_amounts : Stmt := top 13
abbrev ps_are_amounts : List Str := ["thing"]
theorem sc_are_amounts : FnScope ["thing"] ps_are_amounts (defScope s_are_amounts) := ⟨rfl, rfl, rfl, by decide +kernel, rfl, by decide +kernel, by decide +kernel⟩
theorem bd_are_amounts : BdP "are_amounts" s_are_amounts ps_are_amounts :=
  fun _ _ _ _ _ _ us hl => match us, hl with | [_], _ => rfl
theorem fn_are_amounts (M : Md K mg) (D : Df K mg "are_amounts" s_are_amounts) (G_is_tuple : Fn P w K mg base CX0 "is_tuple" 1 ps_is_tuple (sp_is_tuple K)) (G_is_amount : Fn P w K mg base CX0 "is_amount" 2 ps_is_amount (sp_is_amount K)) : Fn P w K mg base CX0 "are_amounts" 3 ps_are_amounts (sp_are_amounts K) := D.to (fun F =>
  F.ok (k := 2) sc_are_amounts (fun vs _ _ _ h => sp1_len h) (fun cdv A outer s H vs Q E hr h => by
    have hu := hr.units
    obtain ⟨a0, rfl, h⟩ := h
    refine ⟨tb_are_amounts K, ?_, rd_are_amounts h⟩
    refine pss_cons ?_ (pss_one ?_)
    · exact (ps_if (PW.pt (pw_or (pt_not (pt_tru (fb_fn G_is_tuple (hr.mono (by decide)) (by rfl) pass0 (pb_c (pv 0) (pb_c pe_int (pb_c (pe_gint M.c_MOST_WARES) pb_nil)))) (fun _ => rfl))) (pw_or1 (pt_not (pt_tru (fb_cB (call_allU rfl) (by rfl) M.b_all bt_all (pb_c (pe_comp (N := ["amount"]) (l := [none]) rfl ⟨rfl, by decide +kernel, by decide +kernel, by first | decide +kernel | rfl,  True.intro, by decide +kernel⟩ (pi_seq (pv 0)) (fun _ _ _ _ _ => (pg_name (i := 0) (show List.Nodup (["amount"] : List Str) by decide +kernel) rfl (Or.inl rfl))) (fun _ _ _ _ _ => pif_nil) (fun _ _ _ _ _ => (fb_fn G_is_amount (hr.mono (by decide)) (by rfl) pass0 (pb_c (pv 0) pb_nil)))) pb_nil)) (fun _ => rfl)))))) (pss_one (ps_ret pe_bl)) pss_nil)
    · exact (ps_ret (fb_cB (call_anyU rfl) (by rfl) M.b_any bt_any (pb_c (pe_comp (N := ["amount"]) (l := [none]) rfl ⟨rfl, by decide +kernel, by decide +kernel, by first | decide +kernel | rfl,  True.intro, by decide +kernel⟩ (pi_seq (pv 0)) (fun _ _ _ _ _ => (pg_name (i := 0) (show List.Nodup (["amount"] : List Str) by decide +kernel) rfl (Or.inl rfl))) (fun _ _ _ _ _ => pif_nil) (fun _ _ _ _ _ => (pe_cmpR op_gt (pv 0) pe_int (nomark _)))) pb_nil))))) bd_are_amounts
abbrev s_is_day : Stmt := top 14
abbrev ps_is_day : List Str := ["thing"]
theorem sc_is_day : FnScope ["thing", "prices", "amounts"] ps_is_day (defScope s_is_day) := ⟨rfl, rfl, rfl, by decide +kernel, rfl, by decide +kernel, by decide +kernel⟩
theorem bd_is_day : BdP "is_day" s_is_day ps_is_day :=
  fun _ _ _ _ _ _ us hl => match us, hl with | [_], _ => rfl
theorem fn_is_day (M : Md K mg) (D : Df K mg "is_day" s_is_day) (G_is_tuple : Fn P w K mg base CX0 "is_tuple" 1 ps_is_tuple (sp_is_tuple K)) (G_are_prices : Fn P w K mg base CX0 "are_prices" 3 ps_are_prices (sp_are_prices K)) (G_are_amounts : Fn P w K mg base CX0 "are_amounts" 3 ps_are_amounts (sp_are_amounts K)) : Fn P w K mg base CX0 "is_day" 4 ps_is_day (sp_is_day K) := D.to (fun F =>
  F.ok (k := 3) sc_is_day (fun vs _ _ _ h => sp1_len h) (fun cdv A outer s H vs Q E hr h => by
    have hu := hr.units
    obtain ⟨a0, rfl, h⟩ := h
    refine ⟨tb_is_day K, ?_, rd_is_day h⟩
    refine pss_cons ?_ (pss_cons ?_ (pss_cons ?_ (pss_one ?_)))
    · exact (ps_if (pt_not (pt_tru (fb_fn G_is_tuple (hr.mono (by decide)) (by rfl) pass0 (pb_c (pv 0) (pb_c pe_int (pb_c pe_int pb_nil)))) (fun _ => rfl))) (pss_one (ps_ret pe_bl)) pss_nil)
    · exact (ps_set (i := 1) sc_is_day.nd rfl (Or.inl rfl) (pe_ix ix_seq (pv 0) pe_int (fun _ _ => rfl)))
    · exact (ps_set (i := 2) sc_is_day.nd rfl (Or.inl rfl) (pe_ix ix_seq (pv 0) pe_int (fun _ _ => rfl)))
    · exact (ps_ret (pe_and (fb_fn G_are_prices (hr.mono (by decide)) (by rfl) pass0 (pb_c (pv 1) pb_nil)) (pe_and (fb_fn G_are_amounts (hr.mono (by decide)) (by rfl) pass0 (pb_c (pv 2) pb_nil)) (pe_one (pe_cmpR (op_eqU hu) (fb_cB (call_lenU) (by rfl) M.b_len bt_len (pb_c (pv 1) pb_nil)) (fb_cB (call_lenU) (by rfl) M.b_len bt_len (pb_c (pv 2) pb_nil)) (nomark _)))))))) bd_is_day
abbrev s_is_number : Stmt := top 18
abbrev ps_is_number : List Str := ["word"]
theorem sc_is_number : FnScope ["word"] ps_is_number (defScope s_is_number) := ⟨rfl, rfl, rfl, by decide +kernel, rfl, by decide +kernel, by decide +kernel⟩
theorem bd_is_number : BdP "is_number" s_is_number ps_is_number :=
  fun _ _ _ _ _ _ us hl => match us, hl with | [_], _ => rfl
theorem fn_is_number (M : Md K mg) (D : Df K mg "is_number" s_is_number)  : Fn P w K mg base CX0 "is_number" 1 ps_is_number (sp_is_number K) := D.to (fun F =>
  F.ok (k := 0) sc_is_number (fun vs _ _ _ h => sp1_len h) (fun cdv A outer s H vs Q E hr h => by
    have hu := hr.units
    obtain ⟨a0, rfl, h⟩ := h
    refine ⟨tb_is_number K, ?_, rd_is_number h⟩
    refine pss_cons ?_ (pss_one ?_)
    · exact (ps_if (PW.pt (pw_or (pt_not (pt_chain op_le op_le pe_int (fb_cB (call_lenU) (by rfl) M.b_len bt_len (pb_c (pv 0) pb_nil)) (pe_gint M.c_MOST_FIGURES))) (pw_or1 (pt_not (pt_tru (fb_cB (call_allU rfl) (by rfl) M.b_all bt_all (pb_c (pe_comp (N := ["sign"]) (l := [none]) rfl ⟨rfl, by decide +kernel, by decide +kernel, by first | decide +kernel | rfl,  True.intro, by decide +kernel⟩ (pi_str (pv 0)) (fun _ _ _ _ _ => (pg_name (i := 0) (show List.Nodup (["sign"] : List Str) by decide +kernel) rfl (Or.inl rfl))) (fun _ _ _ _ _ => pif_nil) (fun _ _ _ _ _ => (pe_cmpR op_inS (pv 0) (pe_gstr M.c_FIGURES) (by with_unfolding_all rfl)))) pb_nil)) (fun _ => rfl)))))) (pss_one (ps_ret pe_bl)) pss_nil)
    · exact (ps_ret (pe_or (pe_cmpR (op_eqU hu) (pv 0) pe_str (nomark _)) (pe_one (pe_not (fb_bm1 PySem.F.plainAttrs_str PySem.F.slot_str_startswith PySem.F.type_str_startswith mt_starts (pv 0) (pb_c pe_str pb_nil)))))))) bd_is_number
abbrev s_check_text : Stmt := top 19
abbrev ps_check_text : List Str := ["holds"]
theorem sc_check_text : FnScope ["holds"] ps_check_text (defScope s_check_text) := ⟨rfl, rfl, rfl, by decide +kernel, rfl, by decide +kernel, by decide +kernel⟩
theorem bd_check_text : BdP "check_text" s_check_text ps_check_text :=
  fun _ _ _ _ _ _ us hl => match us, hl with | [_], _ => rfl
theorem fn_check_text (M : Md K mg) (D : Df K mg "check_text" s_check_text)  : Fn P w K mg base CX0 "check_text" 1 ps_check_text (sp_check_text K) := D.to (fun F =>
  F.ok (k := 0) sc_check_text (fun vs _ _ _ h => sp1_len h) (fun cdv A outer s H vs Q E hr h => by
    have hu := hr.units
    obtain ⟨a0, rfl, h⟩ := h
    refine ⟨tb_check_text K, ?_, rd_check_text h⟩
    refine pss_one ?_
    exact (ps_if (pt_not (pt_tru (pv 0) (fun _ => rfl))) (pss_one ps_never) pss_nil))) bd_check_text
abbrev s_read_ware : Stmt := top 20
abbrev ps_read_ware : List Str := ["word"]
theorem sc_read_ware : FnScope ["word", "numbers"] ps_read_ware (defScope s_read_ware) := ⟨rfl, rfl, rfl, by decide +kernel, rfl, by decide +kernel, by decide +kernel⟩
theorem bd_read_ware : BdP "read_ware" s_read_ware ps_read_ware :=
  fun _ _ _ _ _ _ us hl => match us, hl with | [_], _ => rfl
theorem fn_read_ware (M : Md K mg) (D : Df K mg "read_ware" s_read_ware) (G_is_number : Fn P w K mg base CX0 "is_number" 1 ps_is_number (sp_is_number K)) (G_check_text : Fn P w K mg base CX0 "check_text" 1 ps_check_text (sp_check_text K)) : Fn P w K mg base CX0 "read_ware" 2 ps_read_ware (sp_read_ware K) := D.to (fun F =>
  F.ok (k := 1) sc_read_ware (fun vs _ _ _ h => sp1_len h) (fun cdv A outer s H vs Q E hr h => by
    have hu := hr.units
    obtain ⟨a0, rfl, h⟩ := h
    refine ⟨tb_read_ware K, ?_, rd_read_ware h⟩
    refine pss_cons ?_ (pss_cons ?_ (pss_one ?_))
    · exact (ps_set (i := 1) sc_read_ware.nd rfl (Or.inl rfl) (fb_bm1 PySem.F.plainAttrs_str PySem.F.slot_str_split PySem.F.type_str_split mt_split (pv 0) (pb_c pe_str pb_nil)))
    · exact (ps_expr (fb_fn G_check_text (hr.mono (by decide)) (by rfl) pass0 (pb_c (pe_and (pe_cmpR (op_eqU hu) (fb_cB (call_lenU) (by rfl) M.b_len bt_len (pb_c (pv 1) pb_nil)) pe_int (nomark _)) (pe_one (fb_cB (call_allU rfl) (by rfl) M.b_all bt_all (pb_c (pe_comp (N := ["number"]) (l := [none]) rfl ⟨rfl, by decide +kernel, by decide +kernel, by first | decide +kernel | rfl,  True.intro, by decide +kernel⟩ (pi_seq (pv 1)) (fun _ _ _ _ _ => (pg_name (i := 0) (show List.Nodup (["number"] : List Str) by decide +kernel) rfl (Or.inl rfl))) (fun _ _ _ _ _ => pif_nil) (fun _ _ _ _ _ => (fb_fn G_is_number (hr.mono (by decide)) (by rfl) pass0 (pb_c (pv 0) pb_nil)))) pb_nil)))) pb_nil)))
    · exact (ps_ret (fb_tup (pb_c (fb_cTy call_intS (by rfl) M.b_int bt_int (pb_c (pe_ix ix_seq (pv 1) pe_int (fun _ _ => rfl)) pb_nil)) (pb_c (fb_cTy call_intS (by rfl) M.b_int bt_int (pb_c (pe_ix ix_seq (pv 1) pe_int (fun _ _ => rfl)) pb_nil)) pb_nil)))))) bd_read_ware
abbrev s_read_day : Stmt := top 21
abbrev ps_read_day : List Str := ["text"]
theorem sc_read_day : FnScope ["text", "wares", "day"] ps_read_day (defScope s_read_day) := ⟨rfl, rfl, rfl, by decide +kernel, rfl, by decide +kernel, by decide +kernel⟩
theorem bd_read_day : BdP "read_day" s_read_day ps_read_day :=
  fun _ _ _ _ _ _ us hl => match us, hl with | [_], _ => rfl
theorem fn_read_day (M : Md K mg) (D : Df K mg "read_day" s_read_day) (G_is_day : Fn P w K mg base CX0 "is_day" 4 ps_is_day (sp_is_day K)) (G_check_text : Fn P w K mg base CX0 "check_text" 1 ps_check_text (sp_check_text K)) (G_read_ware : Fn P w K mg base CX0 "read_ware" 2 ps_read_ware (sp_read_ware K)) : Fn P w K mg base CX0 "read_day" 5 ps_read_day (sp_read_day K) := D.to (fun F =>
  F.ok (k := 4) sc_read_day (fun vs _ _ _ h => sp1_len h) (fun cdv A outer s H vs Q E hr h => by
    have hu := hr.units
    obtain ⟨a0, rfl, h⟩ := h
    refine ⟨tb_read_day K, ?_, rd_read_day h⟩
    refine pss_cons ?_ (pss_cons ?_ (pss_cons ?_ (pss_one ?_)))
    · exact (ps_setComp (N := ["word"]) (l := [none]) (i := 1) rfl sc_read_day.nd rfl rfl ⟨rfl, by decide +kernel, by decide +kernel, by first | decide +kernel | rfl,  True.intro, by decide +kernel⟩ (pi_seq (fb_bm1 PySem.F.plainAttrs_str PySem.F.slot_str_split PySem.F.type_str_split mt_split (pv 0) (pb_c pe_str pb_nil))) (fun _ _ _ _ _ => (pg_name (i := 0) (show List.Nodup (["word"] : List Str) by decide +kernel) rfl (Or.inl rfl))) (fun _ _ _ _ _ => pif_nil) (fun _ _ _ _ _ => (fb_fn G_read_ware (hr.mono (by decide)) (by rfl) pass0 (pb_c (pv 0) pb_nil))))
    · exact (ps_set (i := 2) sc_read_day.nd rfl (Or.inl rfl) (fb_tup (pb_c (fb_cTy call_ty_tuple (by rfl) M.b_tuple bt_tuple (pb_c (pe_comp (N := ["ware"]) (l := [none]) rfl ⟨rfl, by decide +kernel, by decide +kernel, by first | decide +kernel | rfl,  True.intro, by decide +kernel⟩ (pi_seq (pv 1)) (fun _ _ _ _ _ => (pg_name (i := 0) (show List.Nodup (["ware"] : List Str) by decide +kernel) rfl (Or.inl rfl))) (fun _ _ _ _ _ => pif_nil) (fun _ _ _ _ _ => (pe_ix ix_seq (pv 0) pe_int (fun _ _ => rfl)))) pb_nil)) (pb_c (fb_cTy call_ty_tuple (by rfl) M.b_tuple bt_tuple (pb_c (pe_comp (N := ["ware"]) (l := [none]) rfl ⟨rfl, by decide +kernel, by decide +kernel, by first | decide +kernel | rfl,  True.intro, by decide +kernel⟩ (pi_seq (pv 1)) (fun _ _ _ _ _ => (pg_name (i := 0) (show List.Nodup (["ware"] : List Str) by decide +kernel) rfl (Or.inl rfl))) (fun _ _ _ _ _ => pif_nil) (fun _ _ _ _ _ => (pe_ix ix_seq (pv 0) pe_int (fun _ _ => rfl)))) pb_nil)) pb_nil))))
    · exact (ps_expr (fb_fn G_check_text (hr.mono (by decide)) (by rfl) pass0 (pb_c (fb_fn G_is_day (hr.mono (by decide)) (by rfl) pass0 (pb_c (pv 2) pb_nil)) pb_nil)))
    · exact (ps_ret (pv 2)))) bd_read_day
abbrev s_shown_day : Stmt := top 22
abbrev ps_shown_day : List Str := ["prices", "amounts"]
theorem sc_shown_day : FnScope ["prices", "amounts"] ps_shown_day (defScope s_shown_day) := ⟨rfl, rfl, rfl, by decide +kernel, rfl, by decide +kernel, by decide +kernel⟩
theorem bd_shown_day : BdP "shown_day" s_shown_day ps_shown_day :=
  fun _ _ _ _ _ _ us hl => match us, hl with | [_, _], _ => rfl
theorem fn_shown_day (M : Md K mg) (D : Df K mg "shown_day" s_shown_day)  : Fn P w K mg base CX0 "shown_day" 1 ps_shown_day (sp_shown_day K) := D.to (fun F =>
  F.ok (k := 0) sc_shown_day (fun vs _ _ _ h => sp2_len h) (fun cdv A outer s H vs Q E hr h => by
    have hu := hr.units
    obtain ⟨a0, a1, rfl, h⟩ := h
    refine ⟨tb_shown_day K, ?_, rd_shown_day h⟩
    refine pss_one ?_
    exact (ps_ret (fb_bm1 PySem.F.plainAttrs_str PySem.F.slot_str_join PySem.F.type_str_join mt_join pe_str (pb_c (pe_comp (N := ["price", "amount"]) (l := [none, none]) rfl ⟨rfl, by decide +kernel, by decide +kernel, by first | decide +kernel | rfl,  True.intro, by decide +kernel⟩ (fb_zip2 (by rfl) M.b_zip (pb_c (pv 0) (pb_c (pv 1) pb_nil))) (fun _ _ _ _ _ => (pg_tup rfl (pgs_cons (pg_name (i := 0) (show List.Nodup (["price", "amount"] : List Str) by decide +kernel) rfl (Or.inl rfl)) (pgs_cons (pg_name (i := 1) (show List.Nodup (["price", "amount"] : List Str) by decide +kernel) rfl (Or.inl rfl)) pgs_nil)))) (fun _ _ _ _ _ => pif_nil) (fun _ _ _ _ _ => (pe_fs3 (pe_fv (pv 1)) pe_str (pe_fv (pv 0))))) pb_nil))))) bd_shown_day
abbrev s_shown_share : Stmt := top 23
abbrev ps_shown_share : List Str := ["share"]
theorem sc_shown_share : FnScope ["share", "top", "bottom"] ps_shown_share (defScope s_shown_share) := ⟨rfl, rfl, rfl, by decide +kernel, rfl, by decide +kernel, by decide +kernel⟩
theorem bd_shown_share : BdP "shown_share" s_shown_share ps_shown_share :=
  fun _ _ _ _ _ _ us hl => match us, hl with | [_], _ => rfl
theorem fn_shown_share (M : Md K mg) (D : Df K mg "shown_share" s_shown_share)  : Fn P w K mg base CX0 "shown_share" 1 ps_shown_share (sp_shown_share K) := D.to (fun F =>
  F.ok (k := 0) sc_shown_share (fun vs _ _ _ h => sp1_len h) (fun cdv A outer s H vs Q E hr h => by
    have hu := hr.units
    obtain ⟨a0, rfl, h⟩ := h
    refine ⟨tb_shown_share K, ?_, rd_shown_share h⟩
    refine pss_cons ?_ (pss_cons ?_ (pss_one ?_))
    · exact (ps_set (i := 1) sc_shown_share.nd rfl (Or.inl rfl) (pe_ix ix_seq (pv 0) pe_int (fun _ _ => rfl)))
    · exact (ps_set (i := 2) sc_shown_share.nd rfl (Or.inl rfl) (pe_ix ix_seq (pv 0) pe_int (fun _ _ => rfl)))
    · exact (ps_ret (pe_fs3 (pe_fv (pv 1)) pe_str (pe_fv (pv 2)))))) bd_shown_share
abbrev s__law_cell : Stmt := top 25
abbrev ps__law_cell : List Str := ["_law_script", "_law_k"]
theorem sc__law_cell : FnScope ["_law_script", "_law_k", "_law_number"] ps__law_cell (defScope s__law_cell) := ⟨rfl, rfl, rfl, by decide +kernel, rfl, by decide +kernel, by decide +kernel⟩
theorem bd__law_cell : BdP "_law_cell" s__law_cell ps__law_cell :=
  fun _ _ _ _ _ _ us hl => match us, hl with | [_, _], _ => rfl
theorem fn__law_cell (M : Md K mg) (D : Df K mg "_law_cell" s__law_cell)  : Fn P w K mg base CX0 "_law_cell" 1 ps__law_cell (sp__law_cell K) := D.to (fun F =>
  F.ok (k := 0) sc__law_cell (fun vs _ _ _ h => sp2_len h) (fun cdv A outer s H vs Q E hr h => by
    have hu := hr.units
    obtain ⟨a0, a1, rfl, h⟩ := h
    refine ⟨tb__law_cell K, ?_, rd__law_cell h⟩
    refine pss_cons ?_ (pss_cons ?_ (pss_cons ?_ (pss_one ?_)))
    · exact (ps_if (pt_cmpR op_lt (pv 1) (fb_cB (call_lenU) (by rfl) M.b_len bt_len (pb_c (pv 0) pb_nil)) (nomark _)) (pss_one (ps_ret (pe_op op_modU (pe_op op_mulU (pe_op op_addU (pe_ix ix_seq (pv 0) (pv 1) (fun _ _ => rfl)) pe_int) pe_int) (pe_powC (by decide +kernel) (by decide) (by decide) (by decide))))) pss_nil)
    · exact (ps_set (i := 2) sc__law_cell.nd rfl (Or.inl rfl) (pe_op op_addU (pe_op op_mulU (pe_op op_mulU (pv 1) (pv 1)) pe_int) pe_int))
    · exact (ps_if (pt_cmpR op_gt (fb_cB (call_lenU) (by rfl) M.b_len bt_len (pb_c (pv 0) pb_nil)) pe_int (nomark _)) (pss_one (ps_set (i := 2) sc__law_cell.nd rfl (Or.inl rfl) (pe_op op_addU (pv 2) (pe_op op_mulU (pe_op op_modU (pe_ix ix_seq (pv 0) (pe_op op_modU (pe_op op_mulU (pv 1) pe_int) (fb_cB (call_lenU) (by rfl) M.b_len bt_len (pb_c (pv 0) pb_nil))) (fun _ _ => rfl)) (pe_powC (by decide +kernel) (by decide) (by decide) (by decide))) pe_int)))) pss_nil)
    · exact (ps_ret (pe_op op_modU (pe_op op_mulU (pe_op op_modU (pe_op op_mulU (pv 2) (pv 2)) pe_int) pe_int) (pe_powC (by decide +kernel) (by decide) (by decide) (by decide)))))) bd__law_cell
abbrev s__law_int : Stmt := top 26
abbrev ps__law_int : List Str := ["_law_found"]
theorem sc__law_int : FnScope ["_law_found"] ps__law_int (defScope s__law_int) := ⟨rfl, rfl, rfl, by decide +kernel, rfl, by decide +kernel, by decide +kernel⟩
theorem bd__law_int : BdP "_law_int" s__law_int ps__law_int :=
  fun _ _ _ _ _ _ us hl => match us, hl with | [_], _ => rfl
theorem fn__law_int (M : Md K mg) (D : Df K mg "_law_int" s__law_int)  : Fn P w K mg base CX0 "_law_int" 1 ps__law_int (sp__law_int K) := D.to (fun F =>
  F.ok (k := 0) sc__law_int (fun vs _ _ _ h => sp1_len h) (fun cdv A outer s H vs Q E hr h => by
    have hu := hr.units
    obtain ⟨a0, rfl, h⟩ := h
    refine ⟨tb__law_int K, ?_, rd__law_int h⟩
    refine pss_one ?_
    exact (ps_ret (pe_and (fb_cB call_isinst (by rfl) M.b_isinstance bt_isinstance (pb_c (pv 0) (pb_c (pe_gty M.b_int bt_int) pb_nil))) (pe_one (pe_not (fb_cB call_isinst (by rfl) M.b_isinstance bt_isinstance (pb_c (pv 0) (pb_c (pe_gty M.b_bool bt_bool) pb_nil))))))))) bd__law_int
abbrev s__law_next : Stmt := top 27
abbrev ps__law_next : List Str := ["_law_cell_here"]
theorem sc__law_next : FnScope ["_law_cell_here"] ps__law_next (defScope s__law_next) := ⟨rfl, rfl, rfl, by decide +kernel, rfl, by decide +kernel, by decide +kernel⟩
theorem bd__law_next : BdP "_law_next" s__law_next ps__law_next :=
  fun _ _ _ _ _ _ us hl => match us, hl with | [_], _ => rfl
theorem fn__law_next (M : Md K mg) (D : Df K mg "_law_next" s__law_next)  : Fn P w K mg base CX0 "_law_next" 1 ps__law_next (sp__law_next K) := D.to (fun F =>
  F.ok (k := 0) sc__law_next (fun vs _ _ _ h => sp1_len h) (fun cdv A outer s H vs Q E hr h => by
    have hu := hr.units
    obtain ⟨a0, rfl, h⟩ := h
    refine ⟨tb__law_next K, ?_, rd__law_next h⟩
    refine pss_one ?_
    exact (ps_ret (pe_op op_modU (pe_op op_addU (pe_op op_mulU (pv 0) pe_int) pe_int) (pe_powC (by decide +kernel) (by decide) (by decide) (by decide)))))) bd__law_next
abbrev s__law_drawn : Stmt := top 28
abbrev ps__law_drawn : List Str := ["_law_cell_here"]
theorem sc__law_drawn : FnScope ["_law_cell_here", "_law_prices", "_law_amounts", "_law_k", "_law_high"] ps__law_drawn (defScope s__law_drawn) := ⟨rfl, rfl, rfl, by decide +kernel, rfl, by decide +kernel, by decide +kernel⟩
theorem bd__law_drawn : BdP "_law_drawn" s__law_drawn ps__law_drawn :=
  fun _ _ _ _ _ _ us hl => match us, hl with | [_], _ => rfl
theorem fn__law_drawn (M : Md K mg) (D : Df K mg "_law_drawn" s__law_drawn) (G__law_next : Fn P w K mg base CX0 "_law_next" 1 ps__law_next (sp__law_next K)) : Fn P w K mg base CX0 "_law_drawn" 2 ps__law_drawn (sp__law_drawn K) := D.to (fun F =>
  F.ok (k := 1) sc__law_drawn (fun vs _ _ _ h => sp1_len h) (fun cdv A outer s H vs Q E hr h => by
    have hu := hr.units
    obtain ⟨a0, rfl, h⟩ := h
    refine ⟨tb__law_drawn K, ?_, rd__law_drawn h⟩
    refine pss_cons ?_ (pss_cons ?_ (pss_cons ?_ (pss_cons ?_ (pss_one ?_))))
    · exact (ps_set (i := 1) sc__law_drawn.nd rfl (Or.inl rfl) (fb_lst pb_nil))
    · exact (ps_set (i := 2) sc__law_drawn.nd rfl (Or.inl rfl) (fb_lst pb_nil))
    · exact (ps_for PassesOwn.never rfl (fb_range1 (by rfl) M.b_range (pb_c (pe_op op_addU pe_int (pe_op op_modU (pv 0) pe_int)) pb_nil)) (pg_name (i := 3) sc__law_drawn.nd rfl (Or.inl rfl)) (pss_cons (ps_set (i := 0) sc__law_drawn.nd rfl (Or.inl rfl) (fb_fn G__law_next (hr.mono (by decide)) (by rfl) pass0 (pb_c (pv 0) pb_nil)))
      (pss_cons (ps_set (i := 4) sc__law_drawn.nd rfl (Or.inl rfl) (pe_op op_divU (pv 0) (pe_powC (by decide +kernel) (by decide) (by decide) (by decide))))
      (pss_cons (ps_expr (fb_bm1 PySem.F.plainAttrs_list PySem.F.slot_list_append PySem.F.type_list_append mt_append (pv 1) (pb_c (pe_ix ix_seq (fb_lst (pb_c pe_int (pb_c (pe_powC (by decide +kernel) (by decide) (by decide) (by decide)) (pb_c (pe_op op_addU pe_int (pe_op op_modU (pv 4) (pe_powC (by decide +kernel) (by decide) (by decide) (by decide)))) (pb_c (pe_op op_addU pe_int (pe_op op_modU (pv 4) pe_int)) pb_nil))))) (pe_op op_modU (pe_op op_divU (pv 0) (pe_powC (by decide +kernel) (by decide) (by decide) (by decide))) pe_int) (fun _ _ => rfl)) pb_nil)))
      (pss_one (ps_expr (fb_bm1 PySem.F.plainAttrs_list PySem.F.slot_list_append PySem.F.type_list_append mt_append (pv 2) (pb_c (pe_ix ix_seq (fb_lst (pb_c pe_int (pb_c (pe_powC (by decide +kernel) (by decide) (by decide) (by decide)) (pb_c (pe_op op_modU (pv 4) (pe_op op_addU (pe_powC (by decide +kernel) (by decide) (by decide) (by decide)) pe_int)) (pb_c (pe_op op_modU (pv 4) pe_int) pb_nil))))) (pe_op op_modU (pe_op op_divU (pv 0) (pe_powC (by decide +kernel) (by decide) (by decide) (by decide))) pe_int) (fun _ _ => rfl)) pb_nil))))))))
    · exact (ps_if (pt_cmpR (op_eqU hu) (fb_cB (call_sumU rfl) (by rfl) M.b_sum bt_sum (pb_c (pv 2) pb_nil)) pe_int (nomark _)) (pss_one (ps_asg pe_int (pg_sub (pv 2) (pe_op op_modU (pe_op op_divU (pv 0) (pe_powC (by decide +kernel) (by decide) (by decide) (by decide))) (fb_cB (call_lenU) (by rfl) M.b_len bt_len (pb_c (pv 2) pb_nil))) set_list))) pss_nil)
    · exact (ps_ret (fb_tup (pb_c (fb_cTy call_ty_tuple (by rfl) M.b_tuple bt_tuple (pb_c (pv 1) pb_nil)) (pb_c (fb_cTy call_ty_tuple (by rfl) M.b_tuple bt_tuple (pb_c (pv 2) pb_nil)) pb_nil)))))) bd__law_drawn
abbrev s__law_alike : Stmt := top 29
abbrev ps__law_alike : List Str := ["_law_found", "_law_due"]
theorem sc__law_alike : FnScope ["_law_found", "_law_due", "_law_part"] ps__law_alike (defScope s__law_alike) := ⟨rfl, rfl, rfl, by decide +kernel, rfl, by decide +kernel, by decide +kernel⟩
theorem bd__law_alike : BdP "_law_alike" s__law_alike ps__law_alike :=
  fun _ _ _ _ _ _ us hl => match us, hl with | [_, _], _ => rfl
theorem fn__law_alike (M : Md K mg) (D : Df K mg "_law_alike" s__law_alike) (G__law_int : Fn P w K mg base CX0 "_law_int" 1 ps__law_int (sp__law_int K)) : Fn P w K mg base CX0 "_law_alike" 2 ps__law_alike (sp__law_alike K) := D.to (fun F =>
  F.ok (k := 1) sc__law_alike (fun vs _ _ _ h => sp2_len h) (fun cdv A outer s H vs Q E hr h => by
    have hu := hr.units
    obtain ⟨a0, a1, rfl, h⟩ := h
    refine ⟨tb__law_alike K, ?_, rd__law_alike h⟩
    refine pss_cons ?_ (pss_cons ?_ (pss_one ?_))
    · exact (ps_if (PW.pt (pw_or (pt_not (pt_tru (fb_cB call_isinst (by rfl) M.b_isinstance bt_isinstance (pb_c (pv 0) (pb_c (pe_gty M.b_tuple bt_tuple) pb_nil))) (fun _ => rfl))) (pw_or (pt_cmpR (op_neU hu) (fb_cB (call_lenU) (by rfl) M.b_len bt_len (pb_c (pv 0) pb_nil)) pe_int (nomark _)) (pw_or1 (pt_cmpR (op_neU hu) (pv 0) (pv 1) (nomark _)))))) (pss_one (ps_ret pe_bl)) pss_nil)
    · exact (ps_for PassesOwn.never rfl (pi_seq (pv 0)) (pg_name (i := 2) sc__law_alike.nd rfl (Or.inl rfl)) (pss_one (ps_if (PW.pt (pw_or (pt_not (pt_tru (fb_cB call_isinst (by rfl) M.b_isinstance bt_isinstance (pb_c (pv 2) (pb_c (pe_gty M.b_tuple bt_tuple) pb_nil))) (fun _ => rfl))) (pw_or1 (pt_cmpR (op_neU hu) (fb_cB (call_lenU) (by rfl) M.b_len bt_len (pb_c (pe_comp (N := ["_law_one"]) (l := [none]) rfl ⟨rfl, by decide +kernel, by decide +kernel, by first | decide +kernel | rfl,  True.intro, by decide +kernel⟩ (pi_seq (pv 2)) (fun _ _ _ _ _ => (pg_name (i := 0) (show List.Nodup (["_law_one"] : List Str) by decide +kernel) rfl (Or.inl rfl))) (fun _ _ _ _ _ => (pif_one (pt_tru (fb_fn G__law_int (hr.mono (by decide)) (by rfl) pass0 (pb_c (pv 0) pb_nil)) (fun _ => rfl)))) (fun _ _ _ _ _ => (pv 0))) pb_nil)) (fb_cB (call_lenU) (by rfl) M.b_len bt_len (pb_c (pv 2) pb_nil)) (nomark _))))) (pss_one (ps_ret pe_bl)) pss_nil)))
    · exact (ps_ret pe_bl))) bd__law_alike
abbrev s__law_lowest : Stmt := top 30
abbrev ps__law_lowest : List Str := ["_law_top", "_law_bottom"]
theorem sc__law_lowest : FnScope ["_law_top", "_law_bottom", "_law_one", "_law_other"] ps__law_lowest (defScope s__law_lowest) := ⟨rfl, rfl, rfl, by decide +kernel, rfl, by decide +kernel, by decide +kernel⟩
theorem bd__law_lowest : BdP "_law_lowest" s__law_lowest ps__law_lowest :=
  fun _ _ _ _ _ _ us hl => match us, hl with | [_, _], _ => rfl
theorem fn__law_lowest (M : Md K mg) (D : Df K mg "_law_lowest" s__law_lowest)  : Fn P w K mg base CX0 "_law_lowest" 1 ps__law_lowest (sp__law_lowest K) := D.to (fun F =>
  F.ok (k := 0) sc__law_lowest (fun vs _ _ _ h => sp2_len h) (fun cdv A outer s H vs Q E hr h => by
    have hu := hr.units
    obtain ⟨a0, a1, rfl, h⟩ := h
    refine ⟨tb__law_lowest K, ?_, rd__law_lowest h⟩
    refine pss_cons ?_ (pss_cons ?_ (pss_cons ?_ (pss_one ?_)))
    · exact (ps_set (i := 2) sc__law_lowest.nd rfl (Or.inl rfl) (pv 0))
    · exact (ps_set (i := 3) sc__law_lowest.nd rfl (Or.inl rfl) (pv 1))
    · exact (ps_while PassesOwn.never (pt_cmpR op_gt (pv 3) pe_int (nomark _)) (pss_one (ps_par (i := 2) (j := 3) rfl sc__law_lowest.nd rfl rfl (by decide) rfl rfl (pa_c (pv 3) (pa_c (pe_op op_modU (pv 2) (pv 3)) pa_nil)) rfl)))
    · exact (ps_ret (fb_tup (pb_c (pe_op op_divU (pv 0) (pv 2)) (pb_c (pe_op op_divU (pv 1) (pv 2)) pb_nil)))))) bd__law_lowest
abbrev s_law : Stmt := top 31
abbrev ps_law : List Str := ["_law_script"]
theorem sc_law : FnScope ["_law_script", "_law_k", "_law_cell_here", "_law_day", "_law_words", "_law_found", "_law_again", "_law_share"] ps_law (defScope s_law) := ⟨rfl, rfl, rfl, by decide +kernel, rfl, by decide +kernel, by decide +kernel⟩
theorem fok_law (M : Md K mg) {f : Addr} {fd : FuncData} (F : Fun K "law" "law" s_law f fd) (G_read_day : Fn P w K mg base CX0 "read_day" 5 ps_read_day (sp_read_day K)) (G_shown_day : Fn P w K mg base CX0 "shown_day" 1 ps_shown_day (sp_shown_day K)) (G_shown_share : Fn P w K mg base CX0 "shown_share" 1 ps_shown_share (sp_shown_share K)) (G__law_cell : Fn P w K mg base CX0 "_law_cell" 1 ps__law_cell (sp__law_cell K)) (G__law_drawn : Fn P w K mg base CX0 "_law_drawn" 2 ps__law_drawn (sp__law_drawn K)) (G__law_alike : Fn P w K mg base CX0 "_law_alike" 2 ps__law_alike (sp__law_alike K)) (G__law_lowest : Fn P w K mg base CX0 "_law_lowest" 1 ps__law_lowest (sp__law_lowest K)) : FnOk P w K mg base CX0 6 f fd ps_law (sp_law K) :=
  F.ok (k := 5) sc_law (fun vs _ _ _ h => sp1_len h) (fun cdv A outer s H vs Q E hr h => by
    have hu := hr.units
    obtain ⟨a0, rfl, h⟩ := h
    refine ⟨tb_law K, ?_, rd_law h⟩
    refine pss_cons ?_ (pss_one ?_)
    · exact (ps_for PassesOwn.never rfl (fb_range1 (by rfl) M.b_range (pb_c (fb_cB (call_max2 rfl) (by rfl) M.b_max bt_max (pb_c pe_int (pb_c (fb_cB (call_min2 rfl) (by rfl) M.b_min bt_min (pb_c pe_int (pb_c (fb_cB (call_lenU) (by rfl) M.b_len bt_len (pb_c (pv 0) pb_nil)) pb_nil))) pb_nil))) pb_nil)) (pg_name (i := 1) sc_law.nd rfl (Or.inl rfl)) (pss_cons (ps_set (i := 2) sc_law.nd rfl (Or.inl rfl) (fb_fn G__law_cell (hr.mono (by decide)) (by rfl) pass0 (pb_c (pv 0) (pb_c (pv 1) pb_nil))))
      (pss_cons (ps_set (i := 3) sc_law.nd rfl (Or.inl rfl) (fb_fn G__law_drawn (hr.mono (by decide)) (by rfl) pass0 (pb_c (pv 2) pb_nil)))
      (pss_cons (ps_setComp (N := ["_law_price", "_law_amount"]) (l := [none, none]) (i := 4) rfl sc_law.nd rfl rfl ⟨rfl, by decide +kernel, by decide +kernel, by first | decide +kernel | rfl,  True.intro, by decide +kernel⟩ (fb_zip2 (by rfl) M.b_zip (pb_c (pe_ix ix_seq (pv 3) pe_int (fun _ _ => rfl)) (pb_c (pe_ix ix_seq (pv 3) pe_int (fun _ _ => rfl)) pb_nil))) (fun _ _ _ _ _ => (pg_tup rfl (pgs_cons (pg_name (i := 0) (show List.Nodup (["_law_price", "_law_amount"] : List Str) by decide +kernel) rfl (Or.inl rfl)) (pgs_cons (pg_name (i := 1) (show List.Nodup (["_law_price", "_law_amount"] : List Str) by decide +kernel) rfl (Or.inl rfl)) pgs_nil)))) (fun _ _ _ _ _ => pif_nil) (fun _ _ _ _ _ => (pe_op op_addS (pe_op op_addS (fb_cTy call_strI (by rfl) M.b_str bt_str (pb_c (pv 1) pb_nil)) pe_str) (fb_cTy call_strI (by rfl) M.b_str bt_str (pb_c (pv 0) pb_nil)))))
      (pss_cons (ps_set (i := 5) sc_law.nd rfl (Or.inl rfl) (fb_fn G_shown_day (hr.mono (by decide)) (by rfl) pass0 (pb_c (pe_ix ix_seq (pv 3) pe_int (fun _ _ => rfl)) (pb_c (pe_ix ix_seq (pv 3) pe_int (fun _ _ => rfl)) pb_nil))))
      (pss_cons (ps_if (PW.pt (pw_or (pt_not (pt_tru (fb_cB call_isinst (by rfl) M.b_isinstance bt_isinstance (pb_c (pv 5) (pb_c (pe_gty M.b_str bt_str) pb_nil))) (fun _ => rfl))) (pw_or1 (pt_cmpR (op_neU hu) (pv 5) (fb_bm1 PySem.F.plainAttrs_str PySem.F.slot_str_join PySem.F.type_str_join mt_join pe_str (pb_c (pv 4) pb_nil)) (nomark _))))) (pss_one (ps_ret pe_bl)) pss_nil)
      (pss_cons (ps_set (i := 6) sc_law.nd rfl (Or.inl rfl) (fb_fn G_read_day (hr.mono (by decide)) (by rfl) pass0 (pb_c (pv 5) pb_nil)))
      (pss_cons (ps_if (PW.pt (pw_or (pt_not (pt_tru (fb_fn G__law_alike (hr.mono (by decide)) (by rfl) pass0 (pb_c (pv 6) (pb_c (pv 3) pb_nil))) (fun _ => rfl))) (pw_or1 (pt_cmpR (op_neU hu) (fb_fn G_shown_day (hr.mono (by decide)) (by rfl) pass0 (pb_c (pe_ix ix_seq (pv 6) pe_int (fun _ _ => rfl)) (pb_c (pe_ix ix_seq (pv 6) pe_int (fun _ _ => rfl)) pb_nil))) (pv 5) (nomark _))))) (pss_one (ps_ret pe_bl)) pss_nil)
      (pss_cons (ps_set (i := 7) sc_law.nd rfl (Or.inl rfl) (fb_fn G__law_lowest (hr.mono (by decide)) (by rfl) pass0 (pb_c (pe_op op_addU pe_int (pe_op op_modU (pv 2) (pe_powC (by decide +kernel) (by decide) (by decide) (by decide)))) (pb_c (pe_op op_addU pe_int (pe_op op_modU (pe_op op_divU (pv 2) (pe_powC (by decide +kernel) (by decide) (by decide) (by decide))) (pe_powC (by decide +kernel) (by decide) (by decide) (by decide)))) pb_nil))))
      (pss_cons (ps_set (i := 5) sc_law.nd rfl (Or.inl rfl) (fb_fn G_shown_share (hr.mono (by decide)) (by rfl) pass0 (pb_c (pv 7) pb_nil)))
      (pss_one (ps_if (PW.pt (pw_or (pt_not (pt_tru (fb_cB call_isinst (by rfl) M.b_isinstance bt_isinstance (pb_c (pv 5) (pb_c (pe_gty M.b_str bt_str) pb_nil))) (fun _ => rfl))) (pw_or1 (pt_cmpR (op_neU hu) (pv 5) (pe_op op_addS (pe_op op_addS (fb_cTy call_strI (by rfl) M.b_str bt_str (pb_c (pe_ix ix_seq (pv 7) pe_int (fun _ _ => rfl)) pb_nil)) pe_str) (fb_cTy call_strI (by rfl) M.b_str bt_str (pb_c (pe_ix ix_seq (pv 7) pe_int (fun _ _ => rfl)) pb_nil))) (nomark _))))) (pss_one (ps_ret pe_bl)) pss_nil))))))))))))
    · exact (ps_ret pe_bl))
theorem bd_law : BdP "law" s_law ps_law :=
  fun _ _ _ _ _ _ us hl => match us, hl with | [_], _ => rfl
end
end K83
open K83
open PySem.Challenge renaming pw_tastesbook_k83_days_as_texts → PW9
/-! no twins of the opening's big constants: these names are taken (the compiled file would be above 64 MiB) -/
def PySem.W.Fast.tw11778193495571379910 : Unit := ()
def PySem.W.Fast.tw14854115759237203537 : Unit := ()
def PySem.W.Fast.tw2921008693194178059 : Unit := ()
def PySem.W.Fast.tw9629277948517015873 : Unit := ()
def PySem.W.Fast.tw2977499310842684800 : Unit := ()
open PySem PySem.W PyProof.Rows L2
set_option maxRecDepth 100000 in
set_option maxHeartbeats 0 in
theorem PySem.Challenge.cw_tastesbook_k83_days_as_texts_holds : PySem.Challenge.rw_tastesbook_k83_days_as_texts.Holds := by
  w_on; o_law; k_head; (case hw => w_witness2)
  k_fill
  refine L2.walk_fn (l := PySem.Challenge.rw_tastesbook_k83_days_as_texts) (x := "_law_script") 6 rfl rfl (by decide) (fun w h Y => PySem.W.kIn_of Y) ?F
  case F =>
    intro w mg h KX G
    have D_is_int : Df (KOf KX) mg "is_int" s_is_int := by dsimp only [KOf]; refine' df_mk KX G ?a ?l ?c ?k; case a|l|c|k => k_is
    have D_is_tuple : Df (KOf KX) mg "is_tuple" s_is_tuple := by dsimp only [KOf]; refine' df_mk KX G ?a ?l ?c ?k; case a|l|c|k => k_is
    have D_is_price : Df (KOf KX) mg "is_price" s_is_price := by dsimp only [KOf]; refine' df_mk KX G ?a ?l ?c ?k; case a|l|c|k => k_is
    have D_is_amount : Df (KOf KX) mg "is_amount" s_is_amount := by dsimp only [KOf]; refine' df_mk KX G ?a ?l ?c ?k; case a|l|c|k => k_is
    have D_are_prices : Df (KOf KX) mg "are_prices" s_are_prices := by dsimp only [KOf]; refine' df_mk KX G ?a ?l ?c ?k; case a|l|c|k => k_is
    have D_are_amounts : Df (KOf KX) mg "are_amounts" s_are_amounts := by dsimp only [KOf]; refine' df_mk KX G ?a ?l ?c ?k; case a|l|c|k => k_is
    have D_is_day : Df (KOf KX) mg "is_day" s_is_day := by dsimp only [KOf]; refine' df_mk KX G ?a ?l ?c ?k; case a|l|c|k => k_is
    have D_is_number : Df (KOf KX) mg "is_number" s_is_number := by dsimp only [KOf]; refine' df_mk KX G ?a ?l ?c ?k; case a|l|c|k => k_is
    have D_check_text : Df (KOf KX) mg "check_text" s_check_text := by dsimp only [KOf]; refine' df_mk KX G ?a ?l ?c ?k; case a|l|c|k => k_is
    have D_read_ware : Df (KOf KX) mg "read_ware" s_read_ware := by dsimp only [KOf]; refine' df_mk KX G ?a ?l ?c ?k; case a|l|c|k => k_is
    have D_read_day : Df (KOf KX) mg "read_day" s_read_day := by dsimp only [KOf]; refine' df_mk KX G ?a ?l ?c ?k; case a|l|c|k => k_is
    have D_shown_day : Df (KOf KX) mg "shown_day" s_shown_day := by dsimp only [KOf]; refine' df_mk KX G ?a ?l ?c ?k; case a|l|c|k => k_is
    have D_shown_share : Df (KOf KX) mg "shown_share" s_shown_share := by dsimp only [KOf]; refine' df_mk KX G ?a ?l ?c ?k; case a|l|c|k => k_is
    have D__law_cell : Df (KOf KX) mg "_law_cell" s__law_cell := by dsimp only [KOf]; refine' df_mk KX G ?a ?l ?c ?k; case a|l|c|k => k_is
    have D__law_int : Df (KOf KX) mg "_law_int" s__law_int := by dsimp only [KOf]; refine' df_mk KX G ?a ?l ?c ?k; case a|l|c|k => k_is
    have D__law_next : Df (KOf KX) mg "_law_next" s__law_next := by dsimp only [KOf]; refine' df_mk KX G ?a ?l ?c ?k; case a|l|c|k => k_is
    have D__law_drawn : Df (KOf KX) mg "_law_drawn" s__law_drawn := by dsimp only [KOf]; refine' df_mk KX G ?a ?l ?c ?k; case a|l|c|k => k_is
    have D__law_alike : Df (KOf KX) mg "_law_alike" s__law_alike := by dsimp only [KOf]; refine' df_mk KX G ?a ?l ?c ?k; case a|l|c|k => k_is
    have D__law_lowest : Df (KOf KX) mg "_law_lowest" s__law_lowest := by dsimp only [KOf]; refine' df_mk KX G ?a ?l ?c ?k; case a|l|c|k => k_is
    have D_law : Df (KOf KX) mg "law" s_law := by dsimp only [KOf]; refine' df_mk KX G ?a ?l ?c ?k; case a|l|c|k => k_is
    have C_FIGURES : ∃ t, mg "FIGURES" = some (.str "0123456789" t) := by
      constructor
      refine' PySem.W.mg_of KX G ?y_FIGURES
      k_is
    have C_HIGHEST_AMOUNT : ∃ t, mg "HIGHEST_AMOUNT" = some (.int 1000000000000000000 t) := by
      constructor
      refine' PySem.W.mg_of KX G ?y_HIGHEST_AMOUNT
      k_is
    have C_HIGHEST_PRICE : ∃ t, mg "HIGHEST_PRICE" = some (.int 1000000000 t) := by
      constructor
      refine' PySem.W.mg_of KX G ?y_HIGHEST_PRICE
      k_is
    have C_MOST_FIGURES : ∃ t, mg "MOST_FIGURES" = some (.int 19 t) := by
      constructor
      refine' PySem.W.mg_of KX G ?y_MOST_FIGURES
      k_is
    have C_MOST_WARES : ∃ t, mg "MOST_WARES" = some (.int 6 t) := by
      constructor
      refine' PySem.W.mg_of KX G ?y_MOST_WARES
      k_is
    have M : Md (KOf KX) mg := by
      dsimp only [KOf]
      refine' ⟨PySem.W.mg_none_of KX G ?z_all, PySem.W.mg_none_of KX G ?z_any, PySem.W.mg_none_of KX G ?z_bool, PySem.W.mg_none_of KX G ?z_int, PySem.W.mg_none_of KX G ?z_isinstance, PySem.W.mg_none_of KX G ?z_len, PySem.W.mg_none_of KX G ?z_max, PySem.W.mg_none_of KX G ?z_min, PySem.W.mg_none_of KX G ?z_range, PySem.W.mg_none_of KX G ?z_str, PySem.W.mg_none_of KX G ?z_sum, PySem.W.mg_none_of KX G ?z_tuple, PySem.W.mg_none_of KX G ?z_zip, C_FIGURES, C_HIGHEST_AMOUNT, C_HIGHEST_PRICE, C_MOST_FIGURES, C_MOST_WARES⟩
      (case z_all => k_is); (case z_any => k_is); (case z_bool => k_is); (case z_int => k_is); (case z_isinstance => k_is); (case z_len => k_is); (case z_max => k_is); (case z_min => k_is); (case z_range => k_is); (case z_str => k_is); (case z_sum => k_is); (case z_tuple => k_is); (case z_zip => k_is)
    obtain ⟨f, fd, F, hm⟩ := D_law
    refine ⟨f, fd, hm, F.bind1 bd_law, fun base kb nb => ?_⟩
    · have G_is_int := fn_is_int (P := PW9) (w := w) (base := base) M D_is_int 
      have G_is_tuple := fn_is_tuple (P := PW9) (w := w) (base := base) M D_is_tuple 
      have G_is_price := fn_is_price (P := PW9) (w := w) (base := base) M D_is_price G_is_int
      have G_is_amount := fn_is_amount (P := PW9) (w := w) (base := base) M D_is_amount G_is_int
      have G_are_prices := fn_are_prices (P := PW9) (w := w) (base := base) M D_are_prices G_is_tuple G_is_price
      have G_are_amounts := fn_are_amounts (P := PW9) (w := w) (base := base) M D_are_amounts G_is_tuple G_is_amount
      have G_is_day := fn_is_day (P := PW9) (w := w) (base := base) M D_is_day G_is_tuple G_are_prices G_are_amounts
      have G_is_number := fn_is_number (P := PW9) (w := w) (base := base) M D_is_number 
      have G_check_text := fn_check_text (P := PW9) (w := w) (base := base) M D_check_text 
      have G_read_ware := fn_read_ware (P := PW9) (w := w) (base := base) M D_read_ware G_is_number G_check_text
      have G_read_day := fn_read_day (P := PW9) (w := w) (base := base) M D_read_day G_is_day G_check_text G_read_ware
      have G_shown_day := fn_shown_day (P := PW9) (w := w) (base := base) M D_shown_day 
      have G_shown_share := fn_shown_share (P := PW9) (w := w) (base := base) M D_shown_share 
      have G__law_cell := fn__law_cell (P := PW9) (w := w) (base := base) M D__law_cell 
      have G__law_int := fn__law_int (P := PW9) (w := w) (base := base) M D__law_int 
      have G__law_next := fn__law_next (P := PW9) (w := w) (base := base) M D__law_next 
      have G__law_drawn := fn__law_drawn (P := PW9) (w := w) (base := base) M D__law_drawn G__law_next
      have G__law_alike := fn__law_alike (P := PW9) (w := w) (base := base) M D__law_alike G__law_int
      have G__law_lowest := fn__law_lowest (P := PW9) (w := w) (base := base) M D__law_lowest
      exact fok_law M F G_read_day G_shown_day G_shown_share G__law_cell G__law_drawn G__law_alike G__law_lowest
