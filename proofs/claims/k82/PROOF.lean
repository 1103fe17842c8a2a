import PyProof.Rows.All
import Wide.All
import OpenK.AllK
import Wide.FinOn
import Lean
import PyProof.EqAt
import PyProof.EqKinds
import PyProof.TupleCall
import KE.KRevIter
import PyProof.EnumMake
import KE.KDictSum
import PyProof.Rows.SortWalk
import PyProof.Rows.SeqMore
import PyProof.Draws
import PyProof.StrBlockH
import PyProof.StrLawsTight
import PyProof.FitsReplace
import PyProof.StrReplace2
import KE.KIntText
import PyProof.Rows.FStr
import PyProof.StrBlock2
import PyProof.DictWalks
import KE.KDictList
import KE.KFind
import PyProof.DictValues
import PyProof.TupleOfGen
import OpenK.KMore
import PyProof.Rows.TupIter
import PySem.Challenge.RW_tastesbook_k82_ledger_refuses
set_option Elab.async false
set_option linter.all false
set_option maxRecDepth 100000
namespace L2
open PySem PySem.Spec PyProof.Rows
abbrev Key := Sum Int Str
def keyIs : Key → Value → Bool
  | .inl k, v => Value.isInt k v
  | .inr x, v => Value.isStrOf x v
def keyH (w : World) : Key → Int
  | .inl k => hashInt k
  | .inr x => hashStr w x
theorem keyIs_shape : ∀ {k : Key} {v : Value}, keyIs k v = true → (∃ i t, k = Sum.inl i ∧ v = Value.int i t) ∨ (∃ x t, k = Sum.inr x ∧ v = Value.str x t)
  | .inl i, v, h => by
    obtain ⟨t, e⟩ := Value.isInt_shape (k := i) (v := v) h
    exact .inl ⟨i, t, rfl, e⟩
  | .inr x, v, h => by
    obtain ⟨t, e⟩ := Value.isStrOf_shape (x := x) (v := v) h
    exact .inr ⟨x, t, rfl, e⟩
theorem keyIs_int (i : Int) (t : Tok) : keyIs (.inl i) (.int i t) = true := by simp [keyIs, Value.isInt]
theorem keyIs_str (x : Str) (t : Tok) : keyIs (.inr x) (.str x t) = true := by simp [keyIs, Value.isStrOf]
theorem key_ll (a b : Int) : decide ((Sum.inl a : Key) = Sum.inl b) = (a == b) := by
  by_cases e : a = b
  · subst e; simp
  · have h : ¬ (Sum.inl a : Key) = Sum.inl b := fun q => e (Sum.inl.inj q)
    rw [decide_eq_false h]
    exact (beq_eq_false_iff_ne.mpr e).symm
theorem key_rr (a b : Str) : decide ((Sum.inr a : Key) = Sum.inr b) = decide (a = b) := by
  by_cases e : a = b
  · subst e; simp
  · have h : ¬ (Sum.inr a : Key) = Sum.inr b := fun q => e (Sum.inr.inj q)
    rw [decide_eq_false h, decide_eq_false e]
theorem key_lr (a : Int) (b : Str) : decide ((Sum.inl a : Key) = Sum.inr b) = false := decide_eq_false (fun q => nomatch q)
theorem key_rl (a : Str) (b : Int) : decide ((Sum.inr a : Key) = Sum.inl b) = false := decide_eq_false (fun q => nomatch q)
def mixKind (prog : Program) (w : World) : PySem.KeyKind prog w Key where
  is := keyIs
  hash := keyH w
  inj := fun v a b ha hb => by
    rcases keyIs_shape ha with ⟨i, t, rfl, rfl⟩ | ⟨x, t, rfl, rfl⟩
    · rcases keyIs_shape hb with ⟨j, u, rfl, e⟩ | ⟨y, u, rfl, e⟩
      · injection e with e1 _; rw [e1]
      · exact nomatch e
    · rcases keyIs_shape hb with ⟨j, u, rfl, e⟩ | ⟨y, u, rfl, e⟩
      · exact nomatch e
      · injection e with e1 _; rw [e1]
  byValue := fun k v h => by
    rcases keyIs_shape h with ⟨i, t, rfl, rfl⟩ | ⟨x, t, rfl, rfl⟩ <;> rfl
  pyHash := fun hv h => by
    rcases keyIs_shape hv with ⟨i, t, rfl, rfl⟩ | ⟨x, t, rfl, rfl⟩
    · exact wpAny_pyHash_int h
    · exact wpAny_pyHash_str h
  eqBool := fun hu hv h => by
    rcases keyIs_shape hu with ⟨i, t, rfl, rfl⟩ | ⟨x, t, rfl, rfl⟩
    · rcases keyIs_shape hv with ⟨j, u, rfl, rfl⟩ | ⟨y, u, rfl, rfl⟩
      · rw [key_ll] at h; exact wpAny_eqBool_int h
      · rw [key_lr] at h; exact SeqAt.EqAt.int_str i t y u _ _ _ _ h
    · rcases keyIs_shape hv with ⟨j, u, rfl, rfl⟩ | ⟨y, u, rfl, rfl⟩
      · rw [key_rl] at h; exact SeqAt.EqAt.str_int x t j u _ _ _ _ h
      · rw [key_rr] at h; exact wpAny_eqBool_str h
  «strs» := fun k x t v h => by
    rcases keyIs_shape h with ⟨i, u, rfl, e⟩ | ⟨y, u, rfl, e⟩
    · exact nomatch e
    · injection e with e1 _
      subst e1
      cases v <;> rfl
theorem mixKind_is (prog : Program) (w : World) (k : Key) (v : Value) : (mixKind prog w).is k v = keyIs k v := rfl
theorem mixKind_int (prog : Program) (w : World) (i : Int) (t : Tok) : (mixKind prog w).is (.inl i) (.int i t) = true := keyIs_int i t
theorem mixKind_str (prog : Program) (w : World) (x : Str) (t : Tok) : (mixKind prog w).is (.inr x) (.str x t) = true := keyIs_str x t
end L2
namespace L2
open PySem PySem.Spec PyProof.Rows
inductive V where
  | non | bl (b : Bool) | int (i : Int) | str (x : Str) | byt (b : Array UInt8) | flt (b : UInt64) | ref (a : Addr) | ty (n : String)
  deriving DecidableEq
def RelV : V → Value → Prop
  | .non, u => u = Value.none
  | .bl b, u => u = Value.bool b
  | .int i, u => ∃ t, u = Value.int i t
  | .str x, u => ∃ t, u = Value.str x t
  | .byt b, u => ∃ t, u = Value.bytes b t
  | .flt b, u => ∃ t, u = Value.float b t
  | .ref a, u => u = Value.ref a
  | .ty n, u => u = Value.type n
abbrev Vals : List V → List Value → Prop := Paired RelV
theorem Vals.length {xs : List V} {us : List Value} (r : Vals xs us) : xs.length = us.length := Paired.length r
theorem Vals.get : ∀ {xs : List V} {us : List Value} {i : Nat} {x : V}, Vals xs us → xs[i]? = some x → ∃ u, us[i]? = some u ∧ RelV x u
  | _, _, _, _, .nil, e => by simp at e
  | _, _, 0, _, .cons r _, e => by simp at e; subst e; exact ⟨_, rfl, r⟩
  | _, _, i + 1, x, .cons _ t, e => by
    obtain ⟨u, h1, h2⟩ := Vals.get (i := i) (x := x) t (by simpa using e)
    exact ⟨u, by simpa using h1, h2⟩
theorem Vals.set {x : V} {u : Value} (r : RelV x u) : ∀ {xs : List V} {us : List Value} (i : Nat), Vals xs us → Vals (xs.set i x) (us.set i u)
  | _, _, _, .nil => .nil
  | _, _, 0, .cons _ t => .cons r t
  | _, _, i + 1, .cons q t => .cons q (Vals.set r i t)
theorem Vals.append : ∀ {xs ys : List V} {us ws : List Value}, Vals xs us → Vals ys ws → Vals (xs ++ ys) (us ++ ws)
  | _, _, _, _, .nil, s => s
  | _, _, _, _, .cons r t, s => .cons r (Vals.append t s)
theorem Vals.take : ∀ {xs : List V} {us : List Value} (n : Nat), Vals xs us → Vals (xs.take n) (us.take n)
  | _, _, 0, _ => .nil
  | _, _, _ + 1, .nil => .nil
  | _, _, n + 1, .cons r t => .cons r (Vals.take n t)
theorem Vals.drop : ∀ {xs : List V} {us : List Value} (n : Nat), Vals xs us → Vals (xs.drop n) (us.drop n)
  | _, _, 0, r => r
  | _, _, _ + 1, .nil => .nil
  | _, _, n + 1, .cons _ t => Vals.drop n t
def RelO : Option V → Option Value → Prop
  | some v, some u => RelV v u
  | none, none => True
  | _, _ => False
def KV {κ : Type} : List (κ × V) → List (κ × Value) → Prop := Paired fun (p : κ × V) (q : κ × Value) => p.1 = q.1 ∧ RelV p.2 q.2
def kV : Key → V
  | .inl i => .int i
  | .inr x => .str x
inductive HO where
    | lst (xs : List V)
    | tup (xs : List V)
    | dK (kvs : List (Key × V)) | dT (kvs : List (List Key × V))
    | set (S : Int → Bool) (n : Nat)
    | ins (C dx : Addr) (fs : List (Str × V))
    | own (x : Addr)
    | xd (fs : List (Str × V))
    | met (f x : Addr)
    | rng (lo hi : Int)
    | frz (o : Obj) (u : HO)
    | tbl (ps : Array Value)
    | ext (φ : Heap → Prop)
abbrev Hp := Addr → Option HO
def upd (H : Hp) (a : Addr) (o : HO) : Hp := fun b => if b = a then some o else H b
theorem upd_same {H : Hp} {a : Addr} {o : HO} : upd H a o a = some o := by unfold upd; rw [if_pos rfl]
theorem upd_ne {H : Hp} {a b : Addr} {o : HO} (h : b ≠ a) : upd H a o b = H b := by unfold upd; rw [if_neg h]
theorem upd_upd {H : Hp} {a : Addr} {o u : HO} : upd (upd H a o) a u = upd H a u := by
  funext b; unfold upd; split <;> rfl
theorem ne_of {H : Hp} {a b : Addr} {o u : HO} (h : H a = some o) (h' : H b = some u) (d : o ≠ u) : a ≠ b := by
  intro e; subst e; rw [h] at h'; exact d (Option.some.inj h')
theorem ne_of_none {H : Hp} {a b : Addr} {o : HO} (h : H a = some o) (h' : H b = none) : a ≠ b := by
  intro e; subst e; rw [h] at h'; cases h'
section
variable (P : Program) (w : World)
def ObjOk (H : Hp) (h : Heap) (a : Addr) : HO → Prop
  | .lst xs => xs.length ≤ sizeLine ∧ ∃ (its : List Value) (n : Nat), Vals xs its ∧ h.get? a = some { cls := .type "list", data := .seq its.toArray n }
  | .tup xs => xs.length ≤ sizeLine ∧ ∃ its : List Value, Vals xs its ∧ IsTup h a its.toArray
  | .dK kvs => kvs.length ≤ sizeLine ∧ (a == sysModules) = false ∧ ∃ vs, KV kvs vs ∧ h.DictOf (mixKind P w) a vs
  | .dT kvs => kvs.length ≤ sizeLine ∧ (a == sysModules) = false ∧ ∃ xs : List (List Key × Addr × Value),
      Paired (fun (p : List Key × V) (q : List Key × Addr × Value) => p.1 = q.1 ∧ H q.2.1 = some (.tup (p.1.map kV)) ∧ RelV p.2 q.2.2) kvs xs ∧
      ∃ o es ep, h.get? a = some o ∧ o.ExactDict ∧ o.data = .dict es ep ∧ es.toList = xs.map (entryOfKey (tupleKind (mixKind P w))) ∧ (xs.map (·.1)).Nodup
  | .set S n => h.SetOf (intKind P w) a S n
  | .ins C dx fs => H dx = some (.own a) ∧ fs.length ≤ 1000 ∧ dx ≠ a ∧ h.get? a = some (PySem.W.instObj C dx) ∧
      ∃ mA, h.Ns1 dx mA ∧ (∀ f, RelO (fs.lookup f) (mA f)) ∧ PySem.Within mA (fs.map (·.1))
  | .own _ => ∃ o, h.get? a = some o
  | .xd fs => ∃ mA, h.Ns1 a mA ∧ ∀ f, RelO (fs.lookup f) (mA f)
  | .rng lo hi => ∃ t u v, h.get? a = some { cls := .type "range", data := .fields #[.int lo t, .int hi u, .int 1 v] }
  | .frz o u => h.get? a = some o ∧ ObjOk H h a u
  | .tbl ps => h.get? a = some { cls := .none, data := .fields ps }
  | .met f x => h.get? a = some (PySem.W.methodObj (.ref f) (.ref x))
  | .ext φ => φ h ∧ (∃ o, h.get? a = some o) ∧ ∀ h1 h2 : Heap, φ h1 → (∀ o, h1.get? a = some o → h2.get? a = some o) → φ h2
def HOk (H : Hp) (h : Heap) : Prop := ∀ a o, H a = some o → ObjOk P w H h a o
end
section
variable {P : Program} {w : World} {H H' : Hp} {h h' : Heap} {a : Addr} {o : HO}
theorem ObjOk.lt (x : ObjOk P w H h a o) : a < h.objs.size := by
  cases o with
  | lst xs => obtain ⟨_, _, _, _, e⟩ := x; exact Heap.lt_size e
  | tup xs => obtain ⟨_, _, _, p⟩ := x; exact p.lt
  | dK kvs => obtain ⟨_, _, _, _, o, _, _, e, _⟩ := x; exact Heap.lt_size e
  | dT kvs => obtain ⟨_, _, _, _, o, _, _, e, _⟩ := x; exact Heap.lt_size e
  | set S n => obtain ⟨o, _, _, _, e, _⟩ := x; exact Heap.lt_size e
  | ins C dx fs => obtain ⟨_, _, _, e, _⟩ := x; exact Heap.lt_size e
  | own y => obtain ⟨_, e⟩ := x; exact Heap.lt_size e
  | xd fs => obtain ⟨_, ⟨_, _, _, e, _⟩, _⟩ := x; exact Heap.lt_size e
  | rng lo hi => obtain ⟨_, _, _, e⟩ := x; exact Heap.lt_size e
  | frz ob u => obtain ⟨e, _⟩ := x; exact Heap.lt_size e
  | tbl ps => exact Heap.lt_size (show h.get? a = some _ from x)
  | met f y => exact Heap.lt_size (show h.get? a = some _ from x)
  | ext φ => obtain ⟨_, ⟨_, e⟩, _⟩ := x; exact Heap.lt_size e
theorem Paired.mapP {α β : Type} {F G : α → β → Prop} : ∀ {l₁ : List α} {l₂ : List β}, Paired F l₁ l₂ → (∀ a b, F a b → G a b) → Paired G l₁ l₂
  | _, _, .nil, _ => .nil
  | _, _, .cons r t, f => .cons (f _ _ r) (Paired.mapP t f)
theorem ObjOk.stay (x : ObjOk P w H h a o) (k : ∀ b u, (b = a ∨ H b = some (.own a)) → h.get? b = some u → h'.get? b = some u)
    (ho : ∀ b, H b = some (.own a) → H' b = some (.own a)) (ht : ∀ b xs, H b = some (.tup xs) → H' b = some (.tup xs)) : ObjOk P w H' h' a o := by
  induction o with
  | lst xs => obtain ⟨z, its, n, r, e⟩ := x; exact ⟨z, its, n, r, k _ _ (.inl rfl) e⟩
  | tup xs => obtain ⟨z, its, r, ob, e, c⟩ := x; exact ⟨z, its, r, ob, k _ _ (.inl rfl) e, c⟩
  | dK kvs => obtain ⟨z, y, vs, r, ob, es, ep, e, c⟩ := x; exact ⟨z, y, vs, r, ob, es, ep, k _ _ (.inl rfl) e, c⟩
  | dT kvs =>
    obtain ⟨z, y, xs, r, ob, es, ep, e, c⟩ := x
    exact ⟨z, y, xs, Paired.mapP r fun p q z => ⟨z.1, ht _ _ z.2.1, z.2.2⟩, ob, es, ep, k _ _ (.inl rfl) e, c⟩
  | set S n => obtain ⟨ob, es, ep, t, e, c⟩ := x; exact ⟨ob, es, ep, t, k _ _ (.inl rfl) e, c⟩
  | ins C dx fs =>
    obtain ⟨d, z, ne, e, mA, ⟨od, es, ep, e2, c⟩, r⟩ := x
    exact ⟨ho _ d, z, ne, k _ _ (.inl rfl) e, mA, ⟨od, es, ep, k _ _ (.inr d) e2, c⟩, r⟩
  | own y => obtain ⟨ob, e⟩ := x; exact ⟨ob, k _ _ (.inl rfl) e⟩
  | xd fs => obtain ⟨mA, ⟨od, es, ep, e, c⟩, r⟩ := x; exact ⟨mA, ⟨od, es, ep, k _ _ (.inl rfl) e, c⟩, r⟩
  | rng lo hi => obtain ⟨t, u, v, e⟩ := x; exact ⟨t, u, v, k _ _ (.inl rfl) e⟩
  | frz ob u ih => obtain ⟨e, q⟩ := x; exact ⟨k _ _ (.inl rfl) e, ih q⟩
  | tbl ps =>
    have e : h.get? a = some { cls := .none, data := .fields ps } := x
    show h'.get? a = some { cls := .none, data := .fields ps }
    exact k a _ (.inl rfl) e
  | met f y =>
    have e : h.get? a = some (PySem.W.methodObj (.ref f) (.ref y)) := x
    show h'.get? a = some (PySem.W.methodObj (.ref f) (.ref y))
    exact k a _ (.inl rfl) e
  | ext φ => obtain ⟨p, ⟨o, e⟩, st⟩ := x; exact ⟨st _ _ p fun o q => k _ _ (.inl rfl) q, ⟨o, k _ _ (.inl rfl) e⟩, st⟩
theorem HOk.lt (x : HOk P w H h) (e : H a = some o) : a < h.objs.size := (x a o e).lt
theorem HOk.fresh (x : HOk P w H h) (e : h.objs.size ≤ a) : H a = none := by
  cases q : H a with
  | none => rfl
  | some u => exact absurd (Nat.lt_of_lt_of_le (x.lt q) e) (Nat.lt_irrefl _)
theorem HOk.kept (x : HOk P w H h) (k : ∀ b u, h.get? b = some u → h'.get? b = some u) : HOk P w H h' := fun a o e =>
  (x a o e).stay (fun b u _ q => k b u q) (fun _ q => q) fun _ _ q => q
theorem HOk.laid (x : HOk P w H h) (k : ∀ b u, h.get? b = some u → h'.get? b = some u) (hp : h.objs.size ≤ a) (new : ObjOk P w (upd H a o) h' a o) : HOk P w (upd H a o) h' := fun b u e => by
  have hn := x.fresh hp
  by_cases hb : b = a
  · subst hb; rw [upd_same] at e; cases e; exact new
  · rw [upd_ne hb] at e
    exact (x b u e).stay (fun c v _ q => k c v q) (fun c q => by rw [upd_ne (ne_of_none q hn)]; exact q) fun c xs q => by rw [upd_ne (ne_of_none q hn)]; exact q
end
def Rd (H : Hp) (a : Addr) (u : HO) : Prop := H a = some u ∨ ∃ o, H a = some (.frz o u)
theorem Rd.ok {P : Program} {w : World} {H : Hp} {h : Heap} {a : Addr} {u : HO} (r : Rd H a u) (x : HOk P w H h) : ObjOk P w H h a u := by
  rcases r with r | ⟨o, r⟩
  · exact x a u r
  · obtain ⟨_, q⟩ := x a _ r
    exact q
def Mut : Option HO → Prop
  | some (.lst _) => True
  | some (.dK _) => True
  | some (.dT _) => True
  | some (.set _ _) => True
  | some (.ins _ _ _) => True
  | some (.ext _) => True
  | _ => False
section
variable {P : Program} {w : World} {H : Hp} {h h' : Heap} {x e : Addr} {o' : HO}
theorem HOk.write (ok : HOk P w H h) (mu : Mut (H x)) (he : e = x ∨ H e = some (.own x)) (k : ∀ b u, b ≠ e → h.get? b = some u → h'.get? b = some u) (heo : ∃ u, h'.get? e = some u)
    (new : ObjOk P w (upd H x o') h' x o') : HOk P w (upd H x o') h' := fun b u q => by
  have nown : ∀ c y, H c = some (.own y) → c ≠ x := fun c y r z => by subst z; rw [r] at mu; exact mu
  have ntup : ∀ c xs, H c = some (.tup xs) → c ≠ x := fun c xs r z => by subst z; rw [r] at mu; exact mu
  by_cases hb : b = x
  · subst hb; rw [upd_same] at q; cases q; exact new
  · rw [upd_ne hb] at q
    by_cases hbe : b = e
    · have q' : H b = some (.own x) := by
        rcases he with z | z
        · exact absurd (hbe.trans z) hb
        · rw [hbe]; exact z
      rw [q] at q'; cases q'
      obtain ⟨v, hv⟩ := heo
      exact ⟨v, by rw [hbe]; exact hv⟩
    · refine (ok b u q).stay (fun c v hc r => k c v ?_ r) (fun c r => by rw [upd_ne (nown c b r)]; exact r) fun c xs r => by rw [upd_ne (ntup c xs r)]; exact r
      rcases hc with rfl | hc
      · exact hbe
      · rintro rfl
        rcases he with z | z
        · exact nown c b hc z
        · rw [hc] at z; cases z; exact hb rfl
end
structure Un (fs ex : List Addr) (H H' : Hp) (h h' : Heap) : Prop where
  keep : ∀ b o, h.get? b = some o → H b = none → b ∉ fs → b ∉ ex → h'.get? b = some o
  slot : ∀ b o, h.get? b = some o → H b = none → b ∈ fs → b ∉ ex → ∃ sl, h'.get? b = some { o with slots := sl }
  free : ∀ b o, h.get? b = some o → H b = none → b ∉ ex → H' b = none
  there : ∀ b o, h.get? b = some o → b ∉ ex → ∃ o', h'.get? b = some o'
  tups : ∀ b xs, H b = some (.tup xs) → H' b = some (.tup xs)
  frzs : ∀ b o u, H b = some (.frz o u) → H' b = some (.frz o u)
  tbls : ∀ b ps, H b = some (.tbl ps) → ∃ more, H' b = some (.tbl (ps ++ more))
section
variable {fs fs' ex ex' : List Addr} {H H1 H2 : Hp} {h h1 h2 h' : Heap} {a x e : Addr} {o : HO}
theorem Un.any (u : Un fs ex H H1 h h1) {b : Addr} {ob : Obj} (q : h.get? b = some ob) (n : H b = none) (hx : b ∉ ex) : ∃ sl, h1.get? b = some { ob with slots := sl } := by
  by_cases hb : b ∈ fs
  · exact u.slot b ob q n hb hx
  · exact ⟨ob.slots, u.keep b ob q n hb hx⟩
theorem Un.kept (k : ∀ b u, h.get? b = some u → h'.get? b = some u) : Un fs ex H H h h' :=
  ⟨fun b ob q _ _ _ => k b ob q, fun b ob q _ _ _ => ⟨ob.slots, k b ob q⟩, fun _ _ _ n _ => n, fun b ob q _ => ⟨ob, k b ob q⟩, fun _ _ q => q, fun _ _ _ q => q, fun _ ps q => ⟨#[], by rw [q]; simp⟩⟩
theorem Un.refl : Un fs ex H H h h := Un.kept fun _ _ q => q
theorem Un.laid (k : ∀ b u, h.get? b = some u → h'.get? b = some u) (hp : h.objs.size ≤ a) (hn : H a = none) : Un fs ex H (upd H a o) h h' where
  keep := fun b u q _ _ _ => k b u q
  slot := fun b u q _ _ _ => ⟨u.slots, k b u q⟩
  free := fun b u q n _ => by rw [upd_ne (Nat.ne_of_lt (Nat.lt_of_lt_of_le (Heap.lt_size q) hp))]; exact n
  there := fun b u q _ => ⟨u, k b u q⟩
  tups := fun b xs q => by rw [upd_ne (ne_of_none q hn)]; exact q
  frzs := fun b u xs q => by rw [upd_ne (ne_of_none q hn)]; exact q
  tbls := fun b ps q => ⟨#[], by rw [upd_ne (ne_of_none q hn), q]; simp⟩
theorem Un.write (mu : Mut (H x)) (he : e = x ∨ H e = some (.own x)) (k : ∀ b u, b ≠ e → h.get? b = some u → h'.get? b = some u) (heo : ∃ u, h'.get? e = some u) : Un fs ex H (upd H x o) h h' := by
  have hx : ∀ b, H b = none → b ≠ x := fun b n z => by subst z; rw [n] at mu; exact mu
  have hb : ∀ b, H b = none → b ≠ e := fun b n z => by
    subst z
    rcases he with r | r
    · exact hx b n r
    · rw [n] at r; cases r
  have hm : ∀ b u, H b = some u → ¬ Mut (some u) → b ≠ x := fun b u q nm z => by subst z; rw [q] at mu; exact nm mu
  refine ⟨fun b u q n _ _ => k b u (hb b n) q, fun b u q n _ _ => ⟨u.slots, k b u (hb b n) q⟩, fun b u q n _ => by rw [upd_ne (hx b n)]; exact n, fun b u q _ => ?_,
    fun b xs q => by rw [upd_ne (hm b _ q fun z => z)]; exact q, fun b u xs q => by rw [upd_ne (hm b _ q fun z => z)]; exact q, fun b ps q => ⟨#[], by rw [upd_ne (hm b _ q fun z => z), q]; simp⟩⟩
  by_cases hbe : b = e
  · subst hbe; exact heo
  · exact ⟨u, k b u hbe q⟩
end
def trk (h : Heap) (H : Hp) : List Addr := (List.range h.objs.size).filter fun a => (H a).isSome
def hidT (h : Heap) (H : Hp) : Heap := PySem.W.hideAll h (trk h H)
theorem hidT_size (h : Heap) (H : Hp) : (hidT h H).objs.size = h.objs.size := PySem.W.hideAll_size _ _
theorem hidT_get {h : Heap} {H : Hp} {b : Addr} {o : Obj} (e : h.get? b = some o) (n : H b = none) : (hidT h H).get? b = some o :=
  PySem.W.hideAll_get _ e fun hm => by
    have q : (H b).isSome = true := (List.mem_filter.mp hm).2
    rw [n] at q; simp at q
theorem of_hidT {h : Heap} {H : Hp} {b : Addr} {o : Obj} (e : (hidT h H).get? b = some o) : h.get? b = some o ∧ H b = none := by
  have e' : h.get? b = some o := PySem.W.of_hideAll (trk h H) e
  refine ⟨e', ?_⟩
  cases q : H b with
  | none => rfl
  | some x =>
    have hm : b ∈ trk h H := List.mem_filter.mpr ⟨List.mem_range.mpr (Heap.lt_size e'), by simp [q]⟩
    have z : (hidT h H).get? b = none := PySem.W.hideAll_none (trk h H) hm
    rw [z] at e; cases e
def allNews (g h : Heap) (L : Addr) : List (Addr × Obj) := (List.range h.objs.size).filterMap fun a => if a = L ∨ (g.get? a).isSome = true then none else (h.get? a).map fun o => (a, o)
def rest (g h : Heap) (L d : Addr) : List (Addr × Obj) := (allNews g h L).filter fun p => decide (p.1 ≠ d)
end L2
namespace L2
open PySem PySem.Spec PyProof.Rows
structure Mod (K : PySem.W.Frag) (mg : Str → Option Value) (base : Heap) : Prop where
  kin : K.In base
  glob : base.Ns mainGlobals mg
  blt : ∃ mb, base.Ns builtinsNs mb ∧ ∀ x : Str, x ≠ "__name__" → mb x = bootBuiltins x
  nolimit : base.NoLimit
structure Cx where
  prog : Program
  w : World
  K : PySem.W.Frag
  mg : Str → Option Value
  base : Heap
  A : Around
  N : List Str
  s₀ : Shared
  H₀ : Hp
  env : Env
  outer : List Env
  stack : List Env
  ex : List Addr
  fn : Str → Bool
  calm : Bool
  pn : List (Addr × Obj)
  xe : Value → Shared → Prop
def frs (l : List Env) : List Addr := l.filterMap (·.frame)
abbrev Cx.fs (X : Cx) : List Addr := frs X.outer
def Vis (sc : Scope) (x : Str) : Prop := sc.names.lookup x = some .local ∨ sc.names.lookup x = some .cell ∨ sc.names.lookup x = some .free
def Loc (sc : Scope) (x : Str) : Prop := sc.names.lookup x = some .local ∨ sc.names.lookup x = some .cell
def Look (env : Env) (h : Heap) (m : Str → Option Value) (x : Str) (u : Value) : Prop :=
  (env.kindOf x = some .local ∧ m x = some u) ∨ ((env.kindOf x = some .cell ∨ env.kindOf x = some .free) ∧ ∃ c, env.cells.lookup x = some c ∧ h.IsCell c (some u))
structure Cx.Ok (X : Cx) : Prop where
  mod : Mod X.K X.mg X.base
  kind : X.env.scope.kind = .function
  glob : X.env.globals = mainGlobals
  blt : X.env.builtins = builtinsNs
  above : X.s₀.heap.objs.size ≤ X.env.locals
  inj : ∀ x y c, X.env.cells.lookup x = some c → X.env.cells.lookup y = some c → x = y
  has : ∀ x, (X.env.kindOf x = some .cell ∨ X.env.kindOf x = some .free) → ∃ c, X.env.cells.lookup x = some c
  cab : ∀ x c, X.fn x = true → X.env.cells.lookup x = some c → X.s₀.heap.objs.size ≤ c
  hd : X.calm = true → X.A.handled = none
  frames : X.A.frames = some X.stack
  stk : X.stack = X.outer ∨ (X.stack = X.env :: X.outer ∧ X.env.frame = some X.env.locals)
  exf : ∀ b ∈ X.ex, b ≠ X.env.locals ∧ ∀ x c, X.env.cells.lookup x = some c → c ≠ b
  bs : ∀ b o, X.base.get? b = some o → X.s₀.heap.get? b = some o ∧ X.H₀ b = none
  bsz : X.base.objs.size ≤ X.s₀.heap.objs.size
  noex : ∀ b o, X.base.get? b = some o → b ∉ X.ex
  exfs : ∀ b ∈ X.ex, b ∉ X.fs
  funs : X.s₀.heap.FunFrames X.base X.outer
  frf : ∀ b ∈ X.fs, X.H₀ b = none
structure Inv (X : Cx) (pins : List (Addr × Obj)) (σ : List (Option V)) (H : Hp) (s : Shared) : Prop where
  ok : X.Ok
  os : s.os = X.s₀.os
  bare : AllBare s.gens
  base : Un X.fs X.ex X.H₀ H X.s₀.heap s.heap
  loc : ∃ m, s.heap.Ns X.env.locals m ∧ ∀ (i : Nat) (x : Str) (v : V), X.N[i]? = some x → σ[i]? = some (some v) → Vis X.env.scope x → ∃ u, RelV v u ∧ Look X.env s.heap m x u
  cell : ∀ x c, X.env.cells.lookup x = some c → ∃ v, s.heap.IsCell c v
  free : H X.env.locals = none
  freeC : ∀ x c, X.env.cells.lookup x = some c → H c = none
  pin : ∀ p ∈ X.pn ++ pins, s.heap.get? p.1 = some p.2 ∧ H p.1 = none ∧ p.1 ≠ X.env.locals ∧ p.1 ∉ X.fs ∧ ∀ v, p.2.data ≠ .cell v
  hok : HOk X.prog X.w H s.heap
  len : σ.length = X.N.length
section
variable {X : Cx} {pins : List (Addr × Obj)} {σ : List (Option V)} {H H' : Hp} {s : Shared} {h' : Heap}
theorem Cx.Ok.nofr (ok : X.Ok) {b : Addr} {o : Obj} (e : X.base.get? b = some o) : b ∉ X.fs := fun hb => by
  have := (ok.funs.mem hb).1
  rw [e] at this; cases this
theorem Inv.bs (I : Inv X pins σ H s) : ∀ b o, X.base.get? b = some o → s.heap.get? b = some o ∧ H b = none := fun b o e =>
  ⟨I.base.keep b o (I.ok.bs b o e).1 (I.ok.bs b o e).2 (I.ok.nofr e) (I.ok.noex b o e), I.base.free b o (I.ok.bs b o e).1 (I.ok.bs b o e).2 (I.ok.noex b o e)⟩
theorem Inv.bk (I : Inv X pins σ H s) : ∀ b o, X.base.get? b = some o → s.heap.get? b = some o := fun b o e => (I.bs b o e).1
theorem Inv.mod (I : Inv X pins σ H s) : Mod X.K X.mg X.base := I.ok.mod
theorem Inv.kIn (I : Inv X pins σ H s) : X.K.In s.heap := I.ok.mod.kin.keeps I.bk
theorem Inv.lt (I : Inv X pins σ H s) : X.env.locals < s.heap.objs.size := let ⟨_, hn, _⟩ := I.loc; hn.lt
theorem Inv.sz (I : Inv X pins σ H s) : X.s₀.heap.objs.size ≤ s.heap.objs.size := Nat.le_trans I.ok.above (Nat.le_of_lt I.lt)
theorem Inv.nofs (I : Inv X pins σ H s) {a : Addr} (h : s.heap.objs.size ≤ a) : a ∉ X.fs := fun hb => by
  obtain ⟨_, o, ho, _⟩ := I.ok.funs.mem hb
  exact absurd (Nat.lt_of_lt_of_le (Heap.lt_size ho) (Nat.le_trans I.sz h)) (Nat.lt_irrefl _)
theorem Inv.cne (I : Inv X pins σ H s) : ∀ x c, X.env.cells.lookup x = some c → c ≠ X.env.locals := fun x c e z => by
  obtain ⟨v, o, ho, hd⟩ := I.cell x c e
  obtain ⟨m, ⟨o', es, ep, ho', hd', _⟩, _⟩ := I.loc
  rw [z, ho'] at ho; cases ho; rw [hd'] at hd; cases hd
theorem Inv.funs (I : Inv X pins σ H s) : s.heap.FunFrames X.base X.outer := by
  have all : ∀ (l : List Env), (∀ b ∈ frs l, b ∈ X.fs) → X.s₀.heap.FunFrames X.base l → s.heap.FunFrames X.base l := by
    intro l
    induction l with
    | nil => intro _ _; trivial
    | cons env r ih =>
      intro hs hl
      obtain ⟨hk, ⟨L, o, hf, hn, ho, hd⟩, hr⟩ := hl
      have hL : L ∈ X.fs := hs L (by unfold frs; rw [List.filterMap_cons, hf]; exact List.mem_cons_self)
      obtain ⟨sl, e⟩ := I.base.slot L o ho (I.ok.frf L hL) hL fun z => I.ok.exfs L z hL
      exact ⟨hk, ⟨L, _, hf, hn, e, hd⟩, ih (fun b hb => hs b (by unfold frs; rw [List.filterMap_cons, hf]; exact List.mem_cons_of_mem _ hb)) hr⟩
  exact all X.outer (fun _ hb => hb) I.ok.funs
theorem Inv.stack (I : Inv X pins σ H s) : s.heap.FunFrames X.base X.stack := by
  rcases I.ok.stk with e | ⟨e, hf⟩
  · rw [e]; exact I.funs
  · rw [e]
    obtain ⟨m, hn, _⟩ := I.loc
    refine .cons (by rw [I.ok.kind]; decide) hf hn ?_ I.funs
    exact Heap.get?_none_of_le (Nat.le_trans I.ok.bsz I.ok.above)
theorem Inv.stkSub (I : Inv X pins σ H s) : ∀ b ∈ frs X.stack, b ∈ X.env.locals :: X.fs := fun b hb => by
  rcases I.ok.stk with e | ⟨e, hf⟩
  · rw [e] at hb; exact List.mem_cons_of_mem _ hb
  · rw [e] at hb
    unfold frs at hb
    rw [List.filterMap_cons, hf] at hb
    exact hb
theorem Inv.stkFree (I : Inv X pins σ H s) : ∀ b ∈ frs X.stack, H b = none := fun b hb => by
  rcases List.mem_cons.mp (I.stkSub b hb) with e | hb
  · rw [e]; exact I.free
  · obtain ⟨_, o, ho, _⟩ := I.ok.funs.mem hb
    exact I.base.free b o ho (I.ok.frf b hb) fun z => I.ok.exfs b z hb
theorem Inv.step {g' : Array GenState} {t' : Nat} {d' : Drawn} {ch : List Addr} (I : Inv X pins σ H s)
    (hch : ∀ b ∈ ch, (b ∈ X.ex ∨ X.s₀.heap.objs.size ≤ b) ∧ b ≠ X.env.locals ∧ (∀ x c, X.env.cells.lookup x = some c → c ≠ b) ∧ ∀ p ∈ X.pn ++ pins, p.1 ≠ b)
    (keep : ∀ b o, b ≠ X.env.locals → b ∉ X.fs → b ∉ ch → s.heap.get? b = some o → H b = none → h'.get? b = some o)
    (slot : ∀ b o, b ≠ X.env.locals → b ∈ X.fs → b ∉ ch → s.heap.get? b = some o → H b = none → ∃ sl, h'.get? b = some { o with slots := sl }) (free : ∀ b o, b ∉ ch → s.heap.get? b = some o → H b = none → H' b = none)
    (there : ∀ b o, b ∉ ch → s.heap.get? b = some o → ∃ o', h'.get? b = some o')
    (tups : ∀ b xs, H b = some (.tup xs) → H' b = some (.tup xs)) (frzs : ∀ b o u, H b = some (.frz o u) → H' b = some (.frz o u)) (tbls : ∀ b ps, H b = some (.tbl ps) → ∃ more, H' b = some (.tbl (ps ++ more)))
    (ns : ∀ m, s.heap.Ns X.env.locals m → h'.Ns X.env.locals m) (hok : HOk X.prog X.w H' h') (hg : AllBare g') :
    Inv X pins σ H' { s with heap := h', gens := g', drawn := d', toks := t' } := by
  have neL : ∀ b o, X.s₀.heap.get? b = some o → b ≠ X.env.locals := fun b o e => Nat.ne_of_lt (Nat.lt_of_lt_of_le (Heap.lt_size e) I.ok.above)
  have neC : ∀ b o, X.s₀.heap.get? b = some o → b ∉ X.ex → b ∉ ch := fun b o e hx hb => by
    rcases (hch b hb).1 with z | z
    · exact hx z
    · exact absurd (Nat.lt_of_lt_of_le (Heap.lt_size e) z) (Nat.lt_irrefl _)
  have cellK : ∀ x c, X.env.cells.lookup x = some c → ∀ v, s.heap.IsCell c v → h'.IsCell c v := fun x c e v ⟨o, ho, hd⟩ => by
    have nch : c ∉ ch := fun z => (hch c z).2.2.1 x c e rfl
    by_cases hc : c ∈ X.fs
    · obtain ⟨sl, q⟩ := slot c o (I.cne x c e) hc nch ho (I.freeC x c e)
      exact ⟨_, q, hd⟩
    · exact ⟨o, keep c o (I.cne x c e) hc nch ho (I.freeC x c e), hd⟩
  refine ⟨I.ok, I.os, hg, ⟨fun b o e n hb hx => ?_, fun b o e n hb hx => ?_, fun b o e n hx => ?_, fun b o e hx => ?_, fun b xs e => tups b xs (I.base.tups b xs e), fun b o xs e => frzs b o xs (I.base.frzs b o xs e), fun b ps e => ?_⟩, ?_, fun x c e => ?_, ?_, fun x c e => ?_, fun p hp => ?_, hok, I.len⟩
  · exact keep b o (neL b o e) hb (neC b o e hx) (I.base.keep b o e n hb hx) (I.base.free b o e n hx)
  · obtain ⟨sl, e1⟩ := I.base.slot b o e n hb hx
    obtain ⟨sl', e2⟩ := slot b _ (neL b o e) hb (neC b o e hx) e1 (I.base.free b o e n hx)
    exact ⟨sl', e2⟩
  · obtain ⟨o', e1⟩ := I.base.there b o e hx
    exact free b o' (neC b o e hx) e1 (I.base.free b o e n hx)
  · obtain ⟨o', e1⟩ := I.base.there b o e hx
    exact there b o' (neC b o e hx) e1
  · obtain ⟨m1, e1⟩ := I.base.tbls b ps e
    obtain ⟨m2, e2⟩ := tbls b _ e1
    exact ⟨m1 ++ m2, by rw [e2, Array.append_assoc]⟩
  · obtain ⟨m, hn, hl⟩ := I.loc
    refine ⟨m, ns m hn, fun i x v e1 e2 e3 => ?_⟩
    obtain ⟨u, r, l⟩ := hl i x v e1 e2 e3
    refine ⟨u, r, ?_⟩
    rcases l with l | ⟨k, c, e, z⟩
    · exact .inl l
    · exact .inr ⟨k, c, e, cellK x c e _ z⟩
  · obtain ⟨v, z⟩ := I.cell x c e
    exact ⟨v, cellK x c e v z⟩
  · obtain ⟨m, ⟨o, _, _, ho, _⟩, _⟩ := I.loc
    exact free _ o (fun z => (hch _ z).2.1 rfl) ho I.free
  · obtain ⟨v, o, ho, hd⟩ := I.cell x c e
    exact free c o (fun z => (hch c z).2.2.1 x c e rfl) ho (I.freeC x c e)
  · obtain ⟨e, n, ne, nf, d⟩ := I.pin p hp
    have nch : p.1 ∉ ch := fun z => (hch p.1 z).2.2.2 p hp rfl
    exact ⟨keep p.1 p.2 ne nf nch e n, free p.1 p.2 nch e n, ne, nf, d⟩
theorem Inv.un {t' : Nat} (I : Inv X pins σ H s) (u : Un X.fs [] H H' s.heap h') (hok : HOk X.prog X.w H' h') : Inv X pins σ H' { s with heap := h', toks := t' } := by
  obtain ⟨m, ⟨o, es, ep, ho, r⟩, _⟩ := id I.loc
  obtain ⟨sl, hL⟩ := u.any ho I.free (by simp)
  exact I.step (g' := s.gens) (d' := s.drawn) (ch := []) (fun _ z => nomatch z) (fun b o _ hb _ e n => u.keep b o e n hb (by simp)) (fun b o _ hb _ e n => u.slot b o e n hb (by simp)) (fun b o _ e n => u.free b o e n (by simp)) (fun b o _ e => u.there b o e (by simp)) u.tups u.frzs u.tbls (fun m' hm => by
    obtain ⟨o', es', ep', ho', r'⟩ := hm
    rw [ho] at ho'; cases ho'
    exact ⟨_, es', ep', hL, r'⟩) hok I.bare
theorem Inv.call {g' : Array GenState} {t' : Nat} {d' : Drawn} {ch : List Addr} (I : Inv X pins σ H s) (u : Un (frs X.stack) ch H H' s.heap h') (hok : HOk X.prog X.w H' h') (hg : AllBare g')
    (hch : ∀ b ∈ ch, (b ∈ X.ex ∨ X.s₀.heap.objs.size ≤ b) ∧ b ≠ X.env.locals ∧ (∀ x c, X.env.cells.lookup x = some c → c ≠ b) ∧ ∀ p ∈ X.pn ++ pins, p.1 ≠ b) :
    Inv X pins σ H' { s with heap := h', gens := g', drawn := d', toks := t' } := by
  obtain ⟨m, ⟨o, es, ep, ho, r⟩, _⟩ := id I.loc
  obtain ⟨sl, hL⟩ := u.any ho I.free fun z => (hch _ z).2.1 rfl
  exact I.step (ch := ch) hch (fun b o hL hb hc e n => u.keep b o e n (fun z => (List.mem_cons.mp (I.stkSub b z)).elim hL hb) hc) (fun b o _ _ hc e n => u.any e n hc) (fun b o hc e n => u.free b o e n hc) (fun b o hc e => u.there b o e hc) u.tups u.frzs u.tbls (fun m' hm => by
    obtain ⟨o', es', ep', ho', r'⟩ := hm
    rw [ho] at ho'; cases ho'
    exact ⟨_, es', ep', hL, r'⟩) hok hg
theorem Inv.turned {t' : Nat} {it : Addr} (I : Inv X pins σ H s) (k : ∀ b o, b ≠ it → s.heap.get? b = some o → h'.get? b = some o) (hn : H it = none) (hL : it ≠ X.env.locals)
    (h1 : it ∈ X.ex ∨ X.s₀.heap.objs.size ≤ it) (h2 : ∀ x c, X.env.cells.lookup x = some c → c ≠ it) (h3 : ∀ p ∈ X.pn ++ pins, p.1 ≠ it) : Inv X pins σ H { s with heap := h', toks := t' } := by
  have nit : ∀ b u, H b = some u → b ≠ it := fun b u e z => by rw [z, hn] at e; cases e
  refine I.step (g' := s.gens) (d' := s.drawn) (ch := [it]) (fun b hb => ?_) (fun b o _ _ hc e _ => k b o (fun z => hc (by simp [z])) e) (fun b o _ _ hc e _ => ⟨o.slots, k b o (fun z => hc (by simp [z])) e⟩) (fun _ _ _ _ n => n)
    (fun b o hc e => ⟨o, k b o (fun z => hc (by simp [z])) e⟩) (fun _ _ e => e) (fun _ _ _ e => e) (fun b ps e => ⟨#[], by rw [e]; simp⟩) (fun m hm => ?_) (fun b u e => ?_) I.bare
  · have e : b = it := by simpa using hb
    subst e
    exact ⟨h1, hL, h2, h3⟩
  · obtain ⟨o, es, ep, ho, r⟩ := hm
    exact ⟨o, es, ep, k _ o (Ne.symm hL) ho, r⟩
  · refine (I.hok b u e).stay (fun c v hc q => k c v ?_ q) (fun _ q => q) fun _ _ q => q
    rcases hc with z | z
    · rw [z]; exact nit b u e
    · exact nit c _ z
theorem Inv.tok (I : Inv X pins σ H s) (t : Nat) : Inv X pins σ H { s with toks := t } := I.un (h' := s.heap) (t' := t) Un.refl I.hok
theorem Inv.kept {t' : Nat} (I : Inv X pins σ H s) (k : ∀ b u, s.heap.get? b = some u → h'.get? b = some u) : Inv X pins σ H { s with heap := h', toks := t' } := I.un (Un.kept k) (I.hok.kept k)
theorem Inv.laid {a : Addr} {o : HO} {t' : Nat} (I : Inv X pins σ H s) (k : ∀ b u, s.heap.get? b = some u → h'.get? b = some u) (hp : s.heap.objs.size ≤ a) (new : ObjOk X.prog X.w (upd H a o) h' a o) :
    Inv X pins σ (upd H a o) { s with heap := h', toks := t' } := I.un (Un.laid k hp (I.hok.fresh hp)) (I.hok.laid k hp new)
theorem Inv.write {x e : Addr} {o : HO} {t' : Nat} (I : Inv X pins σ H s) (mu : Mut (H x)) (he : e = x ∨ H e = some (.own x)) (k : ∀ b u, b ≠ e → s.heap.get? b = some u → h'.get? b = some u) (heo : ∃ u, h'.get? e = some u)
    (new : ObjOk X.prog X.w (upd H x o) h' x o) : Inv X pins σ (upd H x o) { s with heap := h', toks := t' } := I.un (Un.write mu he k heo) (I.hok.write mu he k heo new)
theorem Inv.pins_of {pins' : List (Addr × Obj)} (I : Inv X pins σ H s) (h : ∀ p ∈ pins', s.heap.get? p.1 = some p.2 ∧ H p.1 = none ∧ p.1 ≠ X.env.locals ∧ p.1 ∉ X.fs ∧ ∀ v, p.2.data ≠ .cell v) : Inv X pins' σ H s :=
  ⟨I.ok, I.os, I.bare, I.base, I.loc, I.cell, I.free, I.freeC, fun p hp => (List.mem_append.mp hp).elim (fun z => I.pin p (List.mem_append_left _ z)) (h p), I.hok, I.len⟩
theorem nodup_ix {N : List Str} (hN : N.Nodup) {i j : Nat} {x : Str} (a : N[i]? = some x) (b : N[j]? = some x) : i = j := by
  obtain ⟨h1, e1⟩ := List.getElem?_eq_some_iff.mp a
  obtain ⟨h2, e2⟩ := List.getElem?_eq_some_iff.mp b
  exact (List.getElem_inj hN).mp (e1.trans e2.symm)
theorem store_ok2 {M : Model} {A : Around} {E : Value → Shared → Prop} {i : Nat} {x : Str} {v : V} {u : Value} {Q : Unit → Shared → Prop} (I : Inv X pins σ H s) (hN : X.N.Nodup) (hi : X.N[i]? = some x) (hx : Loc X.env.scope x) (r : RelV v u)
    (h : ∀ s', Inv X pins (σ.set i (some v)) H s' → (∃ a, Heap.SameBut a s.heap s'.heap ∧ (a = X.env.locals ∨ X.env.cells.lookup x = some a)) → Q () s') (hf : X.fn x = true ∨ X.env.scope.names.lookup x = some .local := by first | exact .inl rfl | exact .inr rfl | assumption) : wpAny M A (storeName X.env x u) Q E s := by
  obtain ⟨m, hn, hl⟩ := id I.loc
  have hcls : (X.env.scope.kind == .class || (X.env.scope.kind == .module && X.env.locals != X.env.globals)) = false := by rw [I.ok.kind]; rfl
  have hiσ : i < σ.length := by rw [I.len]; exact (List.getElem?_eq_some_iff.mp hi).1
  have cne := I.cne
  have tracked : ∀ {a : Addr} {h' : Heap}, (∃ o, s.heap.get? a = some o ∧ H a = none) → Heap.SameBut a s.heap h' → HOk X.prog X.w H h' := fun {a h'} ha hs b ob e => by
    obtain ⟨_, _, hfree⟩ := ha
    refine (I.hok b ob e).stay (fun c w' hc q => (hs.2 c ?_).trans q) (fun _ q => q) fun _ _ q => q
    rintro rfl
    rcases hc with rfl | hc
    · rw [hfree] at e; cases e
    · rw [hfree] at hc; cases hc
  rcases hx with hk | hk
  · refine wpAny_storeName_local hk hn (fun h' hn' hs => ?_) hcls
    obtain ⟨oL, _, _, hoL, _⟩ := id hn
    refine h _ ⟨I.ok, I.os, I.bare, ⟨fun b o e n hb hx => ?_, fun b o e n hb hx => ?_, I.base.free, fun b o e hx => ?_, I.base.tups, I.base.frzs, I.base.tbls⟩, ⟨_, hn', fun j y v' e1 e2 e3 => ?_⟩, fun y c e => ?_, I.free, I.freeC, fun p hp => ?_, tracked ⟨oL, hoL, I.free⟩ hs, by simpa using I.len⟩ ⟨_, hs, .inl rfl⟩
    · exact (hs.2 b (Nat.ne_of_lt (Nat.lt_of_lt_of_le (Heap.lt_size e) I.ok.above))).trans (I.base.keep b o e n hb hx)
    · obtain ⟨sl, e1⟩ := I.base.slot b o e n hb hx
      exact ⟨sl, (hs.2 b (Nat.ne_of_lt (Nat.lt_of_lt_of_le (Heap.lt_size e) I.ok.above))).trans e1⟩
    · obtain ⟨o', e1⟩ := I.base.there b o e hx
      exact ⟨o', (hs.2 b (Nat.ne_of_lt (Nat.lt_of_lt_of_le (Heap.lt_size e) I.ok.above))).trans e1⟩
    · by_cases hj : j = i
      · subst hj
        rw [hi] at e1; cases e1
        rw [List.getElem?_set_self hiσ] at e2
        cases e2
        exact ⟨u, r, .inl ⟨hk, by simp⟩⟩
      · rw [List.getElem?_set_ne (Ne.symm hj)] at e2
        obtain ⟨u', r', q⟩ := hl j y v' e1 e2 e3
        refine ⟨u', r', ?_⟩
        rcases q with ⟨k, e⟩ | ⟨k, c, e, z⟩
        · refine .inl ⟨k, ?_⟩
          have : y ≠ x := fun e => hj (nodup_ix hN e1 (e ▸ hi))
          simp [this, e]
        · exact .inr ⟨k, c, e, z.sameBut hs (cne y c e)⟩
    · obtain ⟨w', z⟩ := I.cell y c e
      exact ⟨w', z.sameBut hs (cne y c e)⟩
    · obtain ⟨e, n, ne, nf, d⟩ := I.pin p hp
      exact ⟨(hs.2 p.1 ne).trans e, n, ne, nf, d⟩
  · have hfn : X.fn x = true := by
      rcases hf with z | z
      · exact z
      · rw [z] at hk; cases hk
    obtain ⟨c, hc⟩ := I.ok.has x (.inl hk)
    obtain ⟨w', z⟩ := I.cell x c hc
    refine wpAny_storeName_cell I.ok.kind hk hc z (fun h' hc' hs => ?_)
    obtain ⟨oc, hoc, hocd⟩ := id z
    refine h { s with heap := h' } ⟨I.ok, I.os, I.bare, ⟨fun b o e n hb hx => ?_, fun b o e n hb hx => ?_, I.base.free, fun b o e hx => ?_, I.base.tups, I.base.frzs, I.base.tbls⟩, ⟨m, hn.sameBut hs (Ne.symm (cne x c hc)), fun j y v' e1 e2 e3 => ?_⟩, fun y c' e => ?_, I.free, I.freeC, fun p hp => ?_, tracked ⟨oc, hoc, I.freeC x c hc⟩ hs, by simpa using I.len⟩ ⟨c, hs, .inr hc⟩
    · exact (hs.2 b (Nat.ne_of_lt (Nat.lt_of_lt_of_le (Heap.lt_size e) (I.ok.cab x c hfn hc)))).trans (I.base.keep b o e n hb hx)
    · obtain ⟨sl, e1⟩ := I.base.slot b o e n hb hx
      exact ⟨sl, (hs.2 b (Nat.ne_of_lt (Nat.lt_of_lt_of_le (Heap.lt_size e) (I.ok.cab x c hfn hc)))).trans e1⟩
    · obtain ⟨o', e1⟩ := I.base.there b o e hx
      exact ⟨o', (hs.2 b (Nat.ne_of_lt (Nat.lt_of_lt_of_le (Heap.lt_size e) (I.ok.cab x c hfn hc)))).trans e1⟩
    · by_cases hj : j = i
      · subst hj
        rw [hi] at e1; cases e1
        rw [List.getElem?_set_self hiσ] at e2
        cases e2
        exact ⟨u, r, .inr ⟨.inl hk, c, hc, hc'⟩⟩
      · rw [List.getElem?_set_ne (Ne.symm hj)] at e2
        obtain ⟨u', r', q⟩ := hl j y v' e1 e2 e3
        refine ⟨u', r', ?_⟩
        rcases q with q | ⟨k, c', e, z'⟩
        · exact .inl q
        · refine .inr ⟨k, c', e, z'.sameBut hs ?_⟩
          rintro rfl
          exact hj (nodup_ix hN e1 (I.ok.inj _ _ _ e hc ▸ hi))
    · by_cases hcc : c' = c
      · subst hcc; exact ⟨_, hc'⟩
      · obtain ⟨w2, z2⟩ := I.cell y c' e
        exact ⟨w2, z2.sameBut hs hcc⟩
    · obtain ⟨e, n, ne, nf, d⟩ := I.pin p hp
      refine ⟨(hs.2 p.1 ?_).trans e, n, ne, nf, d⟩
      intro q
      rw [q, hoc] at e
      have q' : oc = p.2 := Option.some.inj e
      exact d w' (by rw [← q']; exact hocd)
theorem store_ok {M : Model} {A : Around} {E : Value → Shared → Prop} {i : Nat} {x : Str} {v : V} {u : Value} {Q : Unit → Shared → Prop} (I : Inv X pins σ H s) (hN : X.N.Nodup) (hi : X.N[i]? = some x) (hx : Loc X.env.scope x) (r : RelV v u)
    (h : ∀ s', Inv X pins (σ.set i (some v)) H s' → Q () s') (hf : X.fn x = true ∨ X.env.scope.names.lookup x = some .local := by first | exact .inl rfl | exact .inr rfl | assumption) : wpAny M A (storeName X.env x u) Q E s :=
  store_ok2 I hN hi hx r (fun s' I' _ => h s' I') hf
theorem Inv.call' {s' : Shared} {ch : List Addr} (I : Inv X pins σ H s) (ho : s'.os = s.os) (u : Un (frs X.stack) ch H H' s.heap s'.heap) (hok : HOk X.prog X.w H' s'.heap) (hg : AllBare s'.gens)
    (hch : ∀ b ∈ ch, (b ∈ X.ex ∨ X.s₀.heap.objs.size ≤ b) ∧ b ≠ X.env.locals ∧ (∀ x c, X.env.cells.lookup x = some c → c ≠ b) ∧ ∀ p ∈ X.pn ++ pins, p.1 ≠ b) : Inv X pins σ H' s' := by
  obtain ⟨h', g', d', t', o'⟩ := s'
  have e : o' = s.os := ho
  subst e
  exact I.call (g' := g') (t' := t') (d' := d') u hok hg hch
end
abbrev XK := Value → Option Addr → Hp → Prop
abbrev St := List (Option V)
abbrev VK := V → Hp → Prop
abbrev TE := St → Hp → VK → Prop
abbrev TT := St → Hp → (Bool → Hp → Prop) → Prop
abbrev TA := St → Hp → (List V → Hp → Prop) → Prop
structure Ends where
  nx : St → Hp → Prop
  rt : VK
  bk : St → Hp → Prop := fun _ _ => False
  ct : St → Hp → Prop := fun _ _ => False
abbrev TS := Ends → St → Hp → Prop
def EP (X : Cx) (pins : List (Addr × Obj)) (σ : St) (Q : VK) (u : Value) (s' : Shared) : Prop := ∃ v H', Inv X pins σ H' s' ∧ RelV v u ∧ Q v H'
def TP (X : Cx) (pins : List (Addr × Obj)) (σ : St) (Q : Bool → Hp → Prop) (b : Bool) (s' : Shared) : Prop := ∃ H', Inv X pins σ H' s' ∧ Q b H'
def AP (X : Cx) (pins : List (Addr × Obj)) (σ : St) (Q : List V → Hp → Prop) (us : List Value) (s' : Shared) : Prop := ∃ vs H', Inv X pins σ H' s' ∧ Vals vs us ∧ Q vs H'
def SP (X : Cx) (pins : List (Addr × Obj)) (D : Ends) (f : Flow) (s' : Shared) : Prop :=
  match f with
  | .next => ∃ σ' H', Inv X pins σ' H' s' ∧ D.nx σ' H'
  | .brk => ∃ σ' H', Inv X pins σ' H' s' ∧ D.bk σ' H'
  | .cont => ∃ σ' H', Inv X pins σ' H' s' ∧ D.ct σ' H'
  | .ret u => ∃ v σ' H', Inv X pins σ' H' s' ∧ RelV v u ∧ D.rt v H'
def PE (X : Cx) (e : Expr) (t : TE) : Prop :=
  ∀ (pins : List (Addr × Obj)) (s : Shared) (σ : St) (H : Hp) (Q : VK), Inv X pins σ H s → t σ H Q → wpAny (model X.prog X.w) X.A (eval e X.env) (EP X pins σ Q) X.xe s
def PT (X : Cx) (e : Expr) (t : TT) : Prop :=
  ∀ (pins : List (Addr × Obj)) (s : Shared) (σ : St) (H : Hp) (Q : Bool → Hp → Prop), Inv X pins σ H s → t σ H Q → wpAny (model X.prog X.w) X.A (isTrue e X.env (eval e X.env)) (TP X pins σ Q) X.xe s
def PW (X : Cx) (e : Expr) (t : TT) : Prop :=
  ∀ (whole : Sem Value) (pins : List (Addr × Obj)) (s : Shared) (σ : St) (H : Hp) (Q : Bool → Hp → Prop), Inv X pins σ H s → t σ H Q → wpAny (model X.prog X.w) X.A (isTrue e X.env whole) (TP X pins σ Q) X.xe s
theorem PW.pt {X : Cx} {e : Expr} {t : TT} (h : PW X e t) : PT X e t := h _
def PA (X : Cx) (es : List Expr) (t : TA) : Prop :=
  ∀ (pos : Pos) (pins : List (Addr × Obj)) (s : Shared) (σ : St) (H : Hp) (Q : List V → Hp → Prop), Inv X pins σ H s → t σ H Q → wpAny (model X.prog X.w) X.A (spliced (backTo pos (starEach es X.env))) (AP X pins σ Q) X.xe s
def PS (X : Cx) (st : Stmt) (t : TS) : Prop :=
  ∀ (pins : List (Addr × Obj)) (s : Shared) (σ : St) (H : Hp) (D : Ends), Inv X pins σ H s → t D σ H → wpAny (model X.prog X.w) X.A (exec st X.env) (SP X pins D) X.xe s
def PSs (X : Cx) (st : List Stmt) (t : TS) : Prop :=
  ∀ (pins : List (Addr × Obj)) (s : Shared) (σ : St) (H : Hp) (D : Ends), Inv X pins σ H s → t D σ H → wpAny (model X.prog X.w) X.A (execs st X.env) (SP X pins D) X.xe s
theorem thn {α : Type} {t : Sem α} {Q Q' : α → Shared → Prop} {M : Model} {A : Around} {E : Value → Shared → Prop} {s : Shared} (h : wpAny M A t Q E s) (hQ : ∀ a s, Q a s → Q' a s) : wpAny M A t Q' E s := wpAny_mono h hQ fun _ _ x => x
end L2
namespace L2
open PySem PySem.Spec PyProof.Rows
section
variable {X : Cx}
theorem bin {a b : Expr} {ta tb : TE} (ha : PE X a ta) (hb : PE X b tb) {pins : List (Addr × Obj)} {s : Shared} {σ : St} {H : Hp} {R : V → V → Hp → Prop} (I : Inv X pins σ H s) (h : ta σ H fun x H1 => tb σ H1 fun y H2 => R x y H2)
    {α : Type} {Q : α → Shared → Prop} {f : Value → Value → Sem α}
    (hf : ∀ v u s2 x y H2, Inv X pins σ H2 s2 → RelV x v → RelV y u → R x y H2 → wpAny (model X.prog X.w) X.A (f v u) Q X.xe s2) :
    wpAny (model X.prog X.w) X.A (eval a X.env) (fun v s₁ => wpAny (model X.prog X.w) X.A (eval b X.env) (fun u s₂ => wpAny (model X.prog X.w) X.A (f v u) Q X.xe s₂) X.xe s₁) X.xe s := by
  refine thn (ha pins s σ H _ I h) fun v s1 ⟨x, H1, I1, r1, q1⟩ => ?_
  refine thn (hb pins s1 σ H1 _ I1 q1) fun u s2 ⟨y, H2, I2, r2, q2⟩ => ?_
  exact hf v u s2 x y H2 I2 r1 r2 q2
def tVar (i : Nat) : TE := fun σ H Q => ∃ v, σ[i]? = some (some v) ∧ Q v H
def tC (v : V) : TE := fun _ H Q => Q v H
theorem pe_var {i : Nat} {x : Str} {pos : Pos} (hN : X.N[i]? = some x) (hv : Vis X.env.scope x) (hd : (x == ("__debug__" : Str)) = false := by decide) (hcd : (x == ("__classdict__" : Str)) = false := by decide) : PE X (.Name x pos) (tVar i) := by
  intro pins s σ H Q I h
  obtain ⟨v, e, h⟩ := h
  obtain ⟨m, hn, hl⟩ := I.loc
  obtain ⟨u, r, l⟩ := hl i x v hN e hv
  have fin : EP X pins σ Q u s := ⟨v, H, I, r, h⟩
  rcases l with ⟨hk, hm⟩ | ⟨hk, c, hc, hcell⟩
  · exact wpAny_Name (wpAny_loadName_local I.ok.kind hk hn hm fin) hd
  · rcases hk with hk | hk
    · exact wpAny_Name (wpAny_loadName_cell I.ok.kind hk hc hcell fin) hd
    · exact wpAny_Name (wpAny_loadName_free I.ok.kind hk hc hcell fin hcd) hd
theorem pe_int {i j pos} : PE X (.Constant (.int i) j pos) (tC (.int i)) := fun _ _ _ H _ I h => wpAny_Constant_int ⟨.int i, H, I.tok _, ⟨_, rfl⟩, h⟩
theorem pe_bl {b j pos} : PE X (.Constant (.bool b) j pos) (tC (.bl b)) := fun _ _ _ H _ I h => Constant_bool ⟨.bl b, H, I, rfl, h⟩
theorem pe_non {j pos} : PE X (.Constant .none j pos) (tC .non) := fun _ _ _ H _ I h => Constant_none ⟨.non, H, I, rfl, h⟩
theorem pe_str {x j pos} : PE X (.Constant (.str x) j pos) (tC (.str x)) := fun _ _ _ H _ I h => Calls.Constant_str ⟨.str x, H, I.tok _, ⟨_, rfl⟩, h⟩
def Gl (X : Cx) (x : Str) : Prop := X.env.kindOf x = some .globalImplicit
theorem ld_glob {E : Value → Shared → Prop} {pins : List (Addr × Obj)} {s : Shared} {σ : St} {H : Hp} {x : Str} {u : Value} {pos : Pos} {Q : Value → Shared → Prop} (I : Inv X pins σ H s) (hg : Gl X x) (hm : X.mg x = some u) (h : Q u s)
    (hd : (x == ("__debug__" : Str)) = false := by decide) : wpAny (model X.prog X.w) X.A (eval (.Name x pos) X.env) Q E s :=
  Calls.Name_function_global I.ok.kind hg (Calls.loadGlobal_global (by rw [I.ok.glob]; exact I.mod.glob.keeps I.bk) hm h) hd
theorem ld_blt {E : Value → Shared → Prop} {pins : List (Addr × Obj)} {s : Shared} {σ : St} {H : Hp} {x : Str} {u : Value} {pos : Pos} {Q : Value → Shared → Prop} (I : Inv X pins σ H s) (hg : Gl X x) (hm : X.mg x = none) (hv : bootBuiltins x = some u) (h : Q u s)
    (hn : x ≠ "__name__" := by decide) (hd : (x == ("__debug__" : Str)) = false := by decide) : wpAny (model X.prog X.w) X.A (eval (.Name x pos) X.env) Q E s := by
  obtain ⟨mb, h1, h2⟩ := I.mod.blt
  exact Calls.Name_function_global I.ok.kind hg (Calls.loadGlobal_builtin (by rw [I.ok.glob]; exact I.mod.glob.keeps I.bk) hm (by rw [I.ok.blt]; exact h1.keeps I.bk) ((h2 x hn).trans hv) h) hd
theorem pe_glob {x : Str} {v : V} {u : Value} {pos : Pos} (hg : Gl X x) (hm : X.mg x = some u) (r : RelV v u) (hd : (x == ("__debug__" : Str)) = false := by decide) : PE X (.Name x pos) (tC v) :=
  fun _ _ _ H _ I h => ld_glob I hg hm ⟨v, H, I, r, h⟩ hd
theorem pe_bltn {x : Str} {v : V} {u : Value} {pos : Pos} (hg : Gl X x) (hm : X.mg x = none) (hv : bootBuiltins x = some u) (r : RelV v u) (hn : x ≠ "__name__" := by decide) (hd : (x == ("__debug__" : Str)) = false := by decide) : PE X (.Name x pos) (tC v) :=
  fun _ _ _ H _ I h => ld_blt I hg hm hv ⟨v, H, I, r, h⟩ hn hd
variable {a b : Expr} {ta tb : TE} {pos : Pos}
def PC (X : Cx) (op : CmpOp) (a b : Expr) (t : TE) : Prop :=
  ∀ (pins : List (Addr × Obj)) (s : Shared) (σ : St) (H : Hp) (Q : VK), Inv X pins σ H s → t σ H Q →
    wpAny (model X.prog X.w) X.A (eval a X.env) (fun v s₁ => wpAny (model X.prog X.w) X.A (eval b X.env) (fun u s₂ => wpAny (model X.prog X.w) X.A (compareOp op v u) (EP X pins σ Q) X.xe s₂) X.xe s₁) X.xe s
def tB (t : TE) : TT := fun σ H Q => t σ H fun x H1 => ∃ c, x = .bl c ∧ Q c H1
theorem pt_cmp {op : CmpOp} {t : TE} (h : PC X op a b t) (h1 : behindInMarks op b = false := by first | exact nobehind _ (by decide) (by decide) | rfl) : PT X (.Compare a [op] [b] pos) (tB t) := by
  intro pins s σ H Q I hw
  refine wpAny_isTrue_Compare1 (thn (h pins s σ H _ I hw) fun v s1 h1 => thn h1 fun u s2 h2 => thn h2 fun c s3 ⟨x, H1, I1, r1, q1⟩ => ?_) h1
  obtain ⟨d, rfl, q⟩ := q1
  cases r1
  exact wpAny_truthy_bool ⟨H1, I1, q⟩
variable {tA tB' : TT} {rest : List Expr}
def tAnd (t u : TT) : TT := fun σ H Q => t σ H fun c H1 => if c = true then u σ H1 Q else Q false H1
def tOr (t u : TT) : TT := fun σ H Q => t σ H fun c H1 => if c = true then Q true H1 else u σ H1 Q
def tNot (t : TT) : TT := fun σ H Q => t σ H fun c H1 => Q (!c) H1
theorem pw_and1 (ha : PT X a tA) : PW X (.BoolOp .And [a] pos) tA := by
  intro wh pins s σ H Q I h
  refine isTrue_and (thn (ha pins s σ H Q I h) fun c s1 e => ?_)
  cases c with
  | true => exact isTrue_and_nil e
  | false => exact e
theorem pw_or1 (ha : PT X a tA) : PW X (.BoolOp .Or [a] pos) tA := by
  intro wh pins s σ H Q I h
  refine isTrue_or (thn (ha pins s σ H Q I h) fun c s1 e => ?_)
  cases c with
  | false => exact isTrue_or_nil e
  | true => exact e
theorem pw_and (ha : PT X a tA) (hb : PW X (.BoolOp .And (b :: rest) pos) tB') : PW X (.BoolOp .And (a :: b :: rest) pos) (tAnd tA tB') := by
  intro wh pins s σ H Q I h
  refine isTrue_and (thn (ha pins s σ H _ I h) fun c s1 ⟨H1, I1, q1⟩ => ?_)
  cases c with
  | true => exact hb wh pins s1 σ H1 Q I1 q1
  | false => exact ⟨H1, I1, q1⟩
theorem pw_or (ha : PT X a tA) (hb : PW X (.BoolOp .Or (b :: rest) pos) tB') : PW X (.BoolOp .Or (a :: b :: rest) pos) (tOr tA tB') := by
  intro wh pins s σ H Q I h
  refine isTrue_or (thn (ha pins s σ H _ I h) fun c s1 ⟨H1, I1, q1⟩ => ?_)
  cases c with
  | true => exact ⟨H1, I1, q1⟩
  | false => exact hb wh pins s1 σ H1 Q I1 q1
theorem pt_not (ha : PT X a tA) : PT X (.UnaryOp .Not a pos) (tNot tA) := by
  intro pins s σ H Q I h
  exact isTrue_not (ha pins s σ H (fun c H1 => Q (!c) H1) I h)
def tAndV (ta tb : TE) : TE := fun σ H Q => ta σ H fun x H1 => ∃ c, x = .bl c ∧ if c = true then tb σ H1 Q else Q (.bl false) H1
def tNotV (ta : TE) : TE := fun σ H Q => ta σ H fun x H1 => ∃ c, x = .bl c ∧ Q (.bl (!c)) H1
theorem pe_one {op} {t : TE} (h : PE X a t) : PE X (.BoolOp op [a] pos) t := fun pins s σ H Q I hw => BoolOp_one (h pins s σ H Q I hw)
theorem pe_and (ha : PE X a ta) (hb : PE X (.BoolOp .And (b :: rest) pos) tb) : PE X (.BoolOp .And (a :: b :: rest) pos) (tAndV ta tb) := by
  intro pins s σ H Q I h
  refine BoolOp_and (thn (ha pins s σ H _ I h) fun v s1 ⟨x, H1, I1, r1, q1⟩ => ?_)
  obtain ⟨c, rfl, q1⟩ := q1
  cases r1
  refine wpAny_truthy_bool ?_
  cases c with
  | true => exact hb pins s1 σ H1 Q I1 q1
  | false => exact ⟨.bl false, H1, I1, rfl, q1⟩
theorem pe_not (ha : PE X a ta) : PE X (.UnaryOp .Not a pos) (tNotV ta) := by
  intro pins s σ H Q I h
  refine UnaryOp_ (thn (ha pins s σ H _ I h) fun v s1 ⟨x, H1, I1, r1, q1⟩ => ?_)
  obtain ⟨c, rfl, q1⟩ := q1
  cases r1
  exact not_of (wpAny_truthy_bool ⟨.bl (!c), H1, I1, rfl, q1⟩)
end
end L2
namespace L2
open PySem PySem.Spec PyProof.Rows
def SqL (K : PySem.W.Frag) (H : Hp) (a : Addr) (xs : List V) : Prop :=
  Rd H a (.lst xs) ∨
    ∃ (o : Obj) (its : Array Value) (n : Nat), K.lookup a = some o ∧ o.cls = .type "list" ∧ o.dict = none ∧ o.data = .seq its n ∧ its.size ≤ sizeLine ∧ Vals xs its.toList
def SqT (K : PySem.W.Frag) (H : Hp) (a : Addr) (xs : List V) : Prop :=
  Rd H a (.tup xs) ∨
    ∃ (o : Obj) (its : Array Value) (n : Nat), K.lookup a = some o ∧ o.cls = .type "tuple" ∧ o.data = .seq its n ∧ its.size ≤ sizeLine ∧ Vals xs its.toList
def absV : Value → Option V
  | .none => some .non
  | .bool b => some (.bl b)
  | .int i _ => some (.int i)
  | .str x _ => some (.str x)
  | .bytes b _ => some (.byt b)
  | .float b _ => some (.flt b)
  | .ref a => some (.ref a)
  | .type n => some (.ty n)
  | _ => none
theorem RelV.abs {x : V} {u : Value} (r : RelV x u) : absV u = some x := by
  cases x with
  | non => cases r; rfl
  | bl _ => cases r; rfl
  | int _ => obtain ⟨t, rfl⟩ := r; rfl
  | str _ => obtain ⟨t, rfl⟩ := r; rfl
  | byt _ => obtain ⟨t, rfl⟩ := r; rfl
  | flt _ => obtain ⟨t, rfl⟩ := r; rfl
  | ref _ => cases r; rfl
  | ty _ => cases r; rfl
theorem RelV.inj {x y : V} {u : Value} (r : RelV x u) (q : RelV y u) : x = y := Option.some.inj (r.abs.symm.trans q.abs)
theorem Vals.inj : ∀ {xs ys : List V} {us : List Value}, Vals xs us → Vals ys us → xs = ys
  | _, _, _, .nil, .nil => rfl
  | _, _, _, .cons r t, .cons r' t' => by rw [r.inj r', Vals.inj t t']
section
variable {X : Cx} {pins : List (Addr × Obj)} {σ : St} {H : Hp} {s : Shared} {a : Addr} {xs ys : List V}
theorem SqL.of {K : PySem.W.Frag} (h : H a = some (.lst xs)) : SqL K H a xs := .inl (.inl h)
theorem SqT.of {K : PySem.W.Frag} (h : H a = some (.tup xs)) : SqT K H a xs := .inl (.inl h)
theorem Inv.list (I : Inv X pins σ H s) (h : SqL X.K H a xs) : ∃ its : List Value, Vals xs its ∧ PlainL s.heap a its.toArray ∧ xs.length ≤ sizeLine := by
  rcases h with h | ⟨o, its, n, hk, hc, hd, hs, hz, r⟩
  · obtain ⟨z, its, n, r, e⟩ := h.ok I.hok
    exact ⟨its, r, ⟨_, n, e, rfl, rfl, rfl⟩, z⟩
  · refine ⟨its.toList, r, ⟨o, n, I.kIn a o hk, hc, hd, by simpa using hs⟩, ?_⟩
    have e := r.length
    simp only [Array.length_toList] at e
    omega
theorem Inv.tuple (I : Inv X pins σ H s) (h : SqT X.K H a xs) : ∃ its : List Value, Vals xs its ∧ IsTup s.heap a its.toArray ∧ xs.length ≤ sizeLine := by
  rcases h with h | ⟨o, its, n, hk, hc, hs, hz, r⟩
  · obtain ⟨z, its, r, p⟩ := h.ok I.hok
    exact ⟨its, r, p, z⟩
  · refine ⟨its.toList, r, ⟨o, I.kIn a o hk, hc, n, by simpa using hs⟩, ?_⟩
    have e := r.length
    simp only [Array.length_toList] at e
    omega
theorem Inv.list_inj (I : Inv X pins σ H s) (h : SqL X.K H a xs) (h' : SqL X.K H a ys) : xs = ys := by
  obtain ⟨its, r, ⟨o, n, e, _, _, d⟩, _⟩ := I.list h
  obtain ⟨its', r', ⟨o', n', e', _, _, d'⟩, _⟩ := I.list h'
  rw [e] at e'; cases e'
  rw [d] at d'
  injection d' with d1 _
  have : its = its' := by simpa using congrArg Array.toList d1
  subst this
  exact r.inj r'
theorem Inv.tuple_inj (I : Inv X pins σ H s) (h : SqT X.K H a xs) (h' : SqT X.K H a ys) : xs = ys := by
  obtain ⟨its, r, ⟨o, e, _, n, d⟩, _⟩ := I.tuple h
  obtain ⟨its', r', ⟨o', e', _, n', d'⟩, _⟩ := I.tuple h'
  rw [e] at e'; cases e'
  rw [d] at d'
  injection d' with d1 _
  have : its = its' := by simpa using congrArg Array.toList d1
  subst this
  exact r.inj r'
end
abbrev Cx.wish (X : Cx) (E : Value → Shared → Prop) : Cx := { X with xe := E }
abbrev Cx.nox (X : Cx) : Cx := X.wish fun _ _ => False
theorem Cx.Ok.wish {X : Cx} (ok : X.Ok) (E : Value → Shared → Prop) : (X.wish E).Ok :=
  ⟨ok.mod, ok.kind, ok.glob, ok.blt, ok.above, ok.inj, ok.has, ok.cab, ok.hd, ok.frames, ok.stk, ok.exf, ok.bs, ok.bsz, ok.noex, ok.exfs, ok.funs, ok.frf⟩
theorem Cx.Ok.unwish {X : Cx} {E : Value → Shared → Prop} (ok : (X.wish E).Ok) : X.Ok :=
  ⟨ok.mod, ok.kind, ok.glob, ok.blt, ok.above, ok.inj, ok.has, ok.cab, ok.hd, ok.frames, ok.stk, ok.exf, ok.bs, ok.bsz, ok.noex, ok.exfs, ok.funs, ok.frf⟩
section
variable {X : Cx} {pins : List (Addr × Obj)} {σ : St} {H : Hp} {s : Shared} {E : Value → Shared → Prop}
theorem Inv.wish (I : Inv X pins σ H s) (E : Value → Shared → Prop) : Inv (X.wish E) pins σ H s := ⟨I.ok.wish E, I.os, I.bare, I.base, I.loc, I.cell, I.free, I.freeC, I.pin, I.hok, I.len⟩
theorem Inv.unwish (I : Inv (X.wish E) pins σ H s) : Inv X pins σ H s := ⟨I.ok.unwish, I.os, I.bare, I.base, I.loc, I.cell, I.free, I.freeC, I.pin, I.hok, I.len⟩
theorem SP.unwish {D : Ends} {f : Flow} {s' : Shared} (h : SP (X.wish E) pins D f s') : SP X pins D f s' := by
  cases f with
  | next => obtain ⟨σ', H', I, q⟩ := h; exact ⟨σ', H', I.unwish, q⟩
  | brk => obtain ⟨σ', H', I, q⟩ := h; exact ⟨σ', H', I.unwish, q⟩
  | cont => obtain ⟨σ', H', I, q⟩ := h; exact ⟨σ', H', I.unwish, q⟩
  | ret u => obtain ⟨v, σ', H', I, r, q⟩ := h; exact ⟨v, σ', H', I.unwish, r, q⟩
theorem PSs.nox {st : List Stmt} {t : TS} (h : PSs X.nox st t) : PSs X st t := fun pins s σ H D I hw =>
  wpAny_mono (h pins s σ H D (I.wish _) hw) (fun _ _ q => q.unwish) fun _ _ z => False.elim z
end
section
variable {X : Cx} {st : Stmt} {rest : List Stmt} {t u : TS} {e : Expr} {te : TE} {pos : Pos}
def tNext : TS := fun D σ H => D.nx σ H
def tSeq (t u : TS) : TS := fun D σ H => t { D with nx := u D } σ H
theorem pss_nil : PSs X [] tNext := fun _ _ σ H _ I h => wpAny_execs_nil ⟨σ, H, I, h⟩
theorem pss_cons (h1 : PS X st t) (h2 : PSs X rest u) : PSs X (st :: rest) (tSeq t u) := by
  intro pins s σ H D I h
  refine wpAny_execs_cons (thn (h1 pins s σ H { D with nx := u D } I h) fun f s1 q => ?_)
  cases f with
  | next =>
    obtain ⟨σ', H', I', q⟩ := q
    exact h2 pins s1 σ' H' D I' q
  | ret v => exact q
  | brk => exact q
  | cont => exact q
theorem pss_one (h1 : PS X st t) : PSs X [st] t := by
  intro pins s σ H D I h
  refine wpAny_execs_cons (thn (h1 pins s σ H D I h) fun f s1 q => ?_)
  cases f with
  | next => exact wpAny_execs_nil q
  | ret v => exact q
  | brk => exact q
  | cont => exact q
theorem Inv.quiet {pins : List (Addr × Obj)} {σ : St} {H : Hp} {s : Shared} (I : Inv X pins σ H s) : interactive X.env = false := by simp [interactive, I.ok.kind]
def tDrop (te : TE) : TS := fun D σ H => te σ H fun _ H1 => D.nx σ H1
theorem ps_expr (he : PE X e te) (hs : swapsWith e none pos.line X.env = pure false := by rfl) : PS X (.Expr e pos) (tDrop te) := by
  intro pins s σ H D I h
  exact wpAny_Expr_any (thn (he pins s σ H _ I h) fun v s1 ⟨x, H1, I1, r1, q1⟩ => ⟨σ, H1, I1, q1⟩) I.quiet hs
def tRet (te : TE) : TS := fun D σ H => te σ H D.rt
theorem ps_ret (he : PE X e te) : PS X (.Return (some e) pos) (tRet te) := by
  intro pins s σ H D I h
  exact wpAny_Return_some (thn (he pins s σ H _ I h) fun v s1 ⟨x, H1, I1, r1, q1⟩ => ⟨x, σ, H1, I1, r1, q1⟩)
def tIfS (c : TT) (t u : TS) : TS := fun D σ H => c σ H fun b H1 => if b = true then t D σ H1 else u D σ H1
theorem ps_if {c : Expr} {a b : List Stmt} {tc : TT} (hc : PT X c tc) (ha : PSs X a t) (hb : PSs X b u) : PS X (.If c a b pos) (tIfS tc t u) := by
  intro pins s σ H D I h
  refine wpAny_If (thn (hc pins s σ H _ I h) fun d s1 ⟨H1, I1, q1⟩ => ?_)
  cases d with
  | true => exact ha pins s1 σ H1 D I1 q1
  | false => exact hb pins s1 σ H1 D I1 q1
def tNever : TS := fun _ _ _ => False
theorem ps_never : PS X st tNever := fun _ _ _ _ _ _ h => h.elim
end
abbrev TG := V → St → Hp → (St → Hp → Prop) → Prop
abbrev TGs := List V → St → Hp → (St → Hp → Prop) → Prop
def PG (X : Cx) (target : Expr) (t : TG) : Prop :=
  ∀ (pins : List (Addr × Obj)) (s : Shared) (σ : St) (H : Hp) (v : V) (u : Value) (Q : St → Hp → Prop), Inv X pins σ H s → RelV v u → t v σ H Q →
    wpAny (model X.prog X.w) X.A (assign target X.env u) (fun _ s' => ∃ σ' H', Inv X pins σ' H' s' ∧ Q σ' H') X.xe s
def PGs (X : Cx) (ts : List Expr) (t : TGs) : Prop :=
  ∀ (pins : List (Addr × Obj)) (s : Shared) (σ : St) (H : Hp) (vs : List V) (us : List Value) (Q : St → Hp → Prop), Inv X pins σ H s → Vals vs us → t vs σ H Q →
    wpAny (model X.prog X.w) X.A (assignInOrder ((assignEach ts X.env).map (·.2)) us) (fun _ s' => ∃ σ' H', Inv X pins σ' H' s' ∧ Q σ' H') X.xe s
abbrev TSet := V → V → V → Hp → (Hp → Prop) → Prop
def PSet (X : Cx) (t : TSet) : Prop :=
  ∀ (pins : List (Addr × Obj)) (s : Shared) (σ : St) (H : Hp) (o i v : V) (ov iv u : Value) (Q : Hp → Prop), Inv X pins σ H s → RelV o ov → RelV i iv → RelV v u → t o i v H Q →
    wpAny (model X.prog X.w) X.A (setItem ov iv u) (fun _ s' => ∃ H', Inv X pins σ H' s' ∧ Q H') X.xe s
section
variable {X : Cx} {pos : Pos}
def gName (i : Nat) : TG := fun v σ H Q => Q (σ.set i (some v)) H
theorem pg_name {i : Nat} {x : Str} (hN : X.N.Nodup) (hi : X.N[i]? = some x) (hx : Loc X.env.scope x) (hf : X.fn x = true ∨ X.env.scope.names.lookup x = some .local := by first | exact .inl rfl | exact .inr rfl | assumption) : PG X (.Name x pos) (gName i) := by
  intro pins s σ H v u Q I r h
  exact wpAny_assign_Name (store_ok I hN hi hx r (fun s' I' => ⟨_, H, I', h⟩) hf)
def gNil : TGs := fun vs σ H Q => vs = [] ∧ Q σ H
def gCons (t : TG) (u : TGs) : TGs := fun vs σ H Q => ∃ v r, vs = v :: r ∧ t v σ H fun σ' H' => u r σ' H' Q
theorem pgs_nil : PGs X [] gNil := by
  intro pins s σ H vs us Q I r h
  obtain ⟨e, h⟩ := h
  subst e
  cases r
  exact assignInOrder_nil ⟨σ, H, I, h⟩
theorem pgs_cons {e : Expr} {es : List Expr} {t : TG} {u : TGs} (h1 : PG X e t) (h2 : PGs X es u)
    (hs : (assignEach (e :: es) X.env).map (·.2) = assign e X.env :: (assignEach es X.env).map (·.2) := by rfl) : PGs X (e :: es) (gCons t u) := by
  intro pins s σ H vs us Q I r h
  obtain ⟨v, vr, e1, h⟩ := h
  subst e1
  cases r with
  | cons r rr =>
    rw [hs]
    refine assignInOrder_cons (thn (h1 pins s σ H _ _ _ I r h) fun _ s1 ⟨σ1, H1, I1, q1⟩ => ?_)
    exact h2 pins s1 σ1 H1 _ _ Q I1 rr q1
def gTup (K : PySem.W.Frag) (n : Nat) (t : TGs) : TG := fun v σ H Q => ∃ a xs, v = .ref a ∧ SqT K H a xs ∧ xs.length = n ∧ t xs σ H Q
theorem pg_tup {es : List Expr} {k : Nat} {t : TGs} {n : Nat} (hc : X.calm = true) (h : PGs X es t)
    (hn : (assignEach es X.env).length = n := by rfl) (hst : (assignEach es X.env).findIdx? (·.1) = none := by rfl) : PG X (.Tuple es k pos) (gTup X.K n t) := by
  intro pins s σ H v u Q I r hw
  obtain ⟨a, xs, e1, hq, hl, hw⟩ := hw
  subst e1
  cases r
  obtain ⟨its, rv, ht, hz⟩ := I.tuple hq
  refine assign_Tuple_tuple (I.ok.hd hc) ht (by simp [hn, ← hl, rv.length]) hst fun h' hx => ?_
  have I1 : Inv X pins σ H { s with heap := h' } := I.kept (t' := s.toks) fun b o e => hx b o (Nat.ne_of_lt (Heap.lt_size e)) e
  exact h pins _ σ H xs _ Q I1 (by simpa using rv) hw
def gSub (to ti : TE) (t : TSet) : TG := fun v σ H Q => to σ H fun o H1 => ti σ H1 fun i H2 => t o i v H2 fun H3 => Q σ H3
theorem pg_sub {o i : Expr} {to ti : TE} {t : TSet} (ho : PE X o to) (hi : PE X i ti) (hs : PSet X t)
    (ha : ∀ v, assign (.Subscript o i pos) X.env v = (do
      let ov ← holding [v] (eval o X.env)
      let iv ← holding [v, ov] (eval i X.env)
      standAt pos
      holding [v, ov, iv] (setItem ov iv v)
      release [v, ov, iv] []) := by intro _; rfl) : PG X (.Subscript o i pos) (gSub to ti t) := by
  intro pins s σ H v u Q I r h
  rw [ha]
  refine wpAny_bind (wpAny_holding (thn (ho pins s σ H _ I h) fun ov s1 ⟨x, H1, I1, r1, q1⟩ => ?_))
  refine wpAny_bind (wpAny_holding (thn (hi pins s1 σ H1 _ I1 q1) fun iv s2 ⟨y, H2, I2, r2, q2⟩ => ?_))
  refine wpAny_bind (wpAny_standAt (wpAny_bind (wpAny_holding (thn (hs pins s2 σ H2 x y v ov iv u _ I2 r1 r2 r q2) fun _ s3 ⟨H3, I3, q3⟩ => ?_))))
  exact wpAny_release ⟨σ, H3, I3, q3⟩
def tAsg (te : TE) (g : TG) : TS := fun D σ H => te σ H fun x H1 => g x σ H1 D.nx
theorem ps_asg {tg e : Expr} {te : TE} {g : TG} (he : PE X e te) (hg : PG X tg g) (hs : swapsWithSole [tg] e pos.line X.env = pure false := by rfl) (hw : swappedStores [tg] e X.env = pure none := by rfl)
    (h1 : (assignEach [tg] X.env).map (·.2) = [assign tg X.env] := by rfl) : PS X (.Assign [tg] e pos) (tAsg te g) := by
  intro pins s σ H D I h
  refine wpAny_Assign_stores (thn (he pins s σ H _ I h) fun v s1 ⟨x, H1, I1, r1, q1⟩ => ?_) hs hw
  rw [h1]
  exact thn (hg pins s1 σ H1 x v _ I1 r1 q1) fun _ s2 q => q
theorem ps_set {i : Nat} {x : Str} {e : Expr} {te : TE} {pos' : Pos} (hN : X.N.Nodup) (hi : X.N[i]? = some x) (hx : Loc X.env.scope x) (he : PE X e te) (hs : swapsWith e (some (.Name x pos')) pos.line X.env = pure false := by rfl) (hf : X.fn x = true ∨ X.env.scope.names.lookup x = some .local := by first | exact .inl rfl | exact .inr rfl | assumption) :
    PS X (.Assign [.Name x pos'] e pos) (tAsg te (gName i)) := by
  intro pins s σ H D I h
  refine wpAny_Assign_Name (thn (he pins s σ H _ I h) fun v s1 ⟨y, H1, I1, r1, q1⟩ => ?_) hs
  exact store_ok I1 hN hi hx r1 (fun s2 I2 => ⟨_, H1, I2, q1⟩) hf
end
section
variable {X : Cx} {pos : Pos}
def tWhile (c : TT) (tb : TS) : TS := fun D σ H => ∃ W : Nat → St → Hp → Prop, (∃ m, W m σ H) ∧ ∀ m σ H, W m σ H →
  c σ H fun b H1 => if b = true then ∃ N : St → Hp → Prop, (∀ σ' H', N σ' H' → ∃ m', m' < m ∧ W m' σ' H') ∧ tb { D with nx := N, ct := N, bk := D.nx } σ H1 else D.nx σ H1
theorem ps_while {c : Expr} {body : List Stmt} {tc : TT} {tb : TS} (hp : PassesOwn (model X.prog X.w) X.A X.env X.xe) (hc : PT X c tc) (hb : PSs X body tb) : PS X (.While c body [] pos) (tWhile tc tb) := by
  intro pins s σ H D I h
  obtain ⟨W, ⟨m0, w0⟩, turn⟩ := h
  refine wpAny_While (codeAny_whileLoop (fun n s' => ∃ σ' H', Inv X pins σ' H' s' ∧ W n σ' H') ?_ m0 ⟨σ, H, I, w0⟩)
  rintro n s1 ⟨σ1, H1, I1, w1⟩
  refine wpAny_passesOwn hp (thn (hc pins s1 σ1 H1 _ I1 (turn n σ1 H1 w1)) fun b s2 ⟨H2, I2, q2⟩ => ?_)
  cases b with
  | true =>
    obtain ⟨N, hN, q2⟩ := q2
    rw [if_pos rfl]
    refine wpAny_passesOwn hp (thn (hb pins s2 σ1 H2 _ I2 q2) fun f s3 q3 => ?_)
    cases f with
    | next =>
      obtain ⟨σ3, H3, I3, n3⟩ := q3
      obtain ⟨m', hm, w3⟩ := hN σ3 H3 n3
      exact ⟨m', hm, σ3, H3, I3, w3⟩
    | cont =>
      obtain ⟨σ3, H3, I3, n3⟩ := q3
      obtain ⟨m', hm, w3⟩ := hN σ3 H3 n3
      exact ⟨m', hm, σ3, H3, I3, w3⟩
    | brk => exact q3
    | ret v => exact q3
  | false =>
    rw [if_neg Bool.false_ne_true]
    exact wpAny_execs_nil ⟨σ1, H2, I2, q2⟩
end
structure It where
  go : Nat → Hp → Prop
  yld : Nat → Hp → V → Hp → Prop
  stop : Nat → Hp → Prop
def FpOk (X : Cx) (pins : List (Addr × Obj)) (H : Hp) (b : Addr) : Prop :=
  H b = none ∧ b ≠ X.env.locals ∧ b ∉ X.fs ∧ (b ∈ X.ex ∨ X.s₀.heap.objs.size ≤ b) ∧ (∀ x c, X.env.cells.lookup x = some c → c ≠ b) ∧ ∀ p ∈ X.pn ++ pins, p.1 ≠ b
theorem Inv.fpOk {X : Cx} {pins : List (Addr × Obj)} {σ : St} {H H' : Hp} {s : Shared} {b : Addr} (I : Inv X pins σ H s) (hb : s.heap.objs.size ≤ b) (hn : H' b = none) : FpOk X pins H' b := by
  refine ⟨hn, Nat.ne_of_gt (Nat.lt_of_lt_of_le I.lt hb), I.nofs hb, .inr (Nat.le_trans I.sz hb), fun x c e z => ?_, fun p hp z => ?_⟩
  · obtain ⟨v, q⟩ := I.cell x c e
    exact absurd (Nat.lt_of_lt_of_le q.lt (by rw [z]; exact hb)) (Nat.lt_irrefl _)
  · exact absurd (Nat.lt_of_lt_of_le (Heap.lt_size (I.pin p hp).1) (by rw [z]; exact hb)) (Nat.lt_irrefl _)
structure Turn (P : Program) (w : World) (K : PySem.W.Frag) (tg : Expr) (J : It) (fp : List Addr) (it : Addr) (tn : Nat → Heap → Prop) : Prop where
  mem : it ∈ fp
  obj : ∀ i h, tn i h → ∀ b ∈ fp, ∃ o, h.get? b = some o ∧ ∀ v, o.data ≠ .cell v
  keep : ∀ i h h', tn i h → (∀ b ∈ fp, ∀ o, h.get? b = some o → h'.get? b = some o) → tn i h'
  item : ∀ (X : Cx), X.prog = P → X.w = w → X.K = K → X.calm = true → ∀ (i : Nat) (pins : List (Addr × Obj)) (s : Shared) (σ : St) (H : Hp) (E : Value → Shared → Prop), Inv X pins σ H s → (∀ b ∈ fp, FpOk X pins H b) → tn i s.heap → J.go i H →
    wpAny (model P w) X.A (pyNext (.ref it)) (fun r s1 => ∃ u, r = some u ∧
      wpAny (model P w) X.A (letOwnedTupleGo tg (.ref it) u) (fun _ s2 => ∃ x H', Inv X pins σ H' s2 ∧ RelV x u ∧ J.yld i H x H' ∧ tn (i + 1) s2.heap ∧ ∀ b ∈ fp, H' b = none) E s1) E s
  done : ∀ (X : Cx), X.prog = P → X.w = w → X.K = K → X.calm = true → ∀ (i : Nat) (pins : List (Addr × Obj)) (s : Shared) (σ : St) (H : Hp) (E : Value → Shared → Prop), Inv X pins σ H s → (∀ b ∈ fp, FpOk X pins H b) → tn i s.heap → J.stop i H →
    wpAny (model P w) X.A (pyNext (.ref it)) (fun r s1 => r = none ∧ Inv X pins σ H s1) E s
  self : ∀ (A : Around) (i : Nat) (s : Shared) (Q : Value → Shared → Prop) (E : Value → Shared → Prop), tn i s.heap → Q (.ref it) s → wpAny (model P w) A (pyIter (.ref it)) Q E s
abbrev TI := St → Hp → (It → Hp → Prop) → Prop
def PIE (X : Cx) (pins : List (Addr × Obj)) (σ : St) (tg : Expr) (R : It → Hp → Prop) (itv : Value) (s2 : Shared) : Prop :=
  ∃ (it : Addr) (fp : List Addr) (tn : Nat → Heap → Prop) (J : It) (H' : Hp), itv = .ref it ∧ Inv X pins σ H' s2 ∧ Turn X.prog X.w X.K tg J fp it tn ∧ tn 0 s2.heap ∧ (∀ b ∈ fp, FpOk X pins H' b) ∧ R J H'
def PI (X : Cx) (tg iter : Expr) (wi : TI) : Prop :=
  ∀ (pins : List (Addr × Obj)) (s : Shared) (σ : St) (H : Hp) (R : It → Hp → Prop), Inv X pins σ H s → wi σ H R →
    wpAny (model X.prog X.w) X.A (eval iter X.env) (fun v s1 => wpAny (model X.prog X.w) X.A (pyIter v) (PIE X pins σ tg R) X.xe s1) X.xe s
theorem go_of {M : Model} {A : Around} {E : Value → Shared → Prop} {s : Shared} {tg : Expr} {it : Addr} {u : Value} {o : Obj} {n : String} {vs : Array Value} {Q : Unit → Shared → Prop} (ho : s.heap.get? it = some o) (hc : o.cls = .type n) (hd : o.data = .fields vs)
    (hn : ["enumerate", "zip", "dict_itemiterator", "dict_reverseitemiterator", "odict_iterator", "itertools.zip_longest", "itertools.pairwise"].contains n = false) (hQ : Q () s) : wpAny M A (letOwnedTupleGo tg (.ref it) u) Q E s := by
  unfold letOwnedTupleGo
  cases tg <;> first
    | exact wpAny_pure hQ
    | (cases u <;> first
        | exact wpAny_pure hQ
        | (refine wpAny_bind (wpAny_load ho ?_)
           rw [hc, hd]
           show wpAny M A (if (["enumerate", "zip", "dict_itemiterator", "dict_reverseitemiterator", "odict_iterator", "itertools.zip_longest", "itertools.pairwise"].contains n && vs[0]? == some (rawInt _)) = true then _ else _) Q E s
           rw [if_neg (by intro h; rw [hn, Bool.false_and] at h; cases h)]
           exact wpAny_pure hQ))
def Itl (K : PySem.W.Frag) (a : Addr) : It :=
  ⟨fun i H => ∃ xs x, SqL K H a xs ∧ xs[i]? = some x, fun i H x H' => H' = H ∧ ∀ xs, SqL K H a xs → xs[i]? = some x, fun i H => ∃ xs, SqL K H a xs ∧ xs.length ≤ i⟩
def Itt (K : PySem.W.Frag) (a : Addr) : It :=
  ⟨fun i H => ∃ xs x, SqT K H a xs ∧ xs[i]? = some x, fun i H x H' => H' = H ∧ ∀ xs, SqT K H a xs → xs[i]? = some x, fun i H => ∃ xs, SqT K H a xs ∧ xs.length ≤ i⟩
def Itr (lo : Int) (n : Nat) : It := ⟨fun i _ => i < n, fun i H x H' => H' = H ∧ x = .int (lo + i), fun i _ => n ≤ i⟩
theorem turn_list {P : Program} {w : World} {K : PySem.W.Frag} {tg : Expr} (a it : Addr) : Turn P w K tg (Itl K a) [it] it (fun i h => h.IsListIter it a i) where
  mem := by simp
  obj := fun i h st b hb => by
    have e : b = it := by simpa using hb
    subst e
    obtain ⟨o, e, c, d⟩ := st
    exact ⟨o, e, fun v z => by rw [d] at z; cases z⟩
  keep := fun i h h' st k => st.at fun o e => k it (by simp) o e
  item := by
    intro X hP hw hK hc i pins s σ H E I hf st hg
    subst hP hw hK
    obtain ⟨xs, x, hq, hx⟩ := hg
    obtain ⟨its, rv, p, hz⟩ := I.list hq
    obtain ⟨u, hu, ru⟩ := rv.get hx
    obtain ⟨f0, f1, f2, f3, f4, f5⟩ := hf it (by simp)
    refine wpAny_pyNext_list_item st p.isList (x := u) (by simpa using hu) fun h' st' sb => ?_
    have I1 : Inv X pins σ H { s with heap := h' } := I.turned (t' := s.toks) (fun b o hb e => (sb.2 b hb).trans e) f0 f1 f3 f4 f5
    obtain ⟨o, e, c, d⟩ := id st'
    exact ⟨u, rfl, go_of (s := { s with heap := h' }) e c d (by decide) ⟨x, H, I1, ru, ⟨rfl, fun ys hy => by rw [I.list_inj hy hq]; exact hx⟩, st', fun b hb => (hf b hb).1⟩⟩
  done := by
    intro X hP hw hK hc i pins s σ H E I hf st hg
    subst hP hw hK
    obtain ⟨xs, hq, hx⟩ := hg
    obtain ⟨its, rv, p, hz⟩ := I.list hq
    obtain ⟨f0, f1, f2, f3, f4, f5⟩ := hf it (by simp)
    have hl := rv.length
    exact wpAny_pyNext_list_end (I.ok.hd hc) st p.isList (by simp; omega) fun h' eb => ⟨rfl, I.turned (t' := s.toks) (fun b o hb e => eb b o hb e) f0 f1 f3 f4 f5⟩
  self := fun _ _ _ _ _ st h => wpAny_pyIter_listiter st h
theorem turn_tuple {P : Program} {w : World} {K : PySem.W.Frag} {tg : Expr} (a it : Addr) : Turn P w K tg (Itt K a) [it] it (fun i h => h.IsTupleIter it a i) where
  mem := by simp
  obj := fun i h st b hb => by
    have e : b = it := by simpa using hb
    subst e
    obtain ⟨o, e, c, d⟩ := st
    exact ⟨o, e, fun v z => by rw [d] at z; cases z⟩
  keep := fun i h h' st k => st.at fun o e => k it (by simp) o e
  item := by
    intro X hP hw hK hc i pins s σ H E I hf st hg
    subst hP hw hK
    obtain ⟨xs, x, hq, hx⟩ := hg
    obtain ⟨its, rv, p, hz⟩ := I.tuple hq
    obtain ⟨u, hu, ru⟩ := rv.get hx
    obtain ⟨f0, f1, f2, f3, f4, f5⟩ := hf it (by simp)
    refine wpAny_pyNext_tuple_item st (show s.heap.IsTuple a its.toArray from p) (x := u) (by simpa using hu) fun h' st' sb => ?_
    have I1 : Inv X pins σ H { s with heap := h' } := I.turned (t' := s.toks) (fun b o hb e => (sb.2 b hb).trans e) f0 f1 f3 f4 f5
    obtain ⟨o, e, c, d⟩ := id st'
    exact ⟨u, rfl, go_of (s := { s with heap := h' }) e c d (by decide) ⟨x, H, I1, ru, ⟨rfl, fun ys hy => by rw [I.tuple_inj hy hq]; exact hx⟩, st', fun b hb => (hf b hb).1⟩⟩
  done := by
    intro X hP hw hK hc i pins s σ H E I hf st hg
    subst hP hw hK
    obtain ⟨xs, hq, hx⟩ := hg
    obtain ⟨its, rv, p, hz⟩ := I.tuple hq
    obtain ⟨f0, f1, f2, f3, f4, f5⟩ := hf it (by simp)
    have hl := rv.length
    exact wpAny_pyNext_tuple_end (I.ok.hd hc) st (show s.heap.IsTuple a its.toArray from p) (by simp; omega) fun h' eb => ⟨rfl, I.turned (t' := s.toks) (fun b o hb e => eb b o hb e) f0 f1 f3 f4 f5⟩
  self := fun _ _ _ _ _ st h => wpAny_pyIter_tupleiter st h
theorem turn_range {P : Program} {w : World} {K : PySem.W.Frag} {tg : Expr} (it : Addr) (lo : Int) (n : Nat) : Turn P w K tg (Itr lo n) [it] it (fun i h => IsRangeIter h it (lo + (i : Nat) * 1) ((n : Int) - (i : Nat)) 1) where
  mem := by simp
  obj := fun i h st b hb => by
    have e : b = it := by simpa using hb
    subst e
    exact ⟨_, st, fun v z => by
      have z' : Data.fields _ = Data.cell v := z
      cases z'⟩
  keep := fun i h h' st k => k it (by simp) _ st
  item := by
    intro X hP hw hK hc i pins s σ H E I hf st hg
    subst hP hw hK
    obtain ⟨f0, f1, f2, f3, f4, f5⟩ := hf it (by simp)
    have W := Walks.range (prog := X.prog) (w := X.w) (I.ok.hd hc) it lo 1 n
    refine W.item i s _ _ hg st fun v h' tk hv st' kk => ?_
    obtain ⟨t, rfl⟩ := hv
    have I1 : Inv X pins σ H { s with heap := h', toks := tk } := I.turned (fun b o hb e => kk b o (by simpa using hb) e) f0 f1 f3 f4 f5
    refine ⟨_, rfl, go_of (s := { s with heap := h', toks := tk }) (n := "range_iterator") st' rfl rfl (by decide) ⟨.int (lo + i), H, I1, ⟨t, ?_⟩, ⟨rfl, rfl⟩, st', fun b hb => (hf b hb).1⟩⟩
    rw [Int.mul_one]
  done := by
    intro X hP hw hK hc i pins s σ H E I hf st hg
    subst hP hw hK
    obtain ⟨f0, f1, f2, f3, f4, f5⟩ := hf it (by simp)
    exact wpAny_pyNext_range_end (I.ok.hd hc) st (by have : n ≤ i := hg; omega) fun h' eb => ⟨rfl, I.turned (t' := s.toks) (fun b o hb e => eb b o hb e) f0 f1 f3 f4 f5⟩
  self := fun _ _ _ _ _ st h => wpAny_pyIter_rangeiter st h
end L2
namespace L2
open PySem PySem.Spec PyProof.Rows
section
variable {X : Cx} {tg : Expr}
theorem range_it {pins : List (Addr × Obj)} {σ : St} {H : Hp} {s : Shared} {R : It → Hp → Prop} {E : Value → Shared → Prop} {lo hi : Int} {t u v : Tok} {tk : Nat} (I : Inv X pins σ H s) (h1 : -(2 ^ 62) ≤ lo) (h2 : lo < 2 ^ 62) (h3 : -(2 ^ 62) ≤ hi) (h4 : hi < 2 ^ 62)
    (q : R (Itr lo (hi - lo).toNat) H) : wpAny (model X.prog X.w) X.A (pyIter (.ref s.heap.objs.size)) (PIE X pins σ tg R) E { s with heap := s.heap.push { cls := .type "range", data := .fields #[.int lo t, .int hi u, .int 1 v] }, toks := tk } := by
  refine wpAny_pyIter_range (IsRange.new ..) (small_one h1 h2 h3 h4) ?_
  have I1 : Inv X pins σ H { s with heap := s.heap.push { cls := .type "range", data := .fields #[.int lo t, .int hi u, .int 1 v] }, toks := tk } := I.kept fun b o e => Heap.get?_push_of_some _ e
  refine ⟨(s.heap.push { cls := .type "range", data := .fields #[.int lo t, .int hi u, .int 1 v] }).objs.size, [(s.heap.push { cls := .type "range", data := .fields #[.int lo t, .int hi u, .int 1 v] }).objs.size], _, _, H, rfl,
    I1.kept (t' := tk) fun b o e => Heap.get?_push_of_some _ e, turn_range _ lo (hi - lo).toNat, ?_, fun b hb => ?_, q⟩
  · have e1 : lo + ((0 : Nat) : Int) * 1 = lo := by simp
    have e2 : (((hi - lo).toNat : Nat) : Int) - ((0 : Nat) : Int) = Builtin.Range.rangeSize lo hi 1 := by rw [rangeSize_one]; split <;> omega
    show IsRangeIter _ _ (lo + ((0 : Nat) : Int) * 1) ((((hi - lo).toNat : Nat) : Int) - ((0 : Nat) : Int)) 1
    rw [e1, e2]
    exact Heap.get?_push_size _ rfl
  · have e : b = (s.heap.push { cls := .type "range", data := .fields #[.int lo t, .int hi u, .int 1 v] }).objs.size := by simpa using hb
    subst e
    exact I1.fpOk (Nat.le_refl _) (I1.hok.fresh (Nat.le_refl _))
def iRng1 (ta : TA) : TI := fun σ H R => ta σ H fun vs H1 => ∃ j : Int, vs = [.int j] ∧ -(2 ^ 62) ≤ j ∧ j < 2 ^ 62 ∧ R (Itr 0 j.toNat) H1
theorem pi_range1 {a : Expr} {ta : TA} {p pos : Pos} (hg : Gl X "range") (hm : X.mg "range" = none) (ha : PA X [a] ta) (hs : starEach [a] X.env = [(false, eval a X.env)] := by rfl) : PI X tg (.Call (.Name "range" p) [a] [] pos) (iRng1 ta) := by
  intro pins s σ H R I h
  refine Call_ (ld_blt I hg hm boot_range (PyProof.Rows.callWith_type1 (thn (ha pos pins s σ H _ I h) fun us s1 ⟨vs, H1, I1, r1, q1⟩ => ?_) hs rfl))
  obtain ⟨j, e, q1, q2, q⟩ := q1
  subst e
  cases r1 with
  | cons r rr =>
    cases rr
    obtain ⟨t, rfl⟩ := r
    exact call_range_1 (range_it I1 (by omega) (by omega) q1 q2 (by simpa using q))
def tFor (wi : TI) (g : TG) (tb : TS) : TS := fun D σ H => wi σ H fun J H1 => ∃ W : Nat → Nat → St → Hp → Prop, (∃ m, W 0 m σ H1) ∧ ∀ i m σ H, W i m σ H →
  (J.stop i H ∧ D.nx σ H) ∨ (J.go i H ∧ ∃ N : St → Hp → Prop, (∀ σ' H', N σ' H' → ∃ m', m' < m ∧ W (i + 1) m' σ' H') ∧ ∀ x H', J.yld i H x H' → g x σ H' fun σ2 H2 => tb { D with nx := N, ct := N, bk := D.nx } σ2 H2)
def pinsAt (fp : List Addr) (h : Heap) : List (Addr × Obj) := fp.filterMap fun b => (h.get? b).map fun o => (b, o)
theorem mem_pinsAt {fp : List Addr} {h : Heap} {b : Addr} {o : Obj} (hb : b ∈ fp) (e : h.get? b = some o) : (b, o) ∈ pinsAt fp h := List.mem_filterMap.mpr ⟨b, hb, by rw [e]; rfl⟩
theorem of_pinsAt {fp : List Addr} {h : Heap} {p : Addr × Obj} (hp : p ∈ pinsAt fp h) : p.1 ∈ fp ∧ h.get? p.1 = some p.2 := by
  obtain ⟨b, hb, e⟩ := List.mem_filterMap.mp hp
  cases q : h.get? b with
  | none => rw [q] at e; cases e
  | some o =>
    rw [q] at e
    have e' : (b, o) = p := Option.some.inj e
    subst e'
    exact ⟨hb, q⟩
theorem Inv.pinned {pins : List (Addr × Obj)} {σ : St} {H : Hp} {s : Shared} {fp : List Addr} (I : Inv X pins σ H s) (hf : ∀ b ∈ fp, FpOk X pins H b) (ho : ∀ b ∈ fp, ∃ o, s.heap.get? b = some o ∧ ∀ v, o.data ≠ .cell v) : Inv X (pins ++ pinsAt fp s.heap) σ H s :=
  I.pins_of fun p hp => (List.mem_append.mp hp).elim (fun z => I.pin p (List.mem_append_right _ z)) fun z => by
    obtain ⟨hb, e⟩ := of_pinsAt z
    obtain ⟨f0, f1, f2, _⟩ := hf p.1 hb
    obtain ⟨o, e', d⟩ := ho p.1 hb
    rw [e] at e'; cases e'
    exact ⟨e, f0, f1, f2, d⟩
theorem Inv.unpinned {pins pl : List (Addr × Obj)} {σ : St} {H : Hp} {s : Shared} (I : Inv X (pins ++ pl) σ H s) : Inv X pins σ H s := I.pins_of fun p hp => I.pin p (List.mem_append_right _ (List.mem_append_left _ hp))
theorem ps_for {iter : Expr} {body : List Stmt} {wi : TI} {g : TG} {tb : TS} {pos : Pos} (hp : PassesOwn (model X.prog X.w) X.A X.env X.xe) (hc : X.calm = true) (hi : PI X tg iter wi) (hg : PG X tg g) (hb : PSs X body tb)
    (hs : ∀ x, foldedSetIterable iter X.env x = pure x := by intro _; rfl) : PS X (.For tg iter body [] pos) (tFor wi g tb) := by
  intro pins s σ H D I h
  refine wpAny_For (thn (hi pins s σ H _ I h) fun v s1 h1 => thn h1 fun itv s2 h2 => ?_) hs
  obtain ⟨it, fp, tn, J, H2, e, I2, T, st2, f2, W, ⟨m0, w0⟩, turn⟩ := h2
  subst e
  have stat : ∀ {H' : Hp}, (∀ b ∈ fp, H' b = none) → ∀ b ∈ fp, FpOk X pins H' b := fun hn b hb => ⟨hn b hb, (f2 b hb).2⟩
  refine codeAny_forLoop_any (fun n s' => ∃ i σ' H', Inv X pins σ' H' s' ∧ tn i s'.heap ∧ (∀ b ∈ fp, H' b = none) ∧ W i n σ' H') ?_ m0 ⟨0, σ, H2, I2, st2, fun b hb => (f2 b hb).1, w0⟩
  rintro n s3 ⟨i, σ3, H3, I3, st3, fr3, w3⟩
  rcases turn i n σ3 H3 w3 with ⟨stop, qn⟩ | ⟨go, N, hN, step⟩
  · refine wpAny_passesOwn hp (thn (T.done X rfl rfl rfl hc i pins s3 σ3 H3 X.xe I3 (stat fr3) st3 stop) fun r s4 ⟨hr, I4⟩ => ?_)
    subst hr
    exact wpAny_execs_nil ⟨σ3, H3, I4, qn⟩
  · refine wpAny_passesOwn hp (thn (T.item X rfl rfl rfl hc i pins s3 σ3 H3 X.xe I3 (stat fr3) st3 go) fun r s4 ⟨u, hr, h4⟩ => ?_)
    subst hr
    refine wpAny_passesOwn hp (thn h4 fun _ s5 ⟨x, H5, I5, r5, y5, st5, fr5⟩ => ?_)
    have I5' := I5.pinned (stat fr5) (T.obj _ _ st5)
    refine wpAny_passesOwn hp (thn (hg _ s5 σ3 H5 x u _ I5' r5 (step x H5 y5)) fun _ s6 ⟨σ6, H6, I6, q6⟩ => ?_)
    refine wpAny_passesOwn hp (thn (hb _ s6 σ6 H6 _ I6 q6) fun f s7 q7 => ?_)
    have again : ∀ {σ7 : St} {H7 : Hp}, Inv X (pins ++ pinsAt fp s5.heap) σ7 H7 s7 → N σ7 H7 → ∃ m, m < n ∧ ∃ i σ' H', Inv X pins σ' H' s7 ∧ tn i s7.heap ∧ (∀ b ∈ fp, H' b = none) ∧ W i m σ' H' := fun {σ7 H7} I7 n7 => by
      obtain ⟨m', hm, w7⟩ := hN σ7 H7 n7
      refine ⟨m', hm, i + 1, σ7, H7, I7.unpinned, T.keep _ _ _ st5 fun b hb o e => (I7.pin (b, o) (List.mem_append_right _ (List.mem_append_right _ (mem_pinsAt hb e)))).1, fun b hb => ?_, w7⟩
      obtain ⟨o, e, d⟩ := T.obj _ _ st5 b hb
      exact (I7.pin (b, o) (List.mem_append_right _ (List.mem_append_right _ (mem_pinsAt hb e)))).2.1
    cases f with
    | next => obtain ⟨σ7, H7, I7, n7⟩ := q7; exact again I7 n7
    | cont => obtain ⟨σ7, H7, I7, n7⟩ := q7; exact again I7 n7
    | brk => obtain ⟨σ7, H7, I7, q7⟩ := q7; exact ⟨σ7, H7, I7.unpinned, q7⟩
    | ret v => obtain ⟨x7, σ7, H7, I7, r7, q7⟩ := q7; exact ⟨x7, σ7, H7, I7.unpinned, r7, q7⟩
end
theorem for_list {K : PySem.W.Frag} {a : Addr} {xs : List V} {g : TG} {tb : TS} {D : Ends} {σ : St} {H : Hp} (Pv : Nat → St → Hp → Prop) (h0 : Pv 0 σ H) (hl : ∀ i σ H, i ≤ xs.length → Pv i σ H → SqL K H a xs)
    (hs : ∀ i x σ H, xs[i]? = some x → Pv i σ H → g x σ H fun σ2 H2 => tb { D with nx := Pv (i + 1), ct := Pv (i + 1), bk := D.nx } σ2 H2) (hd : ∀ σ H, Pv xs.length σ H → D.nx σ H) :
    ∃ W : Nat → Nat → St → Hp → Prop, (∃ m, W 0 m σ H) ∧ ∀ i m σ H, W i m σ H →
      ((Itl K a).stop i H ∧ D.nx σ H) ∨ ((Itl K a).go i H ∧ ∃ N : St → Hp → Prop, (∀ σ' H', N σ' H' → ∃ m', m' < m ∧ W (i + 1) m' σ' H') ∧ ∀ x H', (Itl K a).yld i H x H' → g x σ H' fun σ2 H2 => tb { D with nx := N, ct := N, bk := D.nx } σ2 H2) := by
  refine ⟨fun i m σ H => m = xs.length - i ∧ i ≤ xs.length ∧ Pv i σ H, ⟨xs.length, by simp, Nat.zero_le _, h0⟩, ?_⟩
  rintro i m σ H ⟨rfl, hi, p⟩
  have q := hl i σ H hi p
  by_cases hlt : i < xs.length
  · refine .inr ⟨⟨xs, xs[i], q, by simp [hlt]⟩, Pv (i + 1), fun σ' H' p' => ⟨xs.length - (i + 1), by omega, rfl, hlt, p'⟩, fun x H' y => ?_⟩
    obtain ⟨e, y⟩ := y
    subst e
    exact hs i x σ _ (y xs q) p
  · have e : i = xs.length := by omega
    subst e
    exact .inl ⟨⟨xs, q, Nat.le_refl _⟩, hd σ H p⟩
theorem for_range {lo : Int} {n : Nat} {g : TG} {tb : TS} {D : Ends} {σ : St} {H : Hp} (Pv : Nat → St → Hp → Prop) (h0 : Pv 0 σ H)
    (hs : ∀ i σ H, i < n → Pv i σ H → g (.int (lo + i)) σ H fun σ2 H2 => tb { D with nx := Pv (i + 1), ct := Pv (i + 1), bk := D.nx } σ2 H2) (hd : ∀ σ H, Pv n σ H → D.nx σ H) :
    ∃ W : Nat → Nat → St → Hp → Prop, (∃ m, W 0 m σ H) ∧ ∀ i m σ H, W i m σ H →
      ((Itr lo n).stop i H ∧ D.nx σ H) ∨ ((Itr lo n).go i H ∧ ∃ N : St → Hp → Prop, (∀ σ' H', N σ' H' → ∃ m', m' < m ∧ W (i + 1) m' σ' H') ∧ ∀ x H', (Itr lo n).yld i H x H' → g x σ H' fun σ2 H2 => tb { D with nx := N, ct := N, bk := D.nx } σ2 H2) := by
  refine ⟨fun i m σ H => m = n - i ∧ i ≤ n ∧ Pv i σ H, ⟨n, by simp, Nat.zero_le _, h0⟩, ?_⟩
  rintro i m σ H ⟨rfl, hi, p⟩
  by_cases hlt : i < n
  · refine .inr ⟨hlt, Pv (i + 1), fun σ' H' p' => ⟨n - (i + 1), by omega, rfl, hlt, p'⟩, fun x H' y => ?_⟩
    obtain ⟨e, y⟩ := y
    subst e y
    exact hs i σ _ hlt p
  · have e : i = n := by omega
    subst e
    exact .inl ⟨Nat.le_refl _, hd σ H p⟩
end L2
namespace L2
open PySem PySem.Spec PyProof.Rows
abbrev R2 := V → V → Hp → VK → Prop
def OpR (X : Cx) (f : Value → Value → Sem Value) (r : R2) : Prop :=
  ∀ (pins : List (Addr × Obj)) (s : Shared) (σ : St) (H : Hp) (x y : V) (v u : Value) (Q : VK), Inv X pins σ H s → RelV x v → RelV y u → r x y H Q →
    wpAny (model X.prog X.w) X.A (f v u) (EP X pins σ Q) X.xe s
def UnR (X : Cx) (f : Value → Sem Value) (r : V → Hp → VK → Prop) : Prop :=
  ∀ (pins : List (Addr × Obj)) (s : Shared) (σ : St) (H : Hp) (x : V) (v : Value) (Q : VK), Inv X pins σ H s → RelV x v → r x H Q →
    wpAny (model X.prog X.w) X.A (f v) (EP X pins σ Q) X.xe s
def CallR (X : Cx) (f : Value) (r : List V → Hp → VK → Prop) : Prop :=
  ∀ (pins : List (Addr × Obj)) (s : Shared) (σ : St) (H : Hp) (xs : List V) (us : List Value) (Q : VK), Inv X pins σ H s → Vals xs us → r xs H Q →
    wpAny (model X.prog X.w) X.A (call f us) (EP X pins σ Q) X.xe s
def TruR (X : Cx) (r : V → Hp → (Bool → Hp → Prop) → Prop) : Prop :=
  ∀ (pins : List (Addr × Obj)) (s : Shared) (σ : St) (H : Hp) (x : V) (v : Value) (Q : Bool → Hp → Prop), Inv X pins σ H s → RelV x v → r x H Q →
    wpAny (model X.prog X.w) X.A (truthy v) (TP X pins σ Q) X.xe s
def tOp (r : R2) (ta tb : TE) : TE := fun σ H Q => ta σ H fun x H1 => tb σ H1 fun y H2 => r x y H2 Q
def tUn (r : V → Hp → VK → Prop) (ta : TE) : TE := fun σ H Q => ta σ H fun x H1 => r x H1 Q
def rI (C : Int → Int → Prop) (g : Int → Int → V) : R2 := fun x y H Q => ∃ i j, x = .int i ∧ y = .int j ∧ C i j ∧ Q (g i j) H
def rI0 (g : Int → Int → V) : R2 := fun x y H Q => ∃ i j, x = .int i ∧ y = .int j ∧ Q (g i j) H
def rU (g : Int → V) : V → Hp → VK → Prop := fun x H Q => ∃ i, x = .int i ∧ Q (g i) H
section
variable {X : Cx} {a b c : Expr} {ta tb tc : TE} {pos : Pos}
theorem binT (ha : PE X a ta) (hb : PE X b tb) {pins : List (Addr × Obj)} {s : Shared} {σ : St} {H : Hp} {R : V → V → Hp → Prop} (I : Inv X pins σ H s)
    (h : ta σ H fun x H1 => tb σ H1 fun y H2 => R x y H2) {Q : Value → Shared → Prop} {f : Value → Value → Sem Value}
    (hf : ∀ v u s2 x y H2, Inv X pins σ H2 s2 → RelV x v → RelV y u → R x y H2 → wpAny (model X.prog X.w) X.A (f v u) Q X.xe s2) :
    wpAny (model X.prog X.w) X.A (eval a X.env) (fun v s₁ => wpAny (model X.prog X.w) X.A (eval b X.env) (fun u s₂ => wpAny (model X.prog X.w) X.A (f v u) Q X.xe s₂) X.xe s₁) X.xe s := by
  refine thn (ha pins s σ H _ I h) fun v s1 ⟨x, H1, I1, r1, q1⟩ => ?_
  refine thn (hb pins s1 σ H1 _ I1 q1) fun u s2 ⟨y, H2, I2, r2, q2⟩ => ?_
  exact hf v u s2 x y H2 I2 r1 r2 q2
theorem pe_op {op : Operator} {r : R2} (ho : OpR X (binaryOp op) r) (ha : PE X a ta) (hb : PE X b tb) : PE X (.BinOp a op b pos) (tOp r ta tb) := by
  intro pins s σ H Q I h
  exact wpAny_BinOp (binT ha hb I h fun v u s2 x y H2 I2 rx ry q => ho pins s2 σ H2 x y v u Q I2 rx ry q)
theorem pe_un {op : UnaryOp} {r : V → Hp → VK → Prop} (ho : UnR X (unaryOp op) r) (ha : PE X a ta) : PE X (.UnaryOp op a pos) (tUn r ta) := by
  intro pins s σ H Q I h
  exact UnaryOp_ (thn (ha pins s σ H _ I h) fun v s1 ⟨x, H1, I1, r1, q1⟩ => ho pins s1 σ H1 x v Q I1 r1 q1)
theorem opI {f : Value → Value → Sem Value} {C : Int → Int → Prop} {g : Int → Int → Int}
    (rule : ∀ (i j : Int) (t u : Tok) (s : Shared) (Q : Value → Shared → Prop) (E : Value → Shared → Prop), C i j → Q (.int (g i j) s.toks) { s with toks := s.toks + 1 } → wpAny (model X.prog X.w) X.A (f (.int i t) (.int j u)) Q E s) :
    OpR X f (rI C fun i j => .int (g i j)) := by
  intro pins s σ H x y v u Q I rx ry h
  obtain ⟨i, j, rfl, rfl, hc, q⟩ := h
  obtain ⟨t, rfl⟩ := rx
  obtain ⟨t', rfl⟩ := ry
  exact rule i j t t' s _ _ hc ⟨.int (g i j), H, I.tok _, ⟨_, rfl⟩, q⟩
theorem opI0 {f : Value → Value → Sem Value} {g : Int → Int → Int}
    (rule : ∀ (i j : Int) (t u : Tok) (s : Shared) (Q : Value → Shared → Prop) (E : Value → Shared → Prop), Q (.int (g i j) s.toks) { s with toks := s.toks + 1 } → wpAny (model X.prog X.w) X.A (f (.int i t) (.int j u)) Q E s) :
    OpR X f (rI0 fun i j => .int (g i j)) := by
  intro pins s σ H x y v u Q I rx ry h
  obtain ⟨i, j, rfl, rfl, q⟩ := h
  obtain ⟨t, rfl⟩ := rx
  obtain ⟨t', rfl⟩ := ry
  exact rule i j t t' s _ _ ⟨.int (g i j), H, I.tok _, ⟨_, rfl⟩, q⟩
theorem opB0 {f : Value → Value → Sem Value} {g : Int → Int → Bool}
    (rule : ∀ (i j : Int) (t u : Tok) (s : Shared) (Q : Value → Shared → Prop) (E : Value → Shared → Prop), Q (.bool (g i j)) s → wpAny (model X.prog X.w) X.A (f (.int i t) (.int j u)) Q E s) :
    OpR X f (rI0 fun i j => .bl (g i j)) := by
  intro pins s σ H x y v u Q I rx ry h
  obtain ⟨i, j, rfl, rfl, q⟩ := h
  obtain ⟨t, rfl⟩ := rx
  obtain ⟨t', rfl⟩ := ry
  exact rule i j t t' s _ _ ⟨.bl (g i j), H, I, rfl, q⟩
def CPow (i j : Int) : Prop := 0 ≤ j ∧ j ≤ 1000000 ∧ i.natAbs < 2 ^ 64
theorem op_add : OpR X (binaryOp .Add) (rI0 fun i j => .int (i + j)) := opI0 fun _ _ _ _ _ _ _ q => add_int q
theorem op_sub : OpR X (binaryOp .Sub) (rI0 fun i j => .int (i - j)) := opI0 fun _ _ _ _ _ _ _ q => sub_int q
theorem op_mod : OpR X (binaryOp .Mod) (rI (fun _ j => 0 < j) fun i j => .int (i % j)) := opI fun i j _ _ _ _ _ hc q => by
  have h1 : (0 : Int) < j := hc
  exact mod_int' (by omega) (by rw [Int.fmod_eq_emod_of_nonneg i (by omega)]; exact q)
theorem op_pow : OpR X (binaryOp .Pow) (rI CPow fun i j => .int (i ^ j.toNat)) := opI fun _ _ _ _ _ _ _ hc q => pow_int_small hc.1 hc.2.1 hc.2.2 q
theorem unI {f : Value → Sem Value} {g : Int → Int}
    (rule : ∀ (i : Int) (t : Tok) (s : Shared) (Q : Value → Shared → Prop) (E : Value → Shared → Prop), Q (.int (g i) s.toks) { s with toks := s.toks + 1 } → wpAny (model X.prog X.w) X.A (f (.int i t)) Q E s) :
    UnR X f (rU fun i => .int (g i)) := by
  intro pins s σ H x v Q I rx h
  obtain ⟨i, rfl, q⟩ := h
  obtain ⟨t, rfl⟩ := rx
  exact rule i t s _ _ ⟨.int (g i), H, I.tok _, ⟨_, rfl⟩, q⟩
theorem un_neg : UnR X (unaryOp .USub) (rU fun i => .int (-i)) := unI fun _ _ _ _ _ q => neg_int q
end
def scal : V → V → Bool
  | .non, .non => true | .non, .int _ => true | .int _, .non => true | .non, .bl _ => true | .bl _, .non => true | .non, .str _ => true | .str _, .non => true
  | .int _, .int _ => true | .bl _, .bl _ => true | .str _, .str _ => true | .byt _, .byt _ => true
  | .int _, .str _ => true | .str _, .int _ => true | .bl _, .str _ => true | .str _, .bl _ => true
  | _, _ => false
def rEq : R2 := fun x y H Q => scal x y = true ∧ Q (.bl (decide (x = y))) H
def rNe : R2 := fun x y H Q => scal x y = true ∧ Q (.bl (!decide (x = y))) H
theorem dec_int {i j : Int} : decide (V.int i = V.int j) = (i == j) := by
  rw [Bool.eq_iff_iff]
  simp
theorem dec_bl {i j : Bool} : decide (V.bl i = V.bl j) = (i == j) := by
  rw [Bool.eq_iff_iff]
  simp
theorem dec_str {i j : Str} : decide (V.str i = V.str j) = (i == j) := by
  rw [Bool.eq_iff_iff]
  simp
theorem dec_byt {i j : Array UInt8} : decide (V.byt i = V.byt j) = (i.toList == j.toList) := by
  rw [Bool.eq_iff_iff]
  cases i
  cases j
  simp
section
variable {X : Cx} {a b c : Expr} {ta tb tc : TE} {pos : Pos}
theorem fin_bl {pins : List (Addr × Obj)} {σ : St} {H : Hp} {s : Shared} {Q : VK} {k k' : Bool} (I : Inv X pins σ H s) (q : Q (.bl k) H) (e : k = k') : EP X pins σ Q (.bool k') s := by
  subst e
  exact ⟨.bl k, H, I, rfl, q⟩
theorem op_eq : OpR X (compareOp .Eq) rEq := by
  intro pins s σ H x y v u Q I rx ry h
  obtain ⟨hs, q⟩ := h
  cases x with
  | non =>
    cases rx
    cases y with
    | non => cases ry; exact PySem.EqNone.eq_none_none (fin_bl I q (by simp))
    | bl j => cases ry; exact PySem.EqNone.eq_none_bool (fin_bl I q (by simp))
    | int j => obtain ⟨t', rfl⟩ := ry; exact PySem.EqNone.eq_none_int (fin_bl I q (by simp))
    | str j => obtain ⟨t', rfl⟩ := ry; exact PySem.EqNone.eq_none_str (fin_bl I q (by simp))
    | _ => exact absurd (show false = true from hs) Bool.false_ne_true
  | bl i =>
    cases rx
    cases y with
    | non => cases ry; exact PySem.EqNone.eq_bool_none (fin_bl I q (by simp))
    | bl j => cases ry; exact eq_bool (fin_bl I q dec_bl)
    | str j => obtain ⟨t', rfl⟩ := ry; exact PySem.EqMixed.eq_bool_str (fin_bl I q (by simp))
    | _ => exact absurd (show false = true from hs) Bool.false_ne_true
  | int i =>
    obtain ⟨t, rfl⟩ := rx
    cases y with
    | non => cases ry; exact PySem.EqNone.eq_int_none (fin_bl I q (by simp))
    | int j => obtain ⟨t', rfl⟩ := ry; exact eq_int (fin_bl I q dec_int)
    | str j => obtain ⟨t', rfl⟩ := ry; exact PySem.EqMixed.eq_int_str (fin_bl I q (by simp))
    | _ => exact absurd (show false = true from hs) Bool.false_ne_true
  | str i =>
    obtain ⟨t, rfl⟩ := rx
    cases y with
    | non => cases ry; exact PySem.EqNone.eq_str_none (fin_bl I q (by simp))
    | bl j => cases ry; exact PySem.EqMixed.eq_str_bool (fin_bl I q (by simp))
    | int j => obtain ⟨t', rfl⟩ := ry; exact PySem.EqMixed.eq_str_int (fin_bl I q (by simp))
    | str j => obtain ⟨t', rfl⟩ := ry; exact eq_str (fin_bl I q dec_str)
    | _ => exact absurd (show false = true from hs) Bool.false_ne_true
  | byt i =>
    obtain ⟨t, rfl⟩ := rx
    cases y with
    | byt j => obtain ⟨t', rfl⟩ := ry; exact PySem.W.eq_bytes (fin_bl I q dec_byt)
    | _ => exact absurd (show false = true from hs) Bool.false_ne_true
  | _ => cases y <;> exact absurd (show false = true from hs) Bool.false_ne_true
theorem op_ne : OpR X (compareOp .NotEq) rNe := by
  intro pins s σ H x y v u Q I rx ry h
  obtain ⟨hs, q⟩ := h
  cases x with
  | non =>
    cases rx
    cases y with
    | non => cases ry; exact PySem.EqNone.ne_none_none (fin_bl I q (by simp))
    | bl j => cases ry; exact PySem.EqNone.ne_none_bool (fin_bl I q (by simp))
    | int j => obtain ⟨t', rfl⟩ := ry; exact PySem.EqNone.ne_none_int (fin_bl I q (by simp))
    | str j => obtain ⟨t', rfl⟩ := ry; exact PySem.EqNone.ne_none_str (fin_bl I q (by simp))
    | _ => exact absurd (show false = true from hs) Bool.false_ne_true
  | bl i =>
    cases rx
    cases y with
    | non => cases ry; exact PySem.EqNone.ne_bool_none (fin_bl I q (by simp))
    | bl j => cases ry; exact ne_bool (fin_bl I q (congrArg not dec_bl))
    | str j => obtain ⟨t', rfl⟩ := ry; exact PySem.EqMixed.ne_bool_str (fin_bl I q (by simp))
    | _ => exact absurd (show false = true from hs) Bool.false_ne_true
  | int i =>
    obtain ⟨t, rfl⟩ := rx
    cases y with
    | non => cases ry; exact PySem.EqNone.ne_int_none (fin_bl I q (by simp))
    | int j => obtain ⟨t', rfl⟩ := ry; exact ne_int (fin_bl I q (congrArg not dec_int))
    | str j => obtain ⟨t', rfl⟩ := ry; exact PySem.EqMixed.ne_int_str (fin_bl I q (by simp))
    | _ => exact absurd (show false = true from hs) Bool.false_ne_true
  | str i =>
    obtain ⟨t, rfl⟩ := rx
    cases y with
    | non => cases ry; exact PySem.EqNone.ne_str_none (fin_bl I q (by simp))
    | bl j => cases ry; exact PySem.EqMixed.ne_str_bool (fin_bl I q (by simp))
    | int j => obtain ⟨t', rfl⟩ := ry; exact PySem.EqMixed.ne_str_int (fin_bl I q (by simp))
    | str j => obtain ⟨t', rfl⟩ := ry; exact ne_str (fin_bl I q (congrArg not dec_str))
    | _ => exact absurd (show false = true from hs) Bool.false_ne_true
  | byt i =>
    obtain ⟨t, rfl⟩ := rx
    cases y with
    | byt j => obtain ⟨t', rfl⟩ := ry; exact PySem.W.ne_bytes (fin_bl I q (congrArg not dec_byt))
    | _ => exact absurd (show false = true from hs) Bool.false_ne_true
  | _ => cases y <;> exact absurd (show false = true from hs) Bool.false_ne_true
theorem op_lt : OpR X (compareOp .Lt) (rI0 fun i j => .bl (decide (i < j))) := opB0 fun _ _ _ _ _ _ _ q => lt_int q
theorem op_le : OpR X (compareOp .LtE) (rI0 fun i j => .bl (decide (i ≤ j))) := opB0 fun _ _ _ _ _ _ _ q => le_int q
theorem op_gt : OpR X (compareOp .Gt) (rI0 fun i j => .bl (decide (j < i))) := opB0 fun _ _ _ _ _ _ _ q => gt_int q
theorem op_in_str : OpR X (compareOp .In) (fun x y H Q => ∃ i j, x = .str i ∧ y = .str j ∧ Q (.bl (!(Builtin.Str.occurrences j i 0 j.length 1).isEmpty)) H) := by
  intro pins s σ H x y v u Q I rx ry h
  obtain ⟨i, j, rfl, rfl, q⟩ := h
  obtain ⟨t, rfl⟩ := rx
  obtain ⟨t', rfl⟩ := ry
  exact in_str (fin_bl I q rfl)
theorem OpR.or {f : Value → Value → Sem Value} {r r' : R2} (h : OpR X f r) (h' : OpR X f r') : OpR X f (fun x y H Q => r x y H Q ∨ r' x y H Q) := by
  intro pins s σ H x y v u Q I rx ry q
  rcases q with q | q
  · exact h pins s σ H x y v u Q I rx ry q
  · exact h' pins s σ H x y v u Q I rx ry q
theorem nomark (b : Expr) {op : CmpOp} (h : op ≠ .In := by decide) (h2 : op ≠ .NotIn := by decide) : behindInMarks op b = false := by
  have e1 : (op == CmpOp.In) = false := by cases op <;> first | rfl | exact absurd rfl h
  have e2 : (op == CmpOp.NotIn) = false := by cases op <;> first | rfl | exact absurd rfl h2
  cases b <;> simp [behindInMarks, e1, e2]
theorem pe_cmpR {op : CmpOp} {r : R2} (ho : OpR X (compareOp op) r) (ha : PE X a ta) (hb : PE X b tb) (hm : behindInMarks op b = false) : PE X (.Compare a [op] [b] pos) (tOp r ta tb) := by
  intro pins s σ H Q I h
  exact wpAny_Compare1 (binT ha hb I h fun v u s2 x y H2 I2 rx ry q => ho pins s2 σ H2 x y v u Q I2 rx ry q) hm
def tTest (t : TE) : TT := fun σ H Q => t σ H fun x H' => ∃ k, x = .bl k ∧ Q k H'
theorem pt_cmpR {op : CmpOp} {r : R2} (ho : OpR X (compareOp op) r) (ha : PE X a ta) (hb : PE X b tb) (hm : behindInMarks op b = false) : PT X (.Compare a [op] [b] pos) (tTest (tOp r ta tb)) := by
  intro pins s σ H Q I h
  refine wpAny_isTrue_Compare1 (thn (ha pins s σ H _ I h) fun v s1 ⟨x, H1, I1, r1, q1⟩ => thn (hb pins s1 σ H1 _ I1 q1) fun u s2 ⟨y, H2, I2, r2, q2⟩ =>
    thn (ho pins s2 σ H2 x y v u _ I2 r1 r2 q2) fun c s3 ⟨z, H3, I3, r3, k, e, q3⟩ => ?_) hm
  subst e
  cases r3
  exact wpAny_truthy_bool ⟨H3, I3, q3⟩
def tChain (r r' : R2) (ta tb tc : TE) : TE := fun σ H Q => ta σ H fun x H1 => tb σ H1 fun y H2 => r x y H2 fun z H3 => ∃ k, z = .bl k ∧
  (if k = true then tc σ H3 fun w' H4 => r' y w' H4 Q else Q (.bl false) H3)
theorem pe_chain {op op' : CmpOp} {r r' : R2} (ho : OpR X (compareOp op) r) (ho' : OpR X (compareOp op') r') (ha : PE X a ta) (hb : PE X b tb) (hc : PE X c tc)
    (hm : lastMarks [op, op'] [b, c] = false := by with_unfolding_all rfl) : PE X (.Compare a [op, op'] [b, c] pos) (tChain r r' ta tb tc) := by
  intro pins s σ H Q I h
  refine Compare_chain (thn (ha pins s σ H _ I h) fun v s1 ⟨x, H1, I1, r1, q1⟩ => chain_link (thn (hb pins s1 σ H1 _ I1 q1) fun u s2 ⟨y, H2, I2, r2, q2⟩ =>
    thn (ho pins s2 σ H2 x y v u _ I2 r1 r2 q2) fun d s3 ⟨z, H3, I3, r3, k, e, q3⟩ => ?_)) hm
  subst e
  cases r3
  refine wpAny_truthy_bool ?_
  cases k with
  | false => exact ite_ff ⟨.bl false, H3, I3, rfl, q3⟩
  | true => exact ite_tt (chain_last (thn (hc pins s3 σ H3 _ I3 q3) fun w' s4 ⟨z', H4, I4, r4, q4⟩ => ho' pins s4 σ H4 y z' u w' Q I4 r2 r4 q4))
def TruV (K : PySem.W.Frag) (x : V) (H : Hp) (k : Bool) : Prop :=
  match x with
  | .non => k = false
  | .bl b => k = b
  | .int i => k = (i != 0)
  | .str y => y.length ≤ sizeLine ∧ k = ((y.length : Int) != 0)
  | .byt y => y.size ≤ sizeLine ∧ k = ((y.size : Int) != 0)
  | .ref p => (∃ xs, SqL K H p xs ∧ k = !xs.isEmpty) ∨ (∃ xs, SqT K H p xs ∧ k = !xs.isEmpty) ∨ ∃ kvs, H p = some (.dK kvs) ∧ k = !kvs.isEmpty
  | _ => False
theorem isEmpty_kv {κ : Type} {kvs : List (κ × V)} {vs : List (κ × Value)} (r : KV kvs vs) : (!vs.isEmpty) = !kvs.isEmpty := by
  cases r <;> rfl
theorem isEmpty_of {xs : List V} {its : List Value} (r : Vals xs its) : (!its.toArray.isEmpty) = !xs.isEmpty := by
  cases r <;> simp
theorem line63 : (sizeLine : Nat) < 2 ^ 63 := by rw [sizeLine_eq]; decide
theorem tru_ok : TruR X (fun x H Q => ∃ k, TruV X.K x H k ∧ Q k H) := by
  intro pins s σ H x v Q I rx h
  obtain ⟨k, e, q⟩ := h
  have hl := line63
  have hs : sizeLine = 16777216 := sizeLine_eq
  cases x with
  | non =>
    cases rx
    have e' : k = false := e
    subst e'
    exact truthy_none ⟨H, I, q⟩
  | bl b =>
    cases rx
    have e' : k = b := e
    subst e'
    exact wpAny_truthy_bool ⟨H, I, q⟩
  | int i =>
    obtain ⟨t, rfl⟩ := rx
    have e' : k = (i != 0) := e
    subst e'
    exact PySem.P.truthy_int ⟨H, I, q⟩
  | str y =>
    obtain ⟨t, rfl⟩ := rx
    obtain ⟨hy, e'⟩ : y.length ≤ sizeLine ∧ k = ((y.length : Int) != 0) := e
    subst e'
    exact PySem.P.truthy_str (by omega) ⟨H, I.tok _, q⟩
  | byt y =>
    obtain ⟨t, rfl⟩ := rx
    obtain ⟨hy, e'⟩ : y.size ≤ sizeLine ∧ k = ((y.size : Int) != 0) := e
    subst e'
    exact PySem.W.truthy_bytes (by omega) ⟨H, I.tok _, q⟩
  | ref p =>
    cases rx
    have e' : (∃ xs, SqL X.K H p xs ∧ k = !xs.isEmpty) ∨ (∃ xs, SqT X.K H p xs ∧ k = !xs.isEmpty) ∨ ∃ kvs, H p = some (.dK kvs) ∧ k = !kvs.isEmpty := e
    rcases e' with ⟨xs, hx, e'⟩ | ⟨xs, hx, e'⟩ | ⟨kvs, hx, e'⟩
    · subst e'
      obtain ⟨its, r, pl, hz⟩ := I.list hx
      have hlen := r.length
      exact wpAny_truthy_list pl.isList (by simp only [List.size_toArray]; omega) ⟨H, I.tok _, by rw [isEmpty_of r]; exact q⟩
    · subst e'
      obtain ⟨its, r, pl, hz⟩ := I.tuple hx
      have hlen := r.length
      exact truthy_tuple pl (by simp only [List.size_toArray]; omega) ⟨H, I.tok _, by rw [isEmpty_of r]; exact q⟩
    · subst e'
      obtain ⟨hz, hS, vs, r, m⟩ : kvs.length ≤ sizeLine ∧ (p == sysModules) = false ∧ ∃ vs, KV kvs vs ∧ s.heap.DictOf (mixKind X.prog X.w) p vs := I.hok p _ hx
      have hlen : kvs.length = vs.length := Paired.length r
      exact wpAny_truthy_dict hS m (by omega) ⟨H, I.tok _, by rw [isEmpty_kv r]; exact q⟩
  | _ => exact (show False from e).elim
theorem pt_truth (ha : PE X a ta) (he : ∀ whole, isTrue a X.env whole = (do let v ← whole; standAt a.pos; holding [v] (truthy v))) :
    PT X a (fun σ H Q => ta σ H fun x H' => ∃ k, TruV X.K x H' k ∧ Q k H') := by
  intro pins s σ H Q I h
  exact isTrue_plain (thn (ha pins s σ H _ I h) fun v s1 ⟨x, H1, I1, r1, q1⟩ => tru_ok pins s1 σ H1 x v Q I1 r1 q1) (he _)
theorem op_add_str : OpR X (binaryOp .Add) (fun x y H Q => ∃ i j, x = .str i ∧ y = .str j ∧ i.length + j.length ≤ sizeLine ∧ Q (.str (i ++ j)) H) := by
  intro pins s σ H x y v u Q I rx ry h
  obtain ⟨i, j, rfl, rfl, hz, q⟩ := h
  obtain ⟨t, rfl⟩ := rx
  obtain ⟨t', rfl⟩ := ry
  exact add_str (fun t' tk => ⟨.str (i ++ j), H, I.tok _, ⟨_, rfl⟩, q⟩) hz
theorem vals1 {x : V} {us : List Value} (r : Vals [x] us) : ∃ u, us = [u] ∧ RelV x u := by
  cases r with
  | cons r1 r2 => cases r2; exact ⟨_, rfl, r1⟩
theorem vals2 {x y : V} {us : List Value} (r : Vals [x, y] us) : ∃ u w', us = [u, w'] ∧ RelV x u ∧ RelV y w' := by
  cases r with
  | cons r1 r2 =>
    cases r2 with
    | cons r3 r4 => cases r4; exact ⟨_, _, rfl, r1, r3⟩
theorem call_int1 : CallR X (.type "int") (fun xs H Q => (∃ i, xs = [.int i] ∧ Q (.int i) H) ∨ ∃ k, xs = [.bl k] ∧ Q (.int (if k then 1 else 0)) H) := by
  intro pins s σ H xs us Q I r h
  rcases h with ⟨i, rfl, q⟩ | ⟨k, rfl, q⟩
  · obtain ⟨u, rfl, t, rfl⟩ := vals1 r
    exact call_int_int ⟨.int i, H, I, ⟨_, rfl⟩, q⟩
  · obtain ⟨u, rfl, r1⟩ := vals1 r
    cases r1
    exact call_int_bool ⟨.int (if k then 1 else 0), H, I.tok _, ⟨_, rfl⟩, q⟩
def LenV (K : PySem.W.Frag) (x : V) (H : Hp) (n : Nat) : Prop :=
  match x with
  | .str y => y.length ≤ sizeLine ∧ n = y.length
  | .byt y => y.size ≤ sizeLine ∧ n = y.size
  | .ref p => (∃ xs, SqL K H p xs ∧ n = xs.length) ∨ ∃ xs, SqT K H p xs ∧ n = xs.length
  | _ => False
theorem call_len : CallR X (.builtin "len") (fun xs H Q => ∃ x n, xs = [x] ∧ LenV X.K x H n ∧ Q (.int n) H) := by
  intro pins s σ H xs us Q I r h
  obtain ⟨x, n, rfl, e, q⟩ := h
  obtain ⟨u, rfl, rx⟩ := vals1 r
  have hl := line63
  have hs : sizeLine = 16777216 := sizeLine_eq
  cases x with
  | str y =>
    obtain ⟨t, rfl⟩ := rx
    obtain ⟨hy, e'⟩ : y.length ≤ sizeLine ∧ n = y.length := e
    subst e'
    exact len_str (by omega) ⟨.int _, H, I.tok _, ⟨_, rfl⟩, q⟩
  | byt y =>
    obtain ⟨t, rfl⟩ := rx
    obtain ⟨hy, e'⟩ : y.size ≤ sizeLine ∧ n = y.size := e
    subst e'
    exact PySem.W.len_bytes (by omega) ⟨.int _, H, I.tok _, ⟨_, rfl⟩, q⟩
  | ref p =>
    cases rx
    have e' : (∃ xs, SqL X.K H p xs ∧ n = xs.length) ∨ ∃ xs, SqT X.K H p xs ∧ n = xs.length := e
    rcases e' with ⟨xs, hx, e'⟩ | ⟨xs, hx, e'⟩
    · subst e'
      obtain ⟨its, r', pl, hz⟩ := I.list hx
      have hlen := r'.length
      exact Calls.call_len_list pl.isList (by simp only [List.size_toArray]; omega) ⟨.int xs.length, H, I.tok _, ⟨_, by simp only [List.size_toArray]; rw [hlen]⟩, q⟩
    · subst e'
      obtain ⟨its, r', pl, hz⟩ := I.tuple hx
      have hlen := r'.length
      exact len_tuple pl (by simp only [List.size_toArray]; omega) ⟨.int xs.length, H, I.tok _, ⟨_, by simp only [List.size_toArray]; rw [hlen]⟩, q⟩
  | _ => exact (show False from e).elim
end
end L2
namespace L2
open PySem PySem.Spec PyProof.Rows
structure ObjM (h : Heap) (x dx C : Addr) (mA : Str → Option Value) : Prop where
  obj : h.get? x = some (PySem.W.instObj C dx)
  ns : h.Ns1 dx mA
  ne : dx ≠ x
theorem lookIn_ns {h : Heap} {dx : Addr} {mA : Str → Option Value} (n : h.Ns1 dx mA) : ∃ od, h.get? dx = some od ∧ ∀ name, PySem.W.lookIn name od = some (mA name) := by
  obtain ⟨o, es, ep, ho, hd, hk, _, hm⟩ := n
  refine ⟨o, ho, fun name => ?_⟩
  have e := hm name
  unfold nsFind findBy at e
  rw [← Array.find?_toList] at e
  unfold PySem.W.lookIn
  rw [hd]
  dsimp only
  split
  · rename_i y q
    rw [q] at e
    exact congrArg some e
  · rename_i q
    rw [q] at e
    have a : es.toList.any (·.refKey) = false := by
      rw [List.any_eq_false]
      intro y hy
      obtain ⟨z, t, hkey⟩ := hk y (Array.mem_toList_iff.mp hy)
      simp [DictEntry.refKey, hkey]
    have a' : ¬ es.toList.any (·.refKey) = true := by rw [a]; exact Bool.false_ne_true
    rw [if_neg a']
    exact congrArg some e
theorem ObjM.look {h : Heap} {x dx C : Addr} {mA : Str → Option Value} (I : ObjM h x dx C mA) : ∃ od, PySem.W.InstAt h x (PySem.W.instObj C dx) C (some od) ∧ ∀ name, PySem.W.lookIn name od = some (mA name) :=
  let ⟨od, ho, hl⟩ := lookIn_ns I.ns
  ⟨od, ⟨I.obj, rfl, rfl, ho⟩, hl⟩
section
variable {prog : Program} {w : World} {A : Around} {E : Value → Shared → Prop} {s : Shared} {K : PySem.W.Frag} {x dx C f : Addr} {mA : Str → Option Value} {name : Str} {v : Value}
theorem get_map {expr : Bool} {Q : Value → Shared → Prop} (X : K.In s.heap) (I : ObjM s.heap x dx C mA) (hg : PySem.W.plainGet K C name = true) (hh : PySem.W.hasDictIn K C = true)
    (ha : PySem.W.findIn K (.ref C) name = some none) (hv : mA name = some v) (hv' : PySem.W.handedIn v = true) (h : Q v { s with toks := s.toks + 1 }) :
    wpAny (model prog w) A (getAttr (.ref x) name expr) Q E s := by
  obtain ⟨od, J, hl⟩ := I.look
  exact PySem.W.get_value X J (PySem.W.plainGet_of hg).1 (PySem.W.findObj_own hh ha rfl (by rw [hl, hv])) hv' h
theorem get_meth {pl : Sem Bool} {Q : Value × List Value → Shared → Prop} (X : K.In s.heap) (I : ObjM s.heap x dx C mA) (hg : PySem.W.plainGet K C name = true)
    (hf : PySem.W.findIn K (.ref C) name = some (some (.ref f))) (ht : PySem.W.isFn K (.ref f) = true) (hv : mA name = none) (h : Q (.ref f, [.ref x]) s) :
    wpAny (model prog w) A (getMethod (.ref x) name pl) Q E s := by
  obtain ⟨od, J, hl⟩ := I.look
  exact PySem.W.method_fn X J (PySem.W.plainGet_of hg).1 (PySem.W.plainGet_of hg).2 hf (beq_iff_eq.mp ht) (by show (PySem.W.lookIn name od).map (·.isSome) = some false; rw [hl, hv]; rfl) h
theorem set_map {ns : List Str} {Q : Unit → Shared → Prop} (X : K.In s.heap) (I : ObjM s.heap x dx C mA)
    (hs : PySem.W.findIn K (.ref C) "__setattr__" = some (some (.builtin "object.__setattr__"))) (hp : PySem.W.plainOver K C = true) (ht : PySem.W.takerIn K C name = some none) (hh : PySem.W.hasDictIn K C = true)
    (hw : PySem.Within mA ns) (hsz : ns.length ≤ sizeLine)
    (h : ∀ h', ObjM h' x dx C (fun y => if y = name then some v else mA y) → Heap.SameBut dx s.heap h' → Q () { s with heap := h', toks := s.toks + 2 }) :
    wpAny (model prog w) A (setAttr (.ref x) name v) Q E s := by
  obtain ⟨od, J, hl⟩ := I.look
  refine PySem.W.set_plain X J hs (PySem.W.osa_open (s := { s with toks := s.toks + 1 }) (r := none) X J hp ht fun b => ?_)
  obtain ⟨cd, hc, hd'⟩ := PySem.W.any_some hh
  have hx : s.heap.get? x = some ⟨.ref C, some dx, .plain, #[]⟩ := I.obj
  refine wpAny_bind (wpAny_pure (wpAny_bind (wpAny_bind (wpAny_loadPart hx (wpAny_bind (PySem.W.Looks.here (s := { s with toks := s.toks + 1 }) (PySem.W.looks_clsIn X hc) ?_))))))
  rw [hd']
  refine wpAny_pure (a := some dx) (wpAny_bind (wpAny_pure (wpAny_bind ?_)))
  refine wpAny_nsSet1 (s := { s with toks := s.toks + 1 }) I.ns fun h' hn2 hs2 => ?_
  obtain ⟨oD, esD, epD, hoD, hdD, hcD⟩ := hn2.count (PySem.Within.cons name v hw)
  refine wpAny_bind (wpAny_lookBehind hoD (by rw [hdD]; exact pastItsLine_dict (Nat.le_trans hcD (by rw [List.length_cons]; omega))) ?_)
  exact wpAny_pure (h _ ⟨(hs2.2 _ (Ne.symm I.ne)).trans I.obj, hn2, I.ne⟩ hs2)
theorem make_map {R : Result → Shared → Prop} {vs : List Value} {kw : List (Str × Value)} (X : K.In s.heap) (hm : PySem.W.makesIn K C = true)
    (hi : PySem.W.findIn K (.ref C) "__init__" = some (some (.ref f))) (hf : PySem.W.typeIn K (.ref f) = some (.type "function"))
    (h : codeAny (model prog w) (A.under (.builtin "type.__call__" ⟨.ref C :: vs, kw⟩)) (.call (.ref f) ⟨.ref (s.heap.objs.size + 1) :: vs, kw⟩) (PySem.W.InitBack (s.heap.objs.size + 1) R)
      { s with heap := (s.heap.push PySem.W.emptyDict).push (PySem.W.instObj C s.heap.objs.size) }) :
    codeAny (model prog w) A (.call (.ref C) ⟨vs, kw⟩) R s := by
  obtain ⟨hh, g, d, t, os⟩ := s
  exact PySem.W.make_core (PySem.W.makes_of X hm) (PySem.W.looks_findIn X hi) (fun self => PySem.W.bind_fn X self hf) (.inl rfl) h
end
def putF (f : Str) (v : V) : List (Str × V) → List (Str × V)
  | [] => [(f, v)]
  | (g, x) :: r => if g = f then (g, v) :: r else (g, x) :: putF f v r
theorem lookup_putF (f g : Str) (v : V) : ∀ fs : List (Str × V), (putF f v fs).lookup g = if g = f then some v else fs.lookup g
  | [] => by
    show List.lookup g [(f, v)] = _
    by_cases h : g = f
    · have hb : (g == f) = true := beq_iff_eq.mpr h
      simp only [List.lookup, hb, if_pos h]
    · have hb : (g == f) = false := beq_eq_false_iff_ne.mpr h
      simp only [List.lookup, hb, if_neg h]
  | (k, x) :: r => by
    have ih := lookup_putF f g v r
    rw [show putF f v ((k, x) :: r) = (if k = f then (k, v) :: r else (k, x) :: putF f v r) from rfl]
    by_cases hk : k = f
    · rw [if_pos hk]
      by_cases h : g = k
      · have hb : (g == k) = true := beq_iff_eq.mpr h
        simp only [List.lookup, hb, if_pos (h.trans hk)]
      · have hb : (g == k) = false := beq_eq_false_iff_ne.mpr h
        simp only [List.lookup, hb, if_neg (fun e : g = f => h (e.trans hk.symm))]
    · rw [if_neg hk]
      by_cases h : g = k
      · have hb : (g == k) = true := beq_iff_eq.mpr h
        simp only [List.lookup, hb, if_neg (fun e : g = f => hk (h.symm.trans e))]
      · have hb : (g == k) = false := beq_eq_false_iff_ne.mpr h
        simp only [List.lookup, hb]
        exact ih
theorem keys_putF (f : Str) (v : V) : ∀ fs : List (Str × V), f ∈ (putF f v fs).map (·.1) ∧ ∀ g, g ∈ fs.map (·.1) → g ∈ (putF f v fs).map (·.1)
  | [] => ⟨by simp [putF], fun g h => by simp at h⟩
  | (k, x) :: r => by
    obtain ⟨i1, i2⟩ := keys_putF f v r
    rw [show putF f v ((k, x) :: r) = (if k = f then (k, v) :: r else (k, x) :: putF f v r) from rfl]
    by_cases hk : k = f
    · rw [if_pos hk]
      subst hk
      exact ⟨by simp, fun g h => by simpa using h⟩
    · rw [if_neg hk]
      refine ⟨?_, fun g h => ?_⟩
      · rw [List.map_cons]
        exact List.mem_cons_of_mem _ i1
      · rw [List.map_cons] at h ⊢
        rcases List.mem_cons.mp h with e | e
        · exact List.mem_cons.mpr (.inl e)
        · exact List.mem_cons_of_mem _ (i2 g e)
theorem length_putF (f : Str) (v : V) : ∀ fs : List (Str × V), (putF f v fs).length ≤ fs.length + 1
  | [] => by simp [putF]
  | (k, x) :: r => by
    have ih := length_putF f v r
    rw [show putF f v ((k, x) :: r) = (if k = f then (k, v) :: r else (k, x) :: putF f v r) from rfl]
    by_cases hk : k = f
    · rw [if_pos hk, List.length_cons, List.length_cons]; omega
    · rw [if_neg hk, List.length_cons, List.length_cons]; omega
theorem RelO.some_of {v : V} {o : Option Value} (r : RelO (some v) o) : ∃ u, o = some u ∧ RelV v u := by
  cases o with
  | none => exact (show False from r).elim
  | some u => exact ⟨u, rfl, r⟩
theorem RelO.none_of {o : Option Value} (r : RelO none o) : o = none := by
  cases o with
  | none => rfl
  | some u => exact (show False from r).elim
theorem handed_of {v : V} {u : Value} (r : RelV v u) : PySem.W.handedIn u = true := by
  cases v with
  | non => cases (show u = Value.none from r); rfl
  | bl b => cases (show u = Value.bool b from r); rfl
  | int i => obtain ⟨t, e⟩ := (show ∃ t, u = Value.int i t from r); cases e; rfl
  | str x => obtain ⟨t, e⟩ := (show ∃ t, u = Value.str x t from r); cases e; rfl
  | byt b => obtain ⟨t, e⟩ := (show ∃ t, u = Value.bytes b t from r); cases e; rfl
  | flt b => obtain ⟨t, e⟩ := (show ∃ t, u = Value.float b t from r); cases e; rfl
  | ref a => cases (show u = Value.ref a from r); rfl
  | ty n => cases (show u = Value.type n from r); rfl
section
variable {P : Program} {w : World} {H H' : Hp} {h h' : Heap} {a C dx : Addr} {fs fs' : List (Str × V)}
theorem ins_get (hok : HOk P w H h) (e : H a = some (.ins C dx fs)) : ∃ mA, ObjM h a dx C mA ∧ (∀ f, RelO (fs.lookup f) (mA f)) ∧ PySem.Within mA (fs.map (·.1)) ∧ fs.length ≤ 1000 ∧ H dx = some (.own a) := by
  obtain ⟨d, z, ne, ob, mA, n, r, q⟩ := (show ObjOk P w H h a (.ins C dx fs) from hok a _ e)
  exact ⟨mA, ⟨ob, n, ne⟩, r, q, z, d⟩
end
structure Cls (K : PySem.W.Frag) (C : Addr) : Prop where
  pg : PySem.W.plainGet K C Str.empty = true
  hd : PySem.W.hasDictIn K C = true
  po : PySem.W.plainOver K C = true
  sa : PySem.W.findIn K (.ref C) "__setattr__" = some (some (.builtin "object.__setattr__"))
theorem Cls.get {K : PySem.W.Frag} {C : Addr} (c : Cls K C) (f : Str) : PySem.W.plainGet K C f = true := c.pg
def NoAttr (K : PySem.W.Frag) (C : Addr) (f : Str) : Prop := PySem.W.findIn K (.ref C) f = some none
theorem NoAttr.taker {K : PySem.W.Frag} {C : Addr} {f : Str} (n : NoAttr K C f) : PySem.W.takerIn K C f = some none := by
  unfold PySem.W.takerIn
  rw [show PySem.W.findIn K (.ref C) f = some none from n]
  rfl
structure Meth (K : PySem.W.Frag) (C : Addr) (m : Str) (f : Addr) : Prop where
  at_ : PySem.W.findIn K (.ref C) m = some (some (.ref f))
  fn : PySem.W.isFn K (.ref f) = true
  kp : PySem.W.keepIn K (.ref f) = true
section
variable {X : Cx} {pins : List (Addr × Obj)} {σ : St} {H : Hp} {s : Shared} {a C dx : Addr} {fs : List (Str × V)} {f : Str} {v : V} {A : Around} {E : Value → Shared → Prop}
theorem getattr_ok {b : Bool} {Q : Value → Shared → Prop} (I : Inv X pins σ H s) (e : H a = some (.ins C dx fs)) (c : Cls X.K C) (n : NoAttr X.K C f) (l : fs.lookup f = some v)
    (h : ∀ u s', Inv X pins σ H s' → RelV v u → Q u s') : wpAny (model X.prog X.w) A (getAttr (.ref a) f b) Q E s := by
  obtain ⟨mA, O, r, _, _, _⟩ := ins_get I.hok e
  obtain ⟨u, hu, ru⟩ := RelO.some_of (v := v) (o := mA f) (by rw [← l]; exact r f)
  exact get_map I.kIn O (c.get f) c.hd n hu (handed_of ru) (h u _ (I.tok _) ru)
theorem getmeth_ok {m : Str} {g : Addr} {pl : Sem Bool} {Q : Value × List Value → Shared → Prop} (I : Inv X pins σ H s) (e : H a = some (.ins C dx fs)) (c : Cls X.K C) (k : Meth X.K C m g) (l : fs.lookup m = none)
    (h : Q (.ref g, [.ref a]) s) : wpAny (model X.prog X.w) A (getMethod (.ref a) m pl) Q E s := by
  obtain ⟨mA, O, r, _, _, _⟩ := ins_get I.hok e
  have hn : mA m = none := RelO.none_of (by rw [← l]; exact r m)
  exact get_meth I.kIn O (c.get m) k.at_ k.fn hn h
theorem setattr_ok {y : V} {u : Value} {Q : Unit → Shared → Prop} (I : Inv X pins σ H s) (e : H a = some (.ins C dx fs)) (c : Cls X.K C) (n : NoAttr X.K C f) (hl : fs.length < 1000) (ry : RelV y u)
    (h : ∀ s', Inv X pins σ (upd H a (.ins C dx (putF f y fs))) s' → Q () s') : wpAny (model X.prog X.w) A (setAttr (.ref a) f u) Q E s := by
  obtain ⟨mA, O, r, wi, _, ho⟩ := ins_get I.hok e
  have hz : (fs.map (·.1)).length ≤ sizeLine := by rw [List.length_map, sizeLine_eq]; omega
  refine set_map I.kIn O c.sa c.po n.taker c.hd wi hz fun h' O' sb => h _ ?_
  have hd : ∃ o, h'.get? dx = some o := let ⟨o, _, _, e', _⟩ := O'.ns; ⟨o, e'⟩
  refine I.write (x := a) (e := dx) (by rw [e]; exact True.intro) (.inr ho) (fun b q hb z => (sb.2 b hb).trans z) hd ?_
  refine ⟨by rw [upd_ne O.ne]; exact ho, ?_, O.ne, O'.obj, _, O'.ns, fun g => ?_, fun g hg => ?_⟩
  · have := length_putF f y fs; omega
  · show RelO ((putF f y fs).lookup g) (if g = f then some u else mA g)
    rw [lookup_putF]
    by_cases q : g = f
    · rw [if_pos q, if_pos q]; exact ry
    · rw [if_neg q, if_neg q]; exact r g
  · by_cases q : g = f
    · rw [q]; exact (keys_putF f y fs).1
    · refine (keys_putF f y fs).2 g (wi g fun z => hg ?_)
      show (if g = f then some u else mA g) = none
      rw [if_neg q]; exact z
theorem Inv.made (I : Inv X pins σ H s) : Inv X pins σ (upd (upd H s.heap.objs.size (.own (s.heap.objs.size + 1))) (s.heap.objs.size + 1) (.ins C s.heap.objs.size []))
    { s with heap := (s.heap.push PySem.W.emptyDict).push (PySem.W.instObj C s.heap.objs.size) } := by
  have e1 : (s.heap.push PySem.W.emptyDict).get? s.heap.objs.size = some PySem.W.emptyDict := Heap.get?_push_size s.heap rfl
  have e2 : ((s.heap.push PySem.W.emptyDict).push (PySem.W.instObj C s.heap.objs.size)).get? (s.heap.objs.size + 1) = some (PySem.W.instObj C s.heap.objs.size) := by
    have := Heap.get?_push_size (s.heap.push PySem.W.emptyDict) (o := PySem.W.instObj C s.heap.objs.size) rfl
    rwa [Heap.size_push] at this
  have e3 : (s.heap.push PySem.W.emptyDict).Ns s.heap.objs.size (fun _ => none) := ⟨PySem.W.emptyDict, #[], _, e1, rfl, (fun e he => absurd he (by simp)), fun _ => rfl⟩
  have I1 := I.laid (a := s.heap.objs.size) (o := .own (s.heap.objs.size + 1)) (h' := s.heap.push PySem.W.emptyDict) (t' := s.toks) (fun b u q => Heap.get?_push_of_some _ q) (Nat.le_refl _) ⟨_, e1⟩
  refine I1.laid (a := s.heap.objs.size + 1) (o := .ins C s.heap.objs.size []) (t' := s.toks) (fun b u q => Heap.get?_push_of_some _ q) (Nat.le_of_eq (Heap.size_push _ _)) ?_
  have ne : s.heap.objs.size ≠ s.heap.objs.size + 1 := Nat.ne_of_lt (Nat.lt_succ_self _)
  refine ⟨by rw [upd_ne ne, upd_same], Nat.zero_le _, ne, e2, fun _ => none, (Heap.Ns1.of_empty e3).at fun o q => Heap.get?_push_of_some _ q, fun _ => True.intro, fun y hy => absurd rfl hy⟩
theorem attr_of {prog : Program} {w : World} {env : Env} {e : Expr} {f : Str} {pos : Pos} {s : Shared} {Q : Value → Shared → Prop} (hb : attributeBase e f env (eval e env) = eval e env)
    (h : wpAny (model prog w) A (eval e env) (fun o s₁ => wpAny (model prog w) A (getAttr o f true) Q E s₁) E s) : wpAny (model prog w) A (eval (.Attribute e f pos) env) Q E s :=
  Attribute_any_ h (by rw [arm_eval_Attribute, hb])
end
def tFld (K : PySem.W.Frag) (ta : TE) (f : Str) : TE := fun σ H Q => ta σ H fun x H1 => ∃ a C dx fs v, x = .ref a ∧ H1 a = some (.ins C dx fs) ∧ Cls K C ∧ NoAttr K C f ∧ fs.lookup f = some v ∧ Q v H1
def sFld (K : PySem.W.Frag) (ta tv : TE) (f : Str) : TS := fun D σ H => tv σ H fun y H1 => ta σ H1 fun x H2 => ∃ a C dx fs, x = .ref a ∧ H2 a = some (.ins C dx fs) ∧ Cls K C ∧ NoAttr K C f ∧ fs.length < 1000 ∧
  D.nx σ (upd H2 a (.ins C dx (putF f y fs)))
section
variable {X : Cx} {o e value : Expr} {f : Str} {pos pos' tpos : Pos} {ta tv : TE}
theorem pe_fld (he : PE X e ta) (hb : attributeBase e f X.env (eval e X.env) = eval e X.env) : PE X (.Attribute e f pos) (tFld X.K ta f) := by
  intro pins s σ H Q I h
  refine attr_of hb (thn (he pins s σ H _ I h) fun u s1 ⟨x, H1, I1, rx, a, C, dx, fs, v, ex, ea, c, n, l, q⟩ => ?_)
  subst ex
  obtain rfl : u = Value.ref a := rx
  exact getattr_ok I1 ea c n l fun u' s2 I2 ru => ⟨v, H1, I2, ru, q⟩
theorem ps_fld (ha : PE X o ta) (hv : PE X value tv) (hs : swapsWith value (some (.Attribute o f pos')) pos.line X.env = pure false) : PS X (.Assign [.Attribute o f pos'] value pos) (sFld X.K ta tv f) := by
  intro pins s σ H D I h
  refine plainObj_wpAny_Assign_Attribute (thn (hv pins s σ H _ I h) fun u s1 ⟨y, H1, I1, ry, q⟩ => thn (ha pins s1 σ H1 _ I1 q) fun ov s2 ⟨x, H2, I2, rx, a, C, dx, fs, ex, ea, c, n, l, q2⟩ => ?_) hs
  subst ex
  obtain rfl : ov = Value.ref a := rx
  exact setattr_ok I2 ea c n l ry fun s3 I3 => ⟨σ, _, I3, q2⟩
theorem methcall_of {pl : Sem Bool} {m : Str} {apos : Pos} {args : List Expr} {pins : List (Addr × Obj)} {s : Shared} {σ : St} {H : Hp} {Q : Value → Shared → Prop} {te : TE} (he : PE X e te) (I : Inv X pins σ H s)
    (h : te σ H fun x H1 => ∃ a C dx fs g, x = .ref a ∧ H1 a = some (.ins C dx fs) ∧ Cls X.K C ∧ Meth X.K C m g ∧ fs.lookup m = none ∧
      ∀ s1, Inv X pins σ H1 s1 → wpAny (model X.prog X.w) X.A (callWith pos (.ref g) [.ref a] (backTo pos (starEach args X.env)) (backToKw pos (keywordEach [] X.env))) Q X.xe s1)
    (ht : eval (.Call (.Attribute e m apos) args [] pos) X.env = (do
      let ov ← eval e X.env
      standAt apos.atName
      let (f, first) ← holding [ov] (getMethod ov m pl)
      callWith pos f first (backTo pos (starEach args X.env)) (backToKw pos (keywordEach [] X.env)))) :
    wpAny (model X.prog X.w) X.A (eval (.Call (.Attribute e m apos) args [] pos) X.env) Q X.xe s := by
  refine PySem.W.methodCall_KW (pl := pl) (thn (he pins s σ H _ I h) fun u s1 ⟨x, H1, I1, rx, a, C, dx, fs, g, ex, ea, c, k, l, q⟩ => ?_) ht
  subst ex
  obtain rfl : u = Value.ref a := rx
  exact getmeth_ok I1 ea c k l (q s1 I1)
end
section
variable {X : Cx} {pins : List (Addr × Obj)} {σ : St} {H : Hp} {s : Shared} {A : Around} {E : Value → Shared → Prop} {Q : Value → Shared → Prop} {c : Value} {b : Bool}
inductive TyOf (K : PySem.W.Frag) (H : Hp) : V → Value → Prop where
  | non : TyOf K H .non (.type "NoneType")
  | bl (x : Bool) : TyOf K H (.bl x) (.type "bool")
  | int (i : Int) : TyOf K H (.int i) (.type "int")
  | str (x : Str) : TyOf K H (.str x) (.type "str")
  | flt (x : UInt64) : TyOf K H (.flt x) (.type "float")
  | lst {a : Addr} {xs : List V} (e : H a = some (.lst xs)) : TyOf K H (.ref a) (.type "list")
  | frz {a : Addr} {o : Obj} {xs : List V} (e : H a = some (.frz o (.lst xs))) : TyOf K H (.ref a) (.type "list")
  | tup {a : Addr} {xs : List V} (e : H a = some (.tup xs)) : TyOf K H (.ref a) (.type "tuple")
  | dK {a : Addr} {kvs : List (Key × V)} (e : H a = some (.dK kvs)) : TyOf K H (.ref a) (.type "dict")
  | dT {a : Addr} {kvs : List (List Key × V)} (e : H a = some (.dT kvs)) : TyOf K H (.ref a) (.type "dict")
  | ins {a C dx : Addr} {fs : List (Str × V)} (e : H a = some (.ins C dx fs)) (cl : Cls K C) (ha : PySem.W.findIn K (.ref C) "__class__" = some (some (.builtin "object.__class__")))
      (hn : PySem.W.specialIn K (.builtin "object.__class__") "__get__" = some (some (.builtin "getset_descriptor.__get__"))) (htk : PySem.W.takesIn K (.builtin "object.__class__") = some true)
      (hm : PySem.W.mroIn K C (.type "object") = some true) : TyOf K H (.ref a) (.ref C)
theorem isinst_ok {x : V} {u t : Value} (I : Inv X pins σ H s) (rx : RelV x u) (ty : TyOf X.K H x t) (e : PySem.W.kitOne X.K t c = some b) (h : ∀ tk, Q (.bool b) { s with toks := tk }) :
    wpAny (model X.prog X.w) A (call (.builtin "isinstance") [u, c]) Q E s := by
  cases ty with
  | non => cases (show u = Value.none from rx); exact PySem.W.kia_one PySem.W.kitx_none I.kIn True.intro e (fun z => nomatch z) h
  | bl y => cases (show u = Value.bool y from rx); exact PySem.W.kia_one PySem.W.kitx_bool I.kIn True.intro e (fun z => nomatch z) h
  | int i => obtain ⟨t, q⟩ := (show ∃ t, u = Value.int i t from rx); cases q; exact PySem.W.kia_one PySem.W.kitx_int I.kIn True.intro e (fun z => nomatch z) h
  | str y => obtain ⟨t, q⟩ := (show ∃ t, u = Value.str y t from rx); cases q; exact PySem.W.kia_one PySem.W.kitx_str I.kIn True.intro e (fun z => nomatch z) h
  | flt y => obtain ⟨t, q⟩ := (show ∃ t, u = Value.float y t from rx); cases q; exact PySem.W.kia_one PySem.W.kitx_float I.kIn True.intro e (fun z => nomatch z) h
  | @lst a xs ea =>
    cases (show u = Value.ref a from rx)
    obtain ⟨_, _, n, _, h1⟩ := (show ObjOk X.prog X.w H s.heap a (.lst xs) from I.hok a _ ea)
    exact PySem.W.kia_one PySem.W.kitx_list I.kIn ⟨_, h1, rfl⟩ e (fun z => nomatch z) h
  | @frz a ob xs ea =>
    cases (show u = Value.ref a from rx)
    obtain ⟨_, _, _, n, _, h1⟩ := (show ObjOk X.prog X.w H s.heap a (.frz ob (.lst xs)) from I.hok a _ ea)
    exact PySem.W.kia_one PySem.W.kitx_list I.kIn ⟨_, h1, rfl⟩ e (fun z => nomatch z) h
  | @tup a xs ea =>
    cases (show u = Value.ref a from rx)
    obtain ⟨_, _, _, p⟩ := (show ObjOk X.prog X.w H s.heap a (.tup xs) from I.hok a _ ea)
    obtain ⟨o, h1, h2, _⟩ := p
    exact PySem.W.kia_one PySem.W.kitx_tuple I.kIn ⟨o, h1, h2⟩ e (fun z => nomatch z) h
  | @dK a kvs ea =>
    cases (show u = Value.ref a from rx)
    obtain ⟨_, _, vs, _, p⟩ := (show ObjOk X.prog X.w H s.heap a (.dK kvs) from I.hok a _ ea)
    obtain ⟨o, es, ep, h1, h2, _⟩ := p
    exact PySem.W.kia_one PySem.W.kitx_dict I.kIn ⟨o, h1, h2.1⟩ e (fun z => nomatch z) h
  | @dT a kvs ea =>
    cases (show u = Value.ref a from rx)
    obtain ⟨_, _, xs, _, o, es, ep, h1, h2, _⟩ := (show ObjOk X.prog X.w H s.heap a (.dT kvs) from I.hok a _ ea)
    exact PySem.W.kia_one PySem.W.kitx_dict I.kIn ⟨o, h1, h2.1⟩ e (fun z => nomatch z) h
  | @ins a C dx fs ea cl ha hn htk hm =>
    cases (show u = Value.ref a from rx)
    obtain ⟨mA, O, _⟩ := ins_get I.hok ea
    obtain ⟨od, J, _⟩ := O.look
    exact PySem.W.kia_one (PySem.W.kitx_own (cl.get _) cl.hd ha hn htk hm) I.kIn J e (fun z => nomatch z) h
end
end L2
namespace L2
open PySem PySem.Spec PyProof.Rows
structure Room (k : Nat) (A : Around) : Prop where
  hd : A.handled = none
  dp : A.depth + 3 * k + 5 < recursionLimit
  un : A.units + 16 * k + 200 < cLine
theorem Room.mono {j k : Nat} {A : Around} (r : Room k A) (h : j ≤ k) : Room j A := ⟨r.hd, by have := r.dp; omega, by have := r.un; omega⟩
theorem Room.deeper {k : Nat} {A : Around} (r : Room (k + 1) A) (env : Env) : Room k (A.deeper env) :=
  ⟨r.hd, by have := r.dp; show A.depth + 1 + 3 * k + 5 < _; omega, by have := r.un; show A.units + 3 + 16 * k + 200 < _; omega⟩
theorem make_depth {A : Around} {C : Addr} {us : List Value} {kw : List (Str × Value)} : (A.under (.builtin "type.__call__" ⟨.ref C :: us, kw⟩)).depth = A.depth + 1 := by
  first | rfl | simp [Around.under, Code.weight, Code.isCreation, Code.isGuard, Code.isCaller, Code.frames, Code.isFrame, guardIds]
theorem make_units {A : Around} {C : Addr} {us : List Value} {kw : List (Str × Value)} : (A.under (.builtin "type.__call__" ⟨.ref C :: us, kw⟩)).units = A.units + 1 := by
  first | rfl | simp [Around.under, Code.cUnits, Code.frames, Code.isFrame]
theorem Room.make {k : Nat} {A : Around} (r : Room (k + 1) A) (C : Addr) (us : List Value) (kw : List (Str × Value)) : Room k (A.under (.builtin "type.__call__" ⟨.ref C :: us, kw⟩)) :=
  ⟨r.hd, by have := r.dp; rw [make_depth]; omega, by have := r.un; rw [make_units]; omega⟩
theorem Room.depth {k : Nat} {A : Around} (r : Room k A) : A.depth < recursionLimit := by have := r.dp; omega
theorem Room.units {k : Nat} {A : Around} (r : Room k A) : A.units + 64 < cLine := by have := r.un; omega
def tNil : TA := fun _ H Q => Q [] H
def tCons (ta : TE) (tr : TA) : TA := fun σ H Q => ta σ H fun x H1 => tr σ H1 fun xs H2 => Q (x :: xs) H2
section
variable {X : Cx} {e : Expr} {es : List Expr} {te : TE} {t : TA} {pos : Pos}
theorem pa_nil : PA X [] tNil := fun _ _ _ _ H Q I h => Calls.spliced_nil ⟨[], H, I, .nil, h⟩
theorem pa_cons (ha : PE X e te) (hr : PA X es t) (hs : starEach (e :: es) X.env = (false, eval e X.env) :: starEach es X.env := by rfl) : PA X (e :: es) (tCons te t) := by
  intro pos pins s σ H Q I h
  rw [hs]
  show wpAny _ _ (spliced ((false, eval e X.env) :: backTo pos (starEach es X.env))) _ _ s
  refine Calls.spliced_cons (thn (ha pins s σ H _ I h) fun u s1 ⟨x, H1, I1, r1, q1⟩ => ?_)
  exact thn (hr pos pins s1 σ H1 _ I1 q1) fun us s2 ⟨xs, H2, I2, r2, q2⟩ => ⟨x :: xs, H2, I2, .cons r1 r2, q2⟩
def tTup (t : TA) : TE := fun σ H Q => t σ H fun xs H1 => xs.length ≤ sizeLine ∧ ∀ p, H1 p = none → Q (.ref p) (upd H1 p (.tup xs))
def tLst (t : TA) : TE := fun σ H Q => t σ H fun xs H1 => xs.length ≤ sizeLine ∧ ∀ p, H1 p = none → Q (.ref p) (upd H1 p (.lst xs))
theorem pe_tup {x1} (h : PA X es t) : PE X (.Tuple es x1 pos) (tTup t) := by
  intro pins s σ H Q I hq
  refine wpAny_Tuple_spliced (thn (h pos pins s σ H _ I hq) fun us s1 ⟨xs, H1, I1, r, z, q⟩ => ⟨by rw [← r.length]; exact z, ?_⟩)
  have hf : H1 s1.heap.objs.size = none := I1.hok.fresh (Nat.le_refl _)
  refine ⟨.ref s1.heap.objs.size, upd H1 s1.heap.objs.size (.tup xs), I1.laid (t' := s1.toks) (fun b u e => Heap.get?_push_of_some _ e) (Nat.le_refl _) ?_, rfl, q _ hf⟩
  exact ⟨z, us, r, ⟨_, Heap.get?_push_size _ rfl, rfl, _, rfl⟩⟩
theorem pe_lst (h : PA X es t) : PE X (.List es pos) (tLst t) := by
  intro pins s σ H Q I hq
  refine wpAny_List_spliced (thn (h pos pins s σ H _ I hq) fun us s1 ⟨xs, H1, I1, r, z, q⟩ => ⟨by rw [← r.length]; exact z, ?_⟩)
  have hf : H1 s1.heap.objs.size = none := I1.hok.fresh (Nat.le_refl _)
  refine ⟨.ref s1.heap.objs.size, upd H1 s1.heap.objs.size (.lst xs), I1.laid (t' := s1.toks) (fun b u e => Heap.get?_push_of_some _ e) (Nat.le_refl _) ?_, rfl, q _ hf⟩
  exact ⟨z, us, 0, r, Heap.get?_push_size _ rfl⟩
end
abbrev Sp := List V → Hp → VK → XK → Prop
abbrev CXT := List Env → Hp → Shared → XK → Value → Shared → Prop
structure Env0 (P : Program) (w : World) (K : PySem.W.Frag) (mg : Str → Option Value) (base : Heap) (A : Around) (outer : List Env) (s : Shared) (H : Hp) : Prop where
  frames : A.frames = some outer
  mod : Mod K mg base
  bs : ∀ b o, base.get? b = some o → s.heap.get? b = some o ∧ H b = none
  bsz : base.objs.size ≤ s.heap.objs.size
  funs : s.heap.FunFrames base outer
  frf : ∀ b ∈ frs outer, H b = none
  hok : HOk P w H s.heap
  bare : AllBare s.gens
def CE (outer : List Env) (P : Program) (w : World) (H : Hp) (s : Shared) (Q : VK) (u : Value) (s' : Shared) : Prop :=
  ∃ v H', s'.os = s.os ∧ AllBare s'.gens ∧ Un (frs outer) [] H H' s.heap s'.heap ∧ HOk P w H' s'.heap ∧ RelV v u ∧ Q v H'
def CR (CX : CXT) (outer : List Env) (P : Program) (w : World) (H : Hp) (s : Shared) (Q : VK) (E : XK) (r : Result) (s' : Shared) : Prop :=
  match r with
  | .ok (.ret u) => CE outer P w H s Q u s'
  | .ok _ => False
  | .error e => CX outer H s E e s'
structure FnOk (P : Program) (w : World) (K : PySem.W.Frag) (mg : Str → Option Value) (base : Heap) (CX : CXT) (k : Nat) (f : Addr) (fd : FuncData) (ps : List Str) (sp : Sp) : Prop where
  len : ∀ vs H Q E, sp vs H Q E → vs.length = ps.length
  run : ∀ (A : Around) (outer : List Env) (s : Shared) (H : Hp) (args : Args) (us : List Value) (vs : List V) (Q : VK) (E : XK), Room k A → Env0 P w K mg base A outer s H → BindsTo s fd args (ps.zip us) → Vals vs us → sp vs H Q E →
    codeAny (model P w) A (.call (.ref f) args) (CR CX outer P w H s Q E) s
theorem Env0.make {P : Program} {w : World} {K : PySem.W.Frag} {mg : Str → Option Value} {base : Heap} {A : Around} {outer : List Env} {s : Shared} {H : Hp} (e : Env0 P w K mg base A outer s H) (C : Addr) (us : List Value) (kw : List (Str × Value)) :
    Env0 P w K mg base (A.under (.builtin "type.__call__" ⟨.ref C :: us, kw⟩)) outer s H := ⟨by first | exact e.frames | (simpa [Around.under, Code.envs, Code.isFrame, pushEnvs] using e.frames), e.mod, e.bs, e.bsz, e.funs, e.frf, e.hok, e.bare⟩
section
variable {X : Cx} {pins : List (Addr × Obj)} {σ : St} {H : Hp} {s s' : Shared}
theorem Inv.env0 (I : Inv X pins σ H s) : Env0 X.prog X.w X.K X.mg X.base X.A X.stack s H :=
  ⟨I.ok.frames, I.ok.mod, I.bs, Nat.le_trans I.ok.bsz I.sz, I.stack, I.stkFree, I.hok, I.bare⟩
theorem Inv.after {Q : VK} {u : Value} (I : Inv X pins σ H s) (h : CE X.stack X.prog X.w H s Q u s') : EP X pins σ Q u s' := by
  obtain ⟨v, H', os, bare, un, hok, r, q⟩ := h
  obtain ⟨hh, g, d, t, os'⟩ := s'
  obtain rfl : os' = s.os := os
  exact ⟨v, H', I.call (h' := hh) (g' := g) (d' := d) (t' := t) (ch := []) un hok bare (fun b z => absurd z (by simp)), r, q⟩
end
def tCall (sp : Sp) (dvs : List V) (E : XK) (t : TA) : TE := fun σ H Q => t σ H fun vs H1 => sp (vs ++ dvs) H1 Q E
def tMeth (C : Addr) (m : Str) (sp : Sp) (dvs : List V) (E : XK) (ta : TE) (t : TA) : TE := fun σ H Q => ta σ H fun x H1 => ∃ a dx fs, x = .ref a ∧ H1 a = some (.ins C dx fs) ∧ fs.lookup m = none ∧
  t σ H1 fun vs H2 => sp (x :: (vs ++ dvs)) H2 Q E
def tMake (C : Addr) (sp : Sp) (dvs : List V) (E : XK) (t : TA) : TE := fun σ H Q => t σ H fun vs H1 => ∀ x dx, H1 x = none → H1 dx = none → dx ≠ x →
  sp (.ref x :: (vs ++ dvs)) (upd (upd H1 dx (.own x)) x (.ins C dx [])) (fun v H2 => v = .non ∧ Q (.ref x) H2) E
def Binds (K : PySem.W.Frag) (fd : FuncData) (ps : List Str) (ds : List Value) : Prop :=
  ∀ (s : Shared) (us : List Value), K.In s.heap → (us ++ ds).length = ps.length → BindsTo s fd ⟨us, []⟩ (ps.zip (us ++ ds))
theorem Binds.all {K : PySem.W.Frag} {fd : FuncData} {ps : List Str} (h : ∀ us : List Value, us.length = ps.length → bindArgs fd ⟨us, []⟩ = pure (ps.zip us)) : Binds K fd ps [] := fun s us _ hl => by
  rw [List.append_nil] at hl ⊢
  exact .of_eq (h us hl)
def Passes (CX : CXT) (X : Cx) (E : XK) : Prop := ∀ (pins : List (Addr × Obj)) (σ : St) (H : Hp) (s : Shared) (e : Value) (s' : Shared), Inv X pins σ H s → CX X.stack H s E e s' → X.xe e s'
section
variable {X : Cx} {CX : CXT} {k : Nat} {f C : Addr} {fd : FuncData} {ps : List Str} {sp : Sp} {dvs : List V} {ds : List Value} {E : XK} {x m : Str} {p pos apos : Pos} {e o : Expr} {es : List Expr} {ta : TE} {t : TA}
theorem run_fn {pins : List (Addr × Obj)} {σ : St} {H : Hp} {s : Shared} {Q : VK} {us : List Value} {vs : List V} (F : FnOk X.prog X.w X.K X.mg X.base CX k f fd ps sp) (hr : Room k X.A) (hb : Binds X.K fd ps ds) (hd : Vals dvs ds) (hx : Passes CX X E)
    (I : Inv X pins σ H s) (r : Vals vs us) (h : sp (vs ++ dvs) H Q E) : wpAny (model X.prog X.w) X.A (call (.ref f) us) (EP X pins σ Q) X.xe s := by
  have r2 : Vals (vs ++ dvs) (us ++ ds) := r.append hd
  have hl : (us ++ ds).length = ps.length := by rw [← r2.length]; exact F.len _ _ _ _ h
  refine wpAny_call (codeAny_mono (F.run X.A X.stack s H ⟨us, []⟩ (us ++ ds) (vs ++ dvs) Q E hr I.env0 (hb s us I.kIn hl) r2 h) fun r s' hq => ?_)
  cases r with
  | error e => exact hx pins σ H s e s' I hq
  | ok fl =>
    cases fl with
    | ret u => exact I.after hq
    | next => exact False.elim hq
    | brk => exact False.elim hq
    | cont => exact False.elim hq
theorem pe_call (F : FnOk X.prog X.w X.K X.mg X.base CX k f fd ps sp) (hr : Room k X.A) (hg : Gl X x) (hm : X.mg x = some (.ref f)) (hk : PySem.W.keepIn X.K (.ref f) = true) (hb : Binds X.K fd ps ds) (hd : Vals dvs ds) (hx : Passes CX X E)
    (ha : PA X (e :: es) t) (hdb : (x == ("__debug__" : Str)) = false := by decide) (he : starEach (e :: es) X.env = (false, eval e X.env) :: starEach es X.env := by rfl) (hpl : (backTo pos (starEach es X.env)).any (·.1) = false := by rfl) :
    PE X (.Call (.Name x p) (e :: es) [] pos) (tCall sp dvs E t) := by
  intro pins s σ H Q I h
  refine wpAny_Call_Name_kw (ld_glob I hg hm ?_ hdb)
  refine PySem.W.callWith_K (h₀ := X.base) I.ok.mod.kin hk (thn (ha pos pins s σ H _ I h) fun us s1 ⟨vs, H1, I1, r, q⟩ => ⟨I1.kIn, ?_⟩) he hpl
  exact run_fn F hr hb hd hx I1 r q
theorem pe_meth {pl : Sem Bool} (he : PE X o ta) (c : Cls X.K C) (hm : Meth X.K C m f) (F : FnOk X.prog X.w X.K X.mg X.base CX k f fd ps sp) (hr : Room k X.A) (hb : Binds X.K fd ps ds) (hd : Vals dvs ds) (hx : Passes CX X E) (ha : PA X (e :: es) t)
    (hst : starEach (e :: es) X.env = (false, eval e X.env) :: starEach es X.env := by rfl) (hpl : (backTo pos (starEach es X.env)).any (·.1) = false := by rfl)
    (ht : eval (.Call (.Attribute o m apos) (e :: es) [] pos) X.env = (do
      let ov ← eval o X.env
      standAt apos.atName
      let (f, first) ← holding [ov] (getMethod ov m pl)
      callWith pos f first (backTo pos (starEach (e :: es) X.env)) (backToKw pos (keywordEach [] X.env))) := by rfl) :
    PE X (.Call (.Attribute o m apos) (e :: es) [] pos) (tMeth C m sp dvs E ta t) := by
  intro pins s σ H Q I h
  refine PySem.W.methodCall_KW (pl := pl) (thn (he pins s σ H _ I h) fun u s1 ⟨x, H1, I1, rx, a, dx, fs, ex, ea, l, q⟩ => ?_) ht
  subst ex
  obtain rfl : u = Value.ref a := rx
  refine getmeth_ok I1 ea c hm l ?_
  refine PySem.W.callWith_K (first := [.ref a]) (h₀ := X.base) I.ok.mod.kin hm.kp (thn (ha pos pins s1 σ H1 _ I1 q) fun us s2 ⟨vs, H2, I2, r, q2⟩ => ⟨I2.kIn, ?_⟩) hst hpl
  exact run_fn (us := .ref a :: us) (vs := .ref a :: vs) F hr hb hd hx I2 (.cons rfl r) q2
theorem pe_meth0 {pl : Sem Bool} (he : PE X o ta) (c : Cls X.K C) (hm : Meth X.K C m f) (F : FnOk X.prog X.w X.K X.mg X.base CX k f fd ps sp) (hr : Room k X.A) (hb : Binds X.K fd ps ds) (hd : Vals dvs ds) (hx : Passes CX X E)
    (ht : eval (.Call (.Attribute o m apos) [] [] pos) X.env = (do
      let ov ← eval o X.env
      standAt apos.atName
      let (f, first) ← holding [ov] (getMethod ov m pl)
      callWith pos f first (backTo pos (starEach [] X.env)) (backToKw pos (keywordEach [] X.env))) := by rfl) :
    PE X (.Call (.Attribute o m apos) [] [] pos) (tMeth C m sp dvs E ta tNil) := by
  intro pins s σ H Q I h
  refine PySem.W.methodCall_KW (pl := pl) (thn (he pins s σ H _ I h) fun u s1 ⟨x, H1, I1, rx, a, dx, fs, ex, ea, l, q⟩ => ?_) ht
  subst ex
  obtain rfl : u = Value.ref a := rx
  refine getmeth_ok I1 ea c hm l ?_
  exact PySem.W.callWith_K0 (first := [.ref a]) I1.kIn hm.kp (run_fn (us := [.ref a]) (vs := [.ref a]) F hr hb hd hx I1 (.cons rfl .nil) q)
structure Mk (K : PySem.W.Frag) (C f : Addr) : Prop where
  makes : PySem.W.makesIn K C = true
  init : PySem.W.findIn K (.ref C) "__init__" = some (some (.ref f))
  fn : PySem.W.isFn K (.ref f) = true
  kp : PySem.W.keepIn K (.ref C) = true
theorem run_make {pins : List (Addr × Obj)} {σ : St} {H : Hp} {s : Shared} {Q : VK} {us : List Value} {vs : List V} (M : Mk X.K C f) (F : FnOk X.prog X.w X.K X.mg X.base CX k f fd ps sp) (hr : Room (k + 1) X.A) (hb : Binds X.K fd ps ds) (hd : Vals dvs ds)
    (hx : Passes CX X E) (I : Inv X pins σ H s) (r : Vals vs us)
    (h : ∀ x dx, H x = none → H dx = none → dx ≠ x → sp (.ref x :: (vs ++ dvs)) (upd (upd H dx (.own x)) x (.ins C dx [])) (fun v H2 => v = .non ∧ Q (.ref x) H2) E) :
    wpAny (model X.prog X.w) X.A (call (.ref C) us) (EP X pins σ Q) X.xe s := by
  have hq := h (s.heap.objs.size + 1) s.heap.objs.size (I.hok.fresh (Nat.le_succ _)) (I.hok.fresh (Nat.le_refl _)) (Nat.ne_of_lt (Nat.lt_succ_self _))
  have I2 := Inv.made (C := C) I
  have r2 : Vals (V.ref (s.heap.objs.size + 1) :: (vs ++ dvs)) (Value.ref (s.heap.objs.size + 1) :: (us ++ ds)) := .cons rfl (r.append hd)
  have hl : (Value.ref (s.heap.objs.size + 1) :: us ++ ds).length = ps.length := by
    have e := r2.length
    rw [F.len _ _ _ _ hq] at e
    exact e.symm
  refine wpAny_call (make_map (f := f) I.kIn M.makes M.init (beq_iff_eq.mp M.fn) (codeAny_mono (F.run _ X.stack _ _ ⟨Value.ref (s.heap.objs.size + 1) :: us, []⟩ (Value.ref (s.heap.objs.size + 1) :: (us ++ ds)) _ _ E (hr.make C us [])
    (I2.env0.make C us []) (hb _ (Value.ref (s.heap.objs.size + 1) :: us) I2.kIn hl) r2 hq) fun r s' hq' => ?_))
  cases r with
  | error e => exact hx pins σ _ _ e s' I2 hq'
  | ok fl =>
    cases fl with
    | ret u =>
      obtain ⟨v, H', I3, rv, ev, q3⟩ := I2.after hq'
      subst ev
      exact ⟨rv, ⟨V.ref (s.heap.objs.size + 1), H', I3, rfl, q3⟩⟩
    | next => exact False.elim hq'
    | brk => exact False.elim hq'
    | cont => exact False.elim hq'
theorem pe_make0 (M : Mk X.K C f) (F : FnOk X.prog X.w X.K X.mg X.base CX k f fd ps sp) (hr : Room (k + 1) X.A) (hg : Gl X x) (hm : X.mg x = some (.ref C)) (hb : Binds X.K fd ps ds) (hd : Vals dvs ds) (hx : Passes CX X E)
    (hdb : (x == ("__debug__" : Str)) = false := by decide) : PE X (.Call (.Name x p) [] [] pos) (tMake C sp dvs E tNil) := by
  intro pins s σ H Q I h
  refine wpAny_Call_Name_kw (ld_glob I hg hm ?_ hdb)
  exact PySem.W.callWith_K0 I.kIn M.kp (run_make (us := []) M F hr hb hd hx I .nil h)
end
section
variable {X : Cx} {CX : CXT} {k : Nat} {f C : Addr} {fd : FuncData} {ps ks : List Str} {sp : Sp} {E : XK} {x m : Str} {p pos apos kpos : Pos} {e o : Expr} {es : List Expr} {kws : List Keyword} {te ta : TE} {t tk : TA} {nm : Option Str}
variable {g : List Value → List Value → List Value} {gV : List V → List V → List V}
end
structure FnScope (N P : List Str) (sc : Scope) : Prop where
  kind : sc.kind = .function
  co : sc.isCoroutine = false
  gen : sc.isGenerator = false
  nd : N.Nodup
  pre : N.take P.length = P
  par : ∀ x ∈ P, sc.names.lookup x = some .local ∨ sc.names.lookup x = some .cell
  nofree : ∀ y ∈ sc.names, y.2 ≠ .free
theorem bindL_out {kindOf : Str → Option NameKind} {x : Str} : ∀ {binds : List (Str × Value)} {m : Str → Option Value}, (∀ v, (x, v) ∉ binds) → bindL kindOf binds m x = m x
  | [], _, _ => rfl
  | (n, v) :: r, m, h => by
    unfold bindL
    rw [bindL_out fun w hw => h w (List.mem_cons_of_mem _ hw)]
    split
    · have : x ≠ n := by rintro rfl; exact h v List.mem_cons_self
      simp [this]
    · rfl
theorem bindC_out {kindOf : Str → Option NameKind} {x : Str} : ∀ {binds : List (Str × Value)} {m : Str → Option Value}, (∀ v, (x, v) ∉ binds) → bindC kindOf binds m x = m x
  | [], _, _ => rfl
  | (n, v) :: r, m, h => by
    unfold bindC
    rw [bindC_out fun w hw => h w (List.mem_cons_of_mem _ hw)]
    split
    · rfl
    · have : x ≠ n := by rintro rfl; exact h v List.mem_cons_self
      simp [this]
theorem bindL_get {kindOf : Str → Option NameKind} {x : Str} {v : Value} : ∀ {P : List Str} {vs : List Value} {i : Nat} {m : Str → Option Value}, P.Nodup → P[i]? = some x → vs[i]? = some v → kindOf x = some .local →
    bindL kindOf (P.zip vs) m x = some v
  | [], _, _, _, _, h, _, _ => by simp at h
  | _ :: _, [], _, _, _, _, h, _ => by simp at h
  | p :: P, w :: vs, 0, m, nd, h1, h2, hk => by
    simp at h1 h2; subst h1; subst h2
    show bindL kindOf ((p, w) :: P.zip vs) m p = _
    unfold bindL
    rw [bindL_out fun v hv => (List.nodup_cons.mp nd).1 (List.of_mem_zip hv).1, if_pos hk]
    simp
  | p :: P, w :: vs, i + 1, m, nd, h1, h2, hk => by
    show bindL kindOf ((p, w) :: P.zip vs) m x = _
    unfold bindL
    exact bindL_get (i := i) (List.nodup_cons.mp nd).2 (by simpa using h1) (by simpa using h2) hk
theorem bindC_get {kindOf : Str → Option NameKind} {x : Str} {v : Value} : ∀ {P : List Str} {vs : List Value} {i : Nat} {m : Str → Option Value}, P.Nodup → P[i]? = some x → vs[i]? = some v → kindOf x ≠ some .local →
    bindC kindOf (P.zip vs) m x = some v
  | [], _, _, _, _, h, _, _ => by simp at h
  | _ :: _, [], _, _, _, _, h, _ => by simp at h
  | p :: P, w :: vs, 0, m, nd, h1, h2, hk => by
    simp at h1 h2; subst h1; subst h2
    show bindC kindOf ((p, w) :: P.zip vs) m p = _
    unfold bindC
    rw [bindC_out fun v hv => (List.nodup_cons.mp nd).1 (List.of_mem_zip hv).1, if_neg hk]
    simp
  | p :: P, w :: vs, i + 1, m, nd, h1, h2, hk => by
    show bindC kindOf ((p, w) :: P.zip vs) m x = _
    unfold bindC
    exact bindC_get (i := i) (List.nodup_cons.mp nd).2 (by simpa using h1) (by simpa using h2) hk
def start (N : List Str) (vs : List V) : St := vs.map some ++ List.replicate (N.length - vs.length) none
def cxOf (CX : CXT) (P : Program) (w : World) (K : PySem.W.Frag) (mg : Str → Option Value) (base : Heap) (N : List Str) (qual : Str) (scope : Scope) (f : Addr) (cd : Value) (A : Around) (outer : List Env) (s : Shared) (H : Hp) (E : XK) : Cx where
  prog := P
  w := w
  K := K
  mg := mg
  base := base
  A := A.deeper (envOfC qual scope s.heap.objs.size f cd)
  N := N
  s₀ := s
  H₀ := H
  env := envOfC qual scope s.heap.objs.size f cd
  outer := outer
  stack := envOfC qual scope s.heap.objs.size f cd :: outer
  ex := []
  calm := true
  fn := fun _ => true
  pn := []
  xe := fun e s' => wpAny (model P w) (A.deeper (envOfC qual scope s.heap.objs.size f cd)) (leaving (envOfC qual scope s.heap.objs.size f cd) e) (fun _ s'' => CX outer H s E e s'') (fun e' s'' => CX outer H s E e' s'') s'
theorem cell_has {sc : Scope} {n : Nat} {x : Str} (h : sc.names.lookup x = some .cell) : ∃ c, (cellsFrom n sc.names []).lookup x = some c := by
  have q := PySem.W.cellsFrom_some sc.names n [] (.inl h)
  exact Option.isSome_iff_exists.mp q
theorem inv_start {CX : CXT} {P : Program} {w : World} {K : PySem.W.Frag} {mg : Str → Option Value} {base : Heap} {N ps : List Str} {qual : Str} {scope : Scope} {f : Addr} {cd : Value} {A : Around} {outer : List Env} {s s1 : Shared} {H : Hp} {E : XK} {us : List Value} {vs : List V}
    (S : FnScope N ps scope) (hd : A.handled = none) (e0 : Env0 P w K mg base A outer s H) (hl : vs.length = ps.length) (r : Vals vs us)
    (x : InCallC s s.heap.objs.size (bindL (envOfC qual scope s.heap.objs.size f cd).kindOf (ps.zip us) fun _ => none) (cellsFrom (s.heap.objs.size + 1) scope.names []) (bindC (envOfC qual scope s.heap.objs.size f cd).kindOf (ps.zip us) fun _ => none) s1) :
    Inv (cxOf CX P w K mg base N qual scope f cd A outer s H E) [] (start N vs) H s1 := by
  have hpl : ps.length ≤ N.length := by have := congrArg List.length S.pre; rw [List.length_take] at this; omega
  obtain ⟨h1, tk, rfl, hk⟩ := x.done
  have noA : ∀ b : Addr, b ∉ (cxOf CX P w K mg base N qual scope f cd A outer s H E).ex := fun b z => absurd (show b ∈ ([] : List Addr) from z) (by simp)
  refine ⟨⟨e0.mod, S.kind, rfl, rfl, Nat.le_refl _, fun y z c h1 h2 => ?_, fun y hy => ?_, fun y c _ h => ?_, fun _ => hd, Around.frames_deeper e0.frames, .inr ⟨rfl, rfl⟩, fun b z => absurd z (noA b), e0.bs, e0.bsz, fun b _ _ => noA b, fun b z => absurd z (noA b), e0.funs, e0.frf⟩,
    rfl, e0.bare, Un.kept hk, ⟨_, x.toInCall.ns, fun i y v h1 h2 h3 => ?_⟩, fun y c h => ⟨_, x.cell y c h⟩, e0.hok.fresh (Nat.le_refl _), fun y c h => ?_, fun p hp => absurd (show p ∈ ([] : List (Addr × Obj)) from hp) (by simp), e0.hok.kept hk, ?_⟩
  · exact name_of_addr x.apart (PySem.mem_of_lookup h1) (PySem.mem_of_lookup h2)
  · have hy : scope.names.lookup y = some .cell ∨ scope.names.lookup y = some .free := hy
    rcases hy with hy | hy
    · exact cell_has hy
    · exact absurd rfl (S.nofree _ (PySem.mem_of_lookup hy))
  · exact Nat.le_of_lt (x.above y c (PySem.mem_of_lookup h))
  · have hi : i < vs.length := by
      unfold start at h2
      by_cases hi : i < vs.length
      · exact hi
      · rw [List.getElem?_append_right (by simpa using hi)] at h2
        rw [List.getElem?_replicate] at h2
        split at h2 <;> cases h2
    have ha : vs[i]? = some v := by
      unfold start at h2
      rw [List.getElem?_append_left (by simpa using hi), List.getElem?_map] at h2
      cases e : vs[i]? with
      | none => rw [e] at h2; cases h2
      | some a => rw [e] at h2; cases h2; rfl
    obtain ⟨u, hu, rv⟩ := r.get ha
    have hp : ps[i]? = some y := by
      rw [← S.pre, List.getElem?_take_of_lt (by omega)]; exact h1
    have ndP : ps.Nodup := by rw [← S.pre]; exact S.nd.sublist (List.take_sublist _ _)
    refine ⟨u, rv, ?_⟩
    rcases S.par y (List.mem_of_getElem? hp) with k | k
    · exact .inl ⟨k, bindL_get ndP hp hu k⟩
    · obtain ⟨c, e⟩ := cell_has (n := s.heap.objs.size + 1) k
      refine .inr ⟨.inl k, c, e, ?_⟩
      have q := x.cell y c e
      rw [bindC_get ndP hp hu (by show scope.names.lookup y ≠ _; rw [k]; decide)] at q
      exact q
  · exact e0.hok.fresh (Nat.le_of_lt (x.above y c (PySem.mem_of_lookup h)))
  · unfold start
    show _ = N.length
    rw [List.length_append, List.length_map, List.length_replicate]
    omega
theorem fn_of {CX : CXT} {P : Program} {w : World} {K : PySem.W.Frag} {mg : Str → Option Value} {base : Heap} {k : Nat} {f : Addr} {name qual : Str} {params : Arguments} {body : List Stmt} {scope : Scope} {dV kV doc pm cdv ct oc : Value} {an od : Option Addr}
    {osl : Array (Option Value)} {N ps : List Str} {sp : Sp} (lk : K.lookup f = some ⟨oc, od, .func (PySem.W.fnOf name qual params body scope dV kV doc pm an cdv ct), osl⟩) (hcd : PySem.W.codeIn K cdv qual = true) (S : FnScope N ps scope)
    (len : ∀ vs H Q E, sp vs H Q E → vs.length = ps.length)
    (hbody : ∀ (A : Around) (outer : List Env) (s : Shared) (H : Hp) (vs : List V) (Q : VK) (E : XK), Room k (A.deeper (envOfC qual scope s.heap.objs.size f cdv)) → sp vs H Q E →
      ∃ t, PSs (cxOf CX P w K mg base N qual scope f cdv A outer s H E) body t ∧ t { nx := fun _ H' => Q .non H', rt := Q } (start N vs) H) :
    FnOk P w K mg base CX (k + 1) f (PySem.W.fnOf name qual params body scope dV kV doc pm an cdv ct) ps sp := by
  refine ⟨len, fun A outer s H args us vs Q E hr e0 hb r hsp => ?_⟩
  have hl := len _ _ _ _ hsp
  have KX : K.In s.heap := e0.mod.kin.keeps fun b o e => (e0.bs b o e).1
  have lim : s.heap.NoLimit := e0.mod.nolimit.keeps fun b o e => (e0.bs b o e).1
  have hkind : ∀ y ∈ ps.zip us, scope.names.lookup y.1 = some .local ∨ (scope.names.lookup y.1 = some .cell ∧ ((cellsFrom (s.heap.objs.size + 1) scope.names []).lookup y.1).isSome = true) := fun ⟨n, v⟩ hy => by
    rcases S.par n (List.of_mem_zip hy).1 with q | q
    · exact .inl q
    · exact .inr ⟨q, PySem.W.cellsFrom_some _ _ _ (.inl q)⟩
  refine codeAny_call_function hr.depth (KX _ _ lk) rfl S.co S.gen rfl (PySem.W.codeRec_of KX hcd) (hb _ _ _ _ ?_)
  refine wpAny_newFunctionEnv_cells S.kind hkind fun env he s1 x => ?_
  subst he
  refine ⟨lim.keeps x.toInCall.keep, codeAny_func ?_⟩
  obtain ⟨t, ht, hq⟩ := hbody A outer s H vs Q E (hr.deeper _) hsp
  have I : Inv (cxOf CX P w K mg base N qual scope f cdv A outer s H E) [] (start N vs) H s1 := inv_start S hr.hd e0 hl r x
  refine wpAny_mono (ht [] s1 (start N vs) H _ I hq) (fun fl s' hs => ?_) fun e s' hs => hs
  have fin : ∀ {σ' : St} {H' : Hp} {v : V} {u : Value}, Inv (cxOf CX P w K mg base N qual scope f cdv A outer s H E) [] σ' H' s' → RelV v u → Q v H' → CE outer P w H s Q u s' :=
    fun {σ' H' v u} J rv q => ⟨v, H', J.os, J.bare, J.base, J.hok, rv, q⟩
  cases fl with
  | ret u =>
    obtain ⟨v, σ', H', J, rv, q⟩ := hs
    exact fin J rv q
  | next =>
    obtain ⟨σ', H', J, q⟩ := hs
    exact fin (v := V.non) (u := Value.none) J rfl q
  | brk =>
    obtain ⟨_, _, _, q⟩ := hs
    exact False.elim q
  | cont =>
    obtain ⟨_, _, _, q⟩ := hs
    exact False.elim q
end L2
namespace L2
open PySem PySem.Spec PyProof.Rows
section
variable {X : Cx} {x : Str} {p pos : Pos} {e : Expr} {es : List Expr} {t : TA} {id T : String} {r : List V → Hp → VK → Prop}
def tCB (r : List V → Hp → VK → Prop) (t : TA) : TE := fun σ H Q => t σ H fun vs H1 => r vs H1 Q
theorem pe_callB (hc : CallR X (.builtin id) r) (hg : Gl X x) (hm : X.mg x = none) (hv : bootBuiltins x = some (.builtin id)) (ha : PA X (e :: es) t) (hn : x ≠ "__name__" := by decide) (hdb : (x == ("__debug__" : Str)) = false := by decide)
    (he : starEach (e :: es) X.env = (false, eval e X.env) :: starEach es X.env := by rfl) (hpl : (backTo pos (starEach es X.env)).any (·.1) = false := by rfl) : PE X (.Call (.Name x p) (e :: es) [] pos) (tCB r t) := by
  intro pins s σ H Q I h
  refine wpAny_Call_Name_kw (ld_blt I hg hm hv ?_ hn hdb)
  exact PyProof.Rows.callWith_builtin1 (thn (ha pos pins s σ H _ I h) fun us s1 ⟨vs, H1, I1, r1, q1⟩ => hc pins s1 σ H1 vs us Q I1 r1 q1) he hpl
theorem pe_callTy (hc : CallR X (.type T) r) (hg : Gl X x) (hm : X.mg x = none) (hv : bootBuiltins x = some (.type T)) (ha : PA X (e :: es) t) (hn : x ≠ "__name__" := by decide) (hdb : (x == ("__debug__" : Str)) = false := by decide)
    (he : starEach (e :: es) X.env = (false, eval e X.env) :: starEach es X.env := by rfl) (hpl : (backTo pos (starEach es X.env)).any (·.1) = false := by rfl) : PE X (.Call (.Name x p) (e :: es) [] pos) (tCB r t) := by
  intro pins s σ H Q I h
  refine wpAny_Call_Name_kw (ld_blt I hg hm hv ?_ hn hdb)
  exact PyProof.Rows.callWith_type1 (thn (ha pos pins s σ H _ I h) fun us s1 ⟨vs, H1, I1, r1, q1⟩ => hc pins s1 σ H1 vs us Q I1 r1 q1) he hpl
end
end L2
namespace HT
open PySem PyProof.Rows
section
open PySem.SeqAt
open PySem.AutoSeq1 (wpAny_loadPart')
open PySem.MeetsSeq PySem.MeetsSeq2 PySem.MeetsSeq3
end
section
variable {prog : Program} {w : World} {A : Around} {E : Value → Shared → Prop} {s : Shared}
theorem cat_tup {t b : Addr} {vs ws : List Value} {Q : Value → Shared → Prop} (ht : IsTup s.heap t vs.toArray) (hb : IsTup s.heap b ws.toArray) (hv : vs ≠ [])
    (h1 : ws = [] → Q (.ref t) s) (h2 : ws ≠ [] → Q (.ref s.heap.objs.size) { s with heap := s.heap.push { cls := .type "tuple", data := .seq (vs ++ ws).toArray } })
    (hsz : vs.length + ws.length ≤ sizeLine) : wpAny (model prog w) A (binaryOp .Add (.ref t) (.ref b)) Q E s := by
  obtain ⟨⟨cls, dd, data, sl⟩, ho, hc, n, hd⟩ := id ht
  obtain ⟨⟨cls2, dd2, data2, sl2⟩, ho2, hc2, n2, hd2⟩ := id hb
  simp only at hc hd hc2 hd2
  subst hc hd hc2 hd2
  have e : vs.toArray ++ ws.toArray = (vs ++ ws).toArray := by simp
  by_cases hw : ws = []
  · exact concat_meets ⟨_, ho, rfl⟩ ⟨_, ho2, rfl⟩ noFill_tuple_add seq_tuple_add PySem.F.slot_tuple_add PySem.F.entry_tuple_add (PySem.F.args_tuple_add_2 _ _)
      (tuple_addW1 t b vs.toArray ws.toArray n n2 dd dd2 sl sl2 (by simpa using hv) (by simp [hw])) ⟨ho, ho2, h1 hw⟩
  · refine concat_meets ⟨_, ho, rfl⟩ ⟨_, ho2, rfl⟩ noFill_tuple_add seq_tuple_add PySem.F.slot_tuple_add PySem.F.entry_tuple_add (PySem.F.args_tuple_add_2 _ _)
      (tuple_addW2 t b vs.toArray ws.toArray n n2 dd dd2 sl sl2 (by simpa using hv) (by simpa using hw) (by rw [List.size_toArray, List.size_toArray]; exact hsz)) ⟨ho, ho2, ?_⟩
    rw [e]
    exact h2 hw
def sIx (n d : Nat) : Option Int → Nat
  | none => d
  | some v => if v < 0 then (v + (n : Int)).toNat else min v.toNat n
theorem sIx_none (n d : Nat) : sIx n d none = d := rfl
theorem sIx_nat (n d k : Nat) : sIx n d (some (k : Int)) = min k n := by
  show (if (k : Int) < 0 then ((k : Int) + (n : Int)).toNat else min (k : Int).toNat n) = min k n
  rw [if_neg (by omega), Int.toNat_natCast]
theorem sIx_le (n d : Nat) (hd : d ≤ n) (o : Option Int) : sIx n d o ≤ n := by
  cases o with
  | none => exact hd
  | some v =>
    show (if v < 0 then (v + (n : Int)).toNat else min v.toNat n) ≤ n
    by_cases hv : v < 0
    · rw [if_pos hv]; omega
    · rw [if_neg hv]; exact Nat.min_le_right _ _
theorem clip_eq (v : Int) (n d : Nat) : (if v < 0 then max (v + (n : Int)) 0 else min v (n : Int)) = ((sIx n d (some v) : Nat) : Int) := by
  show (if v < 0 then max (v + (n : Int)) 0 else min v (n : Int)) = (((if v < 0 then (v + (n : Int)).toNat else min v.toNat n) : Nat) : Int)
  by_cases hv : v < 0
  · simp only [if_pos hv]; omega
  · simp only [if_neg hv]; omega
theorem adjust_gen (lo hi : Option Int) (n : Nat) : Builtin.Slice.sliceAdjust lo hi 1 (n : Int) = (((sIx n 0 lo : Nat) : Int), ((sIx n n hi : Nat) : Int)) := by
  have h1 : ¬ ((1 : Int) < 0) := by omega
  unfold Builtin.Slice.sliceAdjust
  simp only [h1, if_false]
  refine Prod.ext ?_ ?_
  · cases lo with
    | none => rfl
    | some v => exact clip_eq v n 0
  · cases hi with
    | none => rfl
    | some v => exact clip_eq v n n
theorem places_gen (i j : Nat) : Builtin.Slice.slicePlaces (i : Int) (j : Int) 1 = j - i := by
  unfold Builtin.Slice.slicePlaces
  have h1 : (1 : Int) > 0 := by omega
  simp only [h1, if_true, Int.ediv_one]
  split <;> omega
theorem slicePart_ {v : Value} {o : Option Int} {Q : Option Int → Shared → Prop} (p : IsPart v o) (h : Q o s) : wpAny (model prog w) A (Builtin.Slice.slicePartIndex v) Q E s := by
  cases p with
  | none => exact slicePart_none h
  | int i t => exact slicePart_int h
theorem sliceApplied_gen {sl : Addr} {vl vu : Value} {lo hi : Option Int} {n : Nat} {Q : Int × Int × Nat → Shared → Prop} (hs : s.heap.IsSliceOf sl vl vu .none) (pl : IsPart vl lo) (pu : IsPart vu hi)
    (h : Q (((sIx n 0 lo : Nat) : Int), 1, sIx n n hi - sIx n 0 lo) s) : wpAny (model prog w) A (Builtin.Slice.sliceApplied (.ref sl) (pure (n : Int))) Q E s := by
  obtain ⟨os, hos, hcs, hds⟩ := id hs
  unfold Builtin.Slice.sliceApplied Builtin.Slice.sliceFields
  refine wpAny_bind (wpAny_bind (wpAny_field hos hds (x := vl) rfl (wpAny_bind (wpAny_field hos hds (x := vu) rfl (wpAny_bind (wpAny_field hos hds (x := .none) rfl (wpAny_pure ?_)))))))
  refine wpAny_bind (slicePart_none ?_)
  show wpAny _ _ (if ((1 : Int) == 0) = true then _ else _) _ _ s
  rw [if_neg (by decide)]
  refine wpAny_bind (slicePart_ pl (wpAny_bind (slicePart_ pu (wpAny_bind (wpAny_pure ?_)))))
  show wpAny _ _ (match Builtin.Slice.sliceAdjust lo hi 1 (n : Int) with | (lo, hi) => pure (lo, (1 : Int), Builtin.Slice.slicePlaces lo hi 1)) _ _ s
  rw [adjust_gen lo hi n]
  show wpAny _ _ (pure (((sIx n 0 lo : Nat) : Int), (1 : Int), Builtin.Slice.slicePlaces ((sIx n 0 lo : Nat) : Int) ((sIx n n hi : Nat) : Int) 1)) _ _ s
  rw [places_gen]
  exact wpAny_pure h
theorem pick_gen (xs : Array Value) (i k : Nat) : ((List.range k).filterMap fun (m : Nat) => xs[((i : Int) + (m : Int) * 1).toNat]?).toArray = ((xs.toList.drop i).take k).toArray := by
  have e : (fun (m : Nat) => xs[((i : Int) + (m : Int) * 1).toNat]?) = fun m => xs[i + m]? := by
    funext m
    have : ((i : Int) + (m : Int) * 1).toNat = i + m := by omega
    rw [this]
  rw [e]
  have := pick_run xs i k
  rw [List.filterMap_map] at this
  have e2 : ((fun x => xs[x]?) ∘ fun x => i + x) = fun m => xs[i + m]? := rfl
  rw [e2] at this
  rw [this]
theorem getItem_tuple_cut {t sl : Addr} {items : Array Value} {vl vu : Value} {lo hi : Option Int} {Q : Value → Shared → Prop} (ht : IsTup s.heap t items) (hs : s.heap.IsSliceOf sl vl vu .none) (pl : IsPart vl lo) (pu : IsPart vu hi)
    (hw : ¬ (sIx items.size 0 lo = 0 ∧ sIx items.size items.size hi = items.size))
    (h : Q (.ref s.heap.objs.size) { s with heap := s.heap.push { cls := .type "tuple", data := .seq ((items.toList.drop (sIx items.size 0 lo)).take (sIx items.size items.size hi - sIx items.size 0 lo)).toArray } })
    (hsz : items.size ≤ sizeLine) : wpAny (model prog w) A (getItem (.ref t) (.ref sl)) Q E s := by
  have htake : sizeOk (.seq ((items.toList.drop (sIx items.size 0 lo)).take (sIx items.size items.size hi - sIx items.size 0 lo)).toArray) := by
    show ((items.toList.drop (sIx items.size 0 lo)).take (sIx items.size items.size hi - sIx items.size 0 lo)).toArray.size ≤ sizeLine
    rw [List.size_toArray, List.length_take, List.length_drop, Array.length_toList]
    omega
  have hj : sIx items.size items.size hi ≤ items.size := sIx_le _ _ (Nat.le_refl _) hi
  obtain ⟨os, hos, hcs, hds⟩ := id hs
  have hTs : s.TypeIs (.ref sl) "slice" := ⟨os, hos, hcs⟩
  unfold getItem
  try with_reducible refine wpAny_holding ?_
  first | refine wpAny_bind (wpAny_pure ?_) | skip
  refine wpAny_bind (wpAny_sequenceKey ht.typeIs (by decide) ?_)
  refine wpAny_bind (wpAny_callSpecial?_slot (name := Str.ofString "__getitem__") ht.typeIs PyProof.Rows.slot_tuple_getitem
    (wpAny_call_entry PyProof.Rows.slot_tuple_getitem ht.typeIs entry_tuple_getitem ?_ (args_tuple_getitem _ _)))
  show wpAny _ _ (Builtin.Tuple.tupleItemsOf (.ref t) >>= _) _ _ s
  refine wpAny_bind (tupleItemsOf_ ht ?_)
  refine wpAny_bind (wpAny_typeOf hTs ?_)
  rw [if_pos (by decide)]
  refine wpAny_bind (sliceApplied_gen hs pl pu ?_)
  have hno : ¬ ((((sIx items.size 0 lo : Nat) : Int) == 0 && (1 : Int) == 1 && (sIx items.size items.size hi - sIx items.size 0 lo) == items.size) = true) := by
    intro q
    rw [Bool.and_eq_true, Bool.and_eq_true] at q
    have q1 : ((sIx items.size 0 lo : Nat) : Int) = 0 := eq_of_beq q.1.1
    have q2 : sIx items.size items.size hi - sIx items.size 0 lo = items.size := eq_of_beq q.2
    exact hw ⟨by omega, by omega⟩
  show wpAny _ _ (if (((sIx items.size 0 lo : Nat) : Int) == 0 && (1 : Int) == 1 && (sIx items.size items.size hi - sIx items.size 0 lo) == items.size) = true then _ else _) _ _ s
  rw [if_neg hno, pick_gen]
  first
    | exact wpAny_bind (m := Builtin.Tuple.tupleExact _) (wpAny_newObj_type (wpAny_pure ⟨_, rfl, wpAny_pure h⟩) htake)
    | exact wpAny_bind (m := Builtin.Tuple.tupleExact _) (wpAny_newObj_type (wpAny_bind (wpAny_pure (wpAny_pure ⟨_, rfl, wpAny_pure h⟩))) htake)
    | exact wpAny_bind (wpAny_bind (m := Builtin.Tuple.tupleExact _) (wpAny_newObj_type (wpAny_pure (wpAny_pure ⟨_, rfl, wpAny_pure h⟩)) htake))
    | exact wpAny_bind (wpAny_bind (m := Builtin.Tuple.tupleExact _) (wpAny_newObj_type (wpAny_pure ⟨_, rfl, wpAny_pure h⟩) htake))
end
end HT
namespace L2
open PySem PySem.Spec PyProof.Rows
abbrev TO := St → Hp → (Option Int → Hp → Prop) → Prop
def PO (X : Cx) (e : Option Expr) (t : TO) : Prop :=
  ∀ (pins : List (Addr × Obj)) (s : Shared) (σ : St) (H : Hp) (Q : Option Int → Hp → Prop), Inv X pins σ H s → t σ H Q →
    wpAny (model X.prog X.w) X.A (evalPart e X.env) (fun u s' => ∃ o H', Inv X pins σ H' s' ∧ IsPart u o ∧ Q o H') X.xe s
def tNoPart : TO := fun _ H Q => Q none H
def tPart (t : TE) : TO := fun σ H Q => t σ H fun x H1 => ∃ i, x = .int i ∧ Q (some i) H1
section
variable {X : Cx} {e : Expr} {te : TE} {lo hi : Option Expr} {tl th : TO} {pos p2 : Pos}
theorem po_none : PO X none tNoPart := by
  intro pins s σ H Q I h
  rw [evalPart_none]
  exact wpAny_pure ⟨none, H, I, .none, h⟩
theorem po_some (h : PE X e te) : PO X (some e) (tPart te) := by
  intro pins s σ H Q I hw
  rw [evalPart_some]
  refine thn (h pins s σ H _ I hw) fun u s1 ⟨x, H1, I1, r1, q1⟩ => ?_
  obtain ⟨i, rfl, q⟩ := q1
  obtain ⟨t, rfl⟩ := r1
  exact ⟨some i, H1, I1, .int i t, q⟩
def SlR (X : Cx) (r : V → Option Int → Option Int → Hp → VK → Prop) : Prop :=
  ∀ (pins : List (Addr × Obj)) (s : Shared) (σ : St) (H : Hp) (x : V) (v vl vu : Value) (lo hi : Option Int) (sl : Addr) (Q : VK), Inv X pins σ H s → RelV x v → s.heap.IsSliceOf sl vl vu .none → IsPart vl lo → IsPart vu hi → r x lo hi H Q →
    ∃ T id, typeLookup (.type T) "__getitem__" = pure (some (.builtin id)) ∧ s.TypeIs v T ∧ wpAny (model X.prog X.w) X.A (getItem v (.ref sl)) (EP X pins σ Q) X.xe s
theorem SlR.or {r r' : V → Option Int → Option Int → Hp → VK → Prop} (h : SlR X r) (h' : SlR X r') : SlR X (fun x lo hi H Q => r x lo hi H Q ∨ r' x lo hi H Q) := by
  intro pins s σ H x v vl vu lo hi sl Q I rx hs pl pu q
  rcases q with q | q
  · exact h pins s σ H x v vl vu lo hi sl Q I rx hs pl pu q
  · exact h' pins s σ H x v vl vu lo hi sl Q I rx hs pl pu q
def tSl (r : V → Option Int → Option Int → Hp → VK → Prop) (te : TE) (tl th : TO) : TE := fun σ H Q => te σ H fun x H1 => tl σ H1 fun l H2 => th σ H2 fun u H3 => r x l u H3 Q
theorem pe_slice {r : V → Option Int → Option Int → Hp → VK → Prop} (hr : SlR X r) (he : PE X e te) (hl : PO X lo tl) (hu : PO X hi th) : PE X (.Subscript e (.Slice lo hi none p2) pos) (tSl r te tl th) := by
  intro pins s σ H Q I h
  refine Subscript_ (thn (he pins s σ H _ I h) fun v s1 ⟨x, H1, I1, r1, q1⟩ => ?_)
  refine wpAny_Slice (thn (hl pins s1 σ H1 _ I1 q1) fun vl s2 ⟨l, H2, I2, pl, q2⟩ => thn (hu pins s2 σ H2 _ I2 q2) fun vu s3 ⟨u, H3, I3, pu, q3⟩ => ?_)
  rw [evalPart_none]
  refine wpAny_pure ?_
  have I4 : Inv X pins σ H3 { s3 with heap := s3.heap.push { cls := .type "slice", data := .fields #[vl, vu, .none] } } := I3.kept (t' := s3.toks) fun b ob q => Heap.get?_push_of_some _ q
  obtain ⟨T, id, hT, ht, hg⟩ := hr pins { s3 with heap := s3.heap.push { cls := .type "slice", data := .fields #[vl, vu, .none] } } σ H3 x v vl vu l u s3.heap.objs.size Q I4 r1 (Heap.IsSliceOf.new ..) pl pu q3
  show wpAny (model X.prog X.w) X.A (subscriptTail e (.Slice lo hi none p2) v (.ref s3.heap.objs.size)) (EP X pins σ Q) X.xe { s3 with heap := s3.heap.push { cls := .type "slice", data := .fields #[vl, vu, .none] } }
  exact tail_any (ops := [.ref s3.heap.objs.size, v]) ht hT hg (by with_unfolding_all rfl)
def cutV (xs : List V) (lo hi : Option Int) : List V := (xs.drop (HT.sIx xs.length 0 lo)).take (HT.sIx xs.length xs.length hi - HT.sIx xs.length 0 lo)
theorem cutV_length (xs : List V) (lo hi : Option Int) : (cutV xs lo hi).length ≤ xs.length := by
  unfold cutV
  rw [List.length_take, List.length_drop]
  omega
def rSlT (K : PySem.W.Frag) : V → Option Int → Option Int → Hp → VK → Prop := fun x lo hi H Q => ∃ a xs, x = .ref a ∧ SqT K H a xs ∧
  ¬ (HT.sIx xs.length 0 lo = 0 ∧ HT.sIx xs.length xs.length hi = xs.length) ∧ ∀ p, H p = none → Q (.ref p) (upd H p (.tup (cutV xs lo hi)))
theorem sl_tup : SlR X (rSlT X.K) := by
  intro pins s σ H x v vl vu lo hi sl Q I rx hs pl pu h
  obtain ⟨a, xs, rfl, hx, hw, q⟩ := h
  cases rx
  obtain ⟨its, r, ht, hz⟩ := I.tuple hx
  have hlen : its.toArray.size = xs.length := by rw [List.size_toArray]; exact r.length.symm
  refine ⟨"tuple", _, PyProof.Rows.slot_tuple_getitem.lookup, ht.typeIs, ?_⟩
  refine HT.getItem_tuple_cut ht hs pl pu (by rw [hlen]; exact hw) ?_ (by rw [hlen]; exact hz)
  rw [hlen]
  refine ⟨.ref s.heap.objs.size, _, I.laid (t' := s.toks) (o := .tup (cutV xs lo hi)) (fun b ob q => Heap.get?_push_of_some _ q) (Nat.le_refl _) ?_, rfl, q _ (I.hok.fresh (Nat.le_refl _))⟩
  exact ⟨Nat.le_trans (cutV_length xs lo hi) hz, _, (r.drop (HT.sIx xs.length 0 lo)).take (HT.sIx xs.length xs.length hi - HT.sIx xs.length 0 lo), IsTup.new _ _⟩
def rCatT (K : PySem.W.Frag) : R2 := fun x y H Q => ∃ a b xs ys, x = .ref a ∧ y = .ref b ∧ SqT K H a xs ∧ SqT K H b ys ∧ xs ≠ [] ∧ xs.length + ys.length ≤ sizeLine ∧
  (ys = [] → Q (.ref a) H) ∧ (ys ≠ [] → ∀ p, H p = none → Q (.ref p) (upd H p (.tup (xs ++ ys))))
theorem Vals.nil_iff {xs : List V} {us : List Value} (r : Vals xs us) : us = [] ↔ xs = [] := by
  cases r with
  | nil => simp
  | cons _ _ => simp
theorem op_catT : OpR X (binaryOp .Add) (rCatT X.K) := by
  intro pins s σ H x y v u Q I rx ry h
  obtain ⟨a, b, xs, ys, rfl, rfl, ha, hb, hx, hz, q1, q2⟩ := h
  cases rx
  cases ry
  obtain ⟨its, r1, p1, _⟩ := I.tuple ha
  obtain ⟨its2, r2, p2, _⟩ := I.tuple hb
  refine HT.cat_tup p1 p2 (fun z => hx (r1.nil_iff.mp z)) (fun z => ⟨.ref a, H, I, rfl, q1 (r2.nil_iff.mp z)⟩) (fun z => ?_) (by rw [← r1.length, ← r2.length]; exact hz)
  refine ⟨.ref s.heap.objs.size, _, I.laid (t' := s.toks) (o := .tup (xs ++ ys)) (fun b ob q => Heap.get?_push_of_some _ q) (Nat.le_refl _) ?_, rfl, q2 (fun w => z (r2.nil_iff.mpr w)) _ (I.hok.fresh (Nat.le_refl _))⟩
  exact ⟨by rw [List.length_append]; exact hz, _, r1.append r2, IsTup.new _ _⟩
end
end L2
namespace L2
open PySem PySem.Spec PyProof.Rows
def ixN (n : Nat) (i : Int) : Option Nat := if 0 ≤ i then (if i < n then some i.toNat else none) else if -(n : Int) ≤ i then some (i + n).toNat else none
def atI {α : Type} (xs : List α) (i : Int) : Option α := (ixN xs.length i).bind fun j => xs[j]?
theorem ixN_seq {n : Nat} {i : Int} {j : Nat} (h : ixN n i = some j) : seqIndex? i n = some j ∧ j < n ∧ -(n : Int) ≤ i ∧ i < n := by
  unfold ixN at h
  by_cases h0 : 0 ≤ i
  · rw [if_pos h0] at h
    by_cases h1 : i < n
    · rw [if_pos h1] at h
      have e : i.toNat = j := Option.some.inj h
      exact ⟨by rw [seqIndex_of h0 h1, e], by omega, by omega, h1⟩
    · rw [if_neg h1] at h; cases h
  · rw [if_neg h0] at h
    by_cases h1 : -(n : Int) ≤ i
    · rw [if_pos h1] at h
      have e : (i + n).toNat = j := Option.some.inj h
      exact ⟨by rw [seqIndex_neg (by omega) h1, e], by omega, h1, by omega⟩
    · rw [if_neg h1] at h; cases h
theorem atI_get {α : Type} {xs : List α} {i : Int} {v : α} (h : atI xs i = some v) : ∃ j, seqIndex? i xs.length = some j ∧ xs[j]? = some v ∧ j < xs.length ∧ -(xs.length : Int) ≤ i ∧ i < xs.length := by
  unfold atI at h
  cases e : ixN xs.length i with
  | none => rw [e] at h; cases h
  | some j =>
    rw [e] at h
    obtain ⟨h1, h2, h3, h4⟩ := ixN_seq e
    exact ⟨j, h1, h, h2, h3, h4⟩
theorem atI_nat {α : Type} {xs : List α} {j : Nat} {v : α} (h : xs[j]? = some v) : atI xs (j : Int) = some v := by
  have hj : j < xs.length := (List.getElem?_eq_some_iff.mp h).1
  have e : ixN xs.length (j : Int) = some j := by
    unfold ixN
    rw [if_pos (by omega), if_pos (by omega)]; simp
  unfold atI; rw [e]; exact h
def PlainIx (b : Expr) : Prop := ∀ o i, subscripted b false o i = operate [o, i] (getItem o i)
def IxR (X : Cx) (r : R2) : Prop :=
  ∀ (value slice : Expr) (pins : List (Addr × Obj)) (s : Shared) (σ : St) (H : Hp) (x y : V) (v u : Value) (Q : VK), Inv X pins σ H s → RelV x v → RelV y u → r x y H Q →
    subscripted slice false v u = operate [v, u] (getItem v u) → wpAny (model X.prog X.w) X.A (subscriptTail value slice v u) (EP X pins σ Q) X.xe s
def MtR (X : Cx) (id : String) (r : V → List V → Hp → VK → Prop) : Prop :=
  ∀ (pins : List (Addr × Obj)) (s : Shared) (σ : St) (H : Hp) (x : V) (xs : List V) (v : Value) (us : List Value) (Q : VK), Inv X pins σ H s → RelV x v → Vals xs us → r x xs H Q →
    wpAny (model X.prog X.w) X.A (call (.builtin id) (v :: us)) (EP X pins σ Q) X.xe s
section
variable {X : Cx} {a b : Expr} {ta tb : TE} {pos : Pos}
theorem IxR.or {r r' : R2} (h : IxR X r) (h' : IxR X r') : IxR X (fun x y H Q => r x y H Q ∨ r' x y H Q) := by
  intro value slice pins s σ H x y v u Q I rx ry q hs
  rcases q with q | q
  · exact h value slice pins s σ H x y v u Q I rx ry q hs
  · exact h' value slice pins s σ H x y v u Q I rx ry q hs
theorem pe_ix {r : R2} (hr : IxR X r) (ha : PE X a ta) (hb : PE X b tb) (hs : PlainIx b) : PE X (.Subscript a b pos) (tOp r ta tb) := by
  intro pins s σ H Q I h
  exact Subscript_ (binT ha hb I h fun v u s2 x y H2 I2 rx ry q => hr a b pins s2 σ H2 x y v u Q I2 rx ry q (hs _ _))
def rIxL (K : PySem.W.Frag) : R2 := fun x y H Q => ∃ p xs i v, x = .ref p ∧ y = .int i ∧ SqL K H p xs ∧ atI xs i = some v ∧ Q v H
def rIxT (K : PySem.W.Frag) : R2 := fun x y H Q => ∃ p xs i v, x = .ref p ∧ y = .int i ∧ SqT K H p xs ∧ atI xs i = some v ∧ Q v H
def rIxS : R2 := fun x y H Q => ∃ z i c, x = .str z ∧ y = .int i ∧ z.length ≤ sizeLine ∧ atI z.cps.toList i = some c ∧ Q (.str ⟨#[c]⟩) H
theorem ix_list : IxR X (rIxL X.K) := by
  intro value slice pins s σ H x y v u Q I rx ry h hs
  obtain ⟨p, xs, i, z, rfl, rfl, hq, he, q⟩ := h
  cases rx
  obtain ⟨t, rfl⟩ := ry
  obtain ⟨its, r, pl, hz⟩ := I.list hq
  obtain ⟨j, h1, h2, h3, h4, h5⟩ := atI_get he
  obtain ⟨w, ew, rw'⟩ := r.get h2
  have hl := r.length
  have hn := line63
  have fin : EP X pins σ Q w s := ⟨z, H, I, rw', q⟩
  by_cases h0 : 0 ≤ i
  · have hj : i.toNat = j := by
      rw [seqIndex_of h0 h5] at h1
      exact Option.some.inj h1
    exact item_listR pl.isList h0 (by omega) (by rw [hj]; simpa using ew) fin hs
  · have hj : (i + (its.toArray.size : Int)).toNat = j := by
      rw [seqIndex_neg (by omega) h4] at h1
      rw [List.size_toArray, ← hl]
      exact Option.some.inj h1
    exact subscriptTail_builtinR (x := w) pl.isList.typeIs slot_list_getitem.lookup
      (wpAny_getItem_list_neg (Q := fun r s' => r = w ∧ EP X pins σ Q r s') pl.isList (by omega) (by rw [List.size_toArray] <;> omega) (by omega) (by rw [hj]; simpa using ew) ⟨rfl, fin⟩) hs
theorem ix_tup : IxR X (rIxT X.K) := by
  intro value slice pins s σ H x y v u Q I rx ry h hs
  obtain ⟨p, xs, i, z, rfl, rfl, hq, he, q⟩ := h
  cases rx
  obtain ⟨t, rfl⟩ := ry
  obtain ⟨its, r, pl, hz⟩ := I.tuple hq
  obtain ⟨j, h1, h2, h3, h4, h5⟩ := atI_get he
  obtain ⟨w, ew, rw'⟩ := r.get h2
  have hl := r.length
  have hn := line63
  have fin : EP X pins σ Q w s := ⟨z, H, I, rw', q⟩
  exact subscriptTail_builtinR (x := w) pl.typeIs slot_tuple_getitem.lookup
    (getItem_tuple (j := j) (Q := fun r s' => r = w ∧ EP X pins σ Q r s') pl (by omega) (by omega) (by rw [List.size_toArray, ← hl]; exact h1) (by simpa using ew) ⟨rfl, fin⟩) hs
theorem ix_str : IxR X rIxS := by
  intro value slice pins s σ H x y v u Q I rx ry h hs
  obtain ⟨z, i, c, rfl, rfl, hz, he, q⟩ := h
  obtain ⟨t, rfl⟩ := rx
  obtain ⟨t', rfl⟩ := ry
  obtain ⟨j, h1, h2, h3, h4, h5⟩ := atI_get he
  have hl : z.cps.toList.length = z.length := by simp [Str.length]
  rw [hl] at h1 h4 h5
  have hn := line63
  exact tail_any (typeIs_str s z t) slot_str_getitem.lookup (getItem_str (c := c) (by
    have e1 : decide (i < -(2 ^ 63 : Int)) = false := decide_eq_false (by omega)
    have e2 : decide (i ≥ 2 ^ 63) = false := decide_eq_false (by omega)
    rw [e1, e2, Bool.or_false]) (by rw [h1]; simpa using h2) ⟨.str ⟨#[c]⟩, H, I.tok _, ⟨_, rfl⟩, q⟩) hs
def rIx (K : PySem.W.Frag) : R2 := fun x y H Q => rIxL K x y H Q ∨ rIxT K x y H Q ∨ rIxS x y H Q
theorem ix_seq : IxR X (rIx X.K) := ix_list.or (ix_tup.or ix_str)
theorem mapSeq_set (its : List Value) (n j : Nat) (u : Value) : Obj.mapSeq (·.setIfInBounds j u) { cls := .type "list", data := .seq its.toArray n } = { cls := .type "list", data := .seq (its.set j u).toArray n } := by
  simp [Obj.mapSeq]
theorem Inv.lst {pins : List (Addr × Obj)} {σ : St} {H : Hp} {s : Shared} {p : Addr} {xs : List V} (I : Inv X pins σ H s) (h : H p = some (.lst xs)) :
    ∃ (its : List Value) (n : Nat), Vals xs its ∧ s.heap.get? p = some { cls := .type "list", data := .seq its.toArray n } ∧ xs.length ≤ sizeLine := by
  obtain ⟨z, its, n, r, e⟩ := I.hok p _ h
  exact ⟨its, n, r, e, z⟩
theorem Inv.lstUpd {pins : List (Addr × Obj)} {σ : St} {H : Hp} {s : Shared} {p : Addr} {xs ys : List V} {its its' : List Value} {n n' : Nat} {f : Obj → Obj} (I : Inv X pins σ H s) (h : H p = some (.lst xs))
    (ho : s.heap.get? p = some { cls := .type "list", data := .seq its.toArray n }) (hf : f { cls := .type "list", data := .seq its.toArray n } = { cls := .type "list", data := .seq its'.toArray n' }) (r : Vals ys its') (hz : ys.length ≤ sizeLine) (t : Nat) :
    Inv X pins σ (upd H p (.lst ys)) { s with heap := s.heap.update p f, toks := t } := by
  have e : (s.heap.update p f).get? p = some { cls := .type "list", data := .seq its'.toArray n' } := by
    rw [Heap.get?_update_self f ho (by rw [hf] <;> rfl), hf]
  refine I.write (x := p) (e := p) (by rw [h]; trivial) (.inl rfl) (fun b u hb q => (Heap.get?_update_other _ _ (Ne.symm hb)).trans q) ⟨_, e⟩ ?_
  exact ⟨hz, its', n', r, e⟩
def rSetL : V → V → V → Hp → (Hp → Prop) → Prop := fun o i v H Q => ∃ p xs k j, o = .ref p ∧ i = .int k ∧ H p = some (.lst xs) ∧ ixN xs.length k = some j ∧ Q (upd H p (.lst (xs.set j v)))
theorem set_list : PSet X rSetL := by
  intro pins s σ H o i v ov iv u Q I ro ri rv h
  obtain ⟨p, xs, k, j, rfl, rfl, hp, hj, q⟩ := h
  cases ro
  obtain ⟨t, rfl⟩ := ri
  obtain ⟨its, n, r, ho, hz⟩ := I.lst hp
  obtain ⟨h1, h2, h3, h4⟩ := ixN_seq hj
  have hl := r.length
  have hn := line63
  have I' : Inv X pins σ (upd H p (.lst (xs.set j v))) { s with heap := s.heap.update p (Obj.mapSeq (·.setIfInBounds j u)) } :=
    I.lstUpd hp ho (mapSeq_set its n j u) (r.set rv j) (by rw [List.length_set]; exact hz) s.toks
  by_cases h0 : 0 ≤ k
  · have hk : k.toNat = j := by
      rw [seqIndex_of h0 h4] at h1
      exact Option.some.inj h1
    exact PySem.W.ki_setAt ho h0 (by omega) (by rw [List.size_toArray, ← hl]; exact h4) (by rw [hk]; exact ⟨_, I', q⟩)
  · have hk : (k + (its.toArray.size : Int)).toNat = j := by
      rw [seqIndex_neg (by omega) h3] at h1
      rw [List.size_toArray, ← hl]
      exact Option.some.inj h1
    exact PySem.W.ki_setBack ho (by omega) (by rw [List.size_toArray, ← hl]; exact h3) (by omega) (by rw [hk]; exact ⟨_, I', q⟩)
theorem slice_bounds (lo hi : Option Int) (n : Nat) : (sliceBounds lo hi none n).1 = ((HT.sIx n 0 lo : Nat) : Int) ∧ (sliceBounds lo hi none n).2.1 = ((HT.sIx n n hi : Nat) : Int) ∧ (sliceBounds lo hi none n).2.2 = 1 := by
  refine ⟨?_, ?_, rfl⟩
  · cases lo with
    | none => simp [sliceBounds, HT.sIx]
    | some i =>
      simp only [sliceBounds, HT.sIx, Option.getD_none, show (1 : Int) > 0 by decide, if_true]
      by_cases h : i < 0
      · simp only [h, if_true] <;> omega
      · simp only [h, if_false] <;> omega
  · cases hi with
    | none => simp [sliceBounds, HT.sIx]
    | some i =>
      simp only [sliceBounds, HT.sIx, Option.getD_none, show (1 : Int) > 0 by decide, if_true]
      by_cases h : i < 0
      · simp only [h, if_true] <;> omega
      · simp only [h, if_false] <;> omega
theorem slicePick_cut (its : List Value) (lo hi : Option Int) : slicePick its.toArray lo hi none = ((its.drop (HT.sIx its.length 0 lo)).take (HT.sIx its.length its.length hi - HT.sIx its.length 0 lo)).toArray := by
  obtain ⟨h1, h2, h3⟩ := slice_bounds lo hi its.toArray.size
  unfold slicePick
  rw [h1, h2, h3]
  simp only [sliceRange_one, pick_run, List.size_toArray] <;> rfl
def rSlL (K : PySem.W.Frag) : V → Option Int → Option Int → Hp → VK → Prop := fun x lo hi H Q => ∃ a xs, x = .ref a ∧ SqL K H a xs ∧ ∀ p, H p = none → Q (.ref p) (upd H p (.lst (cutV xs lo hi)))
theorem sl_list : SlR X (rSlL X.K) := by
  intro pins s σ H x v vl vu lo hi sl Q I rx hs pl pu h
  obtain ⟨a, xs, rfl, hx, q⟩ := h
  cases rx
  obtain ⟨its, r, ht, hz⟩ := I.list hx
  have hlen := r.length
  refine ⟨"list", _, slot_list_getitem.lookup, ht.isList.typeIs, ?_⟩
  refine wpAny_getItem_list_slice ht.isList hs pl pu .none (by simp) ?_ (by rw [List.size_toArray] <;> omega)
  rw [slicePick_cut, ← hlen]
  refine ⟨.ref s.heap.objs.size, _, I.laid (t' := s.toks) (o := .lst (cutV xs lo hi)) (fun b ob q => Heap.get?_push_of_some _ q) (Nat.le_refl _) ?_, rfl, q _ (I.hok.fresh (Nat.le_refl _))⟩
  exact ⟨Nat.le_trans (cutV_length xs lo hi) hz, _, 0, (r.drop (HT.sIx xs.length 0 lo)).take (HT.sIx xs.length xs.length hi - HT.sIx xs.length 0 lo), Heap.get?_push_size _ rfl⟩
theorem call_list_of : CallR X (.type "list") (fun xs H Q => ∃ p ys, xs = [.ref p] ∧ (SqL X.K H p ys ∨ SqT X.K H p ys) ∧ ∀ l, H l = none → Q (.ref l) (upd H l (.lst ys))) := by
  intro pins s σ H xs us Q I r h
  obtain ⟨p, ys, rfl, hq, q⟩ := h
  obtain ⟨u, rfl, rx⟩ := vals1 r
  cases rx
  have fin : ∀ (its : List Value), Vals ys its → ys.length ≤ sizeLine → ∀ (h' : Heap) (c' : Nat), (∀ b o', s.heap.get? b = some o' → h'.get? b = some o') →
      h'.get? s.heap.objs.size = some { cls := .type "list", dict := none, data := .seq its.toArray c', slots := #[] } → EP X pins σ Q (.ref s.heap.objs.size) { s with heap := h' } := fun its r' hz h' c' kp e =>
    ⟨.ref s.heap.objs.size, _, I.laid (t' := s.toks) kp (Nat.le_refl _) (show ObjOk X.prog X.w _ h' _ (.lst ys) from ⟨hz, its, c', r', e⟩), rfl, q _ (I.hok.fresh (Nat.le_refl _))⟩
  rcases hq with hq | hq
  · obtain ⟨its, r', pl, hz⟩ := I.list hq
    have hlen := r'.length
    obtain ⟨o, ho, hc, n, hd⟩ := pl.isList
    exact call_list_seq p (.inl rfl) ho hc hd (fun h' c' kp e => fin its r' hz h' c' kp e) (by simp only [List.size_toArray] <;> omega)
  · obtain ⟨its, r', pl, hz⟩ := I.tuple hq
    have hlen := r'.length
    obtain ⟨o, ho, hc, n, hd⟩ := pl
    exact call_list_seq p (.inr rfl) ho hc hd (fun h' c' kp e => fin its r' hz h' c' kp e) (by simp only [List.size_toArray] <;> omega)
theorem call_tuple_of : CallR X (.type "tuple") (fun xs H Q => ∃ p ys, xs = [.ref p] ∧ ((SqL X.K H p ys ∧ ∀ l, H l = none → Q (.ref l) (upd H l (.tup ys))) ∨ (SqT X.K H p ys ∧ Q (.ref p) H))) := by
  intro pins s σ H xs us Q I r h
  obtain ⟨p, ys, rfl, h⟩ := h
  obtain ⟨u, rfl, rx⟩ := vals1 r
  cases rx
  rcases h with ⟨hq, q⟩ | ⟨hq, q⟩
  · obtain ⟨its, r', pl, hz⟩ := I.list hq
    have hlen := r'.length
    refine call_tuple_list pl.isList (fun h' kp => ?_) (by simp only [List.size_toArray] <;> omega)
    have I1 : Inv X pins σ H { s with heap := h' } := I.kept (t' := s.toks) kp
    have I2 : Inv X pins σ (upd H h'.objs.size (.tup ys)) { s with heap := h'.push { cls := .type "tuple", data := .seq its.toArray } } :=
      I1.laid (t' := s.toks) (fun b o e => Heap.get?_push_of_some _ e) (Nat.le_refl _) (show ObjOk X.prog X.w _ _ _ (.tup ys) from ⟨hz, its, r', IsTup.new _ _⟩)
    exact ⟨.ref h'.objs.size, _, I2, rfl, q _ (I1.hok.fresh (Nat.le_refl _))⟩
  · obtain ⟨its, r', pl, hz⟩ := I.tuple hq
    exact call_tuple_same pl ⟨.ref p, H, I, rfl, q⟩
def tyV (K : PySem.W.Frag) (T : String) (x : V) (H : Hp) : Prop := match x with
  | .str _ => T = "str"
  | .int _ => T = "int"
  | .ref p => (T = "list" ∧ ∃ xs, SqL K H p xs) ∨ (T = "tuple" ∧ ∃ o, K.lookup p = some o ∧ o.cls = .type "tuple" ∧ o.dict = none) ∨
      (T = "dict" ∧ ((∃ kvs, H p = some (.dK kvs)) ∨ ∃ kvs, H p = some (.dT kvs))) ∨ (T = "set" ∧ ∃ S n, H p = some (.set S n))
  | _ => False
theorem tyV_is {pins : List (Addr × Obj)} {σ : St} {H : Hp} {s : Shared} {T : String} {x : V} {v : Value} (I : Inv X pins σ H s) (r : RelV x v) (ty : tyV X.K T x H) :
    s.TypeIs v T ∧ ∀ a, v = .ref a → ∃ ob, s.heap.get? a = some ob ∧ ob.dict = none := by
  cases x with
  | str z =>
    obtain ⟨t, rfl⟩ := r
    cases (show T = "str" from ty)
    exact ⟨typeIs_str s z t, fun _ e => nomatch e⟩
  | int i =>
    obtain ⟨t, rfl⟩ := r
    cases (show T = "int" from ty)
    exact ⟨typeIs_int s i t, fun _ e => nomatch e⟩
  | ref p =>
    cases r
    rcases ty with ⟨rfl, xs, hq⟩ | ⟨rfl, o, hk, hc, hd⟩ | ⟨rfl, hk⟩ | ⟨rfl, S, n, hk⟩
    · obtain ⟨its, _, pl, _⟩ := I.list hq
      refine ⟨pl.isList.typeIs, fun a e => ?_⟩
      cases e
      obtain ⟨o, n, e, c, hd, _⟩ := pl
      exact ⟨o, e, hd⟩
    · refine ⟨⟨o, I.kIn p o hk, hc⟩, fun a e => ?_⟩
      cases e
      exact ⟨o, I.kIn _ o hk, hd⟩
    · have z : ∃ o, s.heap.get? p = some o ∧ o.ExactDict := by
        rcases hk with ⟨kvs, hk⟩ | ⟨kvs, hk⟩
        · obtain ⟨_, _, _, _, o, _, _, e, ex, _⟩ := I.hok p _ hk
          exact ⟨o, e, ex⟩
        · obtain ⟨_, _, _, _, o, _, _, e, ex, _⟩ := I.hok p _ hk
          exact ⟨o, e, ex⟩
      obtain ⟨o, e, ex⟩ := z
      refine ⟨⟨o, e, ex.1⟩, fun a e2 => ?_⟩
      cases e2
      exact ⟨o, e, ex.2.1⟩
    · obtain ⟨o, _, _, _, e, ex, _⟩ := I.hok p _ hk
      refine ⟨⟨o, e, ex.1⟩, fun a e2 => ?_⟩
      cases e2
      exact ⟨o, e, ex.2.1⟩
  | _ => exact False.elim ty
def tBM (K : PySem.W.Frag) (T : String) (r : V → List V → Hp → VK → Prop) (to : TE) (t : TA) : TE := fun σ H Q => to σ H fun x H1 => tyV K T x H1 ∧ t σ H1 fun xs H2 => r x xs H2 Q
variable {o e : Expr} {es : List Expr} {to : TE} {t : TA} {name : Str} {apos cpos : Pos} {T id : String} {r : V → List V → Hp → VK → Prop}
theorem pe_bm (pa : PlainAttrs T) (slot : Slot T name id) (hty : typeOf (.builtin id) = pure (.type "method_descriptor")) (hm : MtR X id r) (ho : PE X o to) (ha : PA X (e :: es) t)
    (hbase : attributeBase o name X.env (eval o X.env) = eval o X.env := by rfl)
    (hfew : ((backTo cpos (starEach (e :: es) X.env)).all (fun x => !x.1) && (backToKw cpos (keywordEach [] X.env)).all (fun x => x.1.isSome)
      && decide ((e :: es).length + ([] : List Keyword).length + (if ([] : List Keyword).isEmpty then 0 else 1) < 30)) = true := by rfl)
    (hline : (apos.endLine == cpos.line) = true := by rfl) (hs : starEach (e :: es) X.env = (false, eval e X.env) :: starEach es X.env := by rfl) (hplain : (backTo cpos (starEach es X.env)).any (·.1) = false := by rfl) :
    PE X (.Call (.Attribute o name apos) (e :: es) [] cpos) (tBM X.K T r to t) := by
  intro pins s σ H Q I h
  refine wpAny_Call_method_late hbase hfew hline rfl (thn (ho pins s σ H _ I h) fun v s1 ⟨x, H1, I1, r1, ty, q1⟩ => ?_)
  obtain ⟨h1, h2⟩ := tyV_is I1 r1 ty
  refine ⟨T, id, pa, slot, hty, h1, h2, ?_⟩
  have hA := ha cpos pins s1 σ H1 _ I1 q1
  rw [hs] at hA ⊢
  refine Calls.callWith_builtin (by show (false || (backTo cpos (starEach es X.env)).any (·.1)) = false; rw [hplain] <;> rfl) (Calls.evalArgs_plain ?_)
  exact thn hA fun us s2 ⟨vs, H2, I2, r2, q2⟩ => hm pins s2 σ H2 x vs v us Q I2 r1 r2 q2
/- xs.append(e), list.index on a module's tuple .. are MtR facts of 06m -/
end
end L2
namespace L2
open PySem PySem.Spec PyProof.Rows
def MtM (X : Cx) (id : String) (r : V → List V → Hp → VK → Prop) : Prop :=
  ∀ (pins : List (Addr × Obj)) (s : Shared) (σ : St) (H : Hp) (x : V) (xs : List V) (v : Value) (us : List Value) (Q : VK), Inv X pins σ H s → RelV x v → Vals xs us → r x xs H Q →
    wpAny (model X.prog X.w) X.A (call (.builtin id) (v :: us)) (EP X pins σ Q) X.xe s
theorem Vals.one : ∀ {x : V} {us : List Value}, Vals [x] us → ∃ u, us = [u] ∧ RelV x u
  | _, _, .cons r .nil => ⟨_, rfl, r⟩
theorem Vals.rep {xs : List V} {us : List Value} (h : Vals xs us) : ∀ k : Nat, Vals (List.replicate k xs).flatten (List.replicate k us).flatten
  | 0 => .nil
  | k + 1 => by
    rw [List.replicate_succ, List.replicate_succ, List.flatten_cons, List.flatten_cons]
    exact Vals.append h (Vals.rep h k)
theorem foldl_rep (its : List Value) : ∀ (k : Nat) (acc : List Value),
    List.foldl (fun x1 x2 => x1 ++ x2) acc.toArray (List.replicate k its.toArray) = (acc ++ (List.replicate k its).flatten).toArray
  | 0, acc => by simp
  | k + 1, acc => by
    have e : acc.toArray ++ its.toArray = (acc ++ its).toArray := by simp
    have e2 : (acc ++ its) ++ (List.replicate k its).flatten = acc ++ (List.replicate (k + 1) its).flatten := by
      rw [List.replicate_succ, List.flatten_cons, List.append_assoc]
    rw [← e2, ← foldl_rep its k (acc ++ its), ← e, List.replicate_succ, List.foldl_cons]
section
variable {X : Cx} {pins : List (Addr × Obj)} {σ : St} {H : Hp} {s : Shared} {l b : Addr} {xs ys zs : List V}
theorem Inv.lset {its its' : List Value} {n : Nat} {f : Array Value → Array Value} {t' : Nat} (I : Inv X pins σ H s) (hH : H l = some (.lst xs))
    (e : s.heap.get? l = some { cls := .type "list", data := .seq its.toArray n }) (hf : f its.toArray = its'.toArray) (hv : Vals ys its') (hz : ys.length ≤ sizeLine) :
    Inv X pins σ (upd H l (.lst ys)) { s with heap := s.heap.update l (Obj.mapSeq f), toks := t' } := by
  have q := PySem.IsL.update e f
  rw [hf] at q
  refine I.write (x := l) (e := l) (by rw [hH]; exact trivial) (.inl rfl) (fun b' u hb hu => (Heap.get?_update_other s.heap (Obj.mapSeq f) (Ne.symm hb)).trans hu) ⟨_, q⟩ ?_
  exact ⟨hz, its', _, hv, q⟩
theorem Inv.lnew {its : List Value} {t' : Nat} (I : Inv X pins σ H s) (hv : Vals ys its) (hz : ys.length ≤ sizeLine) :
    Inv X pins σ (upd H s.heap.objs.size (.lst ys)) { s with heap := s.heap.push { cls := .type "list", data := .seq its.toArray }, toks := t' } :=
  I.laid (fun _ _ q => Heap.get?_push_of_some _ q) (Nat.le_refl _) ⟨hz, its, 0, hv, Heap.get?_push_size _ rfl⟩
theorem Inv.fresh (I : Inv X pins σ H s) : H s.heap.objs.size = none := I.hok.fresh (Nat.le_refl _)
theorem Inv.lstM (I : Inv X pins σ H s) (hH : H l = some (.lst xs)) : xs.length ≤ sizeLine ∧ ∃ (its : List Value) (n : Nat), Vals xs its ∧ xs.length = its.length ∧ s.heap.get? l = some { cls := .type "list", data := .seq its.toArray n } := by
  obtain ⟨z, its, n, r, e⟩ := I.hok l _ hH
  exact ⟨z, its, n, r, r.length, e⟩
theorem notLongL {n : Nat} (h : n ≤ sizeLine) : Builtin.List.listTooLong n = false := by
  unfold Builtin.List.listTooLong
  exact decide_eq_false (by omega)
end
section
variable {X : Cx}
def rAppend : V → List V → Hp → VK → Prop := fun x vs H Q => ∃ l xs y, x = .ref l ∧ vs = [y] ∧ H l = some (.lst xs) ∧ xs.length < sizeLine ∧ Q .non (upd H l (.lst (xs ++ [y])))
theorem mt_append : MtM X "list.append" rAppend := by
  intro pins s σ H x vs v us Q I rx rv h
  obtain ⟨l, xs, y, rfl, rfl, hH, hz, q⟩ := h
  cases rx
  obtain ⟨u, rfl, ru⟩ := rv.one
  obtain ⟨z, its, n, r, hl, e⟩ := I.lstM hH
  refine call_meets F.slot_list_append ⟨_, e, rfl⟩ F.entry_list_append (F.args_list_append_2 _ _) (PySem.list_append l its.toArray n u (by rw [List.size_toArray]; omega)) ⟨e, ?_⟩
  refine ⟨.non, _, I.lset (its' := its ++ [u]) hH e (by simp) (r.append (.cons ru .nil)) ?_, rfl, q⟩
  rw [List.length_append, List.length_singleton]
  omega
def rExtend : V → List V → Hp → VK → Prop := fun x vs H Q => ∃ l b xs zs, x = .ref l ∧ vs = [.ref b] ∧ H l = some (.lst xs) ∧ H b = some (.lst zs) ∧ xs.length + zs.length ≤ sizeLine ∧ Q .non (upd H l (.lst (xs ++ zs)))
theorem mt_extend : MtM X "list.extend" rExtend := by
  intro pins s σ H x vs v us Q I rx rv h
  obtain ⟨l, b, xs, zs, rfl, rfl, hH, hB, hz, q⟩ := h
  cases rx
  obtain ⟨u, rfl, ru⟩ := rv.one
  cases ru
  obtain ⟨z, its, n, r, hl, e⟩ := I.lstM hH
  obtain ⟨z2, its2, n2, r2, hl2, e2⟩ := I.lstM hB
  have hsz : its.toArray.size + its2.toArray.size ≤ sizeLine := by rw [List.size_toArray, List.size_toArray]; omega
  have hlong : ¬ (!its.toArray.isEmpty && Builtin.List.listTooLong (its.toArray.size + its2.toArray.size)) = true := by
    rw [notLongL hsz, Bool.and_false]
    exact Bool.false_ne_true
  refine call_meets F.slot_list_extend ⟨_, e, rfl⟩ F.entry_list_extend (F.args_list_extend_2 _ _)
    (AutoSeq1.list_extend_list_list_0 l its.toArray n b its2.toArray n2 hlong (by rw [List.size_toArray]; omega) (by omega)) ⟨e, e2, ?_⟩
  refine ⟨.non, _, I.lset (its' := its ++ its2) hH e (by simp) (r.append r2) ?_, rfl, q⟩
  rw [List.length_append]
  omega
def rCat : R2 := fun x y H Q => ∃ l b xs zs, x = .ref l ∧ y = .ref b ∧ H l = some (.lst xs) ∧ H b = some (.lst zs) ∧ xs.length + zs.length ≤ sizeLine ∧ ∀ p, H p = none → Q (.ref p) (upd H p (.lst (xs ++ zs)))
theorem op_cat : OpR X (binaryOp .Add) rCat := by
  intro pins s σ H x y v u Q I rx ry h
  obtain ⟨l, b, xs, zs, rfl, rfl, hH, hB, hz, q⟩ := h
  cases rx
  cases ry
  obtain ⟨z, its, n, r, hl, e⟩ := I.lstM hH
  obtain ⟨z2, its2, n2, r2, hl2, e2⟩ := I.lstM hB
  refine PySem.P.add_list e e2 ?_ (by rw [List.size_toArray, List.size_toArray]; omega)
  have ea : its.toArray ++ its2.toArray = (its ++ its2).toArray := by simp
  rw [ea]
  exact ⟨.ref _, _, I.lnew (t' := s.toks) (r.append r2) (by rw [List.length_append]; omega), rfl, q _ I.fresh⟩
def rRep : R2 := fun x y H Q => ∃ l k xs, x = .ref l ∧ y = .int k ∧ H l = some (.lst xs) ∧ -(2 ^ 63) ≤ k ∧ k < 2 ^ 63 ∧ xs.length * k.toNat ≤ sizeLine ∧
  ∀ p, H p = none → Q (.ref p) (upd H p (.lst (List.replicate k.toNat xs).flatten))
theorem len_rep {α : Type} (xs : List α) (k : Nat) : (List.replicate k xs).flatten.length = k * xs.length := by
  induction k with
  | zero => simp
  | succ k ih => rw [List.replicate_succ, List.flatten_cons, List.length_append, ih, Nat.succ_mul, Nat.add_comm]
theorem op_rep : OpR X (binaryOp .Mult) rRep := by
  intro pins s σ H x y v u Q I rx ry h
  obtain ⟨l, k, xs, rfl, rfl, hH, h1, h2, hz, q⟩ := h
  cases rx
  obtain ⟨t, rfl⟩ := ry
  obtain ⟨z, its, n, r, hl, e⟩ := I.lstM hH
  have hlen : its.toArray.size * k.toNat ≤ sizeLine := by rw [List.size_toArray, ← hl]; exact hz
  have hcap : ¬ its.toArray.size * k.toNat > (2 ^ 63 - 1) / 8 := by
    have : (sizeLine : Nat) ≤ (2 ^ 63 - 1) / 8 := by decide
    omega
  have hfit : ¬ (!Builtin.List.listFitsIndex k) = true := by
    rw [fitsIndex_both h1 h2]
    exact Bool.false_ne_true
  have hlong : ¬ Builtin.List.listTooLong (its.toArray.size * k.toNat) = true := by
    rw [notLongL hlen]
    exact Bool.false_ne_true
  have hnew : List.foldl (fun x1 x2 => x1 ++ x2) #[] (List.replicate (if its.toArray.isEmpty = true then 0 else k.toNat) its.toArray) = (List.replicate k.toNat its).flatten.toArray := by
    have f0 : ∀ m : Nat, List.foldl (fun x1 x2 => x1 ++ x2) #[] (List.replicate m its.toArray) = (List.replicate m its).flatten.toArray := fun m => by
      have := foldl_rep its m []
      rw [List.nil_append] at this
      exact this
    rw [f0]
    cases its with
    | nil => simp
    | cons a r' => rw [if_neg (by simp)]
  refine wpAny_binaryOp_repeat_ref (T := "list") (U := "int") (by decide) ⟨_, e, rfl⟩ (fun s' => typeIs_int s' k t) noFill_list_mul F.fills_int_mul F.slot_int_rmul repeat_list F.slot_int_index.lookup
    (call_meets F.slot_int_rmul (typeIs_int s k t) F.entry_int_rmul (F.args_int_rmul_2 _ _) (int___rmul___int_list k t l its.toArray n)
      ⟨e, rfl, ⟨_, e, rfl⟩, call_meets F.slot_list_mul ⟨_, e, rfl⟩ F.entry_list_mul (F.args_list_mul_2 _ _) (AutoListH.list___mul___list_int_3 l its.toArray n k t hfit hcap hlong) ⟨e, ?_⟩⟩)
  rw [hnew]
  exact ⟨.ref _, _, I.lnew (t' := s.toks) (r.rep k.toNat) (by rw [len_rep, Nat.mul_comm]; exact hz), rfl, q _ I.fresh⟩
end
section
variable {prog : Program} {w : World} {A : Around} {E : Value → Shared → Prop} {s : Shared}
end
section
variable {X : Cx}
end
end L2
namespace Att
open PySem PySem.W PySem.Calls PyProof.Rows
theorem ints_of_wellAll {P : Params} {h : Heap} : ∀ (ns : List Int) (vs : List Value), WellAll P h vs (ns.map WData.int) → IntsAre vs ns := by
  intro ns
  induction ns with
  | nil =>
    intro vs w
    rw [List.map_nil] at w
    cases w
    exact .nil
  | cons n ns ih =>
    intro vs w
    rw [List.map_cons] at w
    cases w with
    | cons a b =>
      cases a
      exact .cons _ _ (ih _ b)
theorem script_of {l : OpenLaw} {n : Nat} (hn : l.most = some n) {P : Params} {h : Heap} {args : List WData} {vals : List Value}
    (hpre : l.row.toRowW.claim.pre args = true) (hwl : WellAll P h vals args) :
    ∃ a vs ns, vals = [Value.ref a] ∧ args = [WData.list (ns.map WData.int)] ∧ h.get? a = some { cls := .type "list", data := .seq vs.toArray } ∧ IntsAre vs ns ∧ ns.length ≤ n := by
  have hsh : WShape.hasAll [] args [.list .int] = true := (pre_splitW hpre).1
  have hc : l.pre.holds [] { args := args } = true := (pre_splitW hpre).2
  obtain ⟨d, r, rfl, h1, h2⟩ := hasAllW_cons hsh
  obtain rfl := hasAllW_nil h2
  obtain ⟨xs, rfl, h3⟩ := hasW_list h1
  obtain ⟨ns, rfl⟩ := items_int h3
  have hlen : ns.length ≤ n := by
    unfold OpenLaw.pre at hc
    have h4 : (WTm.not (.lt (.lit (.int (n : Int))) (.len (.arg 0)))).holds [] { args := [.list (ns.map .int)] } = true := by
      have h4 := (holds_andW hc).1
      rw [hn] at h4
      exact h4
    have h5 := condW_of h4 (w_not (w_lt w_lit (w_len_list (w_arg rfl))))
    rw [List.length_map] at h5
    refine Nat.le_of_not_lt fun q => ?_
    have q' : (n : Int) < ((ns.length : Nat) : Int) := by omega
    first
      | (rw [decide_eq_true q'] at h5; exact absurd h5 (by decide))
      | (simp at h5; omega)
  cases hwl with
  | cons w1 w2 =>
    cases w2
    cases w1 with
    | list ho hall => exact ⟨_, _, ns, rfl, rfl, ho, ints_of_wellAll ns _ hall, hlen⟩
theorem post_true (l : OpenLaw) (args : List WData) : l.row.toRowW.claim.post args (.bool true) args = true :=
  postW_of (r := l.row.toRowW) (X := (true == true))
    (show WShape.has [] (.bool true) .bool = true by first | rfl | decide | simp [WShape.has, WShape.arms, WShape.armsAll])
    (show (WTm.eq .res (.lit (.bool true))).value [] { args := args, res := some (.bool true), after := args } = some (.bool (true == true)) from w_eq_bool (w_res rfl) w_lit) rfl
section
variable {prog : Program} {w : World} {A : Around} {E : Value → Shared → Prop} {s : Shared} {K : Frag}
def ledger (h : Heap) (L d : Addr) : List (Addr × Obj) := (List.range h.objs.size).filterMap fun a => if a = L ∨ a = d then none else (h.get? a).map fun o => (a, o)
end
end Att
namespace L2
open PySem PySem.Spec PyProof.Rows
theorem vals_ints : ∀ {vs : List Value} {ns : List Int}, IntsAre vs ns → Vals (ns.map V.int) vs
  | _, _, .nil => .nil
  | _, _, .cons n t h => .cons ⟨t, rfl⟩ (vals_ints h)
def Only (H : Hp) : Prop := ∀ b, H b = none ∨ ∃ o xs, H b = some (.frz o (.lst xs))
theorem law_call {P : Program} {w : World} {K : PySem.W.Frag} {mg mb : Str → Option Value} {CX : CXT} {k : Nat} {fa a : Addr} {fd : FuncData} {x : Str} {sp : Sp} {s₁ : Shared} {vs : List Value} {ns : List Int}
    (KX : K.In s₁.heap) (hns : s₁.heap.Ns mainGlobals mg) (hb : s₁.heap.Ns builtinsNs mb) (hbb : ∀ x : Str, x ≠ "__name__" → mb x = bootBuiltins x) (hlim : s₁.heap.NoLimit) (hg : s₁.gens = #[])
    (ha : s₁.heap.get? a = some { cls := .type "list", data := .seq vs.toArray }) (hi : IntsAre vs ns) (hl : ns.length ≤ sizeLine) (hr : Room k callerA)
    (F : ∀ base : Heap, K.In base → base.Ns mainGlobals mg → FnOk P w K mg base CX k fa fd [x] sp) (hbind : ∀ (s : Shared) (u : Value), BindsTo s fd ⟨[u], []⟩ [(x, u)])
    (hsp : ∀ H : Hp, Only H → SqL K H a (ns.map V.int) → sp [.ref a] H (fun v _ => v = .bl true) fun _ _ _ => False)
    (hCX : ∀ H e s', CX [] H s₁ (fun _ _ _ => False) e s' → False) :
    codeAny (model P w) callerA (.call (.ref fa) ⟨[.ref a], []⟩) (fun r s' => r = .ok (.ret (.bool true)) ∧ OldK s₁.heap s'.heap ∧ s'.os = s₁.os ∧ AllBare s'.gens) s₁ := by
  have rv := vals_ints hi
  have lenV := hi.length
  have core : ∀ H : Hp, Only H → SqL K H a (ns.map V.int) → HOk P w H s₁.heap → (∀ b, H b ≠ none → b = a) → (H a ≠ none → K.lookup a = none) →
      codeAny (model P w) callerA (.call (.ref fa) ⟨[.ref a], []⟩) (fun r s' => r = .ok (.ret (.bool true)) ∧ OldK s₁.heap s'.heap ∧ s'.os = s₁.os ∧ AllBare s'.gens) s₁ := by
    intro H hO hS hok hA hK
    have base_of : ∀ {b : Addr} {o : Obj}, s₁.heap.get? b = some o → H b = none → (hidT s₁.heap H).get? b = some o := fun e n => hidT_get e n
    have noA : ∀ {b : Addr} {o : Obj} {es : Array DictEntry} {ep : Nat}, s₁.heap.get? b = some o → o.data = .dict es ep → H b = none := fun {b o es ep} e d => by
      cases q : H b with
      | none => rfl
      | some u =>
        have e' : b = a := hA b (by rw [q]; simp)
        subst e'
        rw [ha] at e; cases e
        have d' : Data.seq vs.toArray _ = Data.dict es ep := d
        cases d'
    have nsK : ∀ {b : Addr} {m : Str → Option Value}, s₁.heap.Ns b m → (hidT s₁.heap H).Ns b m := fun {b m} ⟨o, es, ep, e, d, r⟩ => ⟨o, es, ep, base_of e (noA e d), d, r⟩
    have hKb : K.In (hidT s₁.heap H) := fun b o e => base_of (KX b o e) (by
      cases q : H b with
      | none => rfl
      | some u =>
        have e' : b = a := hA b (by rw [q]; simp)
        subst e'
        rw [hK (by rw [q]; simp)] at e; cases e)
    have hM : Mod K mg (hidT s₁.heap H) := ⟨hKb, nsK hns, ⟨mb, nsK hb, hbb⟩, let ⟨mc, h1, h2⟩ := hlim; ⟨mc, nsK h1, h2⟩⟩
    have e0 : Env0 P w K mg (hidT s₁.heap H) callerA [] s₁ H := ⟨rfl, hM, fun b o e => of_hidT e, Nat.le_of_eq (hidT_size _ _), trivial, fun b hb => absurd (show b ∈ ([] : List Addr) from hb) (by simp), hok, .of_eq hg⟩
    refine codeAny_mono ((F _ hKb (nsK hns)).run callerA [] s₁ H ⟨[.ref a], []⟩ [.ref a] [.ref a] _ _ hr e0 (hbind s₁ (.ref a)) (.cons rfl .nil) (hsp H hO hS)) fun r s' h => ?_
    cases r with
    | error e => exact (hCX H e s' h).elim
    | ok fl =>
      cases fl with
      | next => exact False.elim h
      | brk => exact False.elim h
      | cont => exact False.elim h
      | ret u =>
        obtain ⟨v, H', os, bare, un, hok', r', q⟩ := h
        have q' : v = .bl true := q
        subst q'
        obtain rfl : u = Value.bool true := r'
        refine ⟨rfl, OldK.of_keep fun b o e => ?_, os, bare⟩
        cases q : H b with
        | none => exact un.keep b o e q (by intro z; exact absurd (show b ∈ ([] : List Addr) from z) (by simp)) (by simp)
        | some u =>
          rcases hO b with z | ⟨ob, xs, z⟩
          · rw [q] at z; cases z
          · have z2 := un.frzs b ob _ z
            obtain ⟨e1, _⟩ := hok b _ z
            obtain ⟨e2, _⟩ := hok' b _ z2
            rw [e] at e1; cases e1
            exact e2
  cases hk : K.lookup a with
  | some o =>
    have e := KX a o hk
    rw [ha] at e
    cases e
    refine core (fun _ => none) (fun _ => .inl rfl) (.inr ⟨_, vs.toArray, _, hk, rfl, rfl, rfl, by rw [List.size_toArray, lenV]; exact hl, by simpa using rv⟩) (fun b u z => by have z' : (none : Option HO) = some u := z; cases z') (fun b z => absurd rfl z) fun z => absurd rfl z
  | none =>
    refine core (fun b => if b = a then some (.frz { cls := .type "list", data := .seq vs.toArray } (.lst (ns.map V.int))) else none) (fun b => ?_) (.inl (.inr ⟨{ cls := .type "list", data := .seq vs.toArray }, if_pos rfl⟩)) (fun b u z => ?_) (fun b z => ?_) fun _ => hk
    · by_cases hb : b = a
      · exact .inr ⟨_, _, if_pos hb⟩
      · exact .inl (if_neg hb)
    · by_cases hb : b = a
      · have z' := (if_pos hb).symm.trans z
        cases z'
        subst hb
        exact ⟨ha, by rw [List.length_map]; exact hl, vs, _, rv, ha⟩
      · have z' := (if_neg hb).symm.trans z
        cases z'
    · by_cases hb : b = a
      · exact hb
      · exact absurd (if_neg hb) z
end L2
namespace L2
open PySem PySem.Spec PyProof.Rows
abbrev KOf {K : PySem.W.Frag} {h : Heap} (_ : K.In h) : PySem.W.Frag := K
end L2
namespace L2
open PySem PySem.Spec PyProof.Rows
def inClass (s : Stmt) (j : Nat) : Stmt := match s with
  | .ClassDef _ _ _ body _ _ _ _ _ _ _ => body.getD j (.Pass ⟨0, 0, 0, 0⟩)
  | _ => .Pass ⟨0, 0, 0, 0⟩
def defArgs (s : Stmt) : Arguments := match s with
  | .FunctionDef _ a _ _ _ _ _ _ _ _ => a
  | _ => { posonlyargs := [], args := [], vararg := none, kwonlyargs := [], kw_defaults := [], kwarg := none, defaults := [] }
def defBody (s : Stmt) : List Stmt := match s with
  | .FunctionDef _ _ b _ _ _ _ _ _ _ => b
  | _ => []
def defScope (s : Stmt) : Scope := match s with
  | .FunctionDef _ _ _ _ _ _ sc _ _ _ => sc
  | _ => { kind := .function, names := [], isGenerator := false, isCoroutine := false }
abbrev CX0 : CXT := fun _ _ _ _ _ _ => False
abbrev E0 : XK := fun _ _ _ => False
theorem pass0 {X : Cx} : Passes CX0 X E0 := fun _ _ _ _ _ _ _ h => h.elim
structure Fun (K : PySem.W.Frag) (x qual : Str) (st : Stmt) (f : Addr) (fd : FuncData) : Prop where
  ex : ∃ (oc : Value) (od : Option Addr) (kV doc pm : Value) (an : Option Addr) (cdv ct : Value) (osl : Array (Option Value)),
    fd = PySem.W.fnOf x qual (defArgs st) (defBody st) (defScope st) .none kV doc pm an cdv ct ∧ K.lookup f = some ⟨oc, od, .func fd, osl⟩ ∧ PySem.W.codeIn K cdv qual = true
  kp : PySem.W.keepIn K (.ref f) = true
section
variable {P : Program} {w : World} {K : PySem.W.Frag} {mg : Str → Option Value} {base : Heap}
theorem Fun.ok {x qual : Str} {st : Stmt} {f : Addr} {fd : FuncData} {N ps : List Str} {k : Nat} {sp : Sp} (F : Fun K x qual st f fd) (S : FnScope N ps (defScope st)) (len : ∀ vs H Q E, sp vs H Q E → vs.length = ps.length)
    (hbody : ∀ (cdv : Value) (A : Around) (outer : List Env) (s : Shared) (H : Hp) (vs : List V) (Q : VK) (E : XK), Room k (A.deeper (envOfC qual (defScope st) s.heap.objs.size f cdv)) → sp vs H Q E →
      ∃ t, PSs (cxOf CX0 P w K mg base N qual (defScope st) f cdv A outer s H E).nox (defBody st) t ∧ t { nx := fun _ H' => Q .non H', rt := Q } (start N vs) H) : FnOk P w K mg base CX0 (k + 1) f fd ps sp := by
  obtain ⟨oc, od, kV, doc, pm, an, cdv, ct, osl, rfl, lk, hcd⟩ := F.ex
  refine fn_of lk hcd S len fun A outer s H vs Q E hr hsp => ?_
  obtain ⟨t, h, q⟩ := hbody cdv A outer s H vs Q E hr hsp
  exact ⟨t, h.nox, q⟩
theorem Fun.binds {x qual : Str} {st : Stmt} {f : Addr} {fd : FuncData} {ps : List Str} (F : Fun K x qual st f fd)
    (h : ∀ (kV doc pm : Value) (an : Option Addr) (cdv ct : Value) (us : List Value), us.length = ps.length → bindArgs (PySem.W.fnOf x qual (defArgs st) (defBody st) (defScope st) .none kV doc pm an cdv ct) ⟨us, []⟩ = pure (ps.zip us)) : Binds K fd ps [] := by
  obtain ⟨oc, od, kV, doc, pm, an, cdv, ct, osl, rfl, lk, hcd⟩ := F.ex
  exact .all (h kV doc pm an cdv ct)
theorem fun_mk {x qual : Str} {st : Stmt} {f : Addr} {oc : Value} {od an : Option Addr} {osl : Array (Option Value)} {kV doc pm cdv ct : Value} (l : K.lookup f = some ⟨oc, od, .func (PySem.W.fnOf x qual (defArgs st) (defBody st) (defScope st) .none kV doc pm an cdv ct), osl⟩)
    (c : PySem.W.codeIn K cdv qual = true) (k : PySem.W.keepIn K (.ref f) = true) : Fun K x qual st f (PySem.W.fnOf x qual (defArgs st) (defBody st) (defScope st) .none kV doc pm an cdv ct) := ⟨⟨oc, od, kV, doc, pm, an, cdv, ct, osl, rfl, l, c⟩, k⟩
end
theorem small1000 {n : Nat} (h : n ≤ 1000) : n < sizeLine := Nat.lt_of_le_of_lt h (by decide)
section
variable {X : Cx}
theorem pv (i : Nat) {x : Str} {pos : Pos} (hN : X.N[i]? = some x := by rfl) (hv : Vis X.env.scope x := by first | exact Or.inl rfl | exact Or.inr (Or.inl rfl) | exact Or.inr (Or.inr rfl)) (hd : (x == ("__debug__" : Str)) = false := by decide)
    (hcd : (x == ("__classdict__" : Str)) = false := by decide) : PE X (.Name x pos) (tVar i) := pe_var hN hv hd hcd
end
theorem iteF {A B : Prop} (h : B) : if false = true then A else B := by
  rw [if_neg Bool.false_ne_true]
  exact h
theorem iteT {A B : Prop} (h : A) : if true = true then A else B := by
  rw [if_pos rfl]
  exact h
def Same (H H' : Hp) : Prop := ∀ b o, H b = some o → H' b = some o
theorem Same.refl (H : Hp) : Same H H := fun _ _ h => h
theorem Same.trans {H H1 H2 : Hp} (a : Same H H1) (b : Same H1 H2) : Same H H2 := fun c o h => b c o (a c o h)
theorem Same.free {H H' : Hp} (e : Same H H') {l : Addr} (h : H' l = Option.none) : H l = Option.none := by
  cases q : H l with
  | none => rfl
  | some o =>
    rw [e l o q] at h
    cases h
theorem Same.seq {K : PySem.W.Frag} {H H' : Hp} {a : Addr} {xs : List V} (e : Same H H') (h : SqL K H a xs) : SqL K H' a xs := by
  rcases h with (h | ⟨o, h⟩) | h
  · exact .inl (.inl (e _ _ h))
  · exact .inl (.inr ⟨o, e _ _ h⟩)
  · exact .inr h
end L2
set_option Elab.async false
set_option linter.all false
set_option maxRecDepth 100000
set_option maxHeartbeats 4000000
namespace L2
open PySem PySem.Spec PyProof.Rows
theorem closure_go {env : Env} : ∀ (ns : List (Str × NameKind)) (cs : List (Str × Addr)), (∀ y ∈ ns, y.2 = .free → ∃ c, env.cells.lookup y.1 = some c) → (∀ x c, cs.lookup x = some c → env.cells.lookup x = some c) →
    ∃ cl : List (Str × Addr), (forIn ns cs fun (p : Str × NameKind) (r : List (Str × Addr)) => if (p.2 == NameKind.free) = true then (cellOf env p.1 >>= fun c => pure (ForInStep.yield ((p.1, c) :: r))) else (pure (ForInStep.yield r) : Sem (ForInStep (List (Str × Addr))))) = (pure cl : Sem (List (Str × Addr))) ∧
      (∀ x c, cl.lookup x = some c → env.cells.lookup x = some c) ∧ (∀ x c, cs.lookup x = some c → ∃ c', cl.lookup x = some c') ∧ ∀ y ∈ ns, y.2 = .free → ∃ c, cl.lookup y.1 = some c
  | [], cs, _, hc => ⟨cs, rfl, hc, fun x c e => ⟨c, e⟩, fun y hy => absurd hy (by simp)⟩
  | (n, k) :: r, cs, h, hc => by
    by_cases hk : k = .free
    · subst hk
      obtain ⟨c, e⟩ := h (n, .free) (by simp) rfl
      have hc2 : ∀ x c', ((n, c) :: cs).lookup x = some c' → env.cells.lookup x = some c' := fun x c' q => by
        rw [List.lookup_cons] at q
        cases hx : x == n with
        | true => rw [hx] at q; cases q; rw [eq_of_beq hx]; exact e
        | false => rw [hx] at q; exact hc x c' q
      obtain ⟨cl, e1, e2, e3, e4⟩ := closure_go r ((n, c) :: cs) (fun y hy => h y (List.mem_cons_of_mem _ hy)) hc2
      refine ⟨cl, ?_, e2, fun x c' q => ?_, fun y hy hf => ?_⟩
      · rw [List.forIn_cons]
        show (if (NameKind.free == NameKind.free) = true then _ else _) >>= _ = _
        rw [if_pos (by decide)]
        unfold cellOf
        rw [e]
        exact e1
      · by_cases hx : x = n
        · exact e3 x c (by rw [hx, List.lookup_cons]; simp)
        · exact e3 x c' (by rw [List.lookup_cons, beq_eq_false_iff_ne.mpr hx]; exact q)
      · rcases List.mem_cons.mp hy with z | z
        · rw [z]; exact e3 n c (by rw [List.lookup_cons]; simp)
        · exact e4 y z hf
    · obtain ⟨cl, e1, e2, e3, e4⟩ := closure_go r cs (fun y hy => h y (List.mem_cons_of_mem _ hy)) hc
      refine ⟨cl, ?_, e2, e3, fun y hy hf => ?_⟩
      · rw [List.forIn_cons]
        have hb : (k == NameKind.free) = false := by simpa using hk
        show (if (k == NameKind.free) = true then _ else _) >>= _ = _
        rw [hb]
        exact e1
      · rcases List.mem_cons.mp hy with z | z
        · rw [z] at hf; exact absurd hf hk
        · exact e4 y z hf
theorem closure_is {scope : Scope} {env : Env} (h : ∀ y ∈ scope.names, y.2 = .free → ∃ c, env.cells.lookup y.1 = some c) :
    ∃ cl, closureFor scope env = pure cl ∧ (∀ x c, cl.lookup x = some c → env.cells.lookup x = some c) ∧ ∀ y ∈ scope.names, y.2 = .free → ∃ c, cl.lookup y.1 = some c := by
  obtain ⟨cl, e1, e2, _, e4⟩ := closure_go (env := env) scope.names [] h (fun x c q => by simp at q)
  refine ⟨cl, ?_, e2, e4⟩
  show ((forIn scope.names [] fun (p : Str × NameKind) (r : List (Str × Addr)) => if (p.2 == NameKind.free) = true then (cellOf env p.1 >>= fun c => pure (ForInStep.yield ((p.1, c) :: r))) else (pure (ForInStep.yield r) : Sem (ForInStep (List (Str × Addr))))) >>= fun r => (pure r : Sem (List (Str × Addr)))) = pure cl
  rw [e1]
  rfl
def compCx (X : Cx) (N : List Str) (scope : Scope) (cl : List (Str × Addr)) (C : Addr) (s₀ : Shared) (H₀ : Hp) (ex : List Addr) : Cx where
  prog := X.prog
  w := X.w
  K := X.K
  mg := X.mg
  base := X.base
  A := X.A
  N := N
  s₀ := s₀
  H₀ := H₀
  env := compEnvC scope cl C X.env
  outer := X.stack
  stack := X.stack
  ex := ex
  fn := fun _ => false
  calm := X.calm
  pn := []
  xe := fun _ _ => False
def iniOf (l : List (Option Nat)) (σ : St) : St := l.map fun o => match o with | none => none | some k => (σ[k]?).join
def CompN (X : Cx) (scope : Scope) : List Str → List (Option Nat) → Prop
  | [], [] => True
  | _ :: N, none :: l => CompN X scope N l
  | x :: N, some k :: l => (X.N[k]? = some x ∧ (X.env.scope.names.lookup x = some .cell ∨ X.env.scope.names.lookup x = some .free) ∧ scope.names.lookup x = some .free) ∧ CompN X scope N l
  | _, _ => False
theorem CompN.len {X : Cx} {scope : Scope} : ∀ {N : List Str} {l : List (Option Nat)}, CompN X scope N l → l.length = N.length
  | [], [], _ => rfl
  | _ :: N, none :: l, h => by simp [CompN.len (N := N) (l := l) h]
  | _ :: N, some _ :: l, h => by simp [CompN.len (N := N) (l := l) h.2]
  | [], none :: _, h => h.elim
  | [], some _ :: _, h => h.elim
  | _ :: _, [], h => h.elim
theorem CompN.get {X : Cx} {scope : Scope} : ∀ {N : List Str} {l : List (Option Nat)} {i k : Nat} {x : Str}, CompN X scope N l → N[i]? = some x → l[i]? = some (some k) →
    X.N[k]? = some x ∧ (X.env.scope.names.lookup x = some .cell ∨ X.env.scope.names.lookup x = some .free) ∧ scope.names.lookup x = some .free
  | [], [], _, _, _, _, e, _ => by simp at e
  | _ :: N, none :: l, 0, _, _, _, _, e => by simp at e
  | _ :: N, none :: l, i + 1, k, x, h, e1, e2 => CompN.get (N := N) (l := l) (i := i) h (by simpa using e1) (by simpa using e2)
  | y :: N, some j :: l, 0, k, x, h, e1, e2 => by
    have e1' : y = x := by simpa using e1
    have e2' : j = k := by simpa using e2
    rw [← e1', ← e2']
    exact h.1
  | _ :: N, some _ :: l, i + 1, k, x, h, e1, e2 => CompN.get (N := N) (l := l) (i := i) h.2 (by simpa using e1) (by simpa using e2)
  | [], none :: _, _, _, _, h, _, _ => h.elim
  | [], some _ :: _, _, _, _, h, _, _ => h.elim
  | _ :: _, [], _, _, _, h, _, _ => h.elim
theorem iniOf_len (l : List (Option Nat)) (σ : St) : (iniOf l σ).length = l.length := by unfold iniOf; rw [List.length_map]
theorem iniOf_get {l : List (Option Nat)} {σ : St} {i : Nat} {v : V} (h : (iniOf l σ)[i]? = some (some v)) : ∃ k, l[i]? = some (some k) ∧ σ[k]? = some (some v) := by
  unfold iniOf at h
  rw [List.getElem?_map] at h
  cases e : l[i]? with
  | none => rw [e] at h; cases h
  | some o =>
    rw [e] at h
    cases o with
    | none => simp at h
    | some k =>
      refine ⟨k, rfl, ?_⟩
      have h2 : (σ[k]?).join = some v := by simpa using h
      cases q : σ[k]? with
      | none => rw [q] at h2; cases h2
      | some z =>
        rw [q] at h2
        have h3 : z = some v := by simpa using h2
        rw [h3]
structure CompScope (X : Cx) (N : List Str) (l : List (Option Nat)) (scope : Scope) : Prop where
  kind : scope.kind = .function
  loc : (scope.names.all fun y => y.2 != .local || (scope.names.lookup y.1 == some .local)) = true
  nocell : (scope.names.all fun y => y.2 != .cell) = true
  fre : (scope.names.all fun y => y.2 != .free || (X.env.scope.names.lookup y.1 == some .cell || X.env.scope.names.lookup y.1 == some .free)) = true
  nm : CompN X scope N l
  nd : N.Nodup
theorem relabel_lookup {env : Env} {x : Str} {k : NameKind} : ∀ {names : List (Str × NameKind)}, (names.map fun (p : Str × NameKind) => if (p.2 == NameKind.free && env.scope.kind == .function && env.kindOf p.1 == some .cell) = true then (p.1, NameKind.cell) else (p.1, p.2)).lookup x = some k →
    ∃ k0, names.lookup x = some k0 ∧ (k = k0 ∨ (k0 = .free ∧ k = .cell))
  | [], h => by simp at h
  | (n, k1) :: r, h => by
    rw [List.map_cons] at h
    by_cases hc : (k1 == NameKind.free && env.scope.kind == .function && env.kindOf n == some .cell) = true
    · have hk : k1 = .free := by
        have h1 := hc
        rw [Bool.and_eq_true, Bool.and_eq_true] at h1
        simpa using h1.1.1
      rw [if_pos hc, List.lookup_cons] at h
      rw [List.lookup_cons]
      cases hx : x == n with
      | true => rw [hx] at h; exact ⟨k1, rfl, .inr ⟨hk, by simpa using h.symm⟩⟩
      | false => rw [hx] at h; exact relabel_lookup h
    · rw [if_neg hc, List.lookup_cons] at h
      rw [List.lookup_cons]
      cases hx : x == n with
      | true => rw [hx] at h; exact ⟨k1, rfl, .inl (by simpa using h.symm)⟩
      | false => rw [hx] at h; exact relabel_lookup h
theorem relabel_free {env : Env} {x : Str} : ∀ {names : List (Str × NameKind)}, names.lookup x = some .free →
    ∃ k, (names.map fun (p : Str × NameKind) => if (p.2 == NameKind.free && env.scope.kind == .function && env.kindOf p.1 == some .cell) = true then (p.1, NameKind.cell) else (p.1, p.2)).lookup x = some k ∧ (k = .cell ∨ k = .free)
  | [], h => by simp at h
  | (n, k1) :: r, h => by
    rw [List.map_cons]
    rw [List.lookup_cons] at h
    by_cases hc : (k1 == NameKind.free && env.scope.kind == .function && env.kindOf n == some .cell) = true
    · rw [if_pos hc, List.lookup_cons]
      cases hx : x == n with
      | true => exact ⟨_, rfl, .inl rfl⟩
      | false => rw [hx] at h; exact relabel_free h
    · rw [if_neg hc, List.lookup_cons]
      cases hx : x == n with
      | true =>
        rw [hx] at h
        have hk : k1 = .free := by simpa using h
        exact ⟨_, rfl, .inr hk⟩
      | false => rw [hx] at h; exact relabel_free h
section
variable {X : Cx} {pins : List (Addr × Obj)} {σ : St} {H : Hp} {s : Shared} {N : List Str} {l : List (Option Nat)} {scope : Scope} {cl : List (Str × Addr)} {fp : List Addr}
theorem inv_comp (S : CompScope X N l scope) (I : Inv X pins σ H s) (c1 : ∀ x c, cl.lookup x = some c → X.env.cells.lookup x = some c) (c2 : ∀ y ∈ scope.names, y.2 = .free → ∃ c, cl.lookup y.1 = some c)
    (f : ∀ b ∈ fp, FpOk X pins H b) (fo : ∀ b ∈ fp, ∃ o, s.heap.get? b = some o) {h' : Heap} {m : Str → Option Value} (hn : h'.Ns s.heap.objs.size m) (hk : ∀ b o, s.heap.get? b = some o → h'.get? b = some o) (t' : Nat) :
    Inv (compCx X N scope cl s.heap.objs.size s H fp) [] (iniOf l σ) H { s with heap := h', toks := t' } := by
  have cellH : ∀ x c, cl.lookup x = some c → ∃ v, h'.IsCell c v := fun x c e => by
    obtain ⟨v, o, ho, hd⟩ := I.cell x c (c1 x c e)
    exact ⟨v, o, hk c o ho, hd⟩
  have fr : ∀ b ∈ fp, b < s.heap.objs.size := fun b hb => by
    obtain ⟨o, e⟩ := fo b hb
    exact Heap.lt_size e
  refine ⟨⟨I.ok.mod, S.kind, I.ok.glob, I.ok.blt, Nat.le_refl _, fun x y c h1 h2 => I.ok.inj x y c (c1 x c h1) (c1 y c h2), fun x hx => ?_, fun x c h => (nomatch h), I.ok.hd, I.ok.frames, .inl rfl, fun b hb => ⟨Nat.ne_of_lt (fr b hb), fun x c e => (f b hb).2.2.2.2.1 x c (c1 x c e)⟩,
      I.bs, Nat.le_trans I.ok.bsz I.sz, fun b o e hb => ?_, fun b hb hf => ?_, I.stack, I.stkFree⟩,
    rfl, I.bare, Un.kept hk, ⟨m, hn, fun i x v e1 e2 e3 => ?_⟩, cellH, I.hok.fresh (Nat.le_refl _), fun x c e => I.freeC x c (c1 x c e), fun p hp => absurd (show p ∈ ([] : List (Addr × Obj)) from hp) (by simp), I.hok.kept hk, (iniOf_len l σ).trans S.nm.len⟩
  · have hx2 : (relabel scope X.env).names.lookup x = some .cell ∨ (relabel scope X.env).names.lookup x = some .free := hx
    have fin : ∀ k, (relabel scope X.env).names.lookup x = some k → (k = .cell ∨ k = .free) → ∃ c, cl.lookup x = some c := fun k e hk => by
      obtain ⟨k0, e0, q⟩ := relabel_lookup (names := scope.names) (env := X.env) (x := x) (k := k) e
      have hm := PySem.mem_of_lookup e0
      have nc := List.all_eq_true.mp S.nocell _ hm
      have hfree : k0 = .free := by
        rcases q with q | q
        · subst q
          rcases hk with z | z
          · subst z; simp at nc
          · exact z
        · exact q.1
      exact c2 _ hm hfree
    rcases hx2 with z | z
    · exact fin _ z (.inl rfl)
    · exact fin _ z (.inr rfl)
  · rcases (f b hb).2.2.2.1 with z | z
    · exact I.ok.noex b o e z
    · exact absurd (Nat.lt_of_lt_of_le (Heap.lt_size e) (Nat.le_trans I.ok.bsz z)) (Nat.lt_irrefl _)
  · rcases List.mem_cons.mp (I.stkSub b hf) with z | z
    · exact (f b hb).2.1 z
    · exact (f b hb).2.2.1 z
  · obtain ⟨k, g1, g2⟩ := iniOf_get e2
    obtain ⟨n1, n2, n3⟩ := S.nm.get e1 g1
    obtain ⟨mx, _, hl⟩ := I.loc
    have vis : Vis X.env.scope x := .inr n2
    obtain ⟨u, r, lk⟩ := hl k x v n1 g2 vis
    refine ⟨u, r, ?_⟩
    obtain ⟨kk, e4, e5⟩ := relabel_free (env := X.env) n3
    obtain ⟨c, ec⟩ := c2 _ (PySem.mem_of_lookup n3) rfl
    have kf : (compEnvC scope cl s.heap.objs.size X.env).kindOf x = some .cell ∨ (compEnvC scope cl s.heap.objs.size X.env).kindOf x = some .free := by
      rcases e5 with z | z
      · exact .inl (z ▸ e4)
      · exact .inr (z ▸ e4)
    refine .inr ⟨kf, c, ec, ?_⟩
    rcases lk with ⟨k1, _⟩ | ⟨_, c', e', ⟨o, ho, hd⟩⟩
    · have k1' : X.env.scope.names.lookup x = some .local := k1
      rcases n2 with z | z <;> (rw [z] at k1'; cases k1')
    · have ee := c1 x c ec
      rw [e'] at ee
      have ee' : c' = c := Option.some.inj ee
      subst ee'
      exact ⟨o, hk _ o ho, hd⟩
theorem comp_end {C : Addr} {σ' : St} {H' : Hp} {s' : Shared} (I : Inv X pins σ H s) (f : ∀ b ∈ fp, FpOk X pins H b) (J : Inv (compCx X N scope cl C s H fp) [] σ' H' s') : Inv X pins σ H' s' :=
  I.call' (ch := fp) J.os J.base J.hok J.bare fun b hb => ⟨(f b hb).2.2.2.1, (f b hb).2.1, (f b hb).2.2.2.2.1, (f b hb).2.2.2.2.2⟩
theorem comp_gone {σ2 : St} {H' : Hp} {s' : Shared} {h'' : Heap} (I : Inv X pins σ H s) (hf : H' s.heap.objs.size = none) (I' : Inv X pins σ2 H' s') (sb : Heap.SameBut s.heap.objs.size s'.heap h'') : Inv X pins σ2 H' { s' with heap := h'' } := by
  refine I'.turned (t' := s'.toks) (it := s.heap.objs.size) (fun b o hb e => (sb.2 b hb).trans e) hf (Nat.ne_of_gt I.lt) (.inr I.sz) (fun x c e z => ?_) fun p hp z => ?_
  · obtain ⟨v, q⟩ := I.cell x c e
    exact absurd q.lt (by rw [z]; exact Nat.lt_irrefl _)
  · exact absurd (Heap.lt_size (I.pin p hp).1) (by rw [z]; exact Nat.lt_irrefl _)
end
def testsOf (ifs : List Expr) (env : Env) : Sem Bool := forIn ifs true fun c r => if r = true then do let ok ← isTrue c env (eval c env); pure (ForInStep.yield ok) else pure (ForInStep.yield r)
abbrev NoX : Value → Shared → Prop := fun _ _ => False
theorem comp_loop {prog : Program} {w : World} {A : Around} {R : Result → Shared → Prop} {s : Shared} {elt target iter : Expr} {ifs : List Expr} {scope : Scope} {pos : Pos} {it acc : Value} {env : Env} (Iv : Nat → Shared → Prop)
    (turn : ∀ n s, Iv n s → wpAny (model prog w) A (pyNext it) (fun r s1 => match r with
      | none => R (.ok .next) s1
      | some v => wpAny (model prog w) A (letOwnedTupleGo target it v) (fun _ s2 => wpAny (model prog w) A (assign target env v) (fun _ s3 => wpAny (model prog w) A (testsOf ifs env) (fun ok s4 =>
          if ok = true then wpAny (model prog w) A (eval elt env) (fun x s5 => wpAny (model prog w) A (call (.builtin "list.append") [acc, x]) (fun _ s6 => ∃ m, m < n ∧ Iv m s6) NoX s5) NoX s4
          else ∃ m, m < n ∧ Iv m s4) NoX s3) NoX s2) NoX s1) NoX s)
    (n : Nat) (h : Iv n s) : codeAny (model prog w) A (.compLoop (.ListComp elt [⟨target, iter, ifs, 0⟩] scope pos) 0 it acc env) R s := by
  refine codeAny_loop rfl Iv (fun n s hI => ?_) n h
  show wpAny (model prog w) A ((compTurn (.ListComp elt [⟨target, iter, ifs, 0⟩] scope pos) 0 it acc env).onRaise fun x => (noteFrame x env >>= fun _ => theTreesLotGoes x)) _ _ s
  refine wpAny_noted (wpAny_mono ?_ (fun _ _ q => q) fun _ _ q => False.elim q)
  rw [compTurn_list]
  refine wpAny_bind (wpAny_standAt (wpAny_bind (thn (turn n s hI) fun r s1 h1 => ?_)))
  cases r with
  | none => exact wpAny_pure h1
  | some v =>
    refine wpAny_bind (thn h1 fun _ s2 h2 => wpAny_bind (thn h2 fun _ s3 h3 => wpAny_bind (thn h3 fun ok s4 h4 => ?_)))
    cases ok with
    | false => exact wpAny_pure ⟨rfl, h4⟩
    | true => exact wpAny_bind (wpAny_bind (thn h4 fun x s5 h5 => wpAny_bind (thn h5 fun _ s6 h6 => wpAny_pure (wpAny_pure ⟨rfl, h6⟩))))
def PIfs (X : Cx) (ifs : List Expr) (t : TT) : Prop :=
  ∀ (pins : List (Addr × Obj)) (s : Shared) (σ : St) (H : Hp) (Q : Bool → Hp → Prop), Inv X pins σ H s → t σ H Q → wpAny (model X.prog X.w) X.A (testsOf ifs X.env) (TP X pins σ Q) X.xe s
def tYes : TT := fun _ H Q => Q true H
theorem pif_nil {X : Cx} : PIfs X [] tYes := fun _ _ _ H _ I h => wpAny_pure ⟨H, I, h⟩
abbrev CompW := Nat → Nat → List V → St → Hp → Prop
def compStep (J : It) (g : TG) (tc : TT) (te : TE) (D : Addr) (W : CompW) (Q : Hp → Prop) : Prop :=
  ∀ i m ys σ H, W i m ys σ H → H D = some (.lst ys) ∧ ((J.stop i H ∧ Q H) ∨ (J.go i H ∧ ∃ (A : V → St → Hp → Prop) (B : St → Hp → Prop),
    (∀ v σ2 H4, A v σ2 H4 → H4 D = some (.lst ys) ∧ ys.length < sizeLine ∧ ∃ m', m' < m ∧ W (i + 1) m' (ys ++ [v]) σ2 (upd H4 D (.lst (ys ++ [v])))) ∧ (∀ σ2 H3, B σ2 H3 → ∃ m', m' < m ∧ W (i + 1) m' ys σ2 H3) ∧
    ∀ x H', J.yld i H x H' → g x σ H' fun σ2 H2 => tc σ2 H2 fun b H3 => if b = true then te σ2 H3 fun v H4 => A v σ2 H4 else B σ2 H3))
def tComp (l : List (Option Nat)) (wi : TI) (g : TG) (tc : TT) (te : TE) : TE := fun σ H Q => wi σ H fun J H1 => ∀ D, H1 D = none → ∃ W : CompW, (∃ m, W 0 m [] (iniOf l σ) (upd H1 D (.lst []))) ∧ compStep J g tc te D W fun H' => Q (.ref D) H'
section
variable {X : Cx} {tg elt iter : Expr} {ifs : List Expr} {N : List Str} {l : List (Option Nat)} {scope : Scope} {pos : Pos} {wi : TI} {g : TG} {tc : TT} {te : TE}
theorem comp_block {cl : List (Str × Addr)} {pins : List (Addr × Obj)} {σ : St} {H : Hp} {s : Shared} {J : It} {fp : List Addr} {it : Addr} {tn : Nat → Heap → Prop} {RR : Value → Addr → Result → Shared → Prop} {Q : Addr → Hp → Prop} {E : Value → Shared → Prop}
    (hc : X.calm = true) (S : CompScope X N l scope) (c1 : ∀ x c, cl.lookup x = some c → X.env.cells.lookup x = some c) (c2 : ∀ y ∈ scope.names, y.2 = .free → ∃ c, cl.lookup y.1 = some c)
    (hg : ∀ C s H ex, PG (compCx X N scope cl C s H ex) tg g) (hi : ∀ C s H ex, PIfs (compCx X N scope cl C s H ex) ifs tc) (he : ∀ C s H ex, PE (compCx X N scope cl C s H ex) elt te)
    (I : Inv X pins σ H s) (T : Turn X.prog X.w X.K tg J fp it tn) (t0 : tn 0 s.heap) (f : ∀ b ∈ fp, FpOk X pins H b)
    (hW : ∀ D, H D = none → ∃ W : CompW, (∃ m, W 0 m [] (iniOf l σ) (upd H D (.lst []))) ∧ compStep J g tc te D W (Q D))
    (hR : ∀ D s0 H' s', Inv X pins σ (upd H D (.lst [])) s0 → Inv X pins σ H' s' → H' s0.heap.objs.size = none → (∃ m, s'.heap.Ns s0.heap.objs.size m) → Q D H' → RR (.ref D) s0.heap.objs.size (.ok .next) s') :
    wpAny (model X.prog X.w) X.A (newList []) (fun acc s3 => wpAny (model X.prog X.w) X.A (newFunctionEnv scope X.env.globals cl [] X.env.qual none .none (some X.env)) (fun cenv s4 =>
      codeAny (model X.prog X.w) X.A (.compStart (.ListComp elt [⟨tg, iter, ifs, 0⟩] scope pos) 0 (.ref it) acc { cenv with scope := relabel scope X.env }) (RR acc cenv.locals) s4) E s3) E s := by
  refine wpAny_newObj_type (wpAny_newFunctionEnv (fun y hy => by have := List.all_eq_true.mp S.nocell y hy; simpa using this) (fun y hy => absurd hy (by simp)) (fun h4 hn4 sb4 => ?_) S.kind)
  have kept3 : ∀ b u, s.heap.get? b = some u → (s.heap.push { cls := .type "list", dict := none, data := .seq ([] : List Value).toArray }).get? b = some u := fun b u e => Heap.get?_push_of_some _ e
  have hD : H s.heap.objs.size = none := I.hok.fresh (Nat.le_refl _)
  have I3 : Inv X pins σ (upd H s.heap.objs.size (.lst [])) { s with heap := s.heap.push { cls := .type "list", dict := none, data := .seq ([] : List Value).toArray } } :=
    I.laid (t' := s.toks) kept3 (Nat.le_refl _) ⟨Nat.zero_le _, [], 0, .nil, Heap.get?_push_size _ rfl⟩
  generalize hh3 : s.heap.push { cls := .type "list", dict := none, data := .seq ([] : List Value).toArray } = h3 at kept3 I3 hn4 sb4 ⊢
  have fpIn : ∀ b ∈ fp, ∃ o, s.heap.get? b = some o := fun b hb => let ⟨o, e, _⟩ := T.obj _ _ t0 b hb; ⟨o, e⟩
  have f3 : ∀ b ∈ fp, FpOk X pins (upd H s.heap.objs.size (.lst [])) b := fun b hb => by
    obtain ⟨o, e⟩ := fpIn b hb
    exact ⟨by rw [upd_ne (Nat.ne_of_lt (Heap.lt_size e))]; exact (f b hb).1, (f b hb).2⟩
  have kept4 : ∀ b o, h3.get? b = some o → h4.get? b = some o := fun b o e => sb4.extBut b o (Nat.ne_of_lt (Heap.lt_size e)) (Heap.get?_push_of_some _ e)
  have J4 := inv_comp S I3 c1 c2 f3 (fun b hb => let ⟨o, e⟩ := fpIn b hb; ⟨o, kept3 b o e⟩) hn4 kept4 (s.toks + ([] : List (Str × Value)).length)
  have t4 : tn 0 h4 := T.keep _ _ _ t0 fun b _ o e => kept4 b o (kept3 b o e)
  obtain ⟨W, ⟨m0, w0⟩, step⟩ := hW _ hD
  have loop : ∀ s4 : Shared, s4 = { s with heap := h4, toks := s.toks + ([] : List (Str × Value)).length } →
      codeAny (model X.prog X.w) X.A (.compLoop (.ListComp elt [⟨tg, iter, ifs, 0⟩] scope pos) 0 (.ref it) (.ref s.heap.objs.size) (compEnvC scope cl h3.objs.size X.env)) (RR (.ref s.heap.objs.size) h3.objs.size) s4 := by
    rintro s4 rfl
    generalize hY : compCx X N scope cl h3.objs.size { s with heap := h3 } (upd H s.heap.objs.size (.lst [])) fp = Y at J4
    have eP : Y.prog = X.prog := by rw [← hY]; rfl
    have ew : Y.w = X.w := by rw [← hY]; rfl
    have eK : Y.K = X.K := by rw [← hY]; rfl
    have ec : Y.calm = true := by rw [← hY]; exact hc
    have eA : Y.A = X.A := by rw [← hY]; rfl
    have ee : Y.env = compEnvC scope cl h3.objs.size X.env := by rw [← hY]; rfl
    have ex : Y.xe = NoX := by rw [← hY]; rfl
    have stat : ∀ {H' : Hp}, (∀ b ∈ fp, H' b = none) → ∀ b ∈ fp, FpOk Y [] H' b := fun {H'} hn b hb => by
      rw [← hY]
      obtain ⟨o, e⟩ := fpIn b hb
      refine ⟨hn b hb, Nat.ne_of_lt (Heap.lt_size (kept3 b o e)), fun z => ?_, .inl hb, fun x c q => (f3 b hb).2.2.2.2.1 x c (c1 x c q), fun p hp => absurd (show p ∈ ([] : List (Addr × Obj)) from hp) (by simp)⟩
      rcases List.mem_cons.mp (I3.stkSub b z) with q | q
      · exact (f3 b hb).2.1 q
      · exact (f3 b hb).2.2.1 q
    refine comp_loop (fun n s' => ∃ i ys σ' H', Inv Y [] σ' H' s' ∧ tn i s'.heap ∧ (∀ b ∈ fp, H' b = none) ∧ W i n ys σ' H') ?_ m0 ⟨0, [], iniOf l σ, _, J4, t4, fun b hb => (f3 b hb).1, w0⟩
    rintro n s5 ⟨i, ys, σ5, H5, J5, t5, fr5, w5⟩
    obtain ⟨hDl, st⟩ := step i n ys σ5 H5 w5
    rw [← eP, ← ew, ← eA, ← ee]
    rcases st with ⟨stop, q⟩ | ⟨go, NA, NB, hA, hB, nxt⟩
    · have d := T.done Y eP ew eK ec i [] s5 σ5 H5 NoX J5 (stat fr5) t5 stop
      rw [← eP, ← ew] at d
      refine thn d fun r s6 ⟨hr, J6⟩ => ?_
      subst hr
      rw [← hY] at J6
      obtain ⟨m6, n6, _⟩ := J6.loc
      exact hR _ { s with heap := h3 } H5 s6 I3 (comp_end I3 f3 J6) J6.free ⟨m6, n6⟩ q
    · have d := T.item Y eP ew eK ec i [] s5 σ5 H5 NoX J5 (stat fr5) t5 go
      rw [← eP, ← ew] at d
      refine thn d fun r s6 ⟨u, hr, h6⟩ => ?_
      subst hr
      refine thn h6 fun _ s7 ⟨x, H7, J7, r7, y7, t7, fr7⟩ => ?_
      have J7' := J7.pinned (stat fr7) (T.obj _ _ t7)
      have back : ∀ {σ8 : St} {H8 : Hp} {s8 : Shared}, Inv Y ([] ++ pinsAt fp s7.heap) σ8 H8 s8 → tn (i + 1) s8.heap ∧ (∀ b ∈ fp, H8 b = none) := fun {σ8 H8 s8} J8 => by
        refine ⟨T.keep _ _ _ t7 fun b hb o e => (J8.pin (b, o) (List.mem_append_right _ (List.mem_append_right _ (mem_pinsAt hb e)))).1, fun b hb => ?_⟩
        obtain ⟨o, e, _⟩ := T.obj _ _ t7 b hb
        exact (J8.pin (b, o) (List.mem_append_right _ (List.mem_append_right _ (mem_pinsAt hb e)))).2.1
      have hg' : PG Y tg g := by rw [← hY]; exact hg _ _ _ _
      have hi' : PIfs Y ifs tc := by rw [← hY]; exact hi _ _ _ _
      have he' : PE Y elt te := by rw [← hY]; exact he _ _ _ _
      have a7 := hg' _ s7 σ5 H7 x u _ J7' r7 (nxt x H7 y7)
      rw [ex] at a7
      refine thn a7 fun _ s8 ⟨σ8, H8, J8, q8⟩ => ?_
      have a8 := hi' _ s8 σ8 H8 _ J8 q8
      rw [ex] at a8
      refine thn a8 fun ok s9 ⟨H9, J9, q9⟩ => ?_
      cases ok with
      | false =>
        have q9' : NB σ8 H9 := by simpa using q9
        obtain ⟨m', hm, w9⟩ := hB _ _ q9'
        obtain ⟨t9, fr9⟩ := back J9
        show ∃ m, m < n ∧ _
        exact ⟨m', hm, i + 1, ys, σ8, H9, J9.unpinned, t9, fr9, w9⟩
      | true =>
        rw [if_pos rfl] at q9
        show wpAny _ _ (eval elt Y.env) _ _ s9
        have a9 := he' _ s9 σ8 H9 _ J9 q9
        rw [ex] at a9
        refine thn a9 fun xv s10 ⟨v, H10, J10, r10, q10⟩ => ?_
        obtain ⟨hD10, hz, m', hm, w10⟩ := hA _ _ _ q10
        have a10 := mt_append _ s10 σ8 H10 (.ref s.heap.objs.size) [v] (.ref s.heap.objs.size) [xv] (fun _ H' => H' = upd H10 s.heap.objs.size (.lst (ys ++ [v]))) J10 rfl (.cons r10 .nil) ⟨_, ys, v, rfl, rfl, hD10, hz, rfl⟩
        rw [ex] at a10
        refine thn a10 fun _ s11 ⟨_, H11, J11, _, e11⟩ => ?_
        subst e11
        obtain ⟨t11, fr11⟩ := back J11
        exact ⟨m', hm, i + 1, ys ++ [v], σ8, _, J11.unpinned, t11, fr11, w10⟩
  exact codeAny_compStart_list (loop _ rfl) (T.self _ 0 _ _ _ t4 (loop _ rfl))
theorem comp_cells {pins : List (Addr × Obj)} {σ : St} {H : Hp} {s : Shared} (S : CompScope X N l scope) (I : Inv X pins σ H s) :
    ∃ cl, closureFor scope X.env = pure cl ∧ (∀ x c, cl.lookup x = some c → X.env.cells.lookup x = some c) ∧ ∀ y ∈ scope.names, y.2 = .free → ∃ c, cl.lookup y.1 = some c := by
  refine closure_is fun y hy hf => ?_
  have q := List.all_eq_true.mp S.fre y hy
  rw [hf] at q
  have q2 : (X.env.scope.names.lookup y.1 == some .cell || X.env.scope.names.lookup y.1 == some .free) = true := by simpa using q
  rw [Bool.or_eq_true] at q2
  rcases q2 with z | z
  · exact I.ok.has y.1 (.inl (show X.env.scope.names.lookup y.1 = some .cell by simpa using z))
  · exact I.ok.has y.1 (.inr (show X.env.scope.names.lookup y.1 = some .free by simpa using z))
theorem comp_locals (S : CompScope X N l scope) : ∀ y ∈ scope.names, y.2 = .local → scope.names.lookup y.1 = some .local := fun y hy hl => by
  have q := List.all_eq_true.mp S.loc y hy
  rw [hl] at q
  simpa using q
theorem pe_comp (hc : X.calm = true) (S : CompScope X N l scope) (hw : PI X tg iter wi)
    (hg : ∀ cl C s H ex, PG (compCx X N scope cl C s H ex) tg g) (hi : ∀ cl C s H ex, PIfs (compCx X N scope cl C s H ex) ifs tc) (he : ∀ cl C s H ex, PE (compCx X N scope cl C s H ex) elt te)
    (hs : ∀ x, foldedSetIterable iter X.env x = pure x := by intro _; rfl) : PE X (.ListComp elt [⟨tg, iter, ifs, 0⟩] scope pos) (tComp l wi g tc te) := by
  intro pins s σ H Q I h
  obtain ⟨cl, e1, c1, c2⟩ := comp_cells S I
  rw [eval_ListComp]
  refine wpAny_comprehension_free (use := none) rfl hs e1 S.kind (comp_locals S) (thn (hw pins s σ H _ I h) fun v s1 h1 => thn h1 fun itv s2 h2 => ?_)
  obtain ⟨it, fp, tn, J, H2, e, I2, T, st2, f2, hW⟩ := h2
  subst e
  refine comp_block hc S c1 c2 (hg cl) (hi cl) (he cl) I2 T st2 f2 hW fun D s0 H' s' I0 I' hf hns q => ?_
  obtain ⟨m, hm⟩ := hns
  exact ⟨m, hm, fun h'' sb => ⟨.ref D, H', comp_gone I0 hf I' sb, rfl, q⟩⟩
theorem ps_setComp {i : Nat} {x : Str} {pos' pos2 : Pos} (hc : X.calm = true) (hN : X.N.Nodup) (hi' : X.N[i]? = some x) (hx : X.env.scope.names.lookup x = some .local) (S : CompScope X N l scope) (hw : PI X tg iter wi)
    (hg : ∀ cl C s H ex, PG (compCx X N scope cl C s H ex) tg g) (hi : ∀ cl C s H ex, PIfs (compCx X N scope cl C s H ex) ifs tc) (he : ∀ cl C s H ex, PE (compCx X N scope cl C s H ex) elt te)
    (hsw : swapsWith (.ListComp elt [⟨tg, iter, ifs, 0⟩] scope pos) (some (.Name x pos')) pos2.line X.env = pure true := by rfl)
    (hs : ∀ x, foldedSetIterable iter X.env x = pure x := by intro _; rfl) : PS X (.Assign [.Name x pos'] (.ListComp elt [⟨tg, iter, ifs, 0⟩] scope pos) pos2) (tAsg (tComp l wi g tc te) (gName i)) := by
  intro pins s σ H D I h
  obtain ⟨cl, e1, c1, c2⟩ := comp_cells S I
  rw [exec_Assign_Name_used _ _ _ _ hsw]
  refine wpAny_bind (wpAny_standAt (wpAny_bind ?_))
  show wpAny _ X.A (comprehension (.ListComp elt [⟨tg, iter, ifs, 0⟩] scope pos) scope X.env _ (newList []) false (eval iter X.env) (some (assign (.Name x pos') X.env)) >>= fun _ => _) _ _ s
  refine wpAny_bind (thn (wpAny_comprehension_free (use := some (assign (.Name x pos') X.env)) (Q := fun _ s' => SP X pins D .next s') rfl hs e1 S.kind (comp_locals S) (thn (hw pins s σ H _ I h) fun v s1 h1 => thn h1 fun itv s2 h2 => ?_)) fun _ s' hq => wpAny_pure (wpAny_pure hq))
  obtain ⟨it, fp, tn, J, H2, e, I2, T, st2, f2, hW⟩ := h2
  subst e
  refine comp_block hc S c1 c2 (hg cl) (hi cl) (he cl) I2 T st2 f2 hW fun L s0 H' s' I0 I' hf hns q => ?_
  obtain ⟨m, hm⟩ := hns
  show wpAny _ X.A (assign (.Name x pos') X.env (.ref L)) _ _ s'
  refine wpAny_assign_Name (store_ok2 I' hN hi' (.inl hx) (v := .ref L) rfl (fun s2 I2 hsb => ?_) (.inr hx))
  obtain ⟨a, sb, ha⟩ := hsb
  have hne : s0.heap.objs.size ≠ a := by
    rcases ha with z | z
    · rw [z]; exact Nat.ne_of_gt I0.lt
    · obtain ⟨v, cc⟩ := I0.cell x a z
      exact Nat.ne_of_gt cc.lt
  exact ⟨m, hm.sameBut sb hne, fun h'' sb2 => ⟨_, H', comp_gone I0 hf I2 sb2, q⟩⟩
end
theorem comp_range {lo : Int} {n : Nat} {l : List (Option Nat)} {g : TG} {tc : TT} {te : TE} {σ : St} {H1 : Hp} {Q : Hp → Prop} (D : Addr) (Pv : Nat → List V → St → Hp → Prop) (hn : n ≤ 1000) (hy : ∀ i ys σ H, Pv i ys σ H → ys.length ≤ i) (h0 : Pv 0 [] (iniOf l σ) (upd H1 D (.lst [])))
    (hs : ∀ i ys σ H, i < n → Pv i ys σ H → H D = some (.lst ys) → g (.int (lo + i)) σ H fun σ2 H2 => tc σ2 H2 fun b H3 =>
      if b = true then te σ2 H3 fun v H4 => H4 D = some (.lst ys) ∧ Pv (i + 1) (ys ++ [v]) σ2 (upd H4 D (.lst (ys ++ [v]))) else H3 D = some (.lst ys) ∧ Pv (i + 1) ys σ2 H3)
    (hd : ∀ ys σ H, Pv n ys σ H → H D = some (.lst ys) → Q H) :
    ∃ W : CompW, (∃ m, W 0 m [] (iniOf l σ) (upd H1 D (.lst []))) ∧ compStep (Itr lo n) g tc te D W Q := by
  refine ⟨fun i m ys σ H => m = n - i ∧ i ≤ n ∧ H D = some (.lst ys) ∧ Pv i ys σ H, ⟨n, by simp, Nat.zero_le _, upd_same, h0⟩, ?_⟩
  rintro i m ys σ H ⟨rfl, hi, hD, p⟩
  refine ⟨hD, ?_⟩
  by_cases hlt : i < n
  · refine .inr ⟨hlt, fun v σ2 H4 => H4 D = some (.lst ys) ∧ Pv (i + 1) (ys ++ [v]) σ2 (upd H4 D (.lst (ys ++ [v]))), fun σ2 H3 => H3 D = some (.lst ys) ∧ Pv (i + 1) ys σ2 H3, fun v σ2 H4 q => ?_, fun σ2 H3 q => ⟨n - (i + 1), by omega, rfl, hlt, q⟩, fun x H' y => ?_⟩
    · exact ⟨q.1, small1000 (Nat.le_trans (hy _ _ _ _ p) (by omega)), n - (i + 1), by omega, rfl, hlt, upd_same, q.2⟩
    · obtain ⟨e, y⟩ := y
      subst e y
      exact hs i ys σ _ hlt p hD
  · have e : i = n := by omega
    subst e
    exact .inl ⟨Nat.le_refl _, hd ys σ H p hD⟩
theorem comp_seq {J : It} {l : List (Option Nat)} {g : TG} {tc : TT} {te : TE} {σ : St} {H1 : Hp} {Q : Hp → Prop} (D : Addr) (xs : List V) (Pv : Nat → List V → St → Hp → Prop) (hn : xs.length ≤ 1000) (hy : ∀ i ys σ H, Pv i ys σ H → ys.length ≤ i)
    (hJ : ∀ i ys σ H, Pv i ys σ H → H D = some (.lst ys) → (∀ x, xs[i]? = some x → J.go i H ∧ ∀ y H', J.yld i H y H' → H' = H ∧ y = x) ∧ (xs.length ≤ i → J.stop i H)) (h0 : Pv 0 [] (iniOf l σ) (upd H1 D (.lst [])))
    (hs : ∀ i x ys σ H, xs[i]? = some x → Pv i ys σ H → H D = some (.lst ys) → g x σ H fun σ2 H2 => tc σ2 H2 fun b H3 =>
      if b = true then te σ2 H3 fun v H4 => H4 D = some (.lst ys) ∧ Pv (i + 1) (ys ++ [v]) σ2 (upd H4 D (.lst (ys ++ [v]))) else H3 D = some (.lst ys) ∧ Pv (i + 1) ys σ2 H3)
    (hd : ∀ ys σ H, Pv xs.length ys σ H → H D = some (.lst ys) → Q H) :
    ∃ W : CompW, (∃ m, W 0 m [] (iniOf l σ) (upd H1 D (.lst []))) ∧ compStep J g tc te D W Q := by
  refine ⟨fun i m ys σ H => m = xs.length - i ∧ i ≤ xs.length ∧ H D = some (.lst ys) ∧ Pv i ys σ H, ⟨xs.length, by simp, Nat.zero_le _, upd_same, h0⟩, ?_⟩
  rintro i m ys σ H ⟨rfl, hi, hD, p⟩
  refine ⟨hD, ?_⟩
  by_cases hlt : i < xs.length
  · obtain ⟨hg, hyl⟩ := (hJ i ys σ H p hD).1 xs[i] (by simp [hlt])
    refine .inr ⟨hg, fun v σ2 H4 => H4 D = some (.lst ys) ∧ Pv (i + 1) (ys ++ [v]) σ2 (upd H4 D (.lst (ys ++ [v]))), fun σ2 H3 => H3 D = some (.lst ys) ∧ Pv (i + 1) ys σ2 H3, fun v σ2 H4 q => ?_, fun σ2 H3 q => ⟨xs.length - (i + 1), by omega, rfl, hlt, q⟩, fun x H' y => ?_⟩
    · exact ⟨q.1, small1000 (Nat.le_trans (hy _ _ _ _ p) (by omega)), xs.length - (i + 1), by omega, rfl, hlt, upd_same, q.2⟩
    · obtain ⟨e, e2⟩ := hyl x H' y
      subst e e2
      exact hs i _ ys σ _ (by simp [hlt]) p hD
  · have e : i = xs.length := by omega
    subst e
    exact .inl ⟨(hJ _ ys σ H p hD).2 (Nat.le_refl _), hd ys σ H p hD⟩
theorem itt_of {K : PySem.W.Frag} {a : Addr} {xs : List V} {H : Hp} (hq : SqT K H a xs) (i : Nat) :
    (∀ x, xs[i]? = some x → (Itt K a).go i H ∧ ∀ y H', (Itt K a).yld i H y H' → H' = H ∧ y = x) ∧ (xs.length ≤ i → (Itt K a).stop i H) :=
  ⟨fun x hx => ⟨⟨xs, x, hq, hx⟩, fun y H' h => ⟨h.1, by have := h.2 xs hq; rw [hx] at this; exact (Option.some.inj this).symm⟩⟩, fun h => ⟨xs, hq, h⟩⟩
theorem itl_of {K : PySem.W.Frag} {a : Addr} {xs : List V} {H : Hp} (hq : SqL K H a xs) (i : Nat) :
    (∀ x, xs[i]? = some x → (Itl K a).go i H ∧ ∀ y H', (Itl K a).yld i H y H' → H' = H ∧ y = x) ∧ (xs.length ≤ i → (Itl K a).stop i H) :=
  ⟨fun x hx => ⟨⟨xs, x, hq, hx⟩, fun y H' h => ⟨h.1, by have := h.2 xs hq; rw [hx] at this; exact (Option.some.inj this).symm⟩⟩, fun h => ⟨xs, hq, h⟩⟩
end L2
set_option Elab.async false
set_option linter.all false
set_option maxRecDepth 100000
set_option maxHeartbeats 4000000
namespace L2
open PySem PySem.Spec PyProof.Rows
section
variable {X : Cx}
theorem op_mulB : OpR X (binaryOp .Mult) (rI IntMulOk fun i j => .int (i * j)) := opI fun _ _ _ _ _ _ _ hc q => mul_int q hc
def CDivB (i j : Int) : Prop := 0 < j ∧ j.natAbs.log2 < 9000
theorem CDivB.of {i j : Int} (h0 : 0 < j) (h : j < 2 ^ 9000) : CDivB i j := by
  refine ⟨h0, (Nat.log2_lt (by omega)).mpr ?_⟩
  have e : ((j.natAbs : Nat) : Int) = j := by omega
  have h' : ((j.natAbs : Nat) : Int) < ((2 ^ 9000 : Nat) : Int) := by
    rw [e]
    rw [Int.natCast_pow]; exact h
  exact Int.ofNat_lt.mp h'
theorem op_fdivB : OpR X (binaryOp .FloorDiv) (rI CDivB fun i j => .int (i / j)) := opI fun i j _ _ _ _ _ hc q =>
  floordiv_int (by have := hc.1; omega) (by rw [Int.fdiv_eq_ediv_of_nonneg i (Int.le_of_lt hc.1)]; exact q) (.inl (PyProof.noPylong_of_log2 hc.2))
theorem bits_of {x : Int} {k : Nat} (h1 : -(2 ^ k) < x) (h2 : x < 2 ^ k) : Builtin.Int.intBits x ≤ k := by
  unfold Builtin.Int.intBits
  split
  · exact Nat.zero_le _
  · rename_i hx
    have h0 : x.natAbs ≠ 0 := fun z => hx (by simp; omega)
    have e2 : ((2 ^ k : Nat) : Int) = (2 : Int) ^ k := by rw [Int.natCast_pow]; rfl
    have hn : x.natAbs < 2 ^ k := by
      have : ((x.natAbs : Nat) : Int) < ((2 ^ k : Nat) : Int) := by rw [e2]; omega
      exact Int.ofNat_lt.mp this
    have := (Nat.log2_lt h0).mpr hn
    omega
theorem Inv.bigM {pins : List (Addr × Obj)} {σ : St} {H : Hp} {s : Shared} (I : Inv X pins σ H s) : sysModules < s.heap.objs.size :=
  Nat.lt_trans (by decide) (I.mod.glob.keeps I.bk).lt
def tDNew : TE := fun _ H Q => ∀ p, H p = none → Q (.ref p) (upd H p (.dK []))
theorem pe_dnew {pos : Pos} : PE X (.Dict [] [] pos) tDNew := fun pins s σ H Q I h =>
  wpAny_Dict_empty ⟨.ref s.heap.objs.size, _, I.laid (a := s.heap.objs.size) (o := .dK []) (t' := s.toks) (fun _ _ q => Heap.get?_push_of_some _ q) (Nat.le_refl _)
    ⟨Nat.zero_le _, beq_eq_false_iff_ne.mpr (Ne.symm (Nat.ne_of_lt I.bigM)), [], .nil, Heap.DictOf.new s.heap⟩, rfl, h _ (I.hok.fresh (Nat.le_refl _))⟩
def SqA (K : PySem.W.Frag) (H : Hp) (a : Addr) (xs : List V) : Prop := SqL K H a xs ∨ SqT K H a xs
theorem walk_seq {pins : List (Addr × Obj)} {σ : St} {H : Hp} {s : Shared} {a : Addr} {xs : List V} {A : Around} {E : Value → Shared → Prop} {Q : Value → Shared → Prop} (hA : A.handled = none) (I : Inv X pins σ H s) (h : SqA X.K H a xs)
    (hq : ∀ (its : List Value) (It : Addr) (fp wr : List Addr) (St : Nat → Heap → Prop) (s2 : Shared), Vals xs its → Walks X.prog X.w A It fp wr its.length (fun i v => its.toArray[i]? = some v) St → St 0 s2.heap → (∀ b ∈ fp, b < s2.heap.objs.size) →
      (∀ h' tk, (∀ b o, b ∉ wr → s2.heap.get? b = some o → h'.get? b = some o) → Inv X pins σ H { s2 with heap := h', toks := tk }) → Q (.ref It) s2) :
    wpAny (model X.prog X.w) A (pyIter (.ref a)) Q E s := by
  rcases h with h | h
  · obtain ⟨its, rv, p, hz⟩ := I.list h
    have pl := p.isList
    have hlt : a < s.heap.objs.size := by obtain ⟨_, e, _⟩ := id pl; exact Heap.lt_size e
    refine wpAny_pyIter_list pl (hq its s.heap.objs.size _ _ _ { s with heap := s.heap.push _ } rv (show Walks X.prog X.w A s.heap.objs.size _ _ its.toArray.size _ _ from Walks.list hA s.heap.objs.size a (Nat.ne_of_lt hlt) its.toArray) ⟨⟨_, Heap.get?_push_size _ rfl, rfl, rfl⟩, pl.push _⟩ (fun b hb => ?_) fun h' tk k => ?_)
    · show b < (s.heap.push _).objs.size
      rw [Heap.size_push]
      rcases List.mem_cons.mp hb with e | hb
      · rw [e]; exact Nat.lt_succ_self _
      · rw [List.mem_singleton.mp hb]; exact Nat.lt_succ_of_lt hlt
    · refine I.kept fun b o e => k b o (fun z => ?_) (Heap.get?_push_of_some _ e)
      rw [List.mem_singleton.mp z] at e
      exact absurd (Heap.lt_size e) (Nat.lt_irrefl _)
  · obtain ⟨its, rv, p, hz⟩ := I.tuple h
    have pl : s.heap.IsTuple a its.toArray := p
    have hlt : a < s.heap.objs.size := by obtain ⟨_, e, _⟩ := id pl; exact Heap.lt_size e
    refine wpAny_pyIter_tuple pl (hq its s.heap.objs.size _ _ _ { s with heap := s.heap.push _ } rv (show Walks X.prog X.w A s.heap.objs.size _ _ its.toArray.size _ _ from Walks.tuple hA s.heap.objs.size a (Nat.ne_of_lt hlt) its.toArray) ⟨⟨_, Heap.get?_push_size _ rfl, rfl, rfl⟩, ?_⟩ (fun b hb => ?_) fun h' tk k => ?_)
    · obtain ⟨o, e, r⟩ := id pl
      exact ⟨o, Heap.get?_push_of_some _ e, r⟩
    · show b < (s.heap.push _).objs.size
      rw [Heap.size_push]
      rcases List.mem_cons.mp hb with e | hb
      · rw [e]; exact Nat.lt_succ_self _
      · rw [List.mem_singleton.mp hb]; exact Nat.lt_succ_of_lt hlt
    · refine I.kept fun b o e => k b o (fun z => ?_) (Heap.get?_push_of_some _ e)
      rw [List.mem_singleton.mp z] at e
      exact absurd (Heap.lt_size e) (Nat.lt_irrefl _)
theorem preSum_eq (ns : List Int) : ∀ k, k ≤ ns.length → preSum (fun i => ns.getD i 0) k = (ns.take k).sum
  | 0, _ => by simp [preSum]
  | k + 1, h => by
    have e := preSum_eq ns k (by omega)
    show preSum _ k + ns.getD k 0 = _
    rw [e, List.take_succ_eq_append_getElem (by omega : k < ns.length), List.sum_append]
    simp [List.getD, (by omega : k < ns.length)]
theorem ints_at {ns : List Int} {its : List Value} (rv : Vals (ns.map V.int) its) {i : Nat} {v : Value} (h : its[i]? = some v) : ∃ t, v = .int (ns.getD i 0) t := by
  have hl := rv.length
  rw [List.length_map] at hl
  have hi : i < its.length := (List.getElem?_eq_some_iff.mp h).1
  have hx : (ns.map V.int)[i]? = some (V.int (ns.getD i 0)) := by
    rw [List.getElem?_map, List.getD, List.getElem?_eq_getElem (by omega)]
    rfl
  obtain ⟨u, e1, t, e2⟩ := rv.get hx
  rw [h] at e1
  cases e1
  exact ⟨t, e2⟩
theorem bls_at {bs : List Bool} {its : List Value} (rv : Vals (bs.map V.bl) its) {i : Nat} {v : Value} (h : its[i]? = some v) : v = .bool (bs.getD i false) := by
  have hl := rv.length
  rw [List.length_map] at hl
  have hi : i < its.length := (List.getElem?_eq_some_iff.mp h).1
  have hx : (bs.map V.bl)[i]? = some (V.bl (bs.getD i false)) := by
    rw [List.getElem?_map, List.getD, List.getElem?_eq_getElem (by omega)]
    rfl
  obtain ⟨u, e1, e2⟩ := rv.get hx
  rw [h] at e1
  cases e1
  exact e2
theorem call_sumL (hc : X.calm = true) : CallR X (.builtin "sum") (fun xs H Q => ∃ (p : Addr) (ns : List Int), xs = [.ref p] ∧ SqA X.K H p (ns.map V.int) ∧ Q (.int ns.sum) H) := by
  intro pins s σ H xs us Q I r h
  obtain ⟨p, ns, rfl, hs, q⟩ := h
  obtain ⟨u, rfl, ru⟩ := vals1 r
  cases ru
  refine call_sum_walkG (walk_seq (I.ok.hd hc) I hs fun its It fp wr St s2 rv W st hfp fin => ?_)
  refine ⟨It, fp, wr, its.length, _, St, fun i => ns.getD i 0, rfl, W, st, hfp, fun i v hv => ints_at rv (by simpa using hv), fun h' tk t' k => ⟨.int ns.sum, H, fin h' tk k, ⟨t', ?_⟩, q⟩⟩
  have hl := rv.length
  rw [List.length_map] at hl
  rw [preSum_eq ns its.length (by omega), ← hl, List.take_length]
theorem range_all (bs : List Bool) : (List.range bs.length).all (fun i => bs.getD i false) = bs.all id := by
  rw [Bool.eq_iff_iff, List.all_eq_true, List.all_eq_true]
  constructor
  · intro h x hx
    obtain ⟨i, hi, e⟩ := List.mem_iff_getElem.mp hx
    have := h i (List.mem_range.mpr hi)
    rw [List.getD, List.getElem?_eq_getElem hi] at this
    rw [← e]; exact this
  · intro h i hi
    have hi' := List.mem_range.mp hi
    rw [List.getD, List.getElem?_eq_getElem hi']
    exact h _ (List.getElem_mem hi')
theorem range_any (bs : List Bool) : (List.range bs.length).any (fun i => bs.getD i false) = bs.any id := by
  rw [Bool.eq_iff_iff, List.any_eq_true, List.any_eq_true]
  constructor
  · rintro ⟨i, hi, h⟩
    have hi' := List.mem_range.mp hi
    rw [List.getD, List.getElem?_eq_getElem hi'] at h
    exact ⟨_, List.getElem_mem hi', h⟩
  · rintro ⟨x, hx, h⟩
    obtain ⟨i, hi, e⟩ := List.mem_iff_getElem.mp hx
    refine ⟨i, List.mem_range.mpr hi, ?_⟩
    rw [List.getD, List.getElem?_eq_getElem hi]
    show bs[i] = true
    rw [e]; exact h
theorem call_allL (hc : X.calm = true) : CallR X (.builtin "all") (fun xs H Q => ∃ (p : Addr) (bs : List Bool), xs = [.ref p] ∧ SqA X.K H p (bs.map V.bl) ∧ Q (.bl (bs.all id)) H) := by
  intro pins s σ H xs us Q I r h
  obtain ⟨p, bs, rfl, hs, q⟩ := h
  obtain ⟨u, rfl, ru⟩ := vals1 r
  cases ru
  refine call_all_walk (walk_seq (I.ok.hd hc) I hs fun its It fp wr St s2 rv W st hfp fin => ?_)
  refine ⟨It, fp, wr, its.length, _, St, fun i => bs.getD i false, rfl, W, st, fun i v s3 Q3 E3 hv h3 => ?_, fun h' tk k => ⟨.bl (bs.all id), H, fin h' tk k, ?_, q⟩⟩
  · have e := bls_at rv (show its[i]? = some v by simpa using hv)
    rw [e]; exact wpAny_truthy_bool h3
  · have hl := rv.length
    rw [List.length_map] at hl
    show Value.bool _ = Value.bool _
    rw [← hl, range_all]
theorem call_anyL (hc : X.calm = true) : CallR X (.builtin "any") (fun xs H Q => ∃ (p : Addr) (bs : List Bool), xs = [.ref p] ∧ SqA X.K H p (bs.map V.bl) ∧ Q (.bl (bs.any id)) H) := by
  intro pins s σ H xs us Q I r h
  obtain ⟨p, bs, rfl, hs, q⟩ := h
  obtain ⟨u, rfl, ru⟩ := vals1 r
  cases ru
  refine call_any_walk (walk_seq (I.ok.hd hc) I hs fun its It fp wr St s2 rv W st hfp fin => ?_)
  refine ⟨It, fp, wr, its.length, _, St, fun i => bs.getD i false, rfl, W, st, fun i v s3 Q3 E3 hv h3 => ?_, fun h' tk k => ⟨.bl (bs.any id), H, fin h' tk k, ?_, q⟩⟩
  · have e := bls_at rv (show its[i]? = some v by simpa using hv)
    rw [e]; exact wpAny_truthy_bool h3
  · have hl := rv.length
    rw [List.length_map] at hl
    show Value.bool _ = Value.bool _
    rw [← hl, range_any]
theorem getD_mem {ns : List Int} {i : Nat} (h : i < ns.length) : ns.getD i 0 ∈ ns := by
  rw [List.getD, List.getElem?_eq_getElem h]
  exact List.getElem_mem _
theorem argBest_lt (ns : List Int) : ∀ k, argBest (fun i j => decide (ns.getD i 0 < ns.getD j 0)) k ≤ k ∧ ∀ j, j ≤ k → ns.getD (argBest (fun i j => decide (ns.getD i 0 < ns.getD j 0)) k) 0 ≤ ns.getD j 0
  | 0 => ⟨Nat.le_refl _, fun j hj => by have e : j = 0 := by omega
                                        rw [e]; exact Int.le_refl _⟩
  | k + 1 => by
    obtain ⟨h1, h2⟩ := argBest_lt ns k
    show (if (decide _) = true then k + 1 else _) ≤ k + 1 ∧ ∀ j, j ≤ k + 1 → ns.getD (if (decide _) = true then k + 1 else _) 0 ≤ _
    split
    · rename_i c
      have c' := of_decide_eq_true c
      refine ⟨Nat.le_refl _, fun j hj => ?_⟩
      by_cases e : j = k + 1
      · rw [e]; exact Int.le_refl _
      · exact Int.le_trans (Int.le_of_lt c') (h2 j (by omega))
    · rename_i c
      have c' : ¬ ns.getD (k + 1) 0 < _ := fun z => c (decide_eq_true z)
      refine ⟨Nat.le_succ_of_le h1, fun j hj => ?_⟩
      by_cases e : j = k + 1
      · rw [e]; exact Int.not_lt.mp c'
      · exact h2 j (by omega)
theorem call_minL (hc : X.calm = true) : CallR X (.builtin "min") (fun xs H Q => ∃ (p : Addr) (ns : List Int), xs = [.ref p] ∧ SqA X.K H p (ns.map V.int) ∧ ns ≠ [] ∧ ∀ m, m ∈ ns → (∀ y ∈ ns, m ≤ y) → Q (.int m) H) := by
  intro pins s σ H xs us Q I r h
  obtain ⟨p, ns, rfl, hs, ne, q⟩ := h
  obtain ⟨u, rfl, ru⟩ := vals1 r
  cases ru
  have hpos : 0 < ns.length := List.length_pos_iff.mpr ne
  refine call_min_walk (walk_seq (I.ok.hd hc) I hs fun its It fp wr St s2 rv W st hfp fin => ?_)
  have hl := rv.length
  rw [List.length_map] at hl
  refine ⟨It, fp, wr, its.length, _, St, fun i j => decide (ns.getD i 0 < ns.getD j 0), rfl, W, st, hfp, by omega, CmpOf.ints_lt (fun i => ns.getD i 0) (fun i v hv => ints_at rv (by simpa using hv)), fun v h' tk hv k => ?_⟩
  obtain ⟨t, e⟩ := ints_at rv (by rw [← List.getElem?_toArray]; exact hv)
  obtain ⟨b1, b2⟩ := argBest_lt ns (its.length - 1)
  refine ⟨.int _, H, fin h' tk k, ⟨t, e⟩, q _ ?_ fun y hy => ?_⟩
  · exact getD_mem (by omega)
  · obtain ⟨j, hj, ej⟩ := List.mem_iff_getElem.mp hy
    have := b2 j (by omega)
    rw [show ns.getD j 0 = y by rw [List.getD, List.getElem?_eq_getElem hj]; exact ej] at this
    exact this
end
end L2
set_option Elab.async false
set_option linter.all false
set_option maxRecDepth 100000
set_option maxHeartbeats 4000000
namespace L2
open PySem PySem.Spec PyProof.Rows
def Fn (P : Program) (w : World) (K : PySem.W.Frag) (mg : Str → Option Value) (base : Heap) (CX : CXT) (x : Str) (k : Nat) (ps : List Str) (sp : Sp) : Prop :=
  ∃ f fd, FnOk P w K mg base CX k f fd ps sp ∧ mg x = some (.ref f) ∧ PySem.W.keepIn K (.ref f) = true ∧ Binds K fd ps []
def Df (K : PySem.W.Frag) (mg : Str → Option Value) (x : Str) (st : Stmt) : Prop := ∃ f fd, Fun K x x st f fd ∧ mg x = some (.ref f)
theorem df_mk {K : PySem.W.Frag} {mg : Str → Option Value} {h : Heap} {x : Str} {st : Stmt} {f : Addr} {oc : Value} {od an : Option Addr} {osl : Array (Option Value)} {kV doc pm cdv ct : Value} (X : K.In h) (G : h.Ns mainGlobals mg)
    (a : PySem.W.nsIn K mainGlobals x = some (some (.ref f))) (l : K.lookup f = some ⟨oc, od, .func (PySem.W.fnOf x x (defArgs st) (defBody st) (defScope st) .none kV doc pm an cdv ct), osl⟩)
    (c : PySem.W.codeIn K cdv x = true) (k : PySem.W.keepIn K (.ref f) = true) : Df K mg x st := ⟨f, _, fun_mk l c k, PySem.W.mg_of X G a⟩
section
variable {P : Program} {w : World} {K : PySem.W.Frag} {mg : Str → Option Value} {base : Heap}
theorem Df.to {CX : CXT} {x : Str} {st : Stmt} {ps : List Str} {k : Nat} {sp : Sp} (D : Df K mg x st) (h : ∀ {f : Addr} {fd : FuncData}, Fun K x x st f fd → FnOk P w K mg base CX k f fd ps sp)
    (hb : ∀ (kV doc pm : Value) (an : Option Addr) (cdv ct : Value) (us : List Value), us.length = ps.length → bindArgs (PySem.W.fnOf x x (defArgs st) (defBody st) (defScope st) .none kV doc pm an cdv ct) ⟨us, []⟩ = pure (ps.zip us)) : Fn P w K mg base CX x k ps sp := by
  obtain ⟨f, fd, F, hm⟩ := D
  exact ⟨f, fd, h F, hm, F.kp, F.binds hb⟩
theorem Fun.bind1 {x p : Str} {st : Stmt} {f : Addr} {fd : FuncData} (F : Fun K x x st f fd)
    (hb : ∀ (kV doc pm : Value) (an : Option Addr) (cdv ct : Value) (us : List Value), us.length = [p].length → bindArgs (PySem.W.fnOf x x (defArgs st) (defBody st) (defScope st) .none kV doc pm an cdv ct) ⟨us, []⟩ = pure ([p].zip us))
    (s : Shared) (u : Value) : BindsTo s fd ⟨[u], []⟩ [(p, u)] := by
  obtain ⟨oc, od, kV, doc, pm, an, cdv, ct, osl, rfl, lk, hcd⟩ := F.ex
  exact .of_eq (hb kV doc pm an cdv ct [u] rfl)
end
def sp1 (f : V → Hp → VK → XK → Prop) : Sp := fun vs H Q E => ∃ a, vs = [a] ∧ f a H Q E
def sp2 (f : V → V → Hp → VK → XK → Prop) : Sp := fun vs H Q E => ∃ a b, vs = [a, b] ∧ f a b H Q E
def sp3 (f : V → V → V → Hp → VK → XK → Prop) : Sp := fun vs H Q E => ∃ a b c, vs = [a, b, c] ∧ f a b c H Q E
def sp4 (f : V → V → V → V → Hp → VK → XK → Prop) : Sp := fun vs H Q E => ∃ a b c d, vs = [a, b, c, d] ∧ f a b c d H Q E
def sp5 (f : V → V → V → V → V → Hp → VK → XK → Prop) : Sp := fun vs H Q E => ∃ a b c d e, vs = [a, b, c, d, e] ∧ f a b c d e H Q E
theorem sp1_len {f} {vs : List V} {H Q E} (h : sp1 f vs H Q E) : vs.length = 1 := by obtain ⟨_, rfl, _⟩ := h; rfl
theorem sp2_len {f} {vs : List V} {H Q E} (h : sp2 f vs H Q E) : vs.length = 2 := by obtain ⟨_, _, rfl, _⟩ := h; rfl
theorem sp3_len {f} {vs : List V} {H Q E} (h : sp3 f vs H Q E) : vs.length = 3 := by obtain ⟨_, _, _, rfl, _⟩ := h; rfl
theorem sp4_len {f} {vs : List V} {H Q E} (h : sp4 f vs H Q E) : vs.length = 4 := by obtain ⟨_, _, _, _, rfl, _⟩ := h; rfl
theorem sp5_len {f} {vs : List V} {H Q E} (h : sp5 f vs H Q E) : vs.length = 5 := by obtain ⟨_, _, _, _, _, rfl, _⟩ := h; rfl
def isStar : Expr → Bool
  | .Starred _ _ => true
  | _ => false
theorem star_cons {e : Expr} {es : List Expr} {env : Env} (h : isStar e = false) : starEach (e :: es) env = (false, eval e env) :: starEach es env := by
  cases e <;> first | rfl | (cases h)
theorem star_any {pos : Pos} {env : Env} : ∀ {es : List Expr}, es.all (fun e => !isStar e) = true → (backTo pos (starEach es env)).any (·.1) = false
  | [], _ => rfl
  | e :: es, h => by
    rw [List.all_cons, Bool.and_eq_true] at h
    rw [star_cons (by simpa using h.1)]
    show (false || (backTo pos (starEach es env)).any (·.1)) = false
    rw [star_any h.2]; rfl
theorem star_few {pos : Pos} {env : Env} {e : Expr} (h : isStar e = false) : ((backTo pos (starEach [e] env)).all (fun x => !x.1) && (backToKw pos (keywordEach [] env)).all (fun x => x.1.isSome)
      && decide ([e].length + ([] : List Keyword).length + (if ([] : List Keyword).isEmpty then 0 else 1) < 30)) = true := by
  rw [star_cons h]
  rfl
section
variable {X : Cx} {CX : CXT} {k : Nat} {x : Str} {ps : List Str} {sp : Sp} {E : XK} {p pos : Pos} {e : Expr} {es : List Expr} {te : TE} {t : TA}
theorem pa_c (ha : PE X e te) (hr : PA X es t) (h : isStar e = false := by rfl) : PA X (e :: es) (tCons te t) := pa_cons ha hr (star_cons h)
theorem pe_fn (G : Fn X.prog X.w X.K X.mg X.base CX x k ps sp) (hr : Room k X.A) (hg : Gl X x) (hx : Passes CX X E) (ha : PA X (e :: es) t)
    (hdb : (x == ("__debug__" : Str)) = false := by decide) (he : isStar e = false := by rfl) (hpl : es.all (fun e => !isStar e) = true := by rfl) :
    PE X (.Call (.Name x p) (e :: es) [] pos) (tCall sp [] E t) := by
  obtain ⟨f, fd, F, hm, hk, hb⟩ := G
  exact pe_call F hr hg hm hk hb .nil hx ha hdb (star_cons he) (star_any hpl)
theorem pe_cB {id : String} {r : List V → Hp → VK → Prop} (hc : CallR X (.builtin id) r) (hg : Gl X x) (hm : X.mg x = none) (hv : bootBuiltins x = some (.builtin id)) (ha : PA X (e :: es) t) (hn : x ≠ "__name__" := by decide) (hdb : (x == ("__debug__" : Str)) = false := by decide)
    (he : isStar e = false := by rfl) (hpl : es.all (fun e => !isStar e) = true := by rfl) : PE X (.Call (.Name x p) (e :: es) [] pos) (tCB r t) := pe_callB hc hg hm hv ha hn hdb (star_cons he) (star_any hpl)
theorem pe_cTy {T : String} {r : List V → Hp → VK → Prop} (hc : CallR X (.type T) r) (hg : Gl X x) (hm : X.mg x = none) (hv : bootBuiltins x = some (.type T)) (ha : PA X (e :: es) t) (hn : x ≠ "__name__" := by decide) (hdb : (x == ("__debug__" : Str)) = false := by decide)
    (he : isStar e = false := by rfl) (hpl : es.all (fun e => !isStar e) = true := by rfl) : PE X (.Call (.Name x p) (e :: es) [] pos) (tCB r t) := pe_callTy hc hg hm hv ha hn hdb (star_cons he) (star_any hpl)
theorem pe_bm1 {o : Expr} {to : TE} {name : Str} {apos cpos : Pos} {T id : String} {r : V → List V → Hp → VK → Prop} (pa : PlainAttrs T) (slot : Slot T name id) (hty : typeOf (.builtin id) = pure (.type "method_descriptor")) (hm : MtR X id r) (ho : PE X o to) (ha : PA X [e] t)
    (he : isStar e = false := by rfl) (hbase : attributeBase o name X.env (eval o X.env) = eval o X.env := by rfl) (hline : (apos.endLine == cpos.line) = true := by rfl) : PE X (.Call (.Attribute o name apos) [e] [] cpos) (tBM X.K T r to t) :=
  pe_bm pa slot hty hm ho ha hbase (star_few he) hline (star_cons he) rfl
end
theorem bt_len : bootBuiltins "len" = some (.builtin "len") := by decide +kernel
theorem bt_sum : bootBuiltins "sum" = some (.builtin "sum") := by decide +kernel
theorem bt_all : bootBuiltins "all" = some (.builtin "all") := by decide +kernel
theorem bt_any : bootBuiltins "any" = some (.builtin "any") := by decide +kernel
theorem bt_min : bootBuiltins "min" = some (.builtin "min") := by decide +kernel
theorem bt_isinstance : bootBuiltins "isinstance" = some (.builtin "isinstance") := by decide +kernel
theorem bt_tuple : bootBuiltins "tuple" = some (.type "tuple") := by decide +kernel
theorem bt_list : bootBuiltins "list" = some (.type "list") := by decide +kernel
theorem bt_int : bootBuiltins "int" = some (.type "int") := by decide +kernel
theorem bt_bool : bootBuiltins "bool" = some (.type "bool") := by decide +kernel
theorem bt_ValueError : bootBuiltins "ValueError" = some (.type "ValueError") := by decide +kernel
section
variable {X : Cx} {pos : Pos}
theorem pe_gint {x : Str} {i : Int} (h : ∃ t, X.mg x = some (.int i t)) (hg : Gl X x := by rfl) (hd : (x == ("__debug__" : Str)) = false := by decide) : PE X (.Name x pos) (tC (.int i)) := by
  obtain ⟨t, h⟩ := h
  exact pe_glob hg h ⟨t, rfl⟩ hd
theorem pe_gstr {x y : Str} (h : ∃ t, X.mg x = some (.str y t)) (hg : Gl X x := by rfl) (hd : (x == ("__debug__" : Str)) = false := by decide) : PE X (.Name x pos) (tC (.str y)) := by
  obtain ⟨t, h⟩ := h
  exact pe_glob hg h ⟨t, rfl⟩ hd
theorem pe_gty {x : Str} {T : String} (hm : X.mg x = none) (hv : bootBuiltins x = some (.type T)) (hg : Gl X x := by rfl) (hn : x ≠ "__name__" := by decide) (hd : (x == ("__debug__" : Str)) = false := by decide) : PE X (.Name x pos) (tC (.ty T)) :=
  pe_bltn hg hm hv rfl hn hd
theorem pe_powC {a b r : Int} {i j : Nat} {p q : Pos} (e : a ^ b.toNat = r) (h0 : 0 ≤ b) (h1 : b ≤ 1000000) (h2 : a.natAbs < 2 ^ 64) : PE X (.BinOp (.Constant (.int a) i p) .Pow (.Constant (.int b) j q) pos) (tC (.int r)) := by
  intro pins s σ H Q I h
  exact pe_op op_pow pe_int pe_int pins s σ H Q I ⟨a, b, rfl, rfl, ⟨h0, h1, h2⟩, by show Q (.int (a ^ b.toNat)) H; rw [e]; exact h⟩
def tTru (K : PySem.W.Frag) (t : TE) : TT := fun σ H Q => t σ H fun x H' => ∃ k, TruV K x H' k ∧ Q k H'
theorem pt_tru {a : Expr} {ta : TE} (ha : PE X a ta) (he : ∀ whole, isTrue a X.env whole = (do let v ← whole; standAt a.pos; holding [v] (truthy v))) : PT X a (tTru X.K ta) := pt_truth ha he
end
mutual
def Rep (H : Hp) : V → PyData → Prop
  | v, .none => v = .non
  | v, .bool b => v = .bl b
  | v, .int i => v = .int i
  | v, .str x => v = .str x
  | v, .list ds => ∃ a xs, v = .ref a ∧ H a = some (.lst xs) ∧ Reps H xs ds
  | v, .tuple ds => ∃ a xs, v = .ref a ∧ H a = some (.tup xs) ∧ Reps H xs ds
  | v, .dict kvs => kvs = [] ∧ ∃ a, v = .ref a ∧ H a = some (.dK [])
def Reps (H : Hp) : List V → List PyData → Prop
  | xs, [] => xs = []
  | xs, d :: ds => ∃ x r, xs = x :: r ∧ Rep H x d ∧ Reps H r ds
end
def Tu (H H' : Hp) : Prop := ∀ b xs, H b = some (.tup xs) → H' b = some (.tup xs)
theorem Same.tu {H H' : Hp} (e : Same H H') : Tu H H' := fun b xs h => e b _ h
theorem Tu.trans {H H1 H2 : Hp} (a : Tu H H1) (b : Tu H1 H2) : Tu H H2 := fun c o h => b c o (a c o h)
theorem Tu.put {H : Hp} {p : Addr} {xs ys : List V} (h : H p = some (.lst xs)) : Tu H (upd H p (.lst ys)) := fun b zs e => by
  rw [upd_ne (fun z => by subst z; rw [h] at e; cases e)]; exact e
mutual
def noL : PyData → Bool
  | .none | .bool _ | .int _ | .str _ => true
  | .tuple ds => noLs ds
  | .list _ | .dict _ => false
def noLs : List PyData → Bool
  | [] => true
  | d :: ds => noL d && noLs ds
end
mutual
theorem Rep.mono {H H' : Hp} (e : Same H H') : ∀ (d : PyData) (v : V), Rep H v d → Rep H' v d
  | .none, v, h => by unfold Rep at h ⊢; exact h
  | .bool b, v, h => by unfold Rep at h ⊢; exact h
  | .int i, v, h => by unfold Rep at h ⊢; exact h
  | .str x, v, h => by unfold Rep at h ⊢; exact h
  | .list ds, v, h => by
    unfold Rep at h ⊢
    obtain ⟨a, xs, r, q, z⟩ := h
    exact ⟨a, xs, r, e _ _ q, Reps.mono e ds xs z⟩
  | .tuple ds, v, h => by
    unfold Rep at h ⊢
    obtain ⟨a, xs, r, q, z⟩ := h
    exact ⟨a, xs, r, e _ _ q, Reps.mono e ds xs z⟩
  | .dict _, v, h => by
    unfold Rep at h ⊢
    obtain ⟨z, a, r, q⟩ := h
    exact ⟨z, a, r, e _ _ q⟩
theorem Reps.mono {H H' : Hp} (e : Same H H') : ∀ (ds : List PyData) (xs : List V), Reps H xs ds → Reps H' xs ds
  | [], xs, h => by unfold Reps at h ⊢; exact h
  | d :: ds, xs, h => by
    unfold Reps at h ⊢
    obtain ⟨x, r, q, z, y⟩ := h
    exact ⟨x, r, q, Rep.mono e d x z, Reps.mono e ds r y⟩
end
mutual
theorem Rep.tu {H H' : Hp} (e : Tu H H') : ∀ (d : PyData) (v : V), noL d = true → Rep H v d → Rep H' v d
  | .none, v, _, h => by unfold Rep at h ⊢; exact h
  | .bool b, v, _, h => by unfold Rep at h ⊢; exact h
  | .int i, v, _, h => by unfold Rep at h ⊢; exact h
  | .str x, v, _, h => by unfold Rep at h ⊢; exact h
  | .list ds, v, n, h => by unfold noL at n; cases n
  | .tuple ds, v, n, h => by
    unfold Rep at h ⊢
    unfold noL at n
    obtain ⟨a, xs, r, q, z⟩ := h
    exact ⟨a, xs, r, e _ _ q, Reps.tu e ds xs n z⟩
  | .dict _, v, n, h => by unfold noL at n; cases n
theorem Reps.tu {H H' : Hp} (e : Tu H H') : ∀ (ds : List PyData) (xs : List V), noLs ds = true → Reps H xs ds → Reps H' xs ds
  | [], xs, _, h => by unfold Reps at h ⊢; exact h
  | d :: ds, xs, n, h => by
    unfold Reps at h ⊢
    unfold noLs at n
    rw [Bool.and_eq_true] at n
    obtain ⟨x, r, q, z, y⟩ := h
    exact ⟨x, r, q, Rep.tu e d x n.1 z, Reps.tu e ds r n.2 y⟩
end
mutual
theorem Rep.reads {X : Cx} {pins : List (Addr × Obj)} {σ : St} {H : Hp} {s : Shared} (I : Inv X pins σ H s) : ∀ (d : PyData) (v : V) (u : Value), d.canLay0 = true → Rep H v d → RelV v u → ∃ as, Reads s.heap u d as
  | .none, v, u, _, h, r => by unfold Rep at h; subst h; cases r; exact ⟨_, .none⟩
  | .bool b, v, u, _, h, r => by unfold Rep at h; subst h; cases r; exact ⟨_, .bool b⟩
  | .int i, v, u, _, h, r => by unfold Rep at h; subst h; obtain ⟨t, r⟩ := r; subst r; exact ⟨_, .int i t⟩
  | .str x, v, u, _, h, r => by unfold Rep at h; subst h; obtain ⟨t, r⟩ := r; subst r; exact ⟨_, .str x t⟩
  | .list ds, v, u, c, h, r => by
    unfold Rep at h
    obtain ⟨a, xs, e, q, z⟩ := h
    subst e
    cases r
    obtain ⟨its, rv, p, hz⟩ := I.list (SqL.of q)
    obtain ⟨as, ra⟩ := Reps.reads I ds xs its (by simpa only [PyData.canLay0] using c) z rv
    obtain ⟨o, e1, e2, n, e3⟩ := p.isList
    exact ⟨_, .list e1 e2 e3 ra⟩
  | .tuple ds, v, u, c, h, r => by
    unfold Rep at h
    obtain ⟨a, xs, e, q, z⟩ := h
    subst e
    cases r
    obtain ⟨its, rv, p, hz⟩ := I.tuple (SqT.of q)
    obtain ⟨as, ra⟩ := Reps.reads I ds xs its (by simpa only [PyData.canLay0] using c) z rv
    obtain ⟨o, e1, e2, n, e3⟩ := p
    exact ⟨_, .tuple e1 e2 e3 ra⟩
  | .dict _, v, u, c, h, r => by simp [PyData.canLay0] at c
theorem Reps.reads {X : Cx} {pins : List (Addr × Obj)} {σ : St} {H : Hp} {s : Shared} (I : Inv X pins σ H s) : ∀ (ds : List PyData) (xs : List V) (us : List Value), PyData.canLayAll0 ds = true → Reps H xs ds → Vals xs us → ∃ as, ReadsAll s.heap us ds as
  | [], xs, us, _, h, r => by unfold Reps at h; subst h; cases r; exact ⟨_, .nil⟩
  | d :: ds, xs, us, c, h, r => by
    unfold Reps at h
    obtain ⟨x, t, e, z, y⟩ := h
    subst e
    have c' : d.canLay0 = true ∧ PyData.canLayAll0 ds = true := by simpa [PyData.canLayAll0] using c
    cases r with
    | cons r1 r2 =>
      obtain ⟨as, ra⟩ := Rep.reads I d x _ c'.1 z r1
      obtain ⟨bs, rb⟩ := Reps.reads I ds t _ c'.2 y r2
      exact ⟨_, .cons ra rb⟩
end
theorem Reps.length {H : Hp} : ∀ {ds : List PyData} {xs : List V}, Reps H xs ds → xs.length = ds.length
  | [], _, h => by unfold Reps at h; rw [h]; rfl
  | _ :: _, _, h => by
    unfold Reps at h
    obtain ⟨x, r, rfl, _, y⟩ := h
    simp [Reps.length y]
theorem Reps.get {H : Hp} : ∀ {ds : List PyData} {xs : List V} {i : Nat} {x : V}, Reps H xs ds → xs[i]? = some x → ∃ d, ds[i]? = some d ∧ Rep H x d
  | [], _, _, _, h, e => by unfold Reps at h; subst h; simp at e
  | d :: ds, _, 0, x, h, e => by
    unfold Reps at h
    obtain ⟨y, r, rfl, q, _⟩ := h
    have : y = x := by simpa using e
    subst this
    exact ⟨d, rfl, q⟩
  | d :: ds, _, i + 1, x, h, e => by
    unfold Reps at h
    obtain ⟨y, r, rfl, _, q⟩ := h
    exact Reps.get (i := i) q (by simpa using e)
theorem Reps.ints {H : Hp} : ∀ (ns : List Int), Reps H (ns.map V.int) (ns.map PyData.int)
  | [] => by unfold Reps; rfl
  | n :: ns => by
    show Reps H (V.int n :: ns.map V.int) (PyData.int n :: ns.map PyData.int)
    unfold Reps
    exact ⟨_, _, rfl, by unfold Rep; rfl, Reps.ints ns⟩
def tyD : PyData → Value
  | .none => .type "NoneType"
  | .bool _ => .type "bool"
  | .int _ => .type "int"
  | .str _ => .type "str"
  | .list _ => .type "list"
  | .tuple _ => .type "tuple"
  | .dict _ => .type "dict"
theorem Rep.ty {K : PySem.W.Frag} {H : Hp} : ∀ {d : PyData} {v : V}, Rep H v d → TyOf K H v (tyD d)
  | .none, _, h => by unfold Rep at h; subst h; exact .non
  | .bool _, _, h => by unfold Rep at h; subst h; exact .bl _
  | .int _, _, h => by unfold Rep at h; subst h; exact .int _
  | .str _, _, h => by unfold Rep at h; subst h; exact .str _
  | .list _, _, h => by unfold Rep at h; obtain ⟨a, xs, rfl, q, _⟩ := h; exact .lst q
  | .tuple _, _, h => by unfold Rep at h; obtain ⟨a, xs, rfl, q, _⟩ := h; exact .tup q
  | .dict _, _, h => by unfold Rep at h; obtain ⟨_, a, rfl, q⟩ := h; exact .dK q
abbrev rSubU : R2 := rI0 fun i j => .int (i - j)
abbrev rDivU : R2 := rI CDivB fun i j => .int (i / j)
abbrev rModU : R2 := rI (fun _ j => 0 < j) fun i j => .int (i % j)
abbrev rLtU : R2 := rI0 fun i j => .bl (decide (i < j))
abbrev rLeU : R2 := rI0 fun i j => .bl (decide (i ≤ j))
abbrev rGtU : R2 := rI0 fun i j => .bl (decide (j < i))
abbrev rNegU : V → Hp → VK → Prop := rU fun i => .int (-i)
def rCatN (K : PySem.W.Frag) : R2 := fun x y H Q => ∃ a b ys, x = .ref a ∧ y = .ref b ∧ SqT K H a [] ∧ SqT K H b ys ∧ Q (.ref b) H
abbrev rAddU (K : PySem.W.Frag) : R2 := fun x y H Q => rI0 (fun i j => .int (i + j)) x y H Q ∨ (fun x y H Q => rCatT K x y H Q ∨ (fun x y H Q => rCatN K x y H Q ∨ rCat x y H Q) x y H Q) x y H Q
abbrev rMulU (K : PySem.W.Frag) : R2 := fun x y H Q => rI IntMulOk (fun i j => .int (i * j)) x y H Q ∨ rRep x y H Q
def rEqD (K : PySem.W.Frag) : R2 := fun x y H Q => ∃ d e, Rep H x d ∧ Rep H y e ∧ d.canLay0 = true ∧ e.canLay0 = true ∧ min d.depth e.depth ≤ 64 ∧ Q (.bl (PyData.eqv d e)) H
def rNeD (K : PySem.W.Frag) : R2 := fun x y H Q => ∃ d e, Rep H x d ∧ Rep H y e ∧ d.canLay0 = true ∧ e.canLay0 = true ∧ min d.depth e.depth ≤ 64 ∧ Q (.bl (!PyData.eqv d e)) H
abbrev rEqU (K : PySem.W.Frag) : R2 := fun x y H Q => rEq x y H Q ∨ rEqD K x y H Q
abbrev rNeU (K : PySem.W.Frag) : R2 := fun x y H Q => rNe x y H Q ∨ rNeD K x y H Q
section
variable {X : Cx}
theorem op_subU : OpR X (binaryOp .Sub) rSubU := op_sub
theorem op_divU : OpR X (binaryOp .FloorDiv) rDivU := op_fdivB
theorem op_modU : OpR X (binaryOp .Mod) rModU := op_mod
theorem op_catN : OpR X (binaryOp .Add) (rCatN X.K) := by
  intro pins s σ H x y v u Q I rx ry h
  obtain ⟨a, b, ys, rfl, rfl, ha, hb, q⟩ := h
  cases rx
  cases ry
  obtain ⟨its, r1, p1, _⟩ := I.tuple ha
  obtain ⟨its2, r2, p2, _⟩ := I.tuple hb
  cases r1
  obtain ⟨⟨cls, dd, data, sl⟩, ho, hc, n, hd⟩ := id p1
  obtain ⟨⟨cls2, dd2, data2, sl2⟩, ho2, hc2, n2, hd2⟩ := id p2
  simp only at hc hd hc2 hd2
  subst hc hd hc2 hd2
  exact concat_meets ⟨_, ho, rfl⟩ ⟨_, ho2, rfl⟩ noFill_tuple_add seq_tuple_add PySem.F.slot_tuple_add PySem.F.entry_tuple_add (PySem.F.args_tuple_add_2 _ _)
      (tuple_addW0 a b ([] : List Value).toArray its2.toArray n n2 dd dd2 sl sl2 (by simp)) ⟨ho, ho2, ⟨.ref b, H, I, rfl, q⟩⟩
theorem op_addU : OpR X (binaryOp .Add) (rAddU X.K) := op_add.or (op_catT.or (op_catN.or op_cat))
theorem op_mulU : OpR X (binaryOp .Mult) (rMulU X.K) := op_mulB.or op_rep
theorem op_eqD (hu : X.A.units + 64 < cLine) : OpR X (compareOp .Eq) (rEqD X.K) := by
  intro pins s σ H x y v u Q I rx ry h
  obtain ⟨d, e, h1, h2, c1, c2, hm, q⟩ := h
  obtain ⟨as, ra⟩ := Rep.reads I d x v c1 h1 rx
  obtain ⟨bs, rb⟩ := Rep.reads I e y u c2 h2 ry
  exact SeqAt.compareEq_reads ra rb c1 c2 (by omega) ⟨.bl _, H, I, rfl, q⟩
theorem op_neD (hu : X.A.units + 64 < cLine) : OpR X (compareOp .NotEq) (rNeD X.K) := by
  intro pins s σ H x y v u Q I rx ry h
  obtain ⟨d, e, h1, h2, c1, c2, hm, q⟩ := h
  obtain ⟨as, ra⟩ := Rep.reads I d x v c1 h1 rx
  obtain ⟨bs, rb⟩ := Rep.reads I e y u c2 h2 ry
  exact SeqAt.compareNe_reads ra rb c1 c2 (by omega) ⟨.bl _, H, I, rfl, q⟩
theorem op_eqU (hu : X.A.units + 64 < cLine) : OpR X (compareOp .Eq) (rEqU X.K) := op_eq.or (op_eqD hu)
theorem op_neU (hu : X.A.units + 64 < cLine) : OpR X (compareOp .NotEq) (rNeU X.K) := op_ne.or (op_neD hu)
abbrev rSlU (K : PySem.W.Frag) : V → Option Int → Option Int → Hp → VK → Prop := fun x lo hi H Q => rSlT K x lo hi H Q ∨ rSlL K x lo hi H Q
theorem sl_U : SlR X (rSlU X.K) := sl_tup.or sl_list
def rIsinst (K : PySem.W.Frag) : List V → Hp → VK → Prop := fun xs H Q => ∃ x T t b, xs = [x, .ty T] ∧ TyOf K H x t ∧ PySem.W.kitOne K t (.type T) = some b ∧ Q (.bl b) H
theorem call_isinst : CallR X (.builtin "isinstance") (rIsinst X.K) := by
  intro pins s σ H xs us Q I r h
  obtain ⟨x, T, t, b, rfl, ty, e, q⟩ := h
  obtain ⟨u, w', rfl, rx, ry⟩ := vals2 r
  cases ry
  exact isinst_ok I rx ty e fun tk => ⟨.bl b, H, I.tok tk, rfl, q⟩
def rLenU (K : PySem.W.Frag) : List V → Hp → VK → Prop := fun xs H Q => ∃ x n, xs = [x] ∧ LenV K x H n ∧ Q (.int (n : Nat)) H
theorem call_lenU : CallR X (.builtin "len") (rLenU X.K) := call_len
def rSumU (K : PySem.W.Frag) : List V → Hp → VK → Prop := fun xs H Q => ∃ (p : Addr) (ns : List Int), xs = [.ref p] ∧ SqA K H p (ns.map V.int) ∧ Q (.int ns.sum) H
theorem call_sumU (hc : X.calm = true) : CallR X (.builtin "sum") (rSumU X.K) := call_sumL hc
def rAllU (K : PySem.W.Frag) : List V → Hp → VK → Prop := fun xs H Q => ∃ (p : Addr) (bs : List Bool), xs = [.ref p] ∧ SqA K H p (bs.map V.bl) ∧ Q (.bl (bs.all id)) H
theorem call_allU (hc : X.calm = true) : CallR X (.builtin "all") (rAllU X.K) := call_allL hc
def rAnyU (K : PySem.W.Frag) : List V → Hp → VK → Prop := fun xs H Q => ∃ (p : Addr) (bs : List Bool), xs = [.ref p] ∧ SqA K H p (bs.map V.bl) ∧ Q (.bl (bs.any id)) H
theorem call_anyU (hc : X.calm = true) : CallR X (.builtin "any") (rAnyU X.K) := call_anyL hc
def rMinU (K : PySem.W.Frag) : List V → Hp → VK → Prop := fun xs H Q => ∃ (p : Addr) (ns : List Int), xs = [.ref p] ∧ SqA K H p (ns.map V.int) ∧ ns ≠ [] ∧ ∀ m, m ∈ ns → (∀ y ∈ ns, m ≤ y) → Q (.int m) H
theorem call_minU (hc : X.calm = true) : CallR X (.builtin "min") (rMinU X.K) := call_minL hc
def rTy_int (K : PySem.W.Frag) : List V → Hp → VK → Prop := fun xs H Q => (∃ i, xs = [.int i] ∧ Q (.int i) H) ∨ ∃ k, xs = [.bl k] ∧ Q (.int (if k then 1 else 0)) H
theorem call_ty_int : CallR X (.type "int") (rTy_int X.K) := call_int1
def rTy_tuple (K : PySem.W.Frag) : List V → Hp → VK → Prop := fun xs H Q => ∃ p ys, xs = [.ref p] ∧ ((SqL K H p ys ∧ ∀ l, H l = none → Q (.ref l) (upd H l (.tup ys))) ∨ (SqT K H p ys ∧ Q (.ref p) H))
theorem call_ty_tuple : CallR X (.type "tuple") (rTy_tuple X.K) := call_tuple_of
def rTy_list (K : PySem.W.Frag) : List V → Hp → VK → Prop := fun xs H Q => ∃ p ys, xs = [.ref p] ∧ (SqL K H p ys ∨ SqT K H p ys) ∧ ∀ l, H l = none → Q (.ref l) (upd H l (.lst ys))
theorem call_ty_list : CallR X (.type "list") (rTy_list X.K) := call_list_of
def iSeq (K : PySem.W.Frag) (tl : TE) : TI := fun σ H R => tl σ H fun x H1 => ∃ a, x = .ref a ∧ (((∃ xs, SqL K H1 a xs) ∧ R (Itl K a) H1) ∨ ((∃ xs, SqT K H1 a xs) ∧ R (Itt K a) H1))
theorem pi_seq {tg l : Expr} {tl : TE} (hl : PE X l tl) : PI X tg l (iSeq X.K tl) := by
  intro pins s σ H R I h
  refine thn (hl pins s σ H _ I h) fun v s1 ⟨x, H1, I1, r1, q1⟩ => ?_
  obtain ⟨a, e, q⟩ := q1
  subst e
  cases r1
  rcases q with ⟨⟨xs, hq⟩, q⟩ | ⟨⟨xs, hq⟩, q⟩
  · obtain ⟨its, rv, p, hz⟩ := I1.list hq
    refine wpAny_pyIter_list p.isList ?_
    refine ⟨s1.heap.objs.size, [s1.heap.objs.size], _, _, H1, rfl, I1.kept (t' := s1.toks) fun b o e => Heap.get?_push_of_some _ e, turn_list a _, ⟨_, Heap.get?_push_size _ rfl, rfl, rfl⟩, fun b hb => ?_, q⟩
    have e : b = s1.heap.objs.size := by simpa using hb
    subst e
    exact I1.fpOk (Nat.le_refl _) (I1.hok.fresh (Nat.le_refl _))
  · obtain ⟨its, rv, p, hz⟩ := I1.tuple hq
    refine wpAny_pyIter_tuple (show s1.heap.IsTuple a its.toArray from p) ?_
    refine ⟨s1.heap.objs.size, [s1.heap.objs.size], _, _, H1, rfl, I1.kept (t' := s1.toks) fun b o e => Heap.get?_push_of_some _ e, turn_tuple a _, ⟨_, Heap.get?_push_size _ rfl, rfl, rfl⟩, fun b hb => ?_, q⟩
    have e : b = s1.heap.objs.size := by simpa using hb
    subst e
    exact I1.fpOk (Nat.le_refl _) (I1.hok.fresh (Nat.le_refl _))
end
theorem weight_mem : ∀ {xs : List PySem.W.WData} {x : PySem.W.WData}, x ∈ xs → x.weight ≤ PySem.W.WData.weightAll xs
  | [], _, h => by simp at h
  | y :: r, x, h => by
    unfold PySem.W.WData.weightAll
    rcases List.mem_cons.mp h with e | e
    · subst e; omega
    · have := weight_mem e
      omega
theorem bits_script {ns : List Int} (h : PySem.W.WData.layableAll [.list (ns.map .int)] = true) : ∀ n ∈ ns, Builtin.Int.intBits n ≤ 1048576 := by
  intro n hn
  have h1 : PySem.W.WData.layable (.list (ns.map .int)) = true := (PySem.W.layW_cons h).1
  unfold PySem.W.WData.layable at h1
  rw [Bool.and_eq_true, Bool.and_eq_true] at h1
  have h2 : PySem.W.WData.weight (.list (ns.map .int)) ≤ 2 ^ 20 := of_decide_eq_true h1.2
  have h3 : PySem.W.WData.weight (.list (ns.map .int)) = PySem.W.WData.weightAll (ns.map .int) := by simp only [PySem.W.WData.weight]
  have h4 := weight_mem (x := .int n) (List.mem_map.mpr ⟨n, hn, rfl⟩ : PySem.W.WData.int n ∈ ns.map .int)
  have h5 : PySem.W.WData.weight (.int n) = Builtin.Int.intBits n := by simp only [PySem.W.WData.weight, Builtin.Int.intBits]
  have e : (2 : Nat) ^ 20 = 1048576 := by decide
  omega
end L2
set_option Elab.async false
set_option linter.all false
set_option maxRecDepth 100000
set_option maxHeartbeats 4000000
namespace L2
open PySem PySem.Spec PyProof.Rows
section
variable {K : PySem.W.Frag} {σ : St} {H : Hp} {Q : VK} {D : Ends} {t u : TS} {te ta tb tc : TE} {g : TG} {R : Bool → Hp → Prop} {c d : TT} {v x y : V} {i j : Int} {p : Addr} {xs : List V} {ns : List Int}
theorem w_seq (h : t { D with nx := u D } σ H) : tSeq t u D σ H := h
theorem w_asg (h : te σ H fun x H1 => g x σ H1 D.nx) : tAsg te g D σ H := h
theorem w_name {n : Nat} {R : St → Hp → Prop} (h : R (σ.set n (some v)) H) : gName n v σ H R := h
theorem w_ret (h : te σ H D.rt) : tRet te D σ H := h
theorem w_drop (h : te σ H fun _ H1 => D.nx σ H1) : tDrop te D σ H := h
theorem w_ifS (h : c σ H fun b H1 => if b = true then t D σ H1 else u D σ H1) : tIfS c t u D σ H := h
theorem w_next (h : D.nx σ H) : tNext D σ H := h
theorem w_var {n : Nat} (e : σ[n]? = some (some v)) (h : Q v H) : tVar n σ H Q := ⟨v, e, h⟩
theorem w_c (h : Q v H) : tC v σ H Q := h
theorem w_op {r : R2} (h : ta σ H fun x H1 => tb σ H1 fun y H2 => r x y H2 Q) : tOp r ta tb σ H Q := h
theorem w_un {r : V → Hp → VK → Prop} (h : ta σ H fun x H1 => r x H1 Q) : tUn r ta σ H Q := h
theorem w_test (h : te σ H fun x H' => ∃ k, x = .bl k ∧ R k H') : tTest te σ H R := h
theorem w_bl {k : Bool} {R : Bool → Prop} (h : R k) : ∃ k', V.bl k = .bl k' ∧ R k' := ⟨k, rfl, h⟩
theorem w_tru (h : te σ H fun x H' => ∃ k, TruV K x H' k ∧ R k H') : tTru K te σ H R := h
theorem w_trub {b : Bool} {R : Bool → Prop} (h : R b) : ∃ k, TruV K (.bl b) H k ∧ R k := ⟨b, rfl, h⟩
theorem w_and (h : c σ H fun b H1 => if b = true then d σ H1 R else R false H1) : tAnd c d σ H R := h
theorem w_or (h : c σ H fun b H1 => if b = true then R true H1 else d σ H1 R) : tOr c d σ H R := h
theorem w_not (h : c σ H fun b H1 => R (!b) H1) : tNot c σ H R := h
theorem w_andV (h : ta σ H fun x H1 => ∃ c, x = .bl c ∧ if c = true then tb σ H1 Q else Q (.bl false) H1) : tAndV ta tb σ H Q := h
theorem w_notV (h : ta σ H fun x H1 => ∃ c, x = .bl c ∧ Q (.bl (!c)) H1) : tNotV ta σ H Q := h
theorem w_chain {r r' : R2} (h : ta σ H fun x H1 => tb σ H1 fun y H2 => r x y H2 fun z H3 => ∃ k, z = .bl k ∧ if k = true then tc σ H3 fun w H4 => r' y w H4 Q else Q (.bl false) H3) : tChain r r' ta tb tc σ H Q := h
theorem w_cb {r : List V → Hp → VK → Prop} {t : TA} (h : t σ H fun vs H1 => r vs H1 Q) : tCB r t σ H Q := h
theorem w_yes (h : R true H) : tYes σ H R := h
theorem w_nil {R : List V → Hp → Prop} (h : R [] H) : tNil σ H R := h
theorem w_cons {t : TA} {R : List V → Hp → Prop} (h : ta σ H fun x H1 => t σ H1 fun xs H2 => R (x :: xs) H2) : tCons ta t σ H R := h
theorem w_call {sp : Sp} {E : XK} {t : TA} (h : t σ H fun vs H1 => sp vs H1 Q E) : tCall sp [] E t σ H Q := by
  show t σ H fun vs H1 => sp (vs ++ []) H1 Q E
  simpa only [List.append_nil] using h
theorem w_tup {t : TA} (h : t σ H fun xs H1 => xs.length ≤ sizeLine ∧ ∀ p, H1 p = none → Q (.ref p) (upd H1 p (.tup xs))) : tTup t σ H Q := h
theorem w_lst {t : TA} (h : t σ H fun xs H1 => xs.length ≤ sizeLine ∧ ∀ p, H1 p = none → Q (.ref p) (upd H1 p (.lst xs))) : tLst t σ H Q := h
theorem w_dnew (h : ∀ p, H p = none → Q (.ref p) (upd H p (.dK []))) : tDNew σ H Q := h
theorem w_part {R : Option Int → Hp → Prop} (h : te σ H fun x H1 => ∃ i, x = .int i ∧ R (some i) H1) : tPart te σ H R := h
theorem w_nopart {R : Option Int → Hp → Prop} (h : R none H) : tNoPart σ H R := h
theorem w_int {R : Int → Prop} (h : R i) : ∃ i', V.int i = .int i' ∧ R i' := ⟨i, rfl, h⟩
theorem w_sl {r : V → Option Int → Option Int → Hp → VK → Prop} {tl th : TO} (h : te σ H fun x H1 => tl σ H1 fun l H2 => th σ H2 fun u H3 => r x l u H3 Q) : tSl r te tl th σ H Q := h
theorem w_sub {to ti : TE} {t : TSet} {R : St → Hp → Prop} (h : to σ H fun o H1 => ti σ H1 fun i H2 => t o i v H2 fun H3 => R σ H3) : gSub to ti t v σ H R := h
theorem w_gnil {R : St → Hp → Prop} (h : R σ H) : gNil [] σ H R := ⟨rfl, h⟩
theorem w_gcons {t : TG} {u : TGs} {R : St → Hp → Prop} (h : t v σ H fun σ' H' => u xs σ' H' R) : gCons t u (v :: xs) σ H R := ⟨v, xs, rfl, h⟩
theorem w_gtup {n : Nat} {t : TGs} {R : St → Hp → Prop} (e : SqT K H p xs) (hn : xs.length = n) (h : t xs σ H R) : gTup K n t (.ref p) σ H R := ⟨p, xs, rfl, e, hn, h⟩
theorem w_bm {T : String} {r : V → List V → Hp → VK → Prop} {to : TE} {t : TA} (h : to σ H fun x H1 => tyV K T x H1 ∧ t σ H1 fun xs H2 => r x xs H2 Q) : tBM K T r to t σ H Q := h
theorem w_addI (h : Q (.int (i + j)) H) : rAddU K (.int i) (.int j) H Q := .inl ⟨i, j, rfl, rfl, h⟩
theorem w_subI (h : Q (.int (i - j)) H) : rSubU (.int i) (.int j) H Q := ⟨i, j, rfl, rfl, h⟩
theorem w_mulI (hc : IntMulOk i j) (h : Q (.int (i * j)) H) : rMulU K (.int i) (.int j) H Q := .inl ⟨i, j, rfl, rfl, hc, h⟩
theorem w_divI (h0 : 0 < j) (h1 : j ≤ 100000000000000000000000000000000000000000000000000000000000000000000000000000000000000000000000000000000000000) (h : Q (.int (i / j)) H) : rDivU (.int i) (.int j) H Q :=
  ⟨i, j, rfl, rfl, CDivB.of h0 (Int.lt_of_le_of_lt h1 (by decide +kernel)), h⟩
theorem w_modI (h0 : 0 < j) (h : Q (.int (i % j)) H) : rModU (.int i) (.int j) H Q := ⟨i, j, rfl, rfl, h0, h⟩
theorem w_negI (h : Q (.int (-i)) H) : rNegU (.int i) H Q := ⟨i, rfl, h⟩
theorem w_ltI (h : Q (.bl (decide (i < j))) H) : rLtU (.int i) (.int j) H Q := ⟨i, j, rfl, rfl, h⟩
theorem w_leI (h : Q (.bl (decide (i ≤ j))) H) : rLeU (.int i) (.int j) H Q := ⟨i, j, rfl, rfl, h⟩
theorem w_gtI (h : Q (.bl (decide (j < i))) H) : rGtU (.int i) (.int j) H Q := ⟨i, j, rfl, rfl, h⟩
theorem decV_int : decide (V.int i = V.int j) = decide (i = j) := by
  by_cases e : i = j
  · subst e; simp
  · rw [decide_eq_false e, decide_eq_false (fun q => e (V.int.inj q))]
theorem w_eqI (h : Q (.bl (decide (i = j))) H) : rEqU K (.int i) (.int j) H Q := .inl ⟨rfl, by rw [decV_int]; exact h⟩
theorem w_neI (h : Q (.bl (!decide (i = j))) H) : rNeU K (.int i) (.int j) H Q := .inl ⟨rfl, by rw [decV_int]; exact h⟩
theorem w_neB {a b : Bool} (h : Q (.bl (!decide (a = b))) H) : rNeU K (.bl a) (.bl b) H Q := .inl ⟨rfl, by rw [show decide (V.bl a = V.bl b) = decide (a = b) by cases a <;> cases b <;> rfl]; exact h⟩
theorem w_ixL (h : SqL K H p xs) (e : atI xs i = some v) (q : Q v H) : rIx K (.ref p) (.int i) H Q := .inl ⟨p, xs, i, v, rfl, rfl, h, e, q⟩
theorem w_ixT (h : SqT K H p xs) (e : atI xs i = some v) (q : Q v H) : rIx K (.ref p) (.int i) H Q := .inr (.inl ⟨p, xs, i, v, rfl, rfl, h, e, q⟩)
theorem w_lenL (h : SqL K H p xs) (q : Q (.int xs.length) H) : rLenU K [.ref p] H Q := ⟨.ref p, xs.length, rfl, .inl ⟨xs, h, rfl⟩, q⟩
theorem w_lenT (h : SqT K H p xs) (q : Q (.int xs.length) H) : rLenU K [.ref p] H Q := ⟨.ref p, xs.length, rfl, .inr ⟨xs, h, rfl⟩, q⟩
theorem w_intB {b : Bool} (h : Q (.int (if b then 1 else 0)) H) : rTy_int K [.bl b] H Q := .inr ⟨b, rfl, h⟩
theorem w_tupL (h : SqL K H p xs) (q : ∀ l, H l = none → Q (.ref l) (upd H l (.tup xs))) : rTy_tuple K [.ref p] H Q := ⟨p, xs, rfl, .inl ⟨h, q⟩⟩
theorem w_sumA (h : SqA K H p (ns.map V.int)) (q : Q (.int ns.sum) H) : rSumU K [.ref p] H Q := ⟨p, ns, rfl, h, q⟩
theorem w_allA {bs : List Bool} (h : SqA K H p (bs.map V.bl)) (q : Q (.bl (bs.all id)) H) : rAllU K [.ref p] H Q := ⟨p, bs, rfl, h, q⟩
theorem w_anyA {bs : List Bool} (h : SqA K H p (bs.map V.bl)) (q : Q (.bl (bs.any id)) H) : rAnyU K [.ref p] H Q := ⟨p, bs, rfl, h, q⟩
theorem w_append {R : VK} (h : H p = some (.lst xs)) (hz : xs.length < sizeLine) (q : R .non (upd H p (.lst (xs ++ [v])))) : rAppend (.ref p) [v] H R := ⟨p, xs, v, rfl, rfl, h, hz, q⟩
theorem w_setL {k : Nat} {R : Hp → Prop} (h : H p = some (.lst xs)) (e : ixN xs.length i = some k) (q : R (upd H p (.lst (xs.set k v)))) : rSetL (.ref p) (.int i) v H R := ⟨p, xs, i, k, rfl, rfl, h, e, q⟩
theorem tyV_lst (h : H p = some (.lst xs)) : tyV K "list" (.ref p) H := .inl ⟨rfl, _, SqL.of h⟩
theorem iteD {c A B : Prop} [Decidable c] (h1 : c → A) (h2 : ¬ c → B) : if decide c = true then A else B := by
  by_cases h : c
  · rw [if_pos (decide_eq_true h)]; exact h1 h
  · rw [if_neg (by rw [decide_eq_false h]; decide)]; exact h2 h
theorem iteN {c A B : Prop} [Decidable c] (h1 : ¬ c → A) (h2 : c → B) : if (!decide c) = true then A else B := by
  by_cases h : c
  · rw [if_neg (by rw [decide_eq_true h]; decide)]; exact h2 h
  · rw [if_pos (by rw [decide_eq_false h]; rfl)]; exact h1 h
theorem iteB {b : Bool} {A B : Prop} (h1 : b = true → A) (h2 : b = false → B) : if b = true then A else B := by
  cases b
  · exact iteF (h2 rfl)
  · exact iteT (h1 rfl)
theorem iteDT {c A B : Prop} [Decidable c] (h : c) (h1 : A) : if decide c = true then A else B := iteD (fun _ => h1) fun z => absurd h z
theorem iteDF {c A B : Prop} [Decidable c] (h : ¬ c) (h1 : B) : if decide c = true then A else B := iteD (fun z => absurd z h) fun _ => h1
theorem iteNF {c A B : Prop} [Decidable c] (h : c) (h1 : B) : if (!decide c) = true then A else B := iteN (fun z => absurd h z) fun _ => h1
theorem atI_at {α : Type} {xs : List α} {i : Int} {v : α} (h0 : 0 ≤ i) (h : xs[i.toNat]? = some v) : atI xs i = some v := by
  have e : ((i.toNat : Nat) : Int) = i := Int.toNat_of_nonneg h0
  rw [← e]; exact atI_nat h
theorem get_ints {ns : List Int} {k : Nat} (h : k < ns.length) : (ns.map V.int)[k]? = some (.int (ns.getD k 0)) := by
  rw [List.getElem?_map, List.getD, List.getElem?_eq_getElem h]; rfl
theorem atI_ints {ns : List Int} (h0 : 0 ≤ i) (h1 : i < ns.length) : atI (ns.map V.int) i = some (.int (ns.getD i.toNat 0)) := atI_at h0 (get_ints (by omega))
theorem ixN_at {n : Nat} (h0 : 0 ≤ i) (h1 : i < n) : ixN n i = some i.toNat := by unfold ixN; rw [if_pos h0, if_pos h1]
theorem small9 {n : Nat} (h : n ≤ 1000) : n ≤ sizeLine := Nat.le_of_lt (small1000 h)
theorem mulok_l (h1 : -18446744073709551616 < i) (h2 : i < 18446744073709551616) : IntMulOk i j := IntMulOk.of_left (intBits_le_64 h1 h2)
theorem mulok_r (h1 : -18446744073709551616 < j) (h2 : j < 18446744073709551616) : IntMulOk i j := IntMulOk.of_right (intBits_le_64 h1 h2)
theorem bits_1000 (h1 : -1000000000000000000000000000000000000000000000000000000000000000000000000000000000000000000000000000000000000000000000000000000000000000000000000000000000000000000000000000000000000 < i)
    (h2 : i < 1000000000000000000000000000000000000000000000000000000000000000000000000000000000000000000000000000000000000000000000000000000000000000000000000000000000000000000000000000000000000) : Builtin.Int.intBits i ≤ 1000 := by
  have e : (1000000000000000000000000000000000000000000000000000000000000000000000000000000000000000000000000000000000000000000000000000000000000000000000000000000000000000000000000000000000000 : Int) ≤ 2 ^ 1000 := by decide +kernel
  exact bits_of (by omega) (by omega)
theorem mulok_big (h1 : -1000000000000000000000000000000000000000000000000000000000000000000000000000000000000000000000000000000000000000000000000000000000000000000000000000000000000000000000000000000000000 < i)
    (h2 : i < 1000000000000000000000000000000000000000000000000000000000000000000000000000000000000000000000000000000000000000000000000000000000000000000000000000000000000000000000000000000000000)
    (h3 : -1000000000000000000000000000000000000000000000000000000000000000000000000000000000000000000000000000000000000000000000000000000000000000000000000000000000000000000000000000000000000 < j)
    (h4 : j < 1000000000000000000000000000000000000000000000000000000000000000000000000000000000000000000000000000000000000000000000000000000000000000000000000000000000000000000000000000000000000) : IntMulOk i j :=
  IntMulOk.of_le (bits_1000 h1 h2) (bits_1000 h3 h4) (by decide)
theorem Same.laid {o : HO} (h : H p = none) : Same H (upd H p o) := fun b u e => by
  rw [upd_ne (ne_of_none e h)]; exact e
theorem Same.laidT {H0 : Hp} {o : HO} (s : Same H0 H) (h : H p = none) : Same H0 (upd H p o) := s.trans (Same.laid h)
theorem Same.put {H0 : Hp} {o : HO} (s : Same H0 H) (h : H0 p = none) : Same H0 (upd H p o) := fun b u e => by
  rw [upd_ne (ne_of_none e h)]; exact s b u e
theorem w_for {wi : TI} {tb : TS} (h : wi σ H fun J H1 => ∃ W : Nat → Nat → St → Hp → Prop, (∃ m, W 0 m σ H1) ∧ ∀ i m σ H, W i m σ H →
    (J.stop i H ∧ D.nx σ H) ∨ (J.go i H ∧ ∃ N : St → Hp → Prop, (∀ σ' H', N σ' H' → ∃ m', m' < m ∧ W (i + 1) m' σ' H') ∧ ∀ x H', J.yld i H x H' → g x σ H' fun σ2 H2 => tb { D with nx := N, ct := N, bk := D.nx } σ2 H2)) : tFor wi g tb D σ H := h
theorem w_rng1 {ta : TA} {R : It → Hp → Prop} (h : ta σ H fun vs H1 => ∃ j : Int, vs = [.int j] ∧ -(2 ^ 62) ≤ j ∧ j < 2 ^ 62 ∧ R (Itr 0 j.toNat) H1) : iRng1 ta σ H R := h
theorem rng_ok {n : Nat} (h : n ≤ 1000) : -(2 ^ 62) ≤ (n : Int) ∧ (n : Int) < 2 ^ 62 := by omega
theorem w_seq0 {tl : TE} {R : It → Hp → Prop} (h : tl σ H fun x H1 => ∃ a, x = .ref a ∧ (((∃ xs, SqL K H1 a xs) ∧ R (Itl K a) H1) ∨ ((∃ xs, SqT K H1 a xs) ∧ R (Itt K a) H1))) : iSeq K tl σ H R := h
theorem w_comp {l : List (Option Nat)} {wi : TI} (h : wi σ H fun J H1 => ∀ D, H1 D = none → ∃ W : CompW, (∃ m, W 0 m [] (iniOf l σ) (upd H1 D (.lst []))) ∧ compStep J g c te D W fun H' => Q (.ref D) H') : tComp l wi g c te σ H Q := h
end
theorem for_range0 {n : Nat} {g : TG} {tb : TS} {D : Ends} {σ : St} {H : Hp} (Pv : Nat → St → Hp → Prop) (h0 : Pv 0 σ H)
    (hs : ∀ i σ H, i < n → Pv i σ H → g (.int (i : Nat)) σ H fun σ2 H2 => tb { D with nx := Pv (i + 1), ct := Pv (i + 1), bk := D.nx } σ2 H2) (hd : ∀ σ H, Pv n σ H → D.nx σ H) :
    ∃ W : Nat → Nat → St → Hp → Prop, (∃ m, W 0 m σ H) ∧ ∀ i m σ H, W i m σ H →
      ((Itr 0 n).stop i H ∧ D.nx σ H) ∨ ((Itr 0 n).go i H ∧ ∃ N : St → Hp → Prop, (∀ σ' H', N σ' H' → ∃ m', m' < m ∧ W (i + 1) m' σ' H') ∧ ∀ x H', (Itr 0 n).yld i H x H' → g x σ H' fun σ2 H2 => tb { D with nx := N, ct := N, bk := D.nx } σ2 H2) :=
  for_range Pv h0 (fun i σ H hi p => by rw [Int.zero_add]; exact hs i σ H hi p) hd
theorem ixi {ns : List Int} {i : Nat} (h : i < ns.length) : atI (ns.map V.int) ((i : Nat) : Int) = some (.int (ns.getD i 0)) := atI_nat (get_ints h)
theorem getD_in {ns : List Int} {i : Nat} (h : i < ns.length) : ns.getD i 0 ∈ ns := getD_mem h
theorem sum_nn : ∀ {ns : List Int}, (∀ x ∈ ns, 0 ≤ x) → 0 ≤ ns.sum
  | [], _ => by simp
  | n :: ns, h => by
    have h1 := h n (by simp)
    have h2 := sum_nn (ns := ns) fun x hx => h x (by simp [hx])
    rw [List.sum_cons]; omega
theorem sum_pos_of : ∀ {ns : List Int} {x : Int}, (∀ y ∈ ns, 0 ≤ y) → x ∈ ns → 0 < x → 0 < ns.sum
  | [], _, _, hx, _ => by simp at hx
  | n :: ns, x, h, hx, h0 => by
    rw [List.sum_cons]
    have h1 := h n (by simp)
    have h2 := sum_nn (ns := ns) fun x hx => h x (by simp [hx])
    rcases List.mem_cons.mp hx with e | e
    · subst e; omega
    · have := sum_pos_of (ns := ns) (fun x hx => h x (by simp [hx])) e h0
      omega
theorem pos_of_sum : ∀ {ns : List Int}, (∀ y ∈ ns, 0 ≤ y) → ns.sum ≠ 0 → ∃ x ∈ ns, 0 < x
  | [], _, h => by simp at h
  | n :: ns, h, hs => by
    by_cases hn : 0 < n
    · exact ⟨n, by simp, hn⟩
    · have h1 := h n (by simp)
      have e : n = 0 := by omega
      subst e
      rw [List.sum_cons, Int.zero_add] at hs
      obtain ⟨x, hx, p⟩ := pos_of_sum (ns := ns) (fun y hy => h y (by simp [hy])) hs
      exact ⟨x, by simp [hx], p⟩
theorem map_set_int {ns : List Int} {k : Nat} {x : Int} : (ns.map V.int).set k (.int x) = (ns.set k x).map V.int := by rw [List.map_set]
section
variable {l : List (Option Nat)} {te : TE} {σ σr : St} {H1 : Hp} {Q : Hp → Prop}
theorem comp_rangeP {n : Nat} (D : Addr) (P : Nat → V → Hp → Prop) (hP : ∀ i v H H', Tu H H' → P i v H → P i v H') (hn : n ≤ 1000) (hD : H1 D = none) (hini : ∃ r0, iniOf l σ = r0 :: σr)
    (hs : ∀ i H (R : VK), i < n → Same H1 H → (∀ v H4, Same H H4 → P i v H4 → R v H4) → te (some (.int (i : Nat)) :: σr) H R)
    (hd : ∀ ys H, ys.length = n → (∀ i v, ys[i]? = some v → P i v H) → Same H1 H → H D = some (.lst ys) → Q H) :
    ∃ W : CompW, (∃ m, W 0 m [] (iniOf l σ) (upd H1 D (.lst []))) ∧ compStep (Itr 0 n) (gName 0) tYes te D W Q := by
  obtain ⟨r0, hini⟩ := hini
  refine comp_range D (fun i ys σ2 H => ys.length = i ∧ (∀ j v, ys[j]? = some v → P j v H) ∧ Same H1 H ∧ ∃ r0, σ2 = r0 :: σr) hn (fun i ys σ H h => Nat.le_of_eq h.1) ⟨rfl, fun j v e => by simp at e, Same.laid hD, r0, hini⟩ ?_ ?_
  · rintro i ys σ2 H hi ⟨hl, hp, hs1, r1, rfl⟩ hH
    refine w_name (w_yes (iteT ?_))
    show te (some (.int (0 + (i : Nat))) :: σr) H _
    rw [Int.zero_add]
    refine hs i H _ hi hs1 fun v H4 h4 hv => ?_
    have hD4 : H4 D = some (.lst ys) := h4 _ _ hH
    refine ⟨hD4, by simp [hl], fun j u e => ?_, (hs1.trans h4).put hD, some (.int (i : Nat)), by simp⟩
    by_cases hj : j < ys.length
    · rw [List.getElem?_append_left hj] at e
      exact hP _ _ _ _ (Tu.put hD4) (hP _ _ _ _ h4.tu (hp j u e))
    · rw [List.getElem?_append_right (by omega)] at e
      have hj2 : j - ys.length = 0 := by
        by_cases z : j - ys.length = 0
        · exact z
        · rw [List.getElem?_eq_none (by simp; omega)] at e; cases e
      rw [hj2] at e
      have e' : v = u := by simpa using e
      have ej : j = i := by omega
      rw [← e', ej]
      exact hP _ _ _ _ (Tu.put hD4) hv
  · rintro ys σ2 H ⟨hl, hp, hs1, _⟩ hH
    exact hd ys H hl hp hs1 hH
theorem comp_seqP {K : PySem.W.Frag} {J : It} {a : Addr} {xs : List V} (hJ : (J = Itt K a ∧ H1 a = some (.tup xs)) ∨ (J = Itl K a ∧ H1 a = some (.lst xs))) (D : Addr) (P : Nat → V → Hp → Prop) (hP : ∀ i v H H', Tu H H' → P i v H → P i v H') (hn : xs.length ≤ 1000) (hD : H1 D = none) (hini : ∃ r0, iniOf l σ = r0 :: σr)
    (hs : ∀ i x H (R : VK), xs[i]? = some x → Same H1 H → (∀ v H4, Same H H4 → P i v H4 → R v H4) → te (some x :: σr) H R)
    (hd : ∀ ys H, ys.length = xs.length → (∀ i v, ys[i]? = some v → P i v H) → Same H1 H → H D = some (.lst ys) → Q H) :
    ∃ W : CompW, (∃ m, W 0 m [] (iniOf l σ) (upd H1 D (.lst []))) ∧ compStep J (gName 0) tYes te D W Q := by
  obtain ⟨r0, hini⟩ := hini
  refine comp_seq D xs (fun i ys σ2 H => ys.length = i ∧ (∀ j v, ys[j]? = some v → P j v H) ∧ Same H1 H ∧ ∃ r0, σ2 = r0 :: σr) hn (fun i ys σ H h => Nat.le_of_eq h.1) ?_ ⟨rfl, fun j v e => by simp at e, Same.laid hD, r0, hini⟩ ?_ ?_
  · rintro i ys σ2 H ⟨_, _, hs1, _⟩ _
    rcases hJ with ⟨rfl, e⟩ | ⟨rfl, e⟩
    · exact itt_of (SqT.of (hs1 _ _ e)) i
    · exact itl_of (SqL.of (hs1 _ _ e)) i
  · rintro i x ys σ2 H hi ⟨hl, hp, hs1, r1, rfl⟩ hH
    refine w_name (w_yes (iteT ?_))
    refine hs i x H _ hi hs1 fun v H4 h4 hv => ?_
    have hD4 : H4 D = some (.lst ys) := h4 _ _ hH
    refine ⟨hD4, by simp [hl], fun j u e => ?_, (hs1.trans h4).put hD, some x, rfl⟩
    by_cases hj : j < ys.length
    · rw [List.getElem?_append_left hj] at e
      exact hP _ _ _ _ (Tu.put hD4) (hP _ _ _ _ h4.tu (hp j u e))
    · rw [List.getElem?_append_right (by omega)] at e
      have hj2 : j - ys.length = 0 := by
        by_cases z : j - ys.length = 0
        · exact z
        · rw [List.getElem?_eq_none (by simp; omega)] at e; cases e
      rw [hj2] at e
      have e' : v = u := by simpa using e
      have ej : j = i := by omega
      rw [← e', ej]
      exact hP _ _ _ _ (Tu.put hD4) hv
  · rintro ys σ2 H ⟨hl, hp, hs1, _⟩ hH
    exact hd ys H hl hp hs1 hH
theorem all_map {α : Type} {f : α → V} : ∀ {ys : List V} {P : Nat → α → Prop}, (∀ (i : Nat) v, ys[i]? = some v → ∃ x, v = f x ∧ P i x) → ∃ rs : List α, ys = rs.map f ∧ ∀ (i : Nat) x, rs[i]? = some x → ∃ y, f y = f x ∧ P i y
  | [], P, _ => ⟨[], rfl, fun i x e => by simp at e⟩
  | y :: ys, P, h => by
    obtain ⟨x, hx, px⟩ := h 0 y rfl
    obtain ⟨rs, e, hr⟩ := all_map (ys := ys) (P := fun i => P (i + 1)) (fun i v hv => h (i + 1) v (by simpa using hv))
    refine ⟨x :: rs, by rw [e, hx]; rfl, fun i z hz => ?_⟩
    cases i with
    | zero =>
      have : x = z := by simpa using hz
      subst this
      exact ⟨x, rfl, px⟩
    | succ i => exact hr i z (by simpa using hz)
theorem all_ints {ys : List V} {P : Nat → Int → Prop} (h : ∀ (i : Nat) v, ys[i]? = some v → ∃ x, v = .int x ∧ P i x) : ∃ rs : List Int, ys = rs.map V.int ∧ ∀ (i : Nat) x, rs[i]? = some x → P i x := by
  obtain ⟨rs, e, hr⟩ := all_map h
  exact ⟨rs, e, fun i x hx => by obtain ⟨y, ey, p⟩ := hr i x hx; cases ey; exact p⟩
theorem all_bls {ys : List V} {P : Nat → Bool → Prop} (h : ∀ (i : Nat) v, ys[i]? = some v → ∃ x, v = .bl x ∧ P i x) : ∃ rs : List Bool, ys = rs.map V.bl ∧ ∀ (i : Nat) x, rs[i]? = some x → P i x := by
  obtain ⟨rs, e, hr⟩ := all_map h
  exact ⟨rs, e, fun i x hx => by obtain ⟨y, ey, p⟩ := hr i x hx; cases ey; exact p⟩
end
end L2
set_option Elab.async false
set_option linter.all false
set_option maxRecDepth 100000
set_option maxHeartbeats 4000000
namespace L2
open PySem PySem.W PySem.Calls PyProof.Rows
theorem attach_bits {l : OpenLaw} {n : Nat} {q : Program} {loose : List Str} {XP : (Str → Option Value) → Heap → Prop} {YP : World → Heap → Prop} {d : DefRec}
    (hn : l.most = some n) (hdf : d.params.defaults = [])
    (call : ∀ (w : World) (s₀ s₁ : Shared) (mg mb : Str → Option Value) (fa : Addr) (a : Addr) (vs : List Value) (ns : List Int),
      Ground q loose [] XP w s₀ mg mb s₁.heap → YP w s₁.heap → mg d.name = some (.ref fa) →
      s₁.heap.get? a = some { cls := .type "list", data := .seq vs.toArray } → IntsAre vs ns → ns.length ≤ n → (∀ i ∈ ns, Builtin.Int.intBits i ≤ 1048576) → s₁.gens = #[] →
      codeAny (model l.prog w) callerA (.call (.ref fa) ⟨[.ref a], []⟩) (fun r s' => r = .ok (.ret (.bool true)) ∧ OldK s₁.heap s'.heap ∧ s'.os = s₁.os ∧ AllBare s'.gens) s₁) :
    WalkO q loose XP YP l.row.toRowW d [] (fun f vs => PySem.call f vs) := by
  intro w s₀ s₁ mg mb G Y fa o pm cd doc dV kV ho hd hcd hD hmg hg args vals as hpre hlay hrd hwl hlo
  obtain ⟨a, vs, ns, rfl, rfl, hobj, hints, hlen⟩ := Att.script_of hn hpre hwl
  refine enter_call (codeAny_mono (call w s₀ s₁ mg mb fa a vs ns G Y hmg hobj hints hlen (bits_script hlay) hg) fun r s' hq => ?_)
  obtain ⟨rfl, h2, h3, h4⟩ := hq
  exact ⟨.inl ⟨.bool true, .bool true, [], rfl, fun _ => rfl, .bool true, Att.post_true l _, fun _ => ⟨List.Pairwise.nil, fun _ hm => (nomatch hm)⟩⟩, h2, h3, h4⟩
def sb_top (K : PySem.W.Frag) (a : V) (H : Hp) (Q : VK) (E : XK) : Prop := ∃ (l : Addr) (ns : List Int), a = .ref l ∧ SqL K H l (ns.map V.int) ∧ (∀ n ∈ ns, Builtin.Int.intBits n ≤ 1048576) ∧ ns.length ≤ 63 ∧ ∀ H', Q (.bl true) H'
theorem walk_fn {l : OpenLaw} {q : Program} {loose : List Str} {XP : (Str → Option Value) → Heap → Prop} {YP : World → Heap → Prop} {d : DefRec} {K : Params → Frag} {x : Str} (k : Nat)
    (hn : l.most = some 63) (hdf : d.params.defaults = []) (hk : k ≤ 40)
    (hY : ∀ (w : World) (h : Heap), YP w h → (K w.params).In h)
    (F : ∀ (w : World) (mg : Str → Option Value) (h : Heap), (K w.params).In h → h.Ns mainGlobals mg → ∃ f fd, mg d.name = some (.ref f) ∧ (∀ (s : Shared) (u : Value), BindsTo s fd ⟨[u], []⟩ [(x, u)]) ∧
      ∀ base : Heap, (K w.params).In base → base.Ns mainGlobals mg → FnOk l.prog w (K w.params) mg base CX0 k f fd [x] (sp1 (sb_top (K w.params)))) :
    WalkO q loose XP YP l.row.toRowW d [] (fun f vs => PySem.call f vs) := by
  refine attach_bits hn hdf fun w s₀ s₁ mg mb fa a vs ns G Y hmg hobj hints hlen hbits hg => ?_
  have KX := hY w _ Y
  obtain ⟨f, fd, hf, hb, hF⟩ := F w mg _ KX G.T.g
  rw [hmg] at hf
  cases hf
  have hr : Room 40 callerA := ⟨rfl, by decide, by decide⟩
  exact law_call KX G.T.g G.T.b G.T.builtins G.T.nolimit hg hobj hints (Nat.le_trans hlen (by decide)) (hr.mono hk) hF hb
    (fun H hO hS => ⟨_, rfl, a, ns, rfl, hS, hbits, hlen, fun _ => rfl⟩) fun H e s' h => h
end L2
set_option Elab.async false
set_option linter.all false
set_option maxRecDepth 100000
set_option maxHeartbeats 4000000
namespace L2
open PySem PySem.Spec PyProof.Rows
def CtxN (e : Addr) (h : Heap) : Prop := ∃ o vs, h.get? e = some o ∧ o.data = .fields vs ∧ vs[2]? = some Value.none
theorem CtxN.keep {e : Addr} {h h' : Heap} (c : CtxN e h) (k : h'.get? e = h.get? e) : CtxN e h' := by
  obtain ⟨o, vs, q, d, z⟩ := c
  exact ⟨o, vs, k.trans q, d, z⟩
section
variable {M : Model} {A : Around} {E : Value → Shared → Prop} {s : Shared} {B : Heap} {env : Env} {l outer : List Env} {L e : Addr} {cls a0 : Value} {Q : Unit → Shared → Prop}
theorem entryC {ob : Obj} {ws : Array Value} {hd0 : Value} {hadNext : Bool} (frm : A.frames = some (env :: outer)) (ff : s.heap.FunFrames B (env :: outer)) (fr : env.frame = some L)
    (q1 : s.heap.get? e = some ob) (kb : B.StaysIn s.heap) (en : B.get? e = none) (q2 : ob.data = .fields ws) (q3 : 1 < ws.size) (q4 : ws[0]? = some a0) (q5 : ws[2]? = some Value.none)
    (k : ∀ h', Heap.NotedW B (env :: outer) e ob.cls a0 (rawInt L) s.heap h' → CtxN e h' → Q () { s with heap := h' }) :
    wpAny M A (do let a ← frameOf env; let pl ← entryPlaceOf L hadNext; let b ← EntryCells.newEntry hd0 a .none (rawInt L) .none pl; setField (.ref e) 1 b) Q E s := by
  have out : e ∉ (env :: outer).filterMap (·.frame) := fun z => by
    obtain ⟨_, o, ho, nf⟩ := ff.mem z
    rw [q1] at ho
    cases ho
    exact nf ws q2
  refine wpAny_bind (wpAny_frameOf_fun frm ff fr fun g sl => ?_)
  refine wpAny_bind (wpAny_entryPlaceOf fun pl hpl => ?_)
  unfold EntryCells.newEntry newFields
  refine wpAny_bind (wpAny_newObj_type ?_ (hpl.sizeOk5 _ _ _ _ _))
  have g1 : g.get? e = some ob := (sl.2.1 e out).trans q1
  have gk : B.StaysIn g := fun b o r => (sl.2.1 b fun z => by rw [(ff.mem z).1] at r; cases r).trans (kb b o r)
  generalize hT : ({ cls := .type "traceback", dict := none, data := .fields ([hd0, .ref L, .none, rawInt L, .none] ++ (if pl.isEmpty then List.replicate 6 Value.none else pl)).toArray } : Obj) = tb
  have g2 : (g.push tb).get? e = some ob := Heap.get?_push_of_some tb g1
  refine wpAny_setField g2 q2 q3 ?_
  have ne : g.objs.size ≠ e := Nat.ne_of_gt (Heap.lt_size g1)
  have d3 := Obj.data_mapFields q2 (fun ar => ar.setIfInBounds 1 (Value.ref g.objs.size))
  have g3 := Heap.get?_update_self (Obj.mapFields (fun ar => ar.setIfInBounds 1 (Value.ref g.objs.size))) g2 (Obj.isFreed_of_fields d3)
  have gT : ((g.push tb).update e (Obj.mapFields (fun ar => ar.setIfInBounds 1 (Value.ref g.objs.size)))).get? g.objs.size = some tb :=
    (Heap.get?_update_other _ _ (Ne.symm ne)).trans (Heap.get?_push_size g (by rw [← hT]; rfl))
  have kp : ∀ b o, b ≠ e → g.get? b = some o → ((g.push tb).update e (Obj.mapFields (fun ar => ar.setIfInBounds 1 (Value.ref g.objs.size)))).get? b = some o := fun b o nb r => by
    rw [Heap.get?_update_other _ _ (Ne.symm nb)]
    exact Heap.get?_push_of_some _ r
  have nrec : ∀ b o, s.heap.get? b = some o → (∀ vs, o.data ≠ .fields vs) → b ≠ e := fun b o r nf z => by
    rw [z, q1] at r
    cases r
    exact nf ws q2
  refine k _ ⟨fun b o r => kp b o (fun z => by rw [z, en] at r; cases r) (gk b o r), ff.of_keeps fun b o r nf => ?_, ?_, fun b o r nf => ?_⟩ ⟨_, _, g3, d3, ?_⟩
  · obtain ⟨z, r2⟩ := sl.2.2 b o r
    exact ⟨_, kp b _ (nrec b o r nf) r2, rfl⟩
  · refine ⟨_, _, g.objs.size, tb, _, g3, ⟨Obj.cls_mapFields _ _, ?_⟩, d3, by simp [q3], gk.fresh, ne, gT, by rw [← hT], ?_⟩
    · rw [Array.getElem?_setIfInBounds_ne (by decide)]; exact q4
    · first | (simp; done) | (rcases hpl with rfl | ⟨_, _, _, _, _, _, _, rfl⟩ <;> simp)
  · obtain ⟨z, r2⟩ := sl.2.2 b o r
    exact ⟨z, kp b _ (nrec b o r nf) r2⟩
  · rw [Array.getElem?_setIfInBounds_ne (by decide)]; exact q5
theorem noteC (frm : A.frames = some (env :: outer)) (fr : env.frame = some L) (f1 : B.StaysIn s.heap) (f2 : B.get? e = none) (f3 : s.heap.FunFrames B (env :: outer)) {fl : Value} (f4 : s.heap.TracedAtW B e cls a0 fl) (cx : CtxN e s.heap)
    (k : ∀ h', Heap.HeldW B (env :: outer) e cls a0 L h' → CtxN e h' → s.heap.UpToSlots h' → Q () { s with heap := h' }) : wpAny M A (noteFrame (.ref e) env) Q E s := by
  by_cases hb : fl = rawInt L
  · subst hb
    exact wpAny_noteFrame_againW fr f4 (k s.heap ⟨f1, f2, f3, f4⟩ cx (Heap.UpToSlots.refl _))
  · obtain ⟨ob, ws, T, oT, ts, q1, ⟨q2, q3⟩, q4, q5, q6, q7, q8, q9, q10⟩ := f4
    subst q2
    unfold noteFrame
    simp only [fr]
    refine wpAny_bind (wpAny_field q1 q4 q5 ?_)
    rw [if_pos (show (Value.ref T != Value.none) = true by simp)]
    refine wpAny_bind (wpAny_field q8 q9 q10 ?_)
    rw [if_neg (show ¬ ((fl == rawInt L) = true) by simpa using hb)]
    refine wpAny_bind (wpAny_setField q8 q9 (Array.getElem?_eq_some_iff.mp q10).1 ?_)
    have oth : ∀ b, b ≠ T → (s.heap.update T (Obj.mapFields fun ar => ar.setIfInBounds 3 Value.none)).get? b = s.heap.get? b := fun b nb => Heap.get?_update_other _ _ (Ne.symm nb)
    have nrec : ∀ b o, s.heap.get? b = some o → (∀ vs, o.data ≠ .fields vs) → b ≠ T := fun b o r nf z => by
      rw [z, q8] at r
      cases r
      exact nf ts q9
    have c2 : ws[2]? = some Value.none := by
      obtain ⟨o, vs, r1, r2, r3⟩ := cx
      rw [q1] at r1
      cases r1
      rw [q4] at r2
      cases r2
      exact r3
    refine entryC frm (f3.of_keeps fun b o r nf => ⟨o, (oth b (nrec b o r nf)).trans r, rfl⟩) fr ((oth e (Ne.symm q7)).trans q1) (fun b o r => (oth b fun z => by rw [z, q6] at r; cases r).trans (f1 b o r)) f2 q4
      (Array.getElem?_eq_some_iff.mp q5).1 q3 c2 fun h' ⟨x1, x2, x3, x4⟩ cn => k h' ⟨x1, f2, x2, x3⟩ cn fun b o r nf => x4 b o ((oth b (nrec b o r nf)).trans r) nf
theorem flightC {fr : Option Addr} {fl : Value} (f1 : B.StaysIn s.heap) (f2 : B.get? e = none) (f3 : s.heap.FunFrames B l) (f4 : s.heap.TracedAtW B e cls a0 fl) (cx : CtxN e s.heap)
    (k : ∀ h', B.StaysIn h' → h'.FunFrames B l → h'.TracedAtW B e cls a0 (fr.elim Value.none fun f => rawInt f) → CtxN e h' → s.heap.UpToSlots h' → Q () { s with heap := h' }) : wpAny M A (setFlight (.ref e) fr) Q E s := by
  obtain ⟨ob, ws, T, oT, ts, q1, q2, q4, q5, q6, q7, q8, q9, q10⟩ := f4
  have z3 : 3 < ts.size := (Array.getElem?_eq_some_iff.mp q10).1
  have nrec : ∀ b o, s.heap.get? b = some o → (∀ vs, o.data ≠ .fields vs) → b ≠ T := fun b o r nf z => by
    rw [z, q8] at r
    cases r
    exact nf ts q9
  unfold setFlight
  refine wpAny_bind (wpAny_field q1 q4 q5 ?_)
  rw [if_pos (show (Value.ref T != Value.none) = true by simp)]
  refine wpAny_setField q8 q9 z3 ?_
  generalize (fr.elim Value.none fun f => rawInt f) = fv at k ⊢
  have oth : ∀ b, b ≠ T → (s.heap.update T (Obj.mapFields fun ar => ar.setIfInBounds 3 fv)).get? b = s.heap.get? b := fun b nb => Heap.get?_update_other _ _ (Ne.symm nb)
  refine k _ (fun b o r => (oth b fun z => by rw [z, q6] at r; cases r).trans (f1 b o r)) (f3.of_keeps fun b o r nf => ⟨o, (oth b (nrec b o r nf)).trans r, rfl⟩) ?_ (cx.keep (oth e (Ne.symm q7))) fun b o r nf => ⟨o.slots, (oth b (nrec b o r nf)).trans r⟩
  exact ⟨ob, ws, T, _, _, (oth e (Ne.symm q7)).trans q1, q2, q4, q5, q6, q7, Heap.get?_update_self _ q8 (Obj.isFreed_of_fields (Obj.data_mapFields q9 _)), Obj.data_mapFields q9 _, by simp [z3]⟩
theorem landsC {fl : Value} (f1 : B.StaysIn s.heap) (f2 : B.get? e = none) (f3 : s.heap.FunFrames B l) (f4 : s.heap.TracedAtW B e cls a0 fl) (cx : CtxN e s.heap)
    (k : ∀ h', Heap.FlyingW B l e cls a0 h' → CtxN e h' → s.heap.UpToSlots h' → Q () { s with heap := h' }) : wpAny M A (setFlight (.ref e) none) Q E s :=
  flightC (fr := none) f1 f2 f3 f4 cx fun h' x1 x2 x3 x4 x5 => k h' ⟨x1, f2, x2, x3⟩ x4 x5
theorem leavesC {fl : Value} (frm : A.frames = some (env :: outer)) (fr : env.frame = some L) (f1 : B.StaysIn s.heap) (f2 : B.get? e = none) (f3 : s.heap.FunFrames B (env :: outer)) (f4 : s.heap.TracedAtW B e cls a0 fl) (cx : CtxN e s.heap)
    (k : ∀ h', Heap.FlyingW B outer e cls a0 h' → CtxN e h' → s.heap.UpToSlots h' → Q () { s with heap := h' }) : wpAny M A (leaving env (.ref e)) Q E s := by
  unfold leaving
  refine wpAny_bind (noteC frm fr f1 f2 f3 f4 cx fun h' hh cn up => ?_)
  obtain ⟨g1, g2, g3, g4⟩ := hh
  refine landsC (s := { s with heap := h' }) g1 g2 g3 g4 cn fun h2 fl2 cn2 up2 => ?_
  obtain ⟨z1, z2, ⟨_, _, z3⟩, z4⟩ := fl2
  exact k h2 ⟨z1, z2, z3, z4⟩ cn2 (up.trans up2)
theorem leavesC_made {h : Heap} {args : List Value} (frm : A.frames = some (env :: outer)) (fr : env.frame = some L) (kb : B.StaysIn h) (ff : h.FunFrames B (env :: outer)) (hx : Heap.MadeExcOf h s.heap e cls args)
    (k : ∀ h' t, Heap.FlyingW B outer e cls (.ref t) h' → CtxN e h' → s.heap.UpToSlots h' → Q () { s with heap := h' }) : wpAny M A (leaving env (.ref e)) Q E s := by
  obtain ⟨t, q1, _, _⟩ := hx.there
  have en : B.get? e = none := by
    cases q : B.get? e with
    | none => rfl
    | some o => have := kb e o q; rw [hx.new] at this; cases this
  unfold leaving noteFrame
  simp only [fr]
  refine wpAny_bind (wpAny_bind (wpAny_field q1 rfl (x := Value.none) rfl ?_))
  rw [if_neg (show ¬ ((Value.none != Value.none) = true) by simp)]
  refine entryC (a0 := .ref t) frm (ff.of_keeps fun b o r _ => ⟨o, hx.keeps b o r, rfl⟩) fr q1 (fun b o r => hx.keeps b o (kb b o r)) en rfl (by show 1 < 6; decide) rfl rfl fun h' ⟨x1, x2, x3, x4⟩ cn => ?_
  refine landsC (s := { s with heap := h' }) x1 en x2 x3 cn fun h2 fl2 cn2 up2 => ?_
  obtain ⟨z1, z2, ⟨_, _, z3⟩, z4⟩ := fl2
  exact k h2 t ⟨z1, z2, z3, z4⟩ cn2 (Heap.UpToSlots.trans x4 up2)
end
end L2
set_option Elab.async false
set_option linter.all false
set_option maxRecDepth 100000
set_option maxHeartbeats 4000000
namespace L2
open PySem PySem.Spec PyProof.Rows
theorem ObjOk.ob {P : Program} {w : World} {H : Hp} {h : Heap} {a : Addr} {o : HO} (x : ObjOk P w H h a o) : ∃ ob, h.get? a = some ob := by
  cases o with
  | lst xs => obtain ⟨_, _, _, _, e⟩ := x; exact ⟨_, e⟩
  | tup xs => obtain ⟨_, _, _, ob, e, _⟩ := x; exact ⟨ob, e⟩
  | dK kvs => obtain ⟨_, _, _, _, o, _, _, e, _⟩ := x; exact ⟨o, e⟩
  | dT kvs => obtain ⟨_, _, _, _, o, _, _, e, _⟩ := x; exact ⟨o, e⟩
  | set S n => obtain ⟨o, _, _, _, e, _⟩ := x; exact ⟨o, e⟩
  | ins C dx fs => obtain ⟨_, _, _, e, _⟩ := x; exact ⟨_, e⟩
  | own y => exact x
  | xd fs => obtain ⟨_, ⟨_, _, _, e, _⟩, _⟩ := x; exact ⟨_, e⟩
  | rng lo hi => obtain ⟨_, _, _, e⟩ := x; exact ⟨_, e⟩
  | frz ob u => exact ⟨_, x.1⟩
  | tbl ps => exact ⟨_, x⟩
  | met f y => exact ⟨_, x⟩
  | ext φ => exact x.2.1
structure Flown (P : Program) (w : World) (base : Heap) (outer : List Env) (H : Hp) (s s' : Shared) (e : Addr) (cls : Value) (H' : Hp) (B : Heap) (a0 : Value) : Prop where
  os : s'.os = s.os
  bare : AllBare s'.gens
  fly : Heap.FlyingW B outer e cls a0 s'.heap
  ctx : CtxN e s'.heap
  hok : HOk P w H' B
  bst : base.StaysIn B
  noe : H' e = none
  keep : ∀ b o, s.heap.get? b = some o → H b = none → b ∉ frs outer → B.get? b = some o
  slot : ∀ b o, s.heap.get? b = some o → H b = none → b ∈ frs outer → ∃ sl, s'.heap.get? b = some { o with slots := sl }
  free : ∀ b o, s.heap.get? b = some o → H b = none → H' b = none
  there : ∀ b o, s.heap.get? b = some o → b ∉ frs outer → ∃ o', B.get? b = some o'
  tups : ∀ b xs, H b = some (.tup xs) → H' b = some (.tup xs)
  frzs : ∀ b o u, H b = some (.frz o u) → H' b = some (.frz o u)
  tbls : ∀ b ps, H b = some (.tbl ps) → ∃ more, H' b = some (.tbl (ps ++ more))
def CXr (P : Program) (w : World) (base : Heap) : CXT := fun outer H s E x s' => ∃ e cls H' B a0, x = .ref e ∧ Flown P w base outer H s s' e cls H' B a0 ∧ E cls none H'
section
variable {P : Program} {w : World} {base : Heap} {outer : List Env} {H H' : Hp} {s s' : Shared} {e : Addr} {cls : Value} {B : Heap} {a0 : Value}
theorem Flown.un (F : Flown P w base outer H s s' e cls H' B a0) (hf : ∀ b ∈ frs outer, H b = none) {h5 : Heap} (st : B.StaysIn h5)
    (sl : ∀ b o, s.heap.get? b = some o → H b = none → b ∈ frs outer → ∃ sl, h5.get? b = some { o with slots := sl }) : Un (frs outer) [] H H' s.heap h5 where
  keep := fun b o q n hb _ => st b o (F.keep b o q n hb)
  slot := fun b o q n hb _ => sl b o q n hb
  free := fun b o q n _ => F.free b o q n
  there := fun b o q _ => by
    by_cases hb : b ∈ frs outer
    · obtain ⟨z, r⟩ := sl b o q (hf b hb) hb
      exact ⟨_, r⟩
    · obtain ⟨o', r⟩ := F.there b o q hb
      exact ⟨o', st _ _ r⟩
  tups := F.tups
  frzs := F.frzs
  tbls := F.tbls
theorem Flown.slots (F : Flown P w base outer H s s' e cls H' B a0) (fu : s.heap.FunFrames base outer) {h5 : Heap} (up : s'.heap.UpToSlots h5) :
    ∀ b o, s.heap.get? b = some o → H b = none → b ∈ frs outer → ∃ sl, h5.get? b = some { o with slots := sl } := fun b o q n hb => by
  obtain ⟨z, r⟩ := F.slot b o q n hb
  obtain ⟨_, o2, q2, nf⟩ := fu.mem hb
  rw [q] at q2
  cases q2
  obtain ⟨z2, r2⟩ := up b _ r fun vs => nf vs
  exact ⟨z2, r2⟩
end
section
variable {X : Cx} {pins : List (Addr × Obj)} {σ : St} {H : Hp} {s : Shared}
theorem Inv.hide (I : Inv X pins σ H s) : HOk X.prog X.w H (PySem.W.hideAll s.heap (frs X.stack)) := fun a o q =>
  (I.hok a o q).stay (fun b u hb r => PySem.W.hideAll_get _ r fun hm => by
    have n := I.stkFree b hm
    rcases hb with z | z
    · rw [z, q] at n; cases n
    · rw [z] at n; cases n) (fun _ z => z) fun _ _ z => z
end
section
variable {P : Program} {w : World} {K : PySem.W.Frag} {mg : Str → Option Value} {base : Heap} {N : List Str} {qual : Str} {scope : Scope} {f : Addr} {cd : Value} {A : Around} {outer : List Env} {s : Shared} {H : Hp} {E : XK}
abbrev cxR (P : Program) (w : World) (K : PySem.W.Frag) (mg : Str → Option Value) (base : Heap) (N : List Str) (qual : Str) (scope : Scope) (f : Addr) (cd : Value) (A : Around) (outer : List Env) (s : Shared) (H : Hp) (E : XK) : Cx :=
  cxOf (CXr P w base) P w K mg base N qual scope f cd A outer s H E
theorem frs_in {pins : List (Addr × Obj)} {σ : St} {H1 : Hp} {s1 : Shared} (I : Inv (cxR P w K mg base N qual scope f cd A outer s H E) pins σ H1 s1) {b : Addr} (hb : b < s.heap.objs.size) (n : b ∉ frs outer) :
    b ∉ frs (cxR P w K mg base N qual scope f cd A outer s H E).stack := fun z => by
  rcases List.mem_cons.mp (I.stkSub b z) with q | q
  · have q' : b = s.heap.objs.size := q
    exact absurd hb (by rw [q']; exact Nat.lt_irrefl _)
  · exact n q
theorem xe_made {pins : List (Addr × Obj)} {σ : St} {H1 : Hp} {s1 : Shared} {e : Addr} {cls : Value} {args : List Value} {h' : Heap} (I : Inv (cxR P w K mg base N qual scope f cd A outer s H E) pins σ H1 s1)
    (hx : Heap.MadeExcOf s1.heap h' e cls args) (hE : E cls none H1) : (cxR P w K mg base N qual scope f cd A outer s H E).xe (.ref e) { s1 with heap := h' } := by
  show wpAny (model P w) (A.deeper (envOfC qual scope s.heap.objs.size f cd)) (leaving (envOfC qual scope s.heap.objs.size f cd) (.ref e)) _ _ _
  have fun1 := I.stack
  refine leavesC_made (B := PySem.W.hideAll s1.heap (frs (cxR P w K mg base N qual scope f cd A outer s H E).stack)) (h := s1.heap) I.ok.frames rfl (fun b o q => PySem.W.of_hideAll _ q)
    (PySem.W.funFrames_hide fun1 fun env he b hb => List.mem_filterMap.mpr ⟨env, he, hb⟩) hx fun h2 t fl cn up => ?_
  have inB : ∀ b o, s1.heap.get? b = some o → b ∉ frs (cxR P w K mg base N qual scope f cd A outer s H E).stack → (PySem.W.hideAll s1.heap (frs (cxR P w K mg base N qual scope f cd A outer s H E).stack)).get? b = some o := fun b o q n => PySem.W.hideAll_get _ q n
  refine ⟨e, cls, H1, _, _, rfl, ⟨I.os, I.bare, fl, cn, I.hide, fun b o q => inB b o (I.bk b o q) fun hm => ?_, ?_, fun b o q n hb => ?_, fun b o q n hb => ?_, fun b o q n => I.base.free b o q n (by intro z; cases z), fun b o q hb => ?_, I.base.tups, I.base.frzs, I.base.tbls⟩, hE⟩
  · have z : base.get? b = none := (fun1.mem hm).1
    rw [q] at z; cases z
  · cases q : H1 e with
    | none => rfl
    | some u =>
      obtain ⟨ob, z⟩ := (I.hok e u q).ob
      rw [hx.new] at z; cases z
  · exact inB b o (I.base.keep b o q n hb (by intro z; cases z)) (frs_in I (Heap.lt_size q) hb)
  · obtain ⟨sl, r⟩ := I.base.slot b o q n hb (by intro z; cases z)
    obtain ⟨_, o2, q2, nf⟩ := I.ok.funs.mem hb
    have q3 : s.heap.get? b = some o2 := q2
    rw [q] at q3
    cases q3
    obtain ⟨sl2, r2⟩ := up b _ (hx.keeps _ _ r) fun vs => nf vs
    exact ⟨sl2, r2⟩
  · obtain ⟨o', r⟩ := I.base.there b o q (by intro z; cases z)
    exact ⟨o', inB b o' r (frs_in I (Heap.lt_size q) hb)⟩
theorem passR : Passes (CXr P w base) (cxR P w K mg base N qual scope f cd A outer s H E) E := by
  intro pins σ H1 s1 x s' I h
  obtain ⟨e, cls, H2, B, a0, rfl, F, hE⟩ := h
  show wpAny (model P w) (A.deeper (envOfC qual scope s.heap.objs.size f cd)) (leaving (envOfC qual scope s.heap.objs.size f cd) (.ref e)) _ _ _
  obtain ⟨f1, f2, f3, f4⟩ := F.fly
  refine leavesC I.ok.frames rfl f1 f2 f3 f4.at F.ctx fun h2 fl cn up => ⟨e, cls, H2, B, a0, rfl, ⟨F.os.trans I.os, F.bare, fl, cn, F.hok, F.bst, F.noe, fun b o q n hb => ?_, fun b o q n hb => ?_, fun b o q n => ?_, fun b o q hb => ?_, fun b xs q => F.tups b xs (I.base.tups b xs q), fun b o u q => F.frzs b o u (I.base.frzs b o u q), fun b ps q => ?_⟩, hE⟩
  · exact F.keep b o (I.base.keep b o q n hb (by intro z; cases z)) (I.base.free b o q n (by intro z; cases z)) (frs_in I (Heap.lt_size q) hb)
  · obtain ⟨sl, r⟩ := I.base.slot b o q n hb (by intro z; cases z)
    have hb2 : b ∈ frs (cxR P w K mg base N qual scope f cd A outer s H E).stack := by
      show b ∈ (envOfC qual scope s.heap.objs.size f cd :: outer).filterMap (·.frame)
      rw [List.filterMap_cons]
      exact List.mem_cons_of_mem _ hb
    obtain ⟨sl2, r2⟩ := F.slot b _ r (I.base.free b o q n (by intro z; cases z)) hb2
    obtain ⟨_, o2, q2, nf⟩ := I.ok.funs.mem hb
    have q3 : s.heap.get? b = some o2 := q2
    rw [q] at q3
    cases q3
    obtain ⟨sl3, r3⟩ := up b _ r2 fun vs => nf vs
    exact ⟨sl3, r3⟩
  · obtain ⟨o1, r⟩ := I.base.there b o q (by intro z; cases z)
    exact F.free b o1 r (I.base.free b o q n (by intro z; cases z))
  · obtain ⟨o1, r⟩ := I.base.there b o q (by intro z; cases z)
    exact F.there b o1 r (frs_in I (Heap.lt_size q) hb)
  · obtain ⟨m1, e1⟩ := I.base.tbls b ps q
    obtain ⟨m2, e2⟩ := F.tbls b _ e1
    exact ⟨m1 ++ m2, by rw [e2, Array.append_assoc]⟩
theorem Fun.okR {x : Str} {st : Stmt} {fd : FuncData} {ps : List Str} {k : Nat} {sp : Sp} {f : Addr} (F : Fun K x qual st f fd) (S : FnScope N ps (defScope st)) (len : ∀ vs H Q E, sp vs H Q E → vs.length = ps.length)
    (hbody : ∀ (cdv : Value) (A : Around) (outer : List Env) (s : Shared) (H : Hp) (vs : List V) (Q : VK) (E : XK), Room k (A.deeper (envOfC qual (defScope st) s.heap.objs.size f cdv)) → sp vs H Q E →
      ∃ t, PSs (cxR P w K mg base N qual (defScope st) f cdv A outer s H E) (defBody st) t ∧ t { nx := fun _ H' => Q .non H', rt := Q } (start N vs) H) : FnOk P w K mg base (CXr P w base) (k + 1) f fd ps sp := by
  obtain ⟨oc, od, kV, doc, pm, an, cdv, ct, osl, rfl, lk, hcd⟩ := F.ex
  exact fn_of lk hcd S len fun A outer s H vs Q E hr hsp => hbody cdv A outer s H vs Q E hr hsp
end
def bmV : List Value := [.type "ValueError", .type "Exception", .type "BaseException", .type "object"]
structure ExC (K : PySem.W.Frag) (mg : Str → Option Value) (x : Str) (C : Addr) : Prop where
  bound : mg x = some (.ref C)
  q : PySem.W.excIn K C bmV "ValueError.__new__" = true
theorem exc_obj {K : PySem.W.Frag} {h : Heap} {C : Addr} {bmB : List Value} {newId : String} (X : K.In h) (q : PySem.W.excIn K C bmB newId = true) :
    ∃ bm N nm q bs hdct sn sub ab col dd k0 k1 k2 k3 k5 mN, h.get? C = some (excClassObj nm q C N bs bm hdct sn sub ab col dd k0 k1 k2 k3 k5 newId) ∧ h.Ns N mN ∧ mN "__init__" = none ∧ OwnTail h bmB bm ∧
      ∃ cd : ClassData, PySem.W.clsIn K C = some cd ∧ cd.mro = .ref C :: bm := by
  unfold PySem.W.excIn at q
  split at q
  · rename_i dd cd sl ho
    split at q
    · rename_i C' bm k0 k1 k2 k3 n k5 hm hs
      simp only [Bool.and_eq_true, beq_iff_eq, Bool.not_eq_true'] at q
      obtain ⟨⟨⟨⟨⟨rfl, rfl⟩, hdel⟩, ht⟩, hok⟩, hni⟩ := q
      have hcl : PySem.W.clsIn K C' = some cd := by unfold PySem.W.clsIn; rw [ho]
      have hm0 := hm
      obtain ⟨nm, bs, mro, ns, qn, hd, sn, sub, ab, col, del⟩ := cd
      dsimp only at hm hdel hok hni
      subst hm hdel
      have hsl : sl = #[k0, k1, k2, k3, some (.builtin n), k5] := by
        obtain ⟨l⟩ := sl
        simp only at hs
        rw [hs]
      subst hsl
      exact ⟨bm, ns, nm, qn, bs, hd, sn, sub, ab, col, dd, k0, k1, k2, k3, k5, _, X _ _ ho, .of_isNs (PySem.W.isNs_of_in X hok), PySem.W.nsMap_none_of_in X hok hni, PySem.W.tail_of_in X ht, _, hcl, hm0⟩
    · cases q
  · cases q
end L2
set_option Elab.async false
set_option linter.all false
set_option maxRecDepth 100000
set_option maxHeartbeats 4000000
namespace L2
open PySem PySem.Spec PyProof.Rows
def tRaise (E : XK) (C : Value) (t : TA) : TS := fun _ σ H => t σ H fun vs H1 => vs.length ≤ sizeLine ∧ E C none H1
def Made (X : Cx) (E : XK) (C : Value) : Prop := ∀ (pins : List (Addr × Obj)) (σ : St) (H1 : Hp) (s1 : Shared) (e : Addr) (args : List Value) (h' : Heap), Inv X pins σ H1 s1 → Heap.MadeExcOf s1.heap h' e C args → E C none H1 → X.xe (.ref e) { s1 with heap := h' }
theorem madeR {P : Program} {w : World} {K : PySem.W.Frag} {mg : Str → Option Value} {base : Heap} {N : List Str} {qual : Str} {scope : Scope} {f : Addr} {cd : Value} {A : Around} {outer : List Env} {s : Shared} {H : Hp} {E : XK} {C : Value} :
    Made (cxR P w K mg base N qual scope f cd A outer s H E) E C := fun _ _ _ _ _ _ _ I hx hE => xe_made I hx hE
section
variable {X : Cx} {x : Str} {C : Addr} {E : XK} {e : Expr} {es : List Expr} {t : TA} {np cpos pos : Pos}
theorem ps_raise (hX : Made X E (.ref C)) (hc : X.calm = true) (T : ExC X.K X.mg x C) (hg : Gl X x) (ha : PA X (e :: es) t) (hd : (x == ("__debug__" : Str)) = false := by decide)
    (he : starEach (e :: es) X.env = (false, eval e X.env) :: starEach es X.env := by rfl) (hpl : (backTo cpos (starEach es X.env)).any (·.1) = false := by rfl) :
    PS X (.Raise (some (.Call (.Name x np) (e :: es) [] cpos)) none pos) (tRaise E (.ref C) t) := by
  intro pins s σ H D I h
  obtain ⟨tl, N, nm, q, bs, hdct, sn, sub, ab, col, dd, k0, k1, k2, k3, k5, mN, hC, hN, hni, TL, _⟩ := exc_obj I.mod.kin T.q
  refine wpAny_Raise_call_subT (C := C) (nm := nm) (q := q) (N := N) (bs := bs) (bm := tl) (hdct := hdct) (sn := sn) (sub := sub) (ab := ab) (col := col) (dd := dd) (k0 := k0) (k1 := k1) (k2 := k2) (k3 := k3) (k5 := k5)
    PySem.F.excBase_ValueError (mN := mN) (TL.hasType PySem.F.excBase_ValueError.hasBase) (I.ok.hd hc) ?_ hni (ld_glob I hg T.bound ⟨rfl, ?_⟩ hd)
  · rw [he]
    show (false || (backTo cpos (starEach es X.env)).any (·.1)) = false
    rw [hpl]; rfl
  · have a := ha cpos pins s σ H _ I h
    rw [he] at a ⊢
    refine Calls.evalArgs_plain (thn a fun us s2 ⟨vs, H2, I2, r, hz, hE⟩ => ⟨rfl, by rw [← r.length]; exact hz, I2.bk _ _ hC, hN.keeps I2.bk, TL.keeps I2.bk, fun h' e' hm => hX pins σ H2 s2 e' us h' I2 hm hE⟩)
end
abbrev Cx.suite (X : Cx) (e : Addr) : Cx := { X with A := X.A.mark (some (.ref e)), calm := false, xe := fun _ _ => False }
theorem Inv.suite {X : Cx} {pins : List (Addr × Obj)} {σ : St} {H : Hp} {s : Shared} (I : Inv X pins σ H s) (e : Addr) : Inv (X.suite e) pins σ H s :=
  ⟨⟨I.ok.mod, I.ok.kind, I.ok.glob, I.ok.blt, I.ok.above, I.ok.inj, I.ok.has, I.ok.cab, fun z => (by cases z), I.ok.frames, I.ok.stk, I.ok.exf, I.ok.bs, I.ok.bsz, I.ok.noex, I.ok.exfs, I.ok.funs, I.ok.frf⟩, I.os, I.bare, I.base, I.loc, I.cell, I.free, I.freeC, I.pin, I.hok, I.len⟩
theorem Inv.unsuite {X : Cx} {pins : List (Addr × Obj)} {σ : St} {H : Hp} {s : Shared} {e : Addr} (ok : X.Ok) (I : Inv (X.suite e) pins σ H s) : Inv X pins σ H s :=
  ⟨ok, I.os, I.bare, I.base, I.loc, I.cell, I.free, I.freeC, I.pin, I.hok, I.len⟩
theorem SP.unsuite {X : Cx} {pins : List (Addr × Obj)} {D : Ends} {f : Flow} {s : Shared} {e : Addr} (ok : X.Ok) (h : SP (X.suite e) pins D f s) : SP X pins D f s := by
  cases f with
  | next => obtain ⟨σ, H, I, q⟩ := h; exact ⟨σ, H, I.unsuite ok, q⟩
  | brk => obtain ⟨σ, H, I, q⟩ := h; exact ⟨σ, H, I.unsuite ok, q⟩
  | cont => obtain ⟨σ, H, I, q⟩ := h; exact ⟨σ, H, I.unsuite ok, q⟩
  | ret u => obtain ⟨v, σ, H, I, r, q⟩ := h; exact ⟨v, σ, H, I.unsuite ok, r, q⟩
theorem matches_own {M : Model} {A : Around} {E : Value → Shared → Prop} {K : PySem.W.Frag} {s : Shared} {e C D : Addr} {oe : Obj} {Q : Bool → Shared → Prop} (X : K.In s.heap)
    (qC : PySem.W.excIn K C bmV "ValueError.__new__" = true) (qD : PySem.W.excIn K D bmV "ValueError.__new__" = true) (he : s.heap.get? e = some oe) (hcls : oe.cls = .ref C) (hs : PySem.W.mroIn K C (.ref D) = some true)
    (hq : Q true s) : wpAny M A (excMatches (.ref e) (.ref D)) Q E s := by
  obtain ⟨h, g, d, t, os⟩ := s
  obtain ⟨bm, N, nm, q, bs, hdct, sn, sub, ab, col, dd, k0, k1, k2, k3, k5, mN, hC, hN, hni, TL, cd, hcd, hm⟩ := exc_obj X qC
  obtain ⟨bm', N', nm', q', bs', hdct', sn', sub', ab', col', dd', j0, j1, j2, j3, j5, mN', hD, hN', hni', TL', cd', hcd', hm'⟩ := exc_obj X qD
  have hcB : (Value.ref D :: bm').contains (.type "BaseException") = true := by rw [List.contains_cons, TL'.hasType PySem.F.excBase_ValueError.hasBase, Bool.or_true]
  have hcC : (Value.ref C :: bm).contains (.ref D) = true := by
    unfold PySem.W.mroIn at hs
    rw [hcd] at hs
    dsimp only [Option.bind] at hs
    rw [hm] at hs
    simpa using hs
  have f := tc_notTuple
  unfold excMatches
  repeat (first | (with_reducible refine wpAny_loadPart_at he ?_; rw [hcls]) | with_reducible refine wpAny_loadPart_at hD ?_ | (with_reducible refine wpAny_isSubtype_exc hD ?_; rw [hcB]) | (with_reducible refine wpAny_isSubtype_exc hC ?_; rw [hcC]) | wp_step)
  exact hq
theorem Inv.track {X : Cx} {pins : List (Addr × Obj)} {σ : St} {H : Hp} {s : Shared} {e : Addr} {u : HO} (I : Inv X pins σ H s) (hn : H e = none) (hnew : ∀ b o, X.s₀.heap.get? b = some o → X.H₀ b = none → b ∉ X.ex → b ≠ e) (hL : X.env.locals ≠ e)
    (hc : ∀ x c, X.env.cells.lookup x = some c → c ≠ e) (hp : ∀ p ∈ X.pn ++ pins, p.1 ≠ e) (new : ObjOk X.prog X.w (upd H e u) s.heap e u) : Inv X pins σ (upd H e u) s := by
  have ne : ∀ {b : Addr} {o : HO}, H b = some o → b ≠ e := fun q => ne_of_none q hn
  refine ⟨I.ok, I.os, I.bare, ⟨I.base.keep, I.base.slot, fun b o q n hx => ?_, I.base.there, fun b xs q => ?_, fun b o v q => ?_, fun b ps q => ?_⟩, I.loc, I.cell, ?_, fun x c q => ?_, fun p q => ?_, fun b v q => ?_, I.len⟩
  · rw [upd_ne (hnew b o q n hx)]; exact I.base.free b o q n hx
  · have z := I.base.tups b xs q
    rw [upd_ne (ne z)]; exact z
  · have z := I.base.frzs b o v q
    rw [upd_ne (ne z)]; exact z
  · obtain ⟨m, z⟩ := I.base.tbls b ps q
    exact ⟨m, by rw [upd_ne (ne z)]; exact z⟩
  · rw [upd_ne hL]; exact I.free
  · rw [upd_ne (hc x c q)]; exact I.freeC x c q
  · obtain ⟨a, b, c⟩ := I.pin p q
    exact ⟨a, by rw [upd_ne (hp p q)]; exact b, c⟩
  · by_cases hb : b = e
    · subst hb
      rw [upd_same] at q
      cases q
      exact new
    · rw [upd_ne hb] at q
      exact (I.hok b v q).stay (fun _ _ _ r => r) (fun c z => by rw [upd_ne (ne z)]; exact z) fun c xs z => by rw [upd_ne (ne z)]; exact z
def ExP (e C : Addr) : Heap → Prop := fun h => ∃ o, h.get? e = some o ∧ o.cls = .ref C
structure Caught (X : Cx) (pins : List (Addr × Obj)) (σ : St) (H : Hp) (s : Shared) (e C : Addr) : Prop where
  inv : Inv X pins σ H s
  there : ∃ o, s.heap.get? e = some o ∧ o.cls = .ref C
  trk : Inv X pins σ (upd H e (.ext (ExP e C))) s
  noe : H e = none
section
variable {X : Cx} {pins : List (Addr × Obj)} {σ : St} {H1 H2 : Hp} {s1 s' : Shared} {e C : Addr} {B : Heap} {a0 : Value}
theorem Flown.caught (I1 : Inv X pins σ H1 s1) (F : Flown X.prog X.w X.base X.stack H1 s1 s' e (.ref C) H2 B a0) (hL : X.env.locals ∈ frs X.stack) {h5 : Heap} (fl : Heap.FlyingW B X.stack e (.ref C) a0 h5) (up : s'.heap.UpToSlots h5) :
    Caught X pins σ H2 { s' with heap := h5 } e C := by
  have I5 : Inv X pins σ H2 { s' with heap := h5 } := I1.call' (s' := { s' with heap := h5 }) (ch := []) F.os (F.un I1.stkFree fl.1 (F.slots I1.stack up)) (F.hok.kept fl.1) F.bare (fun b z => absurd z (by simp))
  obtain ⟨oe, vs, q1, q2, q3, q4⟩ := fl.first
  have nfr : ∀ b ∈ frs X.stack, b ≠ e := fun b hb z => by
    obtain ⟨_, o, ho, nf⟩ := fl.2.2.1.mem hb
    rw [z, q1] at ho
    cases ho
    exact nf vs q3
  have inB : ∀ b o, s1.heap.get? b = some o → H1 b = none → b ≠ e := fun b o q n z => by
    by_cases hb : b ∈ frs X.stack
    · exact nfr b hb z
    · have := F.keep b o q n hb
      rw [z, fl.2.1] at this; cases this
  refine ⟨I5, ⟨oe, q1, q2⟩, I5.track F.noe (fun b o q n hx => ?_) (nfr _ hL) (fun x c q => ?_) (fun p q => ?_) ⟨⟨oe, q1, q2⟩, ⟨oe, q1⟩, fun h1 h2 ⟨o, a, b⟩ k => ⟨o, k o a, b⟩⟩, F.noe⟩
  · by_cases hb : b ∈ X.fs
    · refine nfr b ?_
      rcases I1.ok.stk with z | ⟨z, _⟩
      · rw [z]; exact hb
      · rw [z]
        show b ∈ (X.env :: X.outer).filterMap (·.frame)
        rw [List.filterMap_cons]
        split
        · exact hb
        · exact List.mem_cons_of_mem _ hb
    · exact inB b o (I1.base.keep b o q n hb hx) (I1.base.free b o q n hx)
  · obtain ⟨v, o, q5, _⟩ := I1.cell x c q
    exact inB c o q5 (I1.freeC x c q)
  · obtain ⟨a, b, _⟩ := I1.pin p q
    exact inB p.1 p.2 a b
end
section
variable {X : Cx} {k : Nat} {g x n : Str} {ps : List Str} {sp : Sp} {p np cpos epos hpos pos : Pos} {e : Expr} {es : List Expr} {t : TA} {ts : TS} {D : Addr} {b₀ : Stmt} {suite : List Stmt} {i : Nat}
theorem call_try {pins : List (Addr × Obj)} {σ : St} {H : Hp} {s : Shared} {Q : VK} {E : XK} {E' : Value → Shared → Prop} (G : Fn X.prog X.w X.K X.mg X.base (CXr X.prog X.w X.base) g k ps sp) (hr : Room k X.A) (hg : Gl X g) (ha : ∀ E', PA (X.wish E') (e :: es) t)
    (I : Inv X pins σ H s) (h : t σ H fun vs H1 => sp vs H1 Q E)
    (hE : ∀ s1 s' H1 e' cls H2 B a0, Inv X pins σ H1 s1 → Flown X.prog X.w X.base X.stack H1 s1 s' e' cls H2 B a0 → E cls none H2 → E' (.ref e') s')
    (hdb : (g == ("__debug__" : Str)) = false := by decide) (he : starEach (e :: es) X.env = (false, eval e X.env) :: starEach es X.env := by rfl) (hpl : (backTo cpos (starEach es X.env)).any (·.1) = false := by rfl) :
    wpAny (model X.prog X.w) X.A (eval (.Call (.Name g p) (e :: es) [] cpos) X.env) (EP X pins σ Q) E' s := by
  obtain ⟨f, fd, F, hm, hk, hb⟩ := G
  refine wpAny_Call_Name_kw (ld_glob I hg hm ?_ hdb)
  refine PySem.W.callWith_K (h₀ := X.base) I.ok.mod.kin hk (thn (ha E' cpos pins s σ H _ (I.wish E') h) fun us s1 ⟨vs, H1, I1, r, q⟩ => ⟨I1.kIn, ?_⟩) he hpl
  have I1' : Inv X pins σ H1 s1 := I1.unwish
  have hl : (us ++ []).length = ps.length := by rw [List.append_nil, ← r.length]; exact F.len _ _ _ _ q
  have hb1 := hb s1 us I1'.kIn hl
  rw [List.append_nil] at hb1
  refine wpAny_call (codeAny_mono (F.run X.A X.stack s1 H1 ⟨us, []⟩ us vs _ _ hr I1'.env0 hb1 r q) fun r' s' hq => ?_)
  cases r' with
  | error ev =>
    obtain ⟨e', cls, H2, B, a0, rfl, FL, hcl⟩ := hq
    exact hE s1 s' H1 e' cls H2 B a0 I1' FL hcl
  | ok fl =>
    cases fl with
    | ret u => exact I1'.after hq
    | next => exact False.elim hq
    | brk => exact False.elim hq
    | cont => exact False.elim hq
end
end L2
set_option Elab.async false
set_option linter.all false
set_option maxRecDepth 100000
set_option maxHeartbeats 4000000
namespace L2
open PySem PySem.Spec PyProof.Rows
section
variable {prog : Program} {w : World} {A : Around} {E : Value → Shared → Prop} {s : Shared}
theorem nextT_item {it t : Addr} {i : Nat} {items : Array Value} {x : Value} {Q : Value → Shared → Prop} (hit : s.heap.IsTupleIter it t i) (ht : s.heap.IsTuple t items) (hx : items[i]? = some x)
    (hQ : ∀ h', h'.IsTupleIter it t (i + 1) → Heap.SameBut it s.heap h' → Q x { s with heap := h' }) : wpAny (model prog w) A (Builtin.SmallTypes.nextOf (.ref it)) Q E s := by
  obtain ⟨o, p1, p2, p3⟩ := id hit
  obtain ⟨u, r1, r2, r3, r4⟩ := ht
  unfold Builtin.SmallTypes.nextOf
  refine wpAny_bind (wpAny_callSpecial?_slot (name := Str.ofString "__next__") hit.typeIs F.slot_tuple_iterator_next (wpAny_call_entry F.slot_tuple_iterator_next hit.typeIs F.entry_tuple_iterator_next ?_ (F.args_tuple_iterator_next_1 _)))
  show wpAny _ _ (field (.ref it) 0 >>= _) _ _ s
  refine wpAny_bind (wpAny_field p1 p3 (x := .ref t) rfl ?_)
  show wpAny _ _ (if (Value.ref t == Value.none) = true then _ else _) _ _ s
  rw [if_neg (fun z => by cases z)]
  show wpAny _ _ (field (.ref it) 1 >>= _) _ _ s
  refine wpAny_bind (wpAny_field p1 p3 (x := .int i 0) rfl ?_)
  show wpAny _ _ (seqItems? (.ref t) >>= _) _ _ s
  refine wpAny_bind (wpAny_seqItems r1 r4 ?_)
  simp only [Int.toNat_natCast, hx]
  refine wpAny_bind (wpAny_setField p1 p3 (by simp) (wpAny_pure ⟨x, rfl, wpAny_pure (hQ _ ⟨_, Heap.get?_update_self _ p1 (Obj.isFreed_of_fields (Obj.data_mapFields p3 _)), (Obj.cls_mapFields ..).trans p2, ?_⟩ (Heap.SameBut.update ..))⟩))
  rw [Obj.data_mapFields p3]
  simp [rawInt]
theorem nextT_end {it t : Addr} {i : Nat} {items : Array Value} {Q : Value → Shared → Prop} (hh : A.handled = none) (hit : s.heap.IsTupleIter it t i) (ht : s.heap.IsTuple t items) (hx : items[i]? = none)
    (hE : ∀ h' e, Heap.ExtBut it s.heap h' → (∃ o, h'.get? e = some o ∧ o.cls = .type "StopIteration") → E (.ref e) { s with heap := h' }) : wpAny (model prog w) A (Builtin.SmallTypes.nextOf (.ref it)) Q E s := by
  obtain ⟨o, p1, p2, p3⟩ := id hit
  obtain ⟨u, r1, r2, r3, r4⟩ := ht
  unfold Builtin.SmallTypes.nextOf
  refine wpAny_bind (wpAny_callSpecial?_slot (name := Str.ofString "__next__") hit.typeIs F.slot_tuple_iterator_next (wpAny_call_entry F.slot_tuple_iterator_next hit.typeIs F.entry_tuple_iterator_next ?_ (F.args_tuple_iterator_next_1 _)))
  show wpAny _ _ (field (.ref it) 0 >>= _) _ _ s
  refine wpAny_bind (wpAny_field p1 p3 (x := .ref t) rfl ?_)
  show wpAny _ _ (if (Value.ref t == Value.none) = true then _ else _) _ _ s
  rw [if_neg (fun z => by cases z)]
  show wpAny _ _ (field (.ref it) 1 >>= _) _ _ s
  refine wpAny_bind (wpAny_field p1 p3 (x := .int i 0) rfl ?_)
  show wpAny _ _ (seqItems? (.ref t) >>= _) _ _ s
  refine wpAny_bind (wpAny_seqItems r1 r4 ?_)
  simp only [Int.toNat_natCast, hx]
  refine wpAny_bind (wpAny_rule (wpAny_bind (wpAny_setField p1 p3 (by simp) ?_)))
  show wpAny _ _ (newExc (.type "StopIteration") [] >>= _) _ _ _
  refine wpAny_bind ?_
  simp only [newExc, newTuple]
  refine wpAny_bind (wpAny_newObj_type ?_ (by size_fits))
  refine wpAny_bind (m := firstArgMember _ _) (wpAny_of_eq (a := Value.none) (by first | rfl | (simp only [firstArgMember]; rfl)) ?_)
  refine wpAny_newObj_type ?_ (by size_fits)
  simp only [raiseNew]
  refine wpAny_bind (wpAny_handled ?_)
  first | rw [show A.in1.handled = none from hh] | rw [hh]
  exact wpAny_bind (wpAny_pure (wpAny_throw (hE _ _ (((Heap.SameBut.update ..).extBut.push _).push _) ⟨_, Heap.get?_push_size _ rfl, rfl⟩)))
end
def SqB (b : Bool) (h : Heap) (a : Addr) (xs : Array Value) : Prop := if b = true then h.IsTuple a xs else h.IsList a xs
def ItB (b : Bool) (h : Heap) (it a : Addr) (k : Nat) : Prop := if b = true then h.IsTupleIter it a k else h.IsListIter it a k
def itObj (b : Bool) (a : Addr) : Obj := if b = true then { cls := .type "tuple_iterator", data := .fields #[.ref a, .int 0 0] } else { cls := .type "list_iterator", data := .fields #[.ref a, .int 0 0] }
theorem ItB.at {b : Bool} {h h' : Heap} {it a : Addr} {k : Nat} (x : ItB b h it a k) (f : ∀ o, h.get? it = some o → h'.get? it = some o) : ItB b h' it a k := by
  cases b with
  | true => exact Heap.IsTupleIter.at (show h.IsTupleIter it a k from x) f
  | false => exact Heap.IsListIter.at (show h.IsListIter it a k from x) f
theorem ItB.ob {b : Bool} {h : Heap} {it a : Addr} {k : Nat} (x : ItB b h it a k) : ∃ o, h.get? it = some o ∧ ∀ v, o.data ≠ .cell v := by
  cases b with
  | true => obtain ⟨o, e, c, d⟩ := (show h.IsTupleIter it a k from x); exact ⟨o, e, fun v z => by rw [d] at z; cases z⟩
  | false => obtain ⟨o, e, c, d⟩ := (show h.IsListIter it a k from x); exact ⟨o, e, fun v z => by rw [d] at z; cases z⟩
theorem ItB.new {b : Bool} {h : Heap} {it a : Addr} (e : h.get? it = some (itObj b a)) : ItB b h it a 0 := by
  cases b with
  | true => exact ⟨_, e, rfl, rfl⟩
  | false => exact ⟨_, e, rfl, rfl⟩
theorem SqB.at {b : Bool} {h h' : Heap} {a : Addr} {xs : Array Value} (x : SqB b h a xs) (f : ∀ o, h.get? a = some o → h'.get? a = some o) : SqB b h' a xs := by
  cases b with
  | true => obtain ⟨o, e, r⟩ := (show h.IsTuple a xs from x); exact ⟨o, f o e, r⟩
  | false => obtain ⟨o, e, r⟩ := (show h.IsList a xs from x); exact ⟨o, f o e, r⟩
section
variable {prog : Program} {w : World} {A : Around} {E : Value → Shared → Prop} {s : Shared}
theorem nextB_item {b : Bool} {it a : Addr} {k : Nat} {xs : Array Value} {x : Value} {Q : Value → Shared → Prop} (hi : ItB b s.heap it a k) (hs : SqB b s.heap a xs) (hx : xs[k]? = some x)
    (hQ : ∀ h', ItB b h' it a (k + 1) → Heap.SameBut it s.heap h' → Q x { s with heap := h' }) : wpAny (model prog w) A (Builtin.SmallTypes.nextOf (.ref it)) Q E s := by
  cases b with
  | true => exact nextT_item hi hs hx fun h' i' sb => hQ h' i' sb
  | false => exact wpAny_nextOf_list_item hi hs hx fun h' i' sb => hQ h' i' sb
theorem nextB_end {b : Bool} {it a : Addr} {k : Nat} {xs : Array Value} {Q : Value → Shared → Prop} (hh : A.handled = none) (hi : ItB b s.heap it a k) (hs : SqB b s.heap a xs) (hx : xs[k]? = none)
    (hE : ∀ h' e, Heap.ExtBut it s.heap h' → (∃ o, h'.get? e = some o ∧ o.cls = .type "StopIteration") → E (.ref e) { s with heap := h' }) : wpAny (model prog w) A (Builtin.SmallTypes.nextOf (.ref it)) Q E s := by
  cases b with
  | true => exact nextT_end hh hi hs hx hE
  | false => exact wpAny_nextOf_list_end hh hi hs hx hE
theorem iterB {b : Bool} {a : Addr} {xs : Array Value} {Q : Value → Shared → Prop} (hs : SqB b s.heap a xs) (hQ : Q (.ref s.heap.objs.size) { s with heap := s.heap.push (itObj b a) }) : wpAny (model prog w) A (pyIter (.ref a)) Q E s := by
  cases b with
  | true => exact wpAny_pyIter_tuple hs hQ
  | false => exact wpAny_pyIter_list hs hQ
structure Apz (z TI TO i1 i2 : Addr) : Prop where
  a1 : TI ≠ z
  a2 : TO ≠ z
  a3 : i1 ≠ z
  a4 : i2 ≠ z
  a5 : TI ≠ TO
  a6 : TI ≠ i1
  a7 : TI ≠ i2
  a8 : TO ≠ i1
  a9 : TO ≠ i2
  b1 : i1 ≠ i2
theorem zip_item {b1 b2 : Bool} {z TI TO i1 i2 l1 l2 : Addr} {k : Nat} {xs ys : Array Value} {x y a b : Value} {Q : Option Value → Shared → Prop} (D : Apz z TI TO i1 i2)
    (hz : IsZip s.heap z TI TO .none) (hTI : IsPair s.heap TI (.ref i1) (.ref i2)) (hTO : IsPair s.heap TO a b) (h1 : ItB b1 s.heap i1 l1 k) (h2 : ItB b2 s.heap i2 l2 k) (hl1 : SqB b1 s.heap l1 xs) (hl2 : SqB b2 s.heap l2 ys)
    (n1 : ∀ c ∈ [z, TO, i1, i2], l1 ≠ c ∧ l2 ≠ c) (hx : xs[k]? = some x) (hy : ys[k]? = some y)
    (hQ : ∀ h', IsZip h' z TI TO (rawInt s.heap.objs.size) → IsPair h' TO x y → ItB b1 h' i1 l1 (k + 1) → ItB b2 h' i2 l2 (k + 1) → IsPair h' s.heap.objs.size x y → h'.objs.size = s.heap.objs.size + 1 →
      (∀ c o, c ≠ z → c ≠ TO → c ≠ i1 → c ≠ i2 → s.heap.get? c = some o → h'.get? c = some o) → Q (some (.ref s.heap.objs.size)) { s with heap := h' }) :
    wpAny (model prog w) A (pyNext (.ref z)) Q E s := by
  have hT : s.TypeIs (.ref z) "zip" := ⟨_, hz, rfl⟩
  have m1 := n1 z (by simp)
  have m2 := n1 TO (by simp)
  have m3 := n1 i1 (by simp)
  have m4 := n1 i2 (by simp)
  unfold pyNext
  refine wpAny_bind (wpAny_attempt (wpAny_callSpecial?_slot (name := Str.ofString "__next__") hT F.slot_zip_next (wpAny_call_entry F.slot_zip_next hT F.entry_zip_next (?_ : wpAny _ _ (Builtin.«zip.__next__» ⟨[.ref z], []⟩) _ _ s) (F.args_zip_next_1 _))))
  show wpAny _ _ (field (.ref z) 2 >>= _) _ _ _
  refine wpAny_bind (wpAny_field hz rfl (x := .bool false) rfl ?_)
  show wpAny _ _ (field (.ref z) 3 >>= _) _ _ _
  refine wpAny_bind (wpAny_field hz rfl (x := .ref TI) rfl (wpAny_bind (wpAny_seqItems hTI rfl ?_)))
  show wpAny _ _ (Builtin.SmallTypes.ownedTupleIsFree (.ref z) >>= _) _ _ _
  refine wpAny_bind ?_
  unfold Builtin.SmallTypes.ownedTupleIsFree
  refine wpAny_bind (wpAny_field hz rfl (x := .none) rfl (wpAny_pure ?_))
  simp only [if_true]
  refine wpAny_bind (wpAny_rule (wpAny_bind (wpAny_field hz rfl (x := .ref TO) rfl (wpAny_bind (wpAny_setField_rec hz (by simp) fun g1 z1 s1 => ?_)))))
  replace z1 : IsZip g1 z TI TO .ellipsis := z1
  refine wpAny_bind ?_
  simp only [List.zipIdx_cons, List.zipIdx_nil, List.forIn_cons, List.forIn_nil]
  refine wpAny_bind (wpAny_bind (wpAny_onRaise ?_))
  show wpAny _ _ (Builtin.SmallTypes.nextOf (.ref i1) >>= _) _ _ _
  refine wpAny_bind (nextB_item (h1.at fun o q => s1.extBut _ _ D.a3 q) (hl1.at fun o q => s1.extBut _ _ m1.1 q) hx fun g2 j1 s2 => wpAny_pure ?_)
  have t2 : IsPair g2 TO a b := s2.extBut _ _ D.a8 (s1.extBut _ _ D.a2 hTO)
  refine wpAny_bind (wpAny_seqItems t2 rfl (wpAny_bind (wpAny_updateSeq_pair t2 fun g3 t3 s3 => wpAny_bind (wpAny_letGo (wpAny_pure ?_)))))
  replace t3 : IsPair g3 TO x b := t3
  refine wpAny_bind (wpAny_bind (wpAny_onRaise ?_))
  show wpAny _ _ (Builtin.SmallTypes.nextOf (.ref i2) >>= _) _ _ _
  refine wpAny_bind (nextB_item (h2.at fun o q => s3.extBut _ _ D.a9.symm (s2.extBut _ _ D.b1.symm (s1.extBut _ _ D.a4 q))) (hl2.at fun o q => s3.extBut _ _ m2.2 (s2.extBut _ _ m3.2 (s1.extBut _ _ m1.2 q))) hy fun g4 j2 s4 => wpAny_pure ?_)
  have t4 : IsPair g4 TO x b := s4.extBut _ _ D.a9 t3
  refine wpAny_bind (wpAny_seqItems t4 rfl (wpAny_bind (wpAny_updateSeq_pair t4 fun g5 t5 s5 => wpAny_bind (wpAny_letGo (wpAny_pure (wpAny_pure ?_))))))
  replace t5 : IsPair g5 TO x y := t5
  refine wpAny_bind (wpAny_seqItems t5 rfl (wpAny_bind (wpAny_newTuple ?_)))
  have hsz : g5.objs.size = s.heap.objs.size := by rw [s5.1, s4.1, s3.1, s2.1, s1.1]
  have z5 : IsZip g5 z TI TO .ellipsis := s5.extBut _ _ D.a2.symm (s4.extBut _ _ D.a4.symm (s3.extBut _ _ D.a2.symm (s2.extBut _ _ D.a3.symm z1)))
  have k5 : ∀ c o, c ≠ z → c ≠ TO → c ≠ i1 → c ≠ i2 → s.heap.get? c = some o → g5.get? c = some o := fun c o c1 c2 c3 c4 q => s5.extBut _ _ c2 (s4.extBut _ _ c4 (s3.extBut _ _ c2 (s2.extBut _ _ c3 (s1.extBut _ _ c1 q))))
  have j15 : ItB b1 g5 i1 l1 (k + 1) := j1.at fun o q => s5.extBut _ _ D.a8.symm (s4.extBut _ _ D.b1 (s3.extBut _ _ D.a8.symm q))
  have j25 : ItB b2 g5 i2 l2 (k + 1) := j2.at fun o q => s5.extBut _ _ D.a9.symm q
  have zlt : z < g5.objs.size := Heap.lt_size z5
  show wpAny _ _ (Builtin.SmallTypes.ownedTupleHandOut (.ref z) (.ref g5.objs.size) >>= _) _ _ _
  refine wpAny_bind ?_
  unfold Builtin.SmallTypes.ownedTupleHandOut
  have z6 : IsZip (g5.push { cls := .type "tuple", data := .seq #[x, y] }) z TI TO .ellipsis := Heap.get?_push_of_some _ z5
  refine wpAny_bind (wpAny_setField_rec z6 (by simp) fun g7 z7 s7 => ?_)
  replace z7 : IsZip g7 z TI TO (rawInt g5.objs.size) := z7
  refine wpAny_setField_rec z7 (by simp) fun g8 z8 s8 => ?_
  replace z8 : IsZip g8 z TI TO (rawInt g5.objs.size) := z8
  have up : ∀ c o, c ≠ z → g5.get? c = some o → g8.get? c = some o := fun c o c1 q => s8.extBut _ _ c1 (s7.extBut _ _ c1 (Heap.get?_push_of_some _ q))
  have T8 : IsPair g8 g5.objs.size x y := s8.extBut _ _ (Nat.ne_of_gt zlt) (s7.extBut _ _ (Nat.ne_of_gt zlt) (Heap.get?_push_size _ rfl))
  have sz8 : g8.objs.size = g5.objs.size + 1 := by rw [s8.1, s7.1, Heap.size_push]
  rw [hsz] at z8 T8 sz8
  refine wpAny_pure ⟨_, rfl, wpAny_pure ?_⟩
  show Q (some (.ref g5.objs.size)) _
  rw [hsz]
  exact hQ g8 z8 (up _ _ D.a2 t5) (j15.at fun o q => up _ o D.a3 q) (j25.at fun o q => up _ o D.a4 q) T8 sz8 fun c o c1 c2 c3 c4 q => up c o c1 (k5 c o c1 c2 c3 c4 q)
theorem zip_stop {b1 b2 : Bool} {z TI TO i1 i2 l1 l2 : Addr} {k : Nat} {xs ys : Array Value} {a b : Value} {Q : Option Value → Shared → Prop} (hh : A.handled = none) (D : Apz z TI TO i1 i2)
    (hz : IsZip s.heap z TI TO .none) (hTI : IsPair s.heap TI (.ref i1) (.ref i2)) (hTO : IsPair s.heap TO a b) (h1 : ItB b1 s.heap i1 l1 k) (h2 : ItB b2 s.heap i2 l2 k) (hl1 : SqB b1 s.heap l1 xs) (hl2 : SqB b2 s.heap l2 ys)
    (n1 : ∀ c ∈ [z, TO, i1, i2], l1 ≠ c ∧ l2 ≠ c) (hend : xs[k]? = none ∨ ys[k]? = none)
    (hQ : ∀ h', (∀ c o, c ≠ z → c ≠ TO → c ≠ i1 → c ≠ i2 → s.heap.get? c = some o → h'.get? c = some o) → Q none { s with heap := h' }) : wpAny (model prog w) A (pyNext (.ref z)) Q E s := by
  have hT : s.TypeIs (.ref z) "zip" := ⟨_, hz, rfl⟩
  have m1 := n1 z (by simp)
  have m2 := n1 TO (by simp)
  have m3 := n1 i1 (by simp)
  have m4 := n1 i2 (by simp)
  unfold pyNext
  have fin : ∀ (e : Addr) (h' : Heap), (∀ c o, c ≠ z → c ≠ TO → c ≠ i1 → c ≠ i2 → s.heap.get? c = some o → h'.get? c = some o) → (∃ o, h'.get? e = some o ∧ o.cls = .type "StopIteration") →
      wpAny (model prog w) A (do if ← isInstance (.ref e) (.type "StopIteration") then pure none else throw (Value.ref e) : Sem (Option Value)) Q E { s with heap := h' } := by
    rintro e h' kk ⟨o, q1, q2⟩
    exact wpAny_bind (wpAny_isInstance (T := "StopIteration") (b := true) ⟨o, q1, q2⟩ isSubtype_stop (wpAny_pure (hQ _ kk)))
  refine wpAny_bind (wpAny_attempt (wpAny_callSpecial?_slot (name := Str.ofString "__next__") hT F.slot_zip_next (wpAny_call_entry F.slot_zip_next hT F.entry_zip_next (?_ : wpAny _ _ (Builtin.«zip.__next__» ⟨[.ref z], []⟩) _ _ s) (F.args_zip_next_1 _))))
  show wpAny _ _ (field (.ref z) 2 >>= _) _ _ _
  refine wpAny_bind (wpAny_field hz rfl (x := .bool false) rfl ?_)
  show wpAny _ _ (field (.ref z) 3 >>= _) _ _ _
  refine wpAny_bind (wpAny_field hz rfl (x := .ref TI) rfl (wpAny_bind (wpAny_seqItems hTI rfl ?_)))
  show wpAny _ _ (Builtin.SmallTypes.ownedTupleIsFree (.ref z) >>= _) _ _ _
  refine wpAny_bind ?_
  unfold Builtin.SmallTypes.ownedTupleIsFree
  refine wpAny_bind (wpAny_field hz rfl (x := .none) rfl (wpAny_pure ?_))
  simp only [if_true]
  refine wpAny_bind (wpAny_rule (wpAny_bind (wpAny_field hz rfl (x := .ref TO) rfl (wpAny_bind (wpAny_setField_rec hz (by simp) fun g1 z1 s1 => ?_)))))
  replace z1 : IsZip g1 z TI TO .ellipsis := z1
  refine wpAny_bind ?_
  simp only [List.zipIdx_cons, List.zipIdx_nil, List.forIn_cons, List.forIn_nil]
  refine wpAny_bind (wpAny_bind (wpAny_onRaise ?_))
  show wpAny _ _ (Builtin.SmallTypes.nextOf (.ref i1) >>= _) _ _ _
  cases hx : xs[k]? with
  | none =>
    refine wpAny_bind (nextB_end hh (h1.at fun o q => s1.extBut _ _ D.a3 q) (hl1.at fun o q => s1.extBut _ _ m1.1 q) hx fun g2 e s2 he => ?_)
    obtain ⟨oe, p1, p2⟩ := he
    have z2 : IsZip g2 z TI TO .ellipsis := s2 _ _ D.a3.symm z1
    have nez : e ≠ z := fun q => by subst q; rw [z2] at p1; cases p1; simp at p2
    exact wpAny_setField_rec z2 (by simp) fun g3 _ s3 => fin e g3 (fun c o c1 _ c3 _ q => s3.extBut _ _ c1 (s2 _ _ c3 (s1.extBut _ _ c1 q))) ⟨oe, s3.extBut _ _ nez p1, p2⟩
  | some x =>
    have hy : ys[k]? = none := by
      rcases hend with q | q
      · rw [hx] at q; cases q
      · exact q
    refine wpAny_bind (nextB_item (h1.at fun o q => s1.extBut _ _ D.a3 q) (hl1.at fun o q => s1.extBut _ _ m1.1 q) hx fun g2 j1 s2 => wpAny_pure ?_)
    have t2 : IsPair g2 TO a b := s2.extBut _ _ D.a8 (s1.extBut _ _ D.a2 hTO)
    refine wpAny_bind (wpAny_seqItems t2 rfl (wpAny_bind (wpAny_updateSeq_pair t2 fun g3 t3 s3 => wpAny_bind (wpAny_letGo (wpAny_pure ?_)))))
    refine wpAny_bind (wpAny_bind (wpAny_onRaise ?_))
    show wpAny _ _ (Builtin.SmallTypes.nextOf (.ref i2) >>= _) _ _ _
    refine wpAny_bind (nextB_end hh (h2.at fun o q => s3.extBut _ _ D.a9.symm (s2.extBut _ _ D.b1.symm (s1.extBut _ _ D.a4 q))) (hl2.at fun o q => s3.extBut _ _ m2.2 (s2.extBut _ _ m3.2 (s1.extBut _ _ m1.2 q))) hy fun g4 e s4 he => ?_)
    obtain ⟨oe, p1, p2⟩ := he
    have z4 : IsZip g4 z TI TO .ellipsis := s4 _ _ D.a4.symm (s3.extBut _ _ D.a2.symm (s2.extBut _ _ D.a3.symm z1))
    have nez : e ≠ z := fun q => by subst q; rw [z4] at p1; cases p1; simp at p2
    exact wpAny_setField_rec z4 (by simp) fun g5 _ s5 => fin e g5 (fun c o c1 c2 c3 c4 q => s5.extBut _ _ c1 (s4 _ _ c4 (s3.extBut _ _ c2 (s2.extBut _ _ c3 (s1.extBut _ _ c1 q))))) ⟨oe, s5.extBut _ _ nez p1, p2⟩
abbrev zp1 (b1 : Bool) (h : Heap) (l1 : Addr) : Heap := h.push (itObj b1 l1)
abbrev zp2 (b1 b2 : Bool) (h : Heap) (l1 l2 : Addr) : Heap := (zp1 b1 h l1).push (itObj b2 l2)
abbrev zp3 (b1 b2 : Bool) (h : Heap) (l1 l2 : Addr) : Heap := (zp2 b1 b2 h l1 l2).push { cls := .type "tuple", data := .seq #[.ref h.objs.size, .ref (zp1 b1 h l1).objs.size] }
abbrev zp4 (b1 b2 : Bool) (h : Heap) (l1 l2 : Addr) : Heap := (zp3 b1 b2 h l1 l2).push { cls := .type "tuple", data := .seq #[.none, .none] }
abbrev zp5 (b1 b2 : Bool) (h : Heap) (l1 l2 : Addr) : Heap := (zp4 b1 b2 h l1 l2).push { cls := .type "zip", data := .fields #[.none, .bool false, .bool false, .ref (zp2 b1 b2 h l1 l2).objs.size, .ref (zp3 b1 b2 h l1 l2).objs.size] }
theorem zip_meets {b1 b2 : Bool} (l1 l2 : Addr) (xs ys : Array Value) :
    Meets (Builtin.«zip.__new__» ⟨[.type "zip", .ref l1, .ref l2], []⟩) (fun _ R s => SqB b1 s.heap l1 xs ∧ SqB b2 s.heap l2 ys ∧ R (.ok (.ret (.ref (zp4 b1 b2 s.heap l1 l2).objs.size))) { s with heap := zp5 b1 b2 s.heap l1 l2 }) :=
  .of_wp fun prog w A R s h => by
    obtain ⟨hp, g, d, tk, os⟩ := s
    obtain ⟨q1, q2, h⟩ := h
    have hsub := sub_zip
    have L1 : SqB b1 (Shared.heap ⟨hp, g, d, tk, os⟩) l1 xs := q1
    have L2 : SqB b2 (Shared.heap ⟨hp.push (itObj b1 l1), g, d, tk, os⟩) l2 ys := q2.at fun o e => Heap.get?_push_of_some _ e
    wp_walk using iterB L1, iterB L2
    exact ⟨_, rfl, h⟩
theorem zip_call {b1 b2 : Bool} {l1 l2 : Addr} {xs ys : Array Value} {Q : Value → Shared → Prop} (q1 : SqB b1 s.heap l1 xs) (q2 : SqB b2 s.heap l2 ys)
    (h : ∀ h', IsZip h' (s.heap.objs.size + 4) (s.heap.objs.size + 2) (s.heap.objs.size + 3) .none → IsPair h' (s.heap.objs.size + 2) (.ref s.heap.objs.size) (.ref (s.heap.objs.size + 1)) →
      IsPair h' (s.heap.objs.size + 3) .none .none → ItB b1 h' s.heap.objs.size l1 0 → ItB b2 h' (s.heap.objs.size + 1) l2 0 → (∀ c o, s.heap.get? c = some o → h'.get? c = some o) → Q (.ref (s.heap.objs.size + 4)) { s with heap := h' }) :
    wpAny (model prog w) A (call (.type "zip") [.ref l1, .ref l2]) Q E s := by
  refine callType_new F.called_zip (by decide) (F.typeCall_zip_2 _ _) (F.newCall_zip_2 _ _) (fun obj => F.args_object_init_3 obj _ _) F.entry_zip_new (zip_meets l1 l2 xs ys) ⟨q1, q2, ?_⟩
  have y1 : (zp1 b1 s.heap l1).objs.size = s.heap.objs.size + 1 := Heap.size_push ..
  have y2 : (zp2 b1 b2 s.heap l1 l2).objs.size = s.heap.objs.size + 2 := by rw [Heap.size_push, y1]
  have y3 : (zp3 b1 b2 s.heap l1 l2).objs.size = s.heap.objs.size + 3 := by rw [Heap.size_push, y2]
  have y4 : (zp4 b1 b2 s.heap l1 l2).objs.size = s.heap.objs.size + 4 := by rw [Heap.size_push, y3]
  have u5 : (zp5 b1 b2 s.heap l1 l2).get? (zp4 b1 b2 s.heap l1 l2).objs.size = some _ := Heap.get?_push_size _ rfl
  have u4 : (zp5 b1 b2 s.heap l1 l2).get? (zp3 b1 b2 s.heap l1 l2).objs.size = some _ := Heap.get?_push_of_some _ (Heap.get?_push_size _ rfl)
  have u3 : (zp5 b1 b2 s.heap l1 l2).get? (zp2 b1 b2 s.heap l1 l2).objs.size = some _ := Heap.get?_push_of_some _ (Heap.get?_push_of_some _ (Heap.get?_push_size _ rfl))
  have u2 : (zp5 b1 b2 s.heap l1 l2).get? (zp1 b1 s.heap l1).objs.size = some (itObj b2 l2) := Heap.get?_push_of_some _ (Heap.get?_push_of_some _ (Heap.get?_push_of_some _ (Heap.get?_push_size _ (by cases b2 <;> rfl))))
  have u1 : (zp5 b1 b2 s.heap l1 l2).get? s.heap.objs.size = some (itObj b1 l1) := Heap.get?_push_of_some _ (Heap.get?_push_of_some _ (Heap.get?_push_of_some _ (Heap.get?_push_of_some _ (Heap.get?_push_size _ (by cases b1 <;> rfl)))))
  show _ ∧ _
  rw [y2, y3, y4] at u5
  rw [y1, y2] at u3
  rw [y3] at u4
  rw [y1] at u2
  rw [y4]
  exact ⟨⟨_, u5, rfl⟩, h _ u5 u3 u4 (ItB.new u1) (ItB.new u2) fun c o x => Heap.get?_push_of_some _ (Heap.get?_push_of_some _ (Heap.get?_push_of_some _ (Heap.get?_push_of_some _ (Heap.get?_push_of_some _ x))))⟩
end
theorem Inv.turnedN {X : Cx} {pins : List (Addr × Obj)} {σ : St} {H : Hp} {s : Shared} {h' : Heap} {t' : Nat} {fp : List Addr} (I : Inv X pins σ H s) (k : ∀ b o, b ∉ fp → s.heap.get? b = some o → h'.get? b = some o) (hf : ∀ b ∈ fp, FpOk X pins H b) :
    Inv X pins σ H { s with heap := h', toks := t' } := by
  have nit : ∀ b u, H b = some u → b ∉ fp := fun b u e z => by rw [(hf b z).1] at e; cases e
  refine I.step (g' := s.gens) (d' := s.drawn) (ch := fp) (fun b hb => ?_) (fun b o _ _ hc e _ => k b o hc e) (fun b o _ _ hc e _ => ⟨o.slots, k b o hc e⟩) (fun _ _ _ _ n => n)
    (fun b o hc e => ⟨o, k b o hc e⟩) (fun _ _ e => e) (fun _ _ _ e => e) (fun b ps e => ⟨#[], by rw [e]; simp⟩) (fun m hm => ?_) (fun b u e => ?_) I.bare
  · obtain ⟨f0, f1, f2, f3, f4, f5⟩ := hf b hb
    exact ⟨f3, f1, f4, f5⟩
  · obtain ⟨o, es, ep, ho, r⟩ := hm
    exact ⟨o, es, ep, k _ o (fun z => (hf _ z).2.1 rfl) ho, r⟩
  · refine (I.hok b u e).stay (fun c v hc q => k c v ?_ q) (fun _ q => q) fun _ _ q => q
    rcases hc with z | z
    · rw [z]; exact nit b u e
    · exact nit c _ z
theorem apz_new (n : Nat) : Apz (n + 4 : Nat) (n + 2 : Nat) (n + 3 : Nat) n (n + 1 : Nat) := by
  constructor <;> (intro h; have h' : (_ : Nat) = _ := h; omega)
section
variable {X : Cx}
theorem boot_zip : bootBuiltins "zip" = some (.type "zip") := by decide +kernel
end
end L2
set_option Elab.async false
set_option linter.all false
set_option maxRecDepth 100000
set_option maxHeartbeats 4000000
namespace L2
open PySem PySem.Spec PyProof.Rows
def clsA (mg : Str → Option Value) (x : Str) : Addr := match mg x with | some (.ref a) => a | _ => 0
theorem passR0 {X : Cx} {P : Program} {w : World} {base : Heap} : Passes (CXr P w base) X E0 := fun _ _ _ _ _ _ _ h => by
  obtain ⟨_, _, _, _, _, _, _, z⟩ := h
  exact z.elim
section
variable {X : Cx} {pins : List (Addr × Obj)} {σ : St} {H : Hp} {s : Shared}
theorem gone_ok {M : Model} {A : Around} {E : Value → Shared → Prop} {i : Nat} {x : Str} {pos : Pos} {Q : Unit → Shared → Prop} (I : Inv X pins σ H s) (hN : X.N.Nodup) (hi : X.N[i]? = some x) (hk : X.env.scope.names.lookup x = some .local)
    (h : ∀ s', Inv X pins (σ.set i none) H s' → Q () s') : wpAny M A (do bindName X.env x .none; unbindBehindTheSuite X.env x pos) Q E s := by
  obtain ⟨m, hn, hl⟩ := id I.loc
  have hiσ : i < σ.length := by rw [I.len]; exact (List.getElem?_eq_some_iff.mp hi).1
  have cne := I.cne
  obtain ⟨oL, _, _, hoL, _⟩ := id hn
  refine wpAny_nameGoes_keeps hk hn (by rw [I.ok.kind]; rfl) fun h' v hn' hs => ?_
  have trk : HOk X.prog X.w H h' := fun b ob e => by
    refine (I.hok b ob e).stay (fun c w' hc q => (hs.2 c fun z => ?_).trans q) (fun _ q => q) fun _ _ q => q
    rcases hc with y | y
    · rw [← y, z, I.free] at e; cases e
    · rw [z, I.free] at y; cases y
  have up : ∀ {b : Addr} {o : Obj}, X.s₀.heap.get? b = some o → ∀ {o' : Obj}, s.heap.get? b = some o' → h'.get? b = some o' := fun e _ q => (hs.2 _ (Nat.ne_of_lt (Nat.lt_of_lt_of_le (Heap.lt_size e) I.ok.above))).trans q
  refine h _ ⟨I.ok, I.os, I.bare, ⟨fun b o e n hb hx => up e (I.base.keep b o e n hb hx), fun b o e n hb hx => ?_, I.base.free, fun b o e hx => ?_, I.base.tups, I.base.frzs, I.base.tbls⟩, ⟨_, hn', fun j y v' e1 e2 e3 => ?_⟩, fun y c e => ?_, I.free, I.freeC, fun p hp => ?_, trk, by simpa using I.len⟩
  · obtain ⟨sl, e1⟩ := I.base.slot b o e n hb hx
    exact ⟨sl, up e e1⟩
  · obtain ⟨o', e1⟩ := I.base.there b o e hx
    exact ⟨o', up e e1⟩
  · by_cases hj : j = i
    · subst hj
      rw [List.getElem?_set_self hiσ] at e2
      cases e2
    · rw [List.getElem?_set_ne (Ne.symm hj)] at e2
      obtain ⟨u', r', q⟩ := hl j y v' e1 e2 e3
      refine ⟨u', r', ?_⟩
      rcases q with ⟨k, e⟩ | ⟨k, c, e, z⟩
      · have ne : y ≠ x := fun e => hj (nodup_ix hN e1 (e ▸ hi))
        exact .inl ⟨k, by simp [ne, e]⟩
      · exact .inr ⟨k, c, e, z.sameBut hs (cne y c e)⟩
  · obtain ⟨w', z⟩ := I.cell y c e
    exact ⟨w', z.sameBut hs (cne y c e)⟩
  · obtain ⟨e, n, ne, nf, d⟩ := I.pin p hp
    exact ⟨(hs.2 p.1 ne).trans e, n, ne, nf, d⟩
end
section
variable {X : Cx} {k : Nat} {g x n : Str} {ps : List Str} {sp : Sp} {p np cpos epos hpos pos : Pos} {e : Expr} {es : List Expr} {t : TA} {ts : TS} {D : Addr} {b₀ : Stmt} {suite : List Stmt} {i : Nat}
end
section
open PySem.W PySem.Calls
end
end L2
set_option Elab.async false
set_option linter.all false
set_option maxRecDepth 100000
set_option maxHeartbeats 4000000
namespace L2
open PySem PySem.Spec PyProof.Rows PySem.W PySem.Calls PySem.Builtin PySem.Builtin.ObjectAttr PySem.Builtin.Getset_descriptor
structure ExF (K : Frag) (C : Addr) : Prop where
  ga : findIn K (.ref C) "__getattribute__" = some (some (.builtin "BaseException.__getattribute__"))
  gn : findIn K (.ref C) "__getattr__" = some none
  be : mroIn K C (.type "BaseException") = some true
  at_ : findIn K (.ref C) "__class__" = some (some (.builtin "object.__class__"))
  gt : specialIn K (.builtin "object.__class__") "__get__" = some (some (.builtin "getset_descriptor.__get__"))
  tk : takesIn K (.builtin "object.__class__") = some true
  ob : mroIn K C (.type "object") = some true
  cl : (clsIn K C).isSome = true
section
variable {prog : Program} {w : World} {A : Around} {E : Value → Shared → Prop} {s : Shared} {K : Frag} {x C : Addr} {ox : Obj}
theorem exc_typ {M : Model} {h : Heap} (he : h.get? x = some ox) (hc : ox.cls = .ref C) : Looks M h (typeOf (.ref x)) (.ref C) := hc ▸ (Looks.ld he).andThen .now
theorem exc_find {M : Model} {h : Heap} (kin : K.In h) (Y : ExF K C) : Looks M h (find (.ref x) (.ref C) "__class__") (.bind (.builtin "getset_descriptor.__get__") (.builtin "object.__class__")) := by
  have L3 := looks_takesIn (M := M) kin Y.tk
  refine (looks_findIn (M := M) kin Y.at_).andThen ((looks_specialIn (M := M) kin Y.gt : Looks M h (getOf (some (.builtin "object.__class__"))) (some (.builtin "getset_descriptor.__get__"))).andThen ?_)
  exact (show Looks M h (dataDescriptor? (some (.builtin "object.__class__")) (some (.builtin "getset_descriptor.__get__"))) (some (.builtin "getset_descriptor.__get__", .builtin "object.__class__")) from L3.andThen .now).andThen (Looks.tag .now)
theorem exc_get {tp : Value} {R : Result → Shared → Prop} (kin : K.In s.heap) (he : s.heap.get? x = some ox) (hc : ox.cls = .ref C) (Y : ExF K C)
    (h : R (.ok (.ret (.ref C))) s) : codeAny (model prog w) A (.call (.builtin "getset_descriptor.__get__") ⟨[.builtin "object.__class__", .ref x, tp], []⟩) R s := by
  obtain ⟨hh, g, dr, t, os⟩ := s
  have L0 := exc_typ (M := model prog w) he hc
  have L1 := looks_mroIn (M := model prog w) kin Y.ob
  refine codeAny_call_builtin KF.slot_gs.plain KF.entry_gs (KF.slot_gs.check _ _ _ _ _ _ _ _ KF.type_class (KF.args_gs _ _ _) ?_)
  unfold Builtin.«getset_descriptor.__get__» descrGet
  rw [dga_obj]; refine wpAny_bind (wpAny_pure ?_)
  unfold descrGetter descrCheckInstance descrNameAndClass isInstance; simp only [KF.owner_class]
  repeat lk
  refine ⟨Code.quiet_builtin _ (by decide +kernel), codeAny_builtin KF.entry_class ?_⟩
  unfold Builtin.«object.__class__» shownTypeOf; repeat lk
  exact h
theorem exc_entry {tk : Tok} {Q : Fin → Shared → Prop} (kin : K.In s.heap) (he : s.heap.get? x = some ox) (hc : ox.cls = .ref C) (Y : ExF K C) (h : Q (.done (.ret (.ref C))) s) :
    wpAny (model prog w) A (Builtin.«object.__getattribute__» ⟨[.ref x, .str "__class__" tk], []⟩) Q E s := by
  obtain ⟨hh, g, d, t, os⟩ := s
  have L0 := exc_typ (M := model prog w) he hc
  have L2 := exc_find (M := model prog w) (x := x) kin Y
  unfold Builtin.«object.__getattribute__»
  repeat (any_goals (first | assumption | (with_reducible refine wpAny_bind (L0.at ?_)) | (with_reducible refine wpAny_bind (L2.at ?_)) | wp_step))
  refine exc_get (s := ⟨hh, g, d, t, os⟩) kin he hc Y ?_
  repeat (any_goals (first | assumption | wp_step))
theorem exc_check {M : Model} {nameV : Value} {Q : Unit → Shared → Prop} (kin : K.In s.heap) (he : s.heap.get? x = some ox) (hc : ox.cls = .ref C) (Y : ExF K C) (hq : Q () s) : wpAny M A (checkBuiltinCall "BaseException.__getattribute__" ⟨[.ref x, nameV], []⟩) Q E s := by
  have hk : builtinKind "BaseException.__getattribute__" = some .slot := by decide +kernel
  have hsplit : splitId "BaseException.__getattribute__" = some ("BaseException", "__getattribute__") := by decide +kernel
  have ha := F.args_bexc_ga (.ref x) nameV
  have L0 := exc_typ (M := M) he hc
  have L1 := looks_mroIn (M := M) kin Y.be
  have LI : Looks M s.heap (isInstance (.ref x) (.type "BaseException")) true := L0.andThen L1
  simp only [checkBuiltinCall, hk, hsplit]
  refine wpAny_bind (LI.at ?_)
  simp only [Bool.not_true, Bool.false_eq_true, if_false]
  repeat wp_step
  exact hq
theorem exc_cls {Q : Option Value → Shared → Prop} (kin : K.In s.heap) (he : s.heap.get? x = some ox) (hc : ox.cls = .ref C) (Y : ExF K C) (h : Q (some (.ref C)) { s with toks := s.toks + 1 }) :
    wpAny (model prog w) A (getAttr? (.ref x) "__class__") Q E s := by
  obtain ⟨hh, g, d, t, os⟩ := s
  have L0 := exc_typ (M := model prog w) he hc
  have L1 := looks_findIn (M := model prog w) kin Y.ga
  have L3 := looks_findIn (M := model prog w) kin Y.gn
  have hx2 : (Value.builtin "BaseException.__getattribute__" == Value.builtin "object.__getattribute__") = false := by decide +kernel
  unfold getAttr? getAttrBy? getAttrBy
  refine wpAny_bind (wpAny_mkText (wpAny_bind (wpAny_attempt (wpAny_holding (wpAny_bind (L0.at (wpAny_bind (L1.at ?_))))))))
  dsimp only
  rw [hx2, Bool.and_false, if_neg Bool.false_ne_true]
  unfold getAttrByItsOwn
  refine wpAny_bind (L3.at ?_)
  have f3 := F.attrBase_ValueError.ga.bind (.ref x)
  have hx0 : (false && onTheHeap (Value.builtin "BaseException.__getattribute__")) = false := rfl
  unfold callGetattribute boundAndCalled
  repeat (any_goals (first | assumption | wp_step))
  refine codeAny_call_builtin F.attrBase_ValueError.ga.plain F.entry_bexc_ga (exc_check (s := ⟨hh, g, d, t + 1, os⟩) kin he hc Y (exc_entry (s := ⟨hh, g, d, t + 1, os⟩) kin he hc Y ?_))
  repeat (any_goals (first | assumption | wp_step))
theorem kitx_exc {e : Addr} (Y : ExF K C) : KitX K (.ref e) (.ref C) (ExP e C) where
  ty := fun M h _ ⟨o, e1, e2⟩ => exc_typ e1 e2
  it := fun M h kin _ => by
    have q := Y.cl
    unfold clsIn at q
    split at q
    · rename_i c' d' cd' sl' ho
      intro A' Q' E' s' k z
      unfold isType loadHead; exact wpAny_bind (wpAny_loadPart (k _ _ (kin _ _ ho)) (wpAny_pure z))
    · cases q
  ne := fun h tp dd its n sl kin htp => by
    have q := Y.cl
    refine Bool.eq_false_iff.mpr fun z => ?_
    have e : C = tp := Value.ref.inj (beq_iff_eq.mp z)
    subst e
    unfold clsIn at q
    split at q
    · rename_i c' d' cd' sl' ho
      cases (kin _ _ ho).symm.trans htp
    · cases q
  ca := fun kin ⟨o, e1, e2⟩ k => exc_cls kin e1 e2 Y k
end
theorem vals_refs : ∀ {cs : List Addr} {us : List Value}, Vals (cs.map V.ref) us → us = cs.map Value.ref
  | [], _, h => by cases h; rfl
  | c :: cs, _, h => by
    cases h with
    | cons r rr => cases r; rw [vals_refs rr]; rfl
end L2
set_option Elab.async false
set_option linter.all false
set_option maxRecDepth 100000
set_option maxHeartbeats 4000000
namespace L2
open PySem PySem.Spec PyProof.Rows
section
variable {P : Program} {w : World} {K : PySem.W.Frag} {mg : Str → Option Value} {base : Heap} {N ps : List Str} {qual : Str} {f : Addr}
end
theorem pe_gcls {X : Cx} {x : Str} {C : Addr} {pos : Pos} (T : ExC X.K X.mg x C) (hg : Gl X x := by rfl) (hd : (x == ("__debug__" : Str)) = false := by decide) : PE X (.Name x pos) (tC (.ref C)) := pe_glob hg T.bound rfl hd
end L2
set_option Elab.async false
set_option linter.all false
set_option maxRecDepth 100000
set_option maxHeartbeats 4000000
namespace L2
open PySem PySem.Spec PyProof.Rows
theorem noFill_tuple_mul : fillsNumberSlot (.type "tuple") "mul" = pure false :=
  PySem.fillsNumberSlot_seq (id := "tuple.__mul__") (r := some (.builtin "tuple.__rmul__")) F.slot_tuple_mul.lookup (by decide +kernel) F.slot_tuple_rmul.lookup (by decide +kernel)
theorem repeat_tuple : seqRepeat? (.type "tuple") = pure (some (.builtin "tuple.__mul__")) := by
  unfold seqRepeat?
  rw [PySem.seqSlot_of (T := "tuple") (name := "__mul__") (id := "tuple.__mul__") F.slot_tuple_mul.lookup (by decide +kernel), PySem.seqSlot_of (T := "tuple") (name := "__rmul__") (id := "tuple.__rmul__") F.slot_tuple_rmul.lookup (by decide +kernel)]; rfl
theorem rmul_tuple (a : Int) (t : Tok) (l : Addr) (items : Array Value) (n : Nat) (dd : Option Addr) (sl : Array (Option Value)) :
    Meets (Builtin.«int.__rmul__» ⟨[.int a t, .ref l], []⟩) (fun _ R s => s.heap.get? l = some ⟨.type "tuple", dd, .seq items n, sl⟩ ∧ R (.ok (.ret Value.notImplemented)) s) :=
  .of_wp fun prog w A R s h => by
    obtain ⟨hp, g, d, tk, os⟩ := s
    obtain ⟨hl, h⟩ := h
    wp_walk
    exact ⟨_, rfl, h⟩
theorem mul_tuple (l : Addr) (items : Array Value) (n : Nat) (dd : Option Addr) (sl : Array (Option Value)) (x : Int) (u : Tok) (hc0 : ¬ (decide (x < -2 ^ 63) || decide (x ≥ 2 ^ 63)) = true) (hc1 : ¬ (items.isEmpty || x == 1) = true)
    (hc2 : ¬ (decide (x ≤ 0) || items.isEmpty) = true) (hc3 : ¬ (items.size : Int) * x > (2 ^ 63 - 1) / 8) (hc4 : ¬ Builtin.Tuple.tupleTooMany ((items.size : Int) * x) = true) (hsz : (List.foldl (· ++ ·) #[] (List.replicate x.toNat items)).size ≤ sizeLine) :
    Meets (Builtin.«tuple.__mul__» ⟨[.ref l, .int x u], []⟩) (fun _ R s => s.heap.get? l = some ⟨.type "tuple", dd, .seq items n, sl⟩ ∧ R (.ok (.ret (Value.ref s.heap.objs.size))) { s with heap := s.heap.push { cls := Value.type "tuple", data := .seq (List.foldl (· ++ ·) #[] (List.replicate x.toNat items)) } }) :=
  .of_wp fun prog w A R s h => by
    obtain ⟨hp, g, d, tk, os⟩ := s
    obtain ⟨hl, h⟩ := h
    wp_walk
    rw [if_neg hc0]
    wp_walk
    rw [if_neg hc3]
    wp_walk
    exact ⟨_, rfl, h⟩
def rRepT (K : PySem.W.Frag) : R2 := fun x y H Q => ∃ l k xs, x = .ref l ∧ y = .int k ∧ H l = some (.tup xs) ∧ 2 ≤ k ∧ k ≤ 1000 ∧ 1 ≤ xs.length ∧ xs.length ≤ 1000 ∧ ∀ p, H p = none → Q (.ref p) (upd H p (.tup (List.replicate k.toNat xs).flatten))
theorem op_repT {X : Cx} : OpR X (binaryOp .Mult) (rRepT X.K) := by
  intro pins s σ H x y v u Q I rx ry h
  obtain ⟨l, k, xs, rfl, rfl, hH, h1, h2, h3, h4, q⟩ := h
  cases (show v = Value.ref l from rx)
  obtain ⟨t, rfl⟩ := (show ∃ t, u = Value.int k t from ry)
  obtain ⟨its, rv, p, hz⟩ := I.tuple (SqT.of hH)
  obtain ⟨o, e, c, n, d⟩ := id p
  obtain ⟨oc, od, odt, osl⟩ := o
  cases c
  cases d
  have hl := rv.length
  have hnew : List.foldl (· ++ ·) #[] (List.replicate k.toNat its.toArray) = (List.replicate k.toNat its).flatten.toArray := by
    have := foldl_rep its k.toNat []
    rw [List.nil_append] at this
    exact this
  have hlen : (List.replicate k.toNat its).flatten.length = k.toNat * its.length := len_rep _ _
  have hm : k.toNat * its.length ≤ 1000 * 1000 := Nat.mul_le_mul (by omega) (by omega)
  have hbig : (1000 * 1000 : Nat) ≤ sizeLine := by decide
  have hmul : (its.toArray.size : Int) * k = ((k.toNat * its.length : Nat) : Int) := by
    rw [List.size_toArray, Int.natCast_mul, Int.toNat_of_nonneg (by omega), Int.mul_comm]
  refine wpAny_binaryOp_repeat_ref (T := "tuple") (U := "int") (by decide) ⟨_, e, rfl⟩ (fun s' => typeIs_int s' k t) noFill_tuple_mul F.fills_int_mul F.slot_int_rmul repeat_tuple F.slot_int_index.lookup
    (call_meets F.slot_int_rmul (typeIs_int s k t) F.entry_int_rmul (F.args_int_rmul_2 _ _) (rmul_tuple k t l its.toArray n od osl)
      ⟨e, rfl, ⟨_, e, rfl⟩, call_meets F.slot_tuple_mul ⟨_, e, rfl⟩ F.entry_tuple_mul (F.args_tuple_mul_2 _ _) (mul_tuple l its.toArray n od osl k t ?g0 ?g1 ?g2 ?g3 ?g4 ?g5) ⟨e, ?_⟩⟩)
  case g0 => simp; omega
  case g1 => cases its with
    | nil => rw [hl] at h3; simp at h3
    | cons z r => simp; omega
  case g2 => cases its with
    | nil => rw [hl] at h3; simp at h3
    | cons z r => simp; omega
  case g3 => rw [hmul]; omega
  case g4 =>
    rw [hmul]
    show ¬ decide (((k.toNat * its.length : Nat) : Int) > (sizeLine : Int)) = true
    rw [decide_eq_true_eq]
    omega
  case g5 => rw [hnew, List.size_toArray, hlen]; omega
  rw [hnew]
  have hf : H s.heap.objs.size = none := I.hok.fresh (Nat.le_refl _)
  refine ⟨.ref s.heap.objs.size, upd H s.heap.objs.size (.tup (List.replicate k.toNat xs).flatten), I.laid (t' := s.toks) (fun b u e => Heap.get?_push_of_some _ e) (Nat.le_refl _) ?_, rfl, q _ hf⟩
  exact ⟨by rw [len_rep, ← show its.length = xs.length by omega] ; omega, _, rv.rep k.toNat, ⟨_, Heap.get?_push_size _ rfl, rfl, _, rfl⟩⟩
end L2
set_option Elab.async false
set_option linter.all false
set_option maxRecDepth 100000
set_option maxHeartbeats 4000000
namespace L2
open PySem PySem.Spec PyProof.Rows
structure PB (X : Cx) (es : List Expr) (t : TA) : Prop where
  ok : PA X es t
section
variable {X : Cx} {e a b : Expr} {es : List Expr} {te : TE} {t ta : TA} {p pos np cpos epos hpos tpos : Pos} {x n g : Str} {k i : Nat} {ps : List Str} {sp : Sp} {CX : CXT} {E : XK}
theorem pb_nil : PB X [] tNil := ⟨pa_nil⟩
theorem pb_c (ha : PE X e te) (hr : PB X es t) (h : isStar e = false := by rfl) : PB X (e :: es) (tCons te t) := ⟨pa_c ha hr.ok h⟩
theorem fb_lst (h : PB X es t) : PE X (.List es pos) (tLst t) := pe_lst h.ok
theorem fb_tup {x1} (h : PB X es t) : PE X (.Tuple es x1 pos) (tTup t) := pe_tup h.ok
theorem fb_fn (G : Fn X.prog X.w X.K X.mg X.base CX x k ps sp) (hr : Room k X.A) (hg : Gl X x) (hx : Passes CX X E) (ha : PB X (e :: es) t)
    (hdb : (x == ("__debug__" : Str)) = false := by decide) (he : isStar e = false := by rfl) (hpl : es.all (fun e => !isStar e) = true := by rfl) : PE X (.Call (.Name x p) (e :: es) [] pos) (tCall sp [] E t) := pe_fn G hr hg hx ha.ok hdb he hpl
theorem fb_cB {id : String} {r : List V → Hp → VK → Prop} (hc : CallR X (.builtin id) r) (hg : Gl X x) (hm : X.mg x = none) (hv : bootBuiltins x = some (.builtin id)) (ha : PB X (e :: es) t) (hn : x ≠ "__name__" := by decide) (hdb : (x == ("__debug__" : Str)) = false := by decide)
    (he : isStar e = false := by rfl) (hpl : es.all (fun e => !isStar e) = true := by rfl) : PE X (.Call (.Name x p) (e :: es) [] pos) (tCB r t) := pe_cB hc hg hm hv ha.ok hn hdb he hpl
theorem fb_cTy {T : String} {r : List V → Hp → VK → Prop} (hc : CallR X (.type T) r) (hg : Gl X x) (hm : X.mg x = none) (hv : bootBuiltins x = some (.type T)) (ha : PB X (e :: es) t) (hn : x ≠ "__name__" := by decide) (hdb : (x == ("__debug__" : Str)) = false := by decide)
    (he : isStar e = false := by rfl) (hpl : es.all (fun e => !isStar e) = true := by rfl) : PE X (.Call (.Name x p) (e :: es) [] pos) (tCB r t) := pe_cTy hc hg hm hv ha.ok hn hdb he hpl
theorem fb_bm1 {o : Expr} {to : TE} {name : Str} {apos : Pos} {T id : String} {r : V → List V → Hp → VK → Prop} (pa : PlainAttrs T) (slot : Slot T name id) (hty : typeOf (.builtin id) = pure (.type "method_descriptor")) (hm : MtR X id r) (ho : PE X o to) (ha : PB X [e] t)
    (he : isStar e = false := by rfl) (hbase : attributeBase o name X.env (eval o X.env) = eval o X.env := by rfl) (hline : (apos.endLine == cpos.line) = true := by rfl) : PE X (.Call (.Attribute o name apos) [e] [] cpos) (tBM X.K T r to t) :=
  pe_bm1 pa slot hty hm ho ha.ok he hbase hline
theorem fb_range1 {tg : Expr} (hg : Gl X "range") (hm : X.mg "range" = none) (ha : PB X [a] ta) (he : isStar a = false := by rfl) : PI X tg (.Call (.Name "range" p) [a] [] pos) (iRng1 ta) := pi_range1 hg hm ha.ok (star_cons he)
theorem fb_raise {C : Addr} (hX : Made X E (.ref C)) (hc : X.calm = true) (T : ExC X.K X.mg x C) (hg : Gl X x) (ha : PB X (e :: es) t) (hd : (x == ("__debug__" : Str)) = false := by decide)
    (he : isStar e = false := by rfl) (hpl : es.all (fun e => !isStar e) = true := by rfl) : PS X (.Raise (some (.Call (.Name x np) (e :: es) [] cpos)) none pos) (tRaise E (.ref C) t) := ps_raise hX hc T hg ha.ok hd (star_cons he) (star_any hpl)
end
abbrev rMulV (K : PySem.W.Frag) : R2 := fun x y H Q => rMulU K x y H Q ∨ rRepT K x y H Q
theorem op_mulV {X : Cx} : OpR X (binaryOp .Mult) (rMulV X.K) := op_mulU.or op_repT
end L2
set_option Elab.async false
set_option linter.all false
set_option maxRecDepth 100000
set_option maxHeartbeats 4000000
namespace L2
open PySem PySem.Spec PyProof.Rows
section
variable {X : Cx} {tg : Expr}
end
end L2
set_option Elab.async false
set_option linter.all false
set_option maxRecDepth 100000
set_option maxHeartbeats 4000000
namespace LB
open PySem L2
inductive IsI : Value → Bool → Prop
  | non : IsI (.type "NoneType") false
  | bl : IsI (.type "bool") false
  | int : IsI (.type "int") true
  | str : IsI (.type "str") false
  | lst : IsI (.type "list") false
  | tup : IsI (.type "tuple") false
  | dct : IsI (.type "dict") false
theorem kit_int {K : PySem.W.Frag} {t : Value} {b : Bool} (h : IsI t b) : ∃ c, PySem.W.kitOne K t (.type "int") = some c ∧ (c = false → b = false) ∧ (c = true → ∃ d, PySem.W.kitOne K t (.type "bool") = some d ∧ b = !d) := by
  cases h
  · exact ⟨false, by kernel_rfl, fun _ => rfl, fun z => by cases z⟩
  · exact ⟨true, by kernel_rfl, fun z => (by cases z), fun _ => ⟨true, by kernel_rfl, rfl⟩⟩
  · exact ⟨true, by kernel_rfl, fun z => (by cases z), fun _ => ⟨false, by kernel_rfl, rfl⟩⟩
  · exact ⟨false, by kernel_rfl, fun _ => rfl, fun z => by cases z⟩
  · exact ⟨false, by kernel_rfl, fun _ => rfl, fun z => by cases z⟩
  · exact ⟨false, by kernel_rfl, fun _ => rfl, fun z => by cases z⟩
  · exact ⟨false, by kernel_rfl, fun _ => rfl, fun z => by cases z⟩
def sb_is_int (K : PySem.W.Frag) (a : V) (H : Hp) (Q : VK) (E : XK) : Prop := ∃ t b, TyOf K H a t ∧ IsI t b ∧ Q (.bl b) H
def sp_is_int (K : PySem.W.Frag) : Sp := sp1 (sb_is_int K)
def cellF (ns : List Int) (k : Nat) : Int :=
  if k < ns.length then (ns.getD k 0 + 104729) * 2718281828459045235360287471352662497757 % 10000000000000000000000000000000000000000
  else
    let n : Int := (k : Int) * k * 7919 + 5 + (if 0 < ns.length then ns.getD (k * 7 % ns.length) 0 % 10000000000000000000000000000000000000000 * 48271 else 0)
    n * n % 2147483629 * 2718281828459045235360287471352662497757 % 10000000000000000000000000000000000000000
theorem cellF_lo (ns : List Int) (k : Nat) : 0 ≤ cellF ns k := by unfold cellF; dsimp only; split <;> exact Int.emod_nonneg _ (by decide)
theorem cellF_hi (ns : List Int) (k : Nat) : cellF ns k < 10000000000000000000000000000000000000000 := by unfold cellF; dsimp only; split <;> exact Int.emod_lt_of_pos _ (by decide)
def sb__law_cell (K : PySem.W.Frag) (a b : V) (H : Hp) (Q : VK) (E : XK) : Prop := ∃ (l : Addr) (ns : List Int) (k : Nat), a = .ref l ∧ b = .int k ∧ SqL K H l (ns.map V.int) ∧ (∀ n ∈ ns, Builtin.Int.intBits n ≤ 1048576) ∧ k ≤ 1000 ∧ Q (.int (cellF ns k)) H
def sp__law_cell (K : PySem.W.Frag) : Sp := sp2 (sb__law_cell K)
def tb_is_int (K : PySem.W.Frag) : TS :=
  (tRet (tAndV (tCB (rIsinst K) (tCons (tVar 0) (tCons (tC (.ty "int")) tNil))) (tNotV (tCB (rIsinst K) (tCons (tVar 0) (tCons (tC (.ty "bool")) tNil))))))
def tb__law_cell (K : PySem.W.Frag) : TS :=
  (tSeq (tIfS (tTest (tOp rLtU (tVar 1) (tCB (rLenU K) (tCons (tVar 0) tNil)))) (tRet (tOp rModU (tOp (rMulU K) (tOp (rAddU K) (tOp (rIx K) (tVar 0) (tVar 1)) (tC (.int 104729))) (tC (.int 2718281828459045235360287471352662497757))) (tC (.int 10000000000000000000000000000000000000000)))) tNext)
    (tSeq (tAsg (tOp (rAddU K) (tOp (rMulU K) (tOp (rMulU K) (tVar 1) (tVar 1)) (tC (.int 7919))) (tC (.int 5))) (gName 2))
    (tSeq (tIfS (tTest (tOp rGtU (tCB (rLenU K) (tCons (tVar 0) tNil)) (tC (.int 0)))) (tAsg (tOp (rAddU K) (tVar 2) (tOp (rMulU K) (tOp rModU (tOp (rIx K) (tVar 0) (tOp rModU (tOp (rMulU K) (tVar 1) (tC (.int 7))) (tCB (rLenU K) (tCons (tVar 0) tNil)))) (tC (.int 10000000000000000000000000000000000000000))) (tC (.int 48271)))) (gName 2)) tNext)
    (tRet (tOp rModU (tOp (rMulU K) (tOp rModU (tOp (rMulU K) (tVar 2) (tVar 2)) (tC (.int 2147483629))) (tC (.int 2718281828459045235360287471352662497757))) (tC (.int 10000000000000000000000000000000000000000)))))))
abbrev Rt (Q : VK) : Ends := { nx := fun _ H' => Q .non H', rt := Q }
theorem rd_is_int {K : PySem.W.Frag} {a : V} {H : Hp} {Q : VK} {E : XK} (h : sb_is_int K a H Q E) : tb_is_int K (Rt Q) [some a] H := by
  obtain ⟨t, b, ty, hi, q⟩ := h
  obtain ⟨c, e, h1, h2⟩ := kit_int (K := K) hi
  unfold tb_is_int
  refine w_ret (w_andV (w_cb (w_cons (w_var rfl (w_cons (w_c (w_nil ?_)))))))
  refine ⟨a, "int", t, c, rfl, ty, e, w_bl ?_⟩
  refine iteB (fun z => ?_) (fun z => ?_)
  · obtain ⟨d, e2, hb⟩ := h2 z
    refine w_notV (w_cb (w_cons (w_var rfl (w_cons (w_c (w_nil ?_))))))
    refine ⟨a, "bool", t, d, rfl, ty, e2, w_bl ?_⟩
    rw [← hb]; exact q
  · rw [← h1 z]; exact q
theorem add_bits {n : Int} (h : Builtin.Int.intBits n ≤ 1048576) : Builtin.Int.intBits (n + 104729) ≤ 1048600 := by
  have h1 : n.natAbs < 2 ^ 1048576 := by
    unfold Builtin.Int.intBits at h
    split at h
    · rename_i e
      have : n = 0 := by simpa using e
      subst this
      exact Nat.two_pow_pos _
    · rename_i e
      have h0 : n.natAbs ≠ 0 := fun z => e (by simp; omega)
      exact (Nat.log2_lt h0).mp (by omega)
  unfold Builtin.Int.intBits
  split
  · omega
  · rename_i e
    have h0 : (n + 104729).natAbs ≠ 0 := fun z => e (by simp; omega)
    have h2 : (n + 104729).natAbs < 2 ^ 1048599 := by
      have e1 : (2 : Nat) ^ 1048599 = 2 ^ 1048576 * 2 ^ 23 := by rw [← Nat.pow_add]
      have e2 : (2 : Nat) ^ 23 = 8388608 := by decide
      have e3 : 1 ≤ (2 : Nat) ^ 1048576 := Nat.one_le_two_pow
      rw [e1, e2]
      generalize (2 : Nat) ^ 1048576 = z at h1 e3 ⊢
      omega
    have := (Nat.log2_lt h0).mpr h2
    omega
theorem cell_mul {n : Int} (h : Builtin.Int.intBits n ≤ 1048576) : IntMulOk (n + 104729) 2718281828459045235360287471352662497757 :=
  IntMulOk.of_le (add_bits h) (bits_1000 (by decide) (by decide)) (by decide)
theorem rd__law_cell {K : PySem.W.Frag} {a b : V} {H : Hp} {Q : VK} {E : XK} (h : sb__law_cell K a b H Q E) : tb__law_cell K (Rt Q) [some a, some b, none] H := by
  obtain ⟨l, ns, k, rfl, rfl, hl, hb, hk, q⟩ := h
  unfold tb__law_cell
  refine w_seq (w_ifS (w_test (w_op (w_var rfl (w_cb (w_cons (w_var rfl (w_nil (w_lenL hl (w_ltI (w_bl ?_)))))))))))
  rw [List.length_map]
  refine iteD (fun hlt => ?_) (fun hge => ?_)
  · have hlt' : k < ns.length := by omega
    refine w_ret (w_op (w_op (w_op (w_op (w_var rfl (w_var rfl (w_ixL hl (atI_ints (by omega) hlt) (w_c (w_addI (w_c (w_mulI ?_ (w_c (w_modI (by decide) ?_)))))))))))))
    · exact cell_mul (hb _ (by rw [Int.toNat_natCast]; exact L2.getD_mem hlt'))
    · unfold cellF at q
      rw [if_pos hlt'] at q
      rw [Int.toNat_natCast]; exact q
  · have hge' : ¬ k < ns.length := by omega
    unfold cellF at q
    rw [if_neg hge'] at q
    dsimp only at q
    have kk : (k : Int) ≤ 1000 := by omega
    have kn : (0 : Int) ≤ k := by omega
    have k2 : (k : Int) * k ≤ 1000 * 1000 := Int.mul_le_mul kk kk kn (by decide)
    have k3 : 0 ≤ (k : Int) * k := Int.mul_nonneg kn kn
    refine w_next (w_seq (w_asg (w_op (w_op (w_op (w_var rfl (w_var rfl (w_mulI (mulok_l (by omega) (by omega)) (w_c (w_mulI (mulok_r (by decide) (by decide)) (w_c (w_addI (w_name ?_)))))))))))))
    have fin : ∀ N : Int, 0 ≤ N → N ≤ 1000000000000000000000000000000000000000000000000000 → N * N % 2147483629 * 2718281828459045235360287471352662497757 % 10000000000000000000000000000000000000000 = N * N % 2147483629 * 2718281828459045235360287471352662497757 % 10000000000000000000000000000000000000000 →
        Q (.int (N * N % 2147483629 * 2718281828459045235360287471352662497757 % 10000000000000000000000000000000000000000)) H →
        (tRet (tOp rModU (tOp (rMulU K) (tOp rModU (tOp (rMulU K) (tVar 2) (tVar 2)) (tC (.int 2147483629))) (tC (.int 2718281828459045235360287471352662497757))) (tC (.int 10000000000000000000000000000000000000000)))) (Rt Q) [some (.ref l), some (.int k), some (.int N)] H := by
      intro N h0 h1 _ hq
      have r0 := Int.emod_nonneg (N * N) (show (2147483629 : Int) ≠ 0 by decide)
      have r1 := Int.emod_lt_of_pos (N * N) (show (0 : Int) < 2147483629 by decide)
      refine w_ret (w_op (w_op (w_op (w_op (w_var rfl (w_var rfl (w_mulI (mulok_big (by omega) (by omega) (by omega) (by omega)) (w_c (w_modI (by decide) (w_c (w_mulI (mulok_l (by omega) (by omega)) (w_c (w_modI (by decide) ?_)))))))))))))
      exact hq
    refine w_seq (w_ifS (w_test (w_op (w_cb (w_cons (w_var rfl (w_nil (w_lenL hl (w_c (w_gtI (w_bl ?_)))))))))))
    rw [List.length_map]
    refine iteD (fun hp => ?_) (fun hz => ?_)
    · have hp' : 0 < ns.length := by omega
      rw [if_pos hp'] at q
      refine w_asg (w_op (w_var rfl (w_op (w_op (w_op (w_var rfl (w_op (w_op (w_var rfl (w_c (w_mulI (mulok_r (by decide) (by decide)) (w_cb (w_cons (w_var rfl (w_nil (w_lenL hl (w_modI ?_ (w_ixL (v := .int (ns.getD (k * 7 % ns.length) 0)) hl ?_ (w_c (w_modI (by decide) (w_c (w_mulI (mulok_r (by decide) (by decide)) (w_addI (w_name ?_))))))))))))))))))))))))
      · rw [List.length_map]; omega
      · rw [List.length_map]
        have e : (k : Int) * 7 % (ns.length : Int) = ((k * 7 % ns.length : Nat) : Int) := by simp
        rw [e]
        exact atI_nat (get_ints (Nat.mod_lt _ hp'))
      · have r0 := Int.emod_nonneg (ns.getD (k * 7 % ns.length) 0) (show (10000000000000000000000000000000000000000 : Int) ≠ 0 by decide)
        have r1 := Int.emod_lt_of_pos (ns.getD (k * 7 % ns.length) 0) (show (0 : Int) < 10000000000000000000000000000000000000000 by decide)
        exact fin _ (by omega) (by omega) rfl q
    · have hz' : ¬ 0 < ns.length := by omega
      rw [if_neg hz'] at q
      rw [Int.add_zero] at q
      exact w_next (fin _ (by omega) (by omega) rfl q)
theorem at2 {a b : V} {i : Int} (h0 : 0 ≤ i) (h1 : i < 2) : ∃ v, atI [a, b] i = some v ∧ (v = a ∨ v = b) := by
  rcases (by omega : i = 0 ∨ i = 1) with rfl | rfl
  · exact ⟨a, rfl, .inl rfl⟩
  · exact ⟨b, rfl, .inr rfl⟩
end LB
set_option Elab.async false
set_option linter.all false
set_option maxRecDepth 100000
set_option maxHeartbeats 4000000
namespace LB
open PySem L2
def isIntD : PyData → Bool | .int _ => true | _ => false
def isTupD (lo hi : Nat) : PyData → Bool | .tuple xs => decide (lo ≤ xs.length) && decide (xs.length ≤ hi) | _ => false
def isPriceD : PyData → Bool | .int i => decide (1 ≤ i) && decide (i ≤ 1000000000) | _ => false
def isAmtD : PyData → Bool | .int i => decide (0 ≤ i) && decide (i ≤ 1000000000000000000) | _ => false
def posD : PyData → Bool | .int i => decide (0 < i) | _ => false
def itemsD : PyData → List PyData | .tuple xs => xs | _ => []
def arePricesD (d : PyData) : Bool := isTupD 1 6 d && (itemsD d).all isPriceD
def areAmtsD (d : PyData) : Bool := isTupD 1 6 d && (itemsD d).all isAmtD && (itemsD d).any posD
def isDayD (d : PyData) : Bool := isTupD 2 2 d && arePricesD ((itemsD d).getD 0 .none) && areAmtsD ((itemsD d).getD 1 .none) && decide ((itemsD ((itemsD d).getD 0 .none)).length = (itemsD ((itemsD d).getD 1 .none)).length)
def waresD (d : PyData) : Nat := (itemsD ((itemsD d).getD 0 .none)).length
def isBookD (d : PyData) : Bool := isTupD 1 8 d && (itemsD d).all isDayD && (itemsD d).all fun e => decide (waresD e = waresD ((itemsD d).getD 0 .none))
theorem isI_ty (d : PyData) : IsI (tyD d) (isIntD d) := by cases d <;> constructor
def sb_is_tuple (K : PySem.W.Frag) (a b c : V) (H : Hp) (Q : VK) (E : XK) : Prop := ∃ (d : PyData) (lo hi : Nat), Rep H a d ∧ b = .int lo ∧ c = .int hi ∧ Q (.bl (isTupD lo hi d)) H
def sp_is_tuple (K : PySem.W.Frag) : Sp := sp3 (sb_is_tuple K)
def sb_is_price (K : PySem.W.Frag) (a : V) (H : Hp) (Q : VK) (E : XK) : Prop := ∃ d : PyData, Rep H a d ∧ Q (.bl (isPriceD d)) H
def sp_is_price (K : PySem.W.Frag) : Sp := sp1 (sb_is_price K)
def sb_is_amount (K : PySem.W.Frag) (a : V) (H : Hp) (Q : VK) (E : XK) : Prop := ∃ d : PyData, Rep H a d ∧ Q (.bl (isAmtD d)) H
def sp_is_amount (K : PySem.W.Frag) : Sp := sp1 (sb_is_amount K)
def sb_are_prices (K : PySem.W.Frag) (a : V) (H : Hp) (Q : VK) (E : XK) : Prop := ∃ d : PyData, Rep H a d ∧ ∀ H', Same H H' → Q (.bl (arePricesD d)) H'
def sp_are_prices (K : PySem.W.Frag) : Sp := sp1 (sb_are_prices K)
def sb_are_amounts (K : PySem.W.Frag) (a : V) (H : Hp) (Q : VK) (E : XK) : Prop := ∃ d : PyData, Rep H a d ∧ ∀ H', Same H H' → Q (.bl (areAmtsD d)) H'
def sp_are_amounts (K : PySem.W.Frag) : Sp := sp1 (sb_are_amounts K)
def sb_is_day (K : PySem.W.Frag) (a : V) (H : Hp) (Q : VK) (E : XK) : Prop := ∃ d : PyData, Rep H a d ∧ ∀ H', Same H H' → Q (.bl (isDayD d)) H'
def sp_is_day (K : PySem.W.Frag) : Sp := sp1 (sb_is_day K)
def sb_is_book (K : PySem.W.Frag) (a : V) (H : Hp) (Q : VK) (E : XK) : Prop := ∃ d : PyData, Rep H a d ∧ ∀ H', Same H H' → Q (.bl (isBookD d)) H'
def sp_is_book (K : PySem.W.Frag) : Sp := sp1 (sb_is_book K)
def tb_is_tuple (K : PySem.W.Frag) : TS :=
  (tRet (tAndV (tCB (rIsinst K) (tCons (tVar 0) (tCons (tC (.ty "tuple")) tNil))) (tChain rLeU rLeU (tVar 1) (tCB (rLenU K) (tCons (tVar 0) tNil)) (tVar 2))))
def tb_is_price (K : PySem.W.Frag) : TS :=
  (tRet (tAndV (tCall (sp_is_int K) [] E0 (tCons (tVar 0) tNil)) (tChain rLeU rLeU (tC (.int 1)) (tVar 0) (tC (.int 1000000000)))))
def tb_is_amount (K : PySem.W.Frag) : TS :=
  (tRet (tAndV (tCall (sp_is_int K) [] E0 (tCons (tVar 0) tNil)) (tChain rLeU rLeU (tC (.int 0)) (tVar 0) (tC (.int 1000000000000000000)))))
def tb_are_prices (K : PySem.W.Frag) : TS :=
  (tRet (tAndV (tCall (sp_is_tuple K) [] E0 (tCons (tVar 0) (tCons (tC (.int 1)) (tCons (tC (.int 6)) tNil)))) (tCB (rAllU K) (tCons (tComp [none] (iSeq K (tVar 0)) (gName 0) tYes (tCall (sp_is_price K) [] E0 (tCons (tVar 0) tNil))) tNil))))
def tb_are_amounts (K : PySem.W.Frag) : TS :=
  (tSeq (tIfS (tOr (tNot (tTru K (tCall (sp_is_tuple K) [] E0 (tCons (tVar 0) (tCons (tC (.int 1)) (tCons (tC (.int 6)) tNil)))))) (tNot (tTru K (tCB (rAllU K) (tCons (tComp [none] (iSeq K (tVar 0)) (gName 0) tYes (tCall (sp_is_amount K) [] E0 (tCons (tVar 0) tNil))) tNil))))) (tRet (tC (.bl false))) tNext)
    (tRet (tCB (rAnyU K) (tCons (tComp [none] (iSeq K (tVar 0)) (gName 0) tYes (tOp rGtU (tVar 0) (tC (.int 0)))) tNil))))
def tb_is_day (K : PySem.W.Frag) : TS :=
  (tSeq (tIfS (tNot (tTru K (tCall (sp_is_tuple K) [] E0 (tCons (tVar 0) (tCons (tC (.int 2)) (tCons (tC (.int 2)) tNil)))))) (tRet (tC (.bl false))) tNext)
    (tSeq (tAsg (tOp (rIx K) (tVar 0) (tC (.int 0))) (gName 1))
    (tSeq (tAsg (tOp (rIx K) (tVar 0) (tC (.int 1))) (gName 2))
    (tRet (tAndV (tCall (sp_are_prices K) [] E0 (tCons (tVar 1) tNil)) (tAndV (tCall (sp_are_amounts K) [] E0 (tCons (tVar 2) tNil)) (tOp (rEqU K) (tCB (rLenU K) (tCons (tVar 1) tNil)) (tCB (rLenU K) (tCons (tVar 2) tNil)))))))))
def tb_is_book (K : PySem.W.Frag) : TS :=
  (tSeq (tIfS (tOr (tNot (tTru K (tCall (sp_is_tuple K) [] E0 (tCons (tVar 0) (tCons (tC (.int 1)) (tCons (tC (.int 8)) tNil)))))) (tNot (tTru K (tCB (rAllU K) (tCons (tComp [none] (iSeq K (tVar 0)) (gName 0) tYes (tCall (sp_is_day K) [] E0 (tCons (tVar 0) tNil))) tNil))))) (tRet (tC (.bl false))) tNext)
    (tSeq (tAsg (tCB (rLenU K) (tCons (tOp (rIx K) (tOp (rIx K) (tVar 0) (tC (.int 0))) (tC (.int 0))) tNil)) (gName 1))
    (tRet (tCB (rAllU K) (tCons (tComp [none, some 1] (iSeq K (tVar 0)) (gName 0) tYes (tOp (rEqU K) (tCB (rLenU K) (tCons (tOp (rIx K) (tVar 0) (tC (.int 0))) tNil)) (tVar 1))) tNil)))))
theorem kit_tupD {K : PySem.W.Frag} (d : PyData) : ∃ b, PySem.W.kitOne K (tyD d) (.type "tuple") = some b ∧ (b = true → ∃ xs, d = .tuple xs) ∧ (b = false → ∀ lo hi, isTupD lo hi d = false) := by
  cases d with
  | tuple xs => exact ⟨true, by kernel_rfl, fun _ => ⟨xs, rfl⟩, fun z => by cases z⟩
  | none => exact ⟨false, by kernel_rfl, fun z => (by cases z), fun _ _ _ => rfl⟩
  | bool _ => exact ⟨false, by kernel_rfl, fun z => (by cases z), fun _ _ _ => rfl⟩
  | int _ => exact ⟨false, by kernel_rfl, fun z => (by cases z), fun _ _ _ => rfl⟩
  | str _ => exact ⟨false, by kernel_rfl, fun z => (by cases z), fun _ _ _ => rfl⟩
  | list _ => exact ⟨false, by kernel_rfl, fun z => (by cases z), fun _ _ _ => rfl⟩
  | dict _ => exact ⟨false, by kernel_rfl, fun z => (by cases z), fun _ _ _ => rfl⟩
theorem rd_is_tuple {K : PySem.W.Frag} {a b c : V} {H : Hp} {Q : VK} {E : XK} (h : sb_is_tuple K a b c H Q E) : tb_is_tuple K (Rt Q) [some a, some b, some c] H := by
  obtain ⟨d, lo, hi, r, rfl, rfl, q⟩ := h
  obtain ⟨k, e, h1, h2⟩ := kit_tupD (K := K) d
  unfold tb_is_tuple
  refine w_ret (w_andV (w_cb (w_cons (w_var rfl (w_cons (w_c (w_nil ?_)))))))
  refine ⟨a, "tuple", _, k, rfl, r.ty, e, w_bl (iteB (fun z => ?_) fun z => ?_)⟩
  · obtain ⟨xs, rfl⟩ := h1 z
    unfold Rep at r
    obtain ⟨p, ys, rfl, hp, rs⟩ := r
    have hl := rs.length
    refine w_chain (w_var rfl (w_cb (w_cons (w_var rfl (w_nil (w_lenT (SqT.of hp) (w_leI (w_bl ?_))))))))
    have e1 : isTupD lo hi (.tuple xs) = (decide ((lo : Int) ≤ (ys.length : Int)) && decide ((ys.length : Int) ≤ (hi : Int))) := by
      show (decide (lo ≤ xs.length) && decide (xs.length ≤ hi)) = _
      rw [← hl]
      congr 1 <;> simp only [Int.ofNat_le]
    rw [e1] at q
    refine iteB (fun z => ?_) fun z => ?_
    · refine w_var rfl (w_leI ?_)
      rw [z, Bool.true_and] at q; exact q
    · rw [z, Bool.false_and] at q; exact q
  · rw [h2 z] at q; exact q
theorem rd_is_price {K : PySem.W.Frag} {a : V} {H : Hp} {Q : VK} {E : XK} (h : sb_is_price K a H Q E) : tb_is_price K (Rt Q) [some a] H := by
  obtain ⟨d, r, q⟩ := h
  unfold tb_is_price
  refine w_ret (w_andV (w_call (w_cons (w_var rfl (w_nil ⟨_, rfl, _, _, r.ty, isI_ty d, w_bl ?_⟩)))))
  cases d with
  | int i =>
    unfold Rep at r
    subst r
    refine iteT (w_chain (w_c (w_var rfl (w_leI (w_bl (iteB (fun z => ?_) fun z => ?_))))))
    · refine w_c (w_leI ?_)
      have q : Q (.bl (decide (1 ≤ i) && decide (i ≤ 1000000000))) H := q
      rw [z, Bool.true_and] at q; exact q
    · have q : Q (.bl (decide (1 ≤ i) && decide (i ≤ 1000000000))) H := q
      rw [z, Bool.false_and] at q; exact q
  | none => exact iteF q
  | bool _ => exact iteF q
  | str _ => exact iteF q
  | list _ => exact iteF q
  | tuple _ => exact iteF q
  | dict _ => exact iteF q
theorem rd_is_amount {K : PySem.W.Frag} {a : V} {H : Hp} {Q : VK} {E : XK} (h : sb_is_amount K a H Q E) : tb_is_amount K (Rt Q) [some a] H := by
  obtain ⟨d, r, q⟩ := h
  unfold tb_is_amount
  refine w_ret (w_andV (w_call (w_cons (w_var rfl (w_nil ⟨_, rfl, _, _, r.ty, isI_ty d, w_bl ?_⟩)))))
  cases d with
  | int i =>
    unfold Rep at r
    subst r
    refine iteT (w_chain (w_c (w_var rfl (w_leI (w_bl (iteB (fun z => ?_) fun z => ?_))))))
    · refine w_c (w_leI ?_)
      have q : Q (.bl (decide (0 ≤ i) && decide (i ≤ 1000000000000000000))) H := q
      rw [z, Bool.true_and] at q; exact q
    · have q : Q (.bl (decide (0 ≤ i) && decide (i ≤ 1000000000000000000))) H := q
      rw [z, Bool.false_and] at q; exact q
  | none => exact iteF q
  | bool _ => exact iteF q
  | str _ => exact iteF q
  | list _ => exact iteF q
  | tuple _ => exact iteF q
  | dict _ => exact iteF q
theorem tup_of {lo hi : Nat} {d : PyData} (h : isTupD lo hi d = true) : ∃ xs, d = .tuple xs ∧ lo ≤ xs.length ∧ xs.length ≤ hi := by
  cases d with
  | tuple xs =>
    have h' : (decide (lo ≤ xs.length) && decide (xs.length ≤ hi)) = true := h
    rw [Bool.and_eq_true] at h'
    exact ⟨xs, rfl, of_decide_eq_true h'.1, of_decide_eq_true h'.2⟩
  | none => cases h
  | bool _ => cases h
  | int _ => cases h
  | str _ => cases h
  | list _ => cases h
  | dict _ => cases h
theorem all_eq {ds : List PyData} {bs : List Bool} {f : PyData → Bool} (hl : bs.length = ds.length) (h : ∀ (i : Nat) b, bs[i]? = some b → ∃ d, ds[i]? = some d ∧ b = f d) : bs = ds.map f := by
  apply List.ext_getElem?
  intro i
  rw [List.getElem?_map]
  cases e : bs[i]? with
  | none =>
    have : ds[i]? = none := List.getElem?_eq_none_iff.mpr (by have := List.getElem?_eq_none_iff.mp e; omega)
    rw [this]; rfl
  | some b =>
    obtain ⟨d, e1, e2⟩ := h i b e
    rw [e1, e2]; rfl
theorem rd_allOf {K : PySem.W.Frag} {H : Hp} {σ : St} {p : Addr} {xs : List V} {ds : List PyData} {l : List (Option Nat)} {te : TE} {σr : St} {n : Nat} {Q : VK} (f : PyData → Bool) (hσ : σ[n]? = some (some (.ref p))) (hp : H p = some (.tup xs)) (rs : Reps H xs ds) (hz : ds.length ≤ 8) (hini : ∃ r0, iniOf l σ = r0 :: σr)
    (hs : ∀ (i : Nat) x d H1 (R : VK), xs[i]? = some x → ds[i]? = some d → Same H H1 → Rep H1 x d → (∀ H2, Same H1 H2 → R (.bl (f d)) H2) → te (some x :: σr) H1 R)
    (q : ∀ D H', H D = none → Same H H' → H' D = some (.lst ((ds.map f).map V.bl)) → Q (.ref D) H') :
    tComp l (iSeq K (tVar n)) (gName 0) tYes te σ H Q := by
  have hl := rs.length
  refine w_comp (w_seq0 (w_var hσ (⟨_, rfl, .inr ⟨⟨_, SqT.of hp⟩, fun D hD => ?_⟩⟩)))
  refine comp_seqP (K := K) (a := p) (.inl ⟨rfl, hp⟩) D (fun i v _ => ∃ d, ds[i]? = some d ∧ v = .bl (f d)) (fun _ _ _ _ _ z => z) (by omega) hD hini (fun i x H1 R hi s1 k => ?_) (fun ys H1 hy hall s1 hD1 => ?_)
  · obtain ⟨d, hd, rd⟩ := rs.get hi
    exact hs i x d H1 R hi hd s1 (Rep.mono s1 d x rd) fun H2 s2 => k _ H2 s2 ⟨d, hd, rfl⟩
  · obtain ⟨bs, e, hb⟩ := all_bls (P := fun i b => ∃ d, ds[i]? = some d ∧ b = f d) (fun i v hv => by obtain ⟨d, h1, h2⟩ := hall i v hv; exact ⟨f d, h2, d, h1, rfl⟩)
    have e2 : bs = ds.map f := all_eq (by have := congrArg List.length e; simp at this; omega) hb
    subst e e2
    exact q D H1 hD s1 hD1
theorem all_id (ds : List PyData) (f : PyData → Bool) : (ds.map f).all id = ds.all f := by
  induction ds with
  | nil => rfl
  | cons d ds ih => simp only [List.map_cons, List.all_cons, id, ih]
theorem any_id (ds : List PyData) (f : PyData → Bool) : (ds.map f).any id = ds.any f := by
  induction ds with
  | nil => rfl
  | cons d ds ih => simp only [List.map_cons, List.any_cons, id, ih]
theorem rd_are_prices {K : PySem.W.Frag} {a : V} {H : Hp} {Q : VK} {E : XK} (h : sb_are_prices K a H Q E) : tb_are_prices K (Rt Q) [some a] H := by
  obtain ⟨d, r, q⟩ := h
  unfold tb_are_prices
  refine w_ret (w_andV (w_call (w_cons (w_var rfl (w_cons (w_c (w_cons (w_c (w_nil ⟨_, _, _, rfl, d, 1, 6, r, rfl, rfl, w_bl ?_⟩)))))))))
  refine iteB (fun z => ?_) fun z => ?_
  · obtain ⟨ds, rfl, h1, h2⟩ := tup_of z
    unfold Rep at r
    obtain ⟨p, xs, rfl, hp, rs⟩ := r
    refine w_cb (w_cons (rd_allOf isPriceD rfl hp rs (by omega) ⟨_, rfl⟩ (fun i x d H1 R hi hd s1 rd k => ?_) fun D H1 hD s1 hD1 => w_nil (w_allA (.inl (SqL.of hD1)) ?_)))
    · exact w_call (w_cons (w_var rfl (w_nil ⟨_, rfl, d, rd, k _ (Same.refl _)⟩)))
    · rw [all_id]
      have := q H1 s1
      unfold arePricesD at this
      rw [z, Bool.true_and] at this; exact this
  · have := q H (Same.refl _)
    unfold arePricesD at this
    rw [z, Bool.false_and] at this; exact this
theorem rd_are_amounts {K : PySem.W.Frag} {a : V} {H : Hp} {Q : VK} {E : XK} (h : sb_are_amounts K a H Q E) : tb_are_amounts K (Rt Q) [some a] H := by
  obtain ⟨d, r, q⟩ := h
  unfold tb_are_amounts
  refine w_seq (w_ifS (w_or (w_not (w_tru (w_call (w_cons (w_var rfl (w_cons (w_c (w_cons (w_c (w_nil ⟨_, _, _, rfl, d, 1, 6, r, rfl, rfl, w_trub ?_⟩))))))))))))
  cases z : isTupD 1 6 d with
  | false =>
    refine iteT (iteT (w_ret (w_c ?_)))
    have := q H (Same.refl _)
    unfold areAmtsD at this
    rw [z, Bool.false_and, Bool.false_and] at this; exact this
  | true =>
    obtain ⟨ds, rfl, h1, h2⟩ := tup_of z
    unfold Rep at r
    obtain ⟨p, xs, rfl, hp, rs⟩ := r
    refine iteF (w_not (w_tru (w_cb (w_cons (rd_allOf isAmtD rfl hp rs (by omega) ⟨_, rfl⟩ (fun i x d H1 R hi hd s1 rd k => ?_) fun D H1 hD s1 hD1 => w_nil (w_allA (.inl (SqL.of hD1)) (w_trub ?_)))))))
    · exact w_call (w_cons (w_var rfl (w_nil ⟨_, rfl, d, rd, k _ (Same.refl _)⟩)))
    · rw [all_id]
      have qa : ∀ H', Same H H' → Q (.bl (ds.all isAmtD && ds.any posD)) H' := fun H' s => by
        have := q H' s
        unfold areAmtsD at this
        rw [z, Bool.true_and] at this; exact this
      cases y : ds.all isAmtD with
      | false =>
        refine iteT (w_ret (w_c ?_))
        have := qa H1 s1
        rw [y, Bool.false_and] at this; exact this
      | true =>
        refine iteF (w_next (w_ret (w_cb (w_cons (rd_allOf posD rfl (s1 _ _ hp) (Reps.mono s1 _ _ rs) (by omega) ⟨_, rfl⟩ (fun i x d H2 R hi hd s2 rd k => ?_) fun D2 H2 hD2 s2 hD3 => w_nil (w_anyA (.inl (SqL.of hD3)) ?_))))))
        · have hd' := List.all_eq_true.mp y d (List.mem_of_getElem? hd)
          cases d with
          | int i =>
            unfold Rep at rd
            subst rd
            exact w_op (w_var rfl (w_c (w_gtI (k _ (Same.refl _)))))
          | none => cases hd'
          | bool _ => cases hd'
          | str _ => cases hd'
          | list _ => cases hd'
          | tuple _ => cases hd'
          | dict _ => cases hd'
        · rw [any_id]
          have := qa H2 (s1.trans s2)
          rw [y, Bool.true_and] at this; exact this
theorem rd_is_day {K : PySem.W.Frag} {a : V} {H : Hp} {Q : VK} {E : XK} (h : sb_is_day K a H Q E) : tb_is_day K (Rt Q) [some a, none, none] H := by
  obtain ⟨d, r, q⟩ := h
  unfold tb_is_day
  refine w_seq (w_ifS (w_not (w_tru (w_call (w_cons (w_var rfl (w_cons (w_c (w_cons (w_c (w_nil ⟨_, _, _, rfl, d, 2, 2, r, rfl, rfl, w_trub ?_⟩)))))))))))
  cases z : isTupD 2 2 d with
  | false =>
    refine iteT (w_ret (w_c ?_))
    have := q H (Same.refl _)
    unfold isDayD at this
    rw [z, Bool.false_and, Bool.false_and, Bool.false_and] at this; exact this
  | true =>
    obtain ⟨ds, rfl, h1, h2⟩ := tup_of z
    match ds, h1, h2 with
    | [d0, d1], _, _ =>
    unfold Rep at r
    obtain ⟨p, xs, rfl, hp, rs⟩ := r
    unfold Reps at rs
    obtain ⟨x0, r1, rfl, rd0, rs⟩ := rs
    unfold Reps at rs
    obtain ⟨x1, r2, rfl, rd1, rs⟩ := rs
    unfold Reps at rs
    subst rs
    have qa : ∀ H', Same H H' → Q (.bl (arePricesD d0 && areAmtsD d1 && decide ((itemsD d0).length = (itemsD d1).length))) H' := fun H' s => by
      have := q H' s
      unfold isDayD at this
      rw [z, Bool.true_and] at this; exact this
    refine iteF (w_next (w_seq (w_asg (w_op (w_var rfl (w_c (w_ixT (SqT.of hp) (v := x0) rfl (w_name ?_))))))))
    refine w_seq (w_asg (w_op (w_var rfl (w_c (w_ixT (SqT.of hp) (v := x1) rfl (w_name ?_))))))
    refine w_ret (w_andV (w_call (w_cons (w_var rfl (w_nil ⟨_, rfl, d0, rd0, fun H1 s1 => w_bl ?_⟩)))))
    cases y : arePricesD d0 with
    | false =>
      refine iteF ?_
      have := qa H1 s1
      rw [y, Bool.false_and, Bool.false_and] at this; exact this
    | true =>
      refine iteT (w_andV (w_call (w_cons (w_var rfl (w_nil ⟨_, rfl, d1, Rep.mono s1 _ _ rd1, fun H2 s2 => w_bl ?_⟩)))))
      have s12 := s1.trans s2
      cases x : areAmtsD d1 with
      | false =>
        refine iteF ?_
        have := qa H2 s12
        rw [y, x, Bool.true_and, Bool.false_and] at this; exact this
      | true =>
        have t0 : isTupD 1 6 d0 = true := by unfold arePricesD at y; rw [Bool.and_eq_true] at y; exact y.1
        have t1 : isTupD 1 6 d1 = true := by unfold areAmtsD at x; rw [Bool.and_eq_true, Bool.and_eq_true] at x; exact x.1.1
        obtain ⟨e0, rfl, _, _⟩ := tup_of t0
        obtain ⟨e1, rfl, _, _⟩ := tup_of t1
        have rd0' := Rep.mono s12 _ _ rd0
        have rd1' := Rep.mono s12 _ _ rd1
        unfold Rep at rd0' rd1'
        obtain ⟨p0, ys0, rfl, hp0, rs0⟩ := rd0'
        obtain ⟨p1, ys1, rfl, hp1, rs1⟩ := rd1'
        refine iteT (w_op (w_cb (w_cons (w_var rfl (w_nil (w_lenT (SqT.of hp0) (w_cb (w_cons (w_var rfl (w_nil (w_lenT (SqT.of hp1) (w_eqI ?_))))))))))))
        have := qa H2 s12
        rw [y, x, Bool.true_and, Bool.true_and] at this
        rw [rs0.length, rs1.length]
        have ee : decide ((e0.length : Int) = (e1.length : Int)) = decide ((itemsD (.tuple e0)).length = (itemsD (.tuple e1)).length) := by
          show _ = decide (e0.length = e1.length)
          simp only [Int.ofNat_inj]
        rw [ee]; exact this
theorem rd_is_book {K : PySem.W.Frag} {a : V} {H : Hp} {Q : VK} {E : XK} (h : sb_is_book K a H Q E) : tb_is_book K (Rt Q) [some a, none] H := by
  obtain ⟨d, r, q⟩ := h
  unfold tb_is_book
  refine w_seq (w_ifS (w_or (w_not (w_tru (w_call (w_cons (w_var rfl (w_cons (w_c (w_cons (w_c (w_nil ⟨_, _, _, rfl, d, 1, 8, r, rfl, rfl, w_trub ?_⟩))))))))))))
  cases z : isTupD 1 8 d with
  | false =>
    refine iteT (iteT (w_ret (w_c ?_)))
    have := q H (Same.refl _)
    unfold isBookD at this
    rw [z, Bool.false_and, Bool.false_and] at this; exact this
  | true =>
    obtain ⟨ds, rfl, h1, h2⟩ := tup_of z
    unfold Rep at r
    obtain ⟨p, xs, rfl, hp, rs⟩ := r
    have hl := rs.length
    have qa : ∀ H', Same H H' → Q (.bl (ds.all isDayD && ds.all fun e => decide (waresD e = waresD (ds.getD 0 .none)))) H' := fun H' s => by
      have := q H' s
      unfold isBookD at this
      rw [z, Bool.true_and] at this; exact this
    refine iteF (w_not (w_tru (w_cb (w_cons (rd_allOf isDayD rfl hp rs (by omega) ⟨_, rfl⟩ (fun i x d H1 R hi hd s1 rd k => ?_) fun D H1 hD s1 hD1 => w_nil (w_allA (.inl (SqL.of hD1)) (w_trub ?_)))))))
    · exact w_call (w_cons (w_var rfl (w_nil ⟨_, rfl, d, rd, k⟩)))
    · rw [all_id]
      cases y : ds.all isDayD with
      | false =>
        refine iteT (w_ret (w_c ?_))
        have := qa H1 s1
        rw [y, Bool.false_and] at this; exact this
      | true =>
        have dayf : ∀ (i : Nat) x d H2, xs[i]? = some x → ds[i]? = some d → Same H1 H2 → ∃ (pd p0 : Addr) (x1 : V) (zs : List V), x = .ref pd ∧ H2 pd = some (.tup [.ref p0, x1]) ∧ H2 p0 = some (.tup zs) ∧ zs.length = waresD d := by
          intro i x d H2 hi hd s2
          have hday := List.all_eq_true.mp y d (List.mem_of_getElem? hd)
          obtain ⟨d', e1, rd⟩ := rs.get hi
          rw [hd] at e1
          cases e1
          unfold isDayD at hday
          rw [Bool.and_eq_true, Bool.and_eq_true, Bool.and_eq_true] at hday
          obtain ⟨es, rfl, l1, l2⟩ := tup_of hday.1.1.1
          match es, l1, l2, hday with
          | [d0, d1], _, _, hday =>
          have t0 : isTupD 1 6 d0 = true := by
            have y0 : arePricesD d0 = true := hday.1.1.2
            unfold arePricesD at y0; rw [Bool.and_eq_true] at y0; exact y0.1
          obtain ⟨e0, rfl, _, _⟩ := tup_of t0
          have rd2 := Rep.mono (s1.trans s2) _ _ rd
          unfold Rep at rd2
          obtain ⟨pd, ys, rfl, hpd, rs2⟩ := rd2
          unfold Reps at rs2
          obtain ⟨y0, r1, rfl, rd0, rs2⟩ := rs2
          unfold Reps at rs2
          obtain ⟨y1, r2, rfl, rd1, rs2⟩ := rs2
          unfold Reps at rs2
          subst rs2
          unfold Rep at rd0
          obtain ⟨p0, zs, rfl, hp0, rz⟩ := rd0
          exact ⟨pd, p0, y1, zs, rfl, hpd, hp0, rz.length⟩
        obtain ⟨d0, hd0⟩ : ∃ d0, ds[0]? = some d0 := ⟨ds[0], by simp [show 0 < ds.length by omega]⟩
        obtain ⟨v0, hv0⟩ : ∃ v0, xs[0]? = some v0 := ⟨xs[0]'(by omega), by simp [show 0 < xs.length by omega]⟩
        obtain ⟨pd, p0, x1, zs, rfl, hpd, hp0, hzs⟩ := dayf 0 v0 d0 H1 hv0 hd0 (Same.refl _)
        have hgd : ds.getD 0 .none = d0 := by rw [List.getD, hd0]; rfl
        refine iteF (w_next (w_seq (w_asg (w_cb (w_cons (w_op (w_op (w_var rfl (w_c (w_ixT (SqT.of (s1 _ _ hp)) (atI_nat (j := 0) hv0) (w_c (w_ixT (SqT.of hpd) (v := .ref p0) rfl (w_nil (w_lenT (SqT.of hp0) (w_name ?_)))))))))))))))
        refine w_ret (w_cb (w_cons (rd_allOf (fun e => decide (waresD e = waresD d0)) rfl (s1 _ _ hp) (Reps.mono s1 _ _ rs) (by omega) ⟨_, rfl⟩ (fun i x d H2 R hi hd s2 rd k => ?_) fun D2 H2 hD2 s2 hD3 => w_nil (w_allA (.inl (SqL.of hD3)) ?_))))
        · obtain ⟨pd', p0', x1', zs', rfl, hpd', hp0', hzs'⟩ := dayf i x d H2 hi hd s2
          refine w_op (w_cb (w_cons (w_op (w_var rfl (w_c (w_ixT (SqT.of hpd') (v := .ref p0') rfl (w_nil (w_lenT (SqT.of hp0') (w_var rfl (w_eqI ?_))))))))))
          rw [hzs, hzs']
          have := k H2 (Same.refl _)
          simp only [Int.ofNat_inj]
          exact this
        · rw [all_id]
          have := qa H2 (s1.trans s2)
          rw [y, Bool.true_and, hgd] at this; exact this
end LB
set_option Elab.async false
set_option linter.all false
set_option maxRecDepth 100000
set_option maxHeartbeats 4000000
namespace LB
open PySem L2
def sb__law_next (K : PySem.W.Frag) (a : V) (H : Hp) (Q : VK) (E : XK) : Prop := ∃ c : Int, a = .int c ∧ ∀ c', 0 ≤ c' → c' < 10000000000000000000000000000000000000000 → Q (.int c') H
def sp__law_next (K : PySem.W.Frag) : Sp := sp1 (sb__law_next K)
def sb__law_shape (K : PySem.W.Frag) (a b : V) (H : Hp) (Q : VK) (E : XK) : Prop := ∃ (c : Int) (n : Nat), a = .int c ∧ b = .int n ∧ 1 ≤ n ∧ n ≤ 8 ∧
  ∀ p (ns : List Int) H', H p = none → Same H H' → H' p = some (.lst (ns.map V.int)) → ns.length = n → (∀ x ∈ ns, 0 ≤ x ∧ x < 4) → 0 < ns.sum → Q (.ref p) H'
def sp__law_shape (K : PySem.W.Frag) : Sp := sp2 (sb__law_shape K)
def sb__law_best (K : PySem.W.Frag) (a b c : V) (H : Hp) (Q : VK) (E : XK) : Prop := ∃ (p1 p2 : Addr) (ps ss : List Int) (j : Nat), a = .ref p1 ∧ b = .ref p2 ∧ c = .int j ∧ H p1 = some (.lst (ps.map V.int)) ∧ H p2 = some (.lst (ss.map V.int)) ∧ ss.length = ps.length ∧ ps.length ≤ 8 ∧ j < ps.length ∧
  (∀ x ∈ ps, 0 ≤ x ∧ x ≤ 1000000000) ∧ (∀ x ∈ ss, 0 ≤ x ∧ x < 4) ∧ ∀ r : Int, (r = 0 ∨ r = 1) → Q (.int r) H
def sp__law_best (K : PySem.W.Frag) : Sp := sp3 (sb__law_best K)
def sb__law_bought (K : PySem.W.Frag) (a b c d e : V) (H : Hp) (Q : VK) (E : XK) : Prop := ∃ (w t : Int) (p1 p2 p3 : Addr) (ps as ss : List Int), a = .int w ∧ b = .ref p1 ∧ c = .ref p2 ∧ d = .ref p3 ∧ e = .int t ∧
  H p1 = some (.lst (ps.map V.int)) ∧ H p2 = some (.lst (as.map V.int)) ∧ H p3 = some (.lst (ss.map V.int)) ∧ as.length = ps.length ∧ ss.length = ps.length ∧ ps.length ≤ 8 ∧ 1 ≤ ps.length ∧
  (∀ x ∈ ps, 1 ≤ x ∧ x ≤ 1000000000) ∧ (∀ x ∈ as, 0 ≤ x ∧ x ≤ 1000000000) ∧ (∀ x ∈ ss, 0 ≤ x ∧ x < 4) ∧ 1 ≤ t ∧ t ≤ 5 ∧ (w = 7 → ∀ x ∈ ps, x ≤ 8) ∧
  ∀ p (rs : List Int) H', (p = p2 ∨ H p = none) → Same H H' → H' p = some (.lst (rs.map V.int)) → rs.length = ps.length → (∀ x ∈ rs, 0 ≤ x ∧ x ≤ 1000000001) → Q (.ref p) H'
def sp__law_bought (K : PySem.W.Frag) : Sp := sp5 (sb__law_bought K)
def sb__law_price (K : PySem.W.Frag) (a b : V) (H : Hp) (Q : VK) (E : XK) : Prop := ∃ (w h : Int), a = .int w ∧ b = .int h ∧ ∀ (r : Int) H', Same H H' → 1 ≤ r → r ≤ 1000000000 → (w = 7 → r ≤ 8) → Q (.int r) H'
def sp__law_price (K : PySem.W.Frag) : Sp := sp2 (sb__law_price K)
def dayD (d : List Int × List Int) : PyData := .tuple [.tuple (d.1.map .int), .tuple (d.2.map .int)]
def bookD (B : List (List Int × List Int)) : PyData := .tuple (B.map dayD)
structure GoodDay (n : Nat) (d : List Int × List Int) : Prop where
  l1 : d.1.length = n
  l2 : d.2.length = n
  pr : ∀ x ∈ d.1, 1 ≤ x ∧ x ≤ 1000000000
  am : ∀ x ∈ d.2, 0 ≤ x ∧ x ≤ 1000000000000000000
  ps : ∃ x ∈ d.2, 0 < x
structure GoodBook (m n : Nat) (B : List (List Int × List Int)) : Prop where
  n1 : 1 ≤ n
  n6 : n ≤ 6
  m1 : 1 ≤ B.length
  m8 : B.length ≤ m
  dy : ∀ d ∈ B, GoodDay n d
def sb__law_day (K : PySem.W.Frag) (a b c : V) (H : Hp) (Q : VK) (E : XK) : Prop := ∃ (cc w : Int) (p : Addr) (ss : List Int), a = .int cc ∧ b = .int w ∧ c = .ref p ∧ 0 ≤ cc ∧ cc < 10000000000000000000000000000000000000000 ∧ H p = some (.lst (ss.map V.int)) ∧ 1 ≤ ss.length ∧ ss.length ≤ 8 ∧ (∀ x ∈ ss, 0 ≤ x ∧ x < 4) ∧
  ∀ v d H', Same H H' → Rep H' v (dayD d) → GoodDay ss.length d → (∀ x ∈ d.2, x ≤ 1000000001) → Q v H'
def sp__law_day (K : PySem.W.Frag) : Sp := sp3 (sb__law_day K)
def sb__law_book (K : PySem.W.Frag) (a b c d : V) (H : Hp) (Q : VK) (E : XK) : Prop := ∃ (l : Addr) (ns : List Int) (s m n : Nat), a = .ref l ∧ b = .int s ∧ c = .int m ∧ d = .int n ∧ SqL K H l (ns.map V.int) ∧ (∀ n ∈ ns, Builtin.Int.intBits n ≤ 1048576) ∧ s ≤ 900 ∧ 1 ≤ m ∧ m ≤ 8 ∧ 1 ≤ n ∧ n ≤ 6 ∧
  ∀ v B k H', Same H H' → Rep H' v (bookD B) → GoodBook m k B → k ≤ n → (∀ d ∈ B, ∀ x ∈ d.2, x ≤ 1000000002) → Q v H'
def sp__law_book (K : PySem.W.Frag) : Sp := sp4 (sb__law_book K)
def tb__law_next (K : PySem.W.Frag) : TS :=
  (tRet (tOp rModU (tOp (rAddU K) (tOp (rMulU K) (tVar 0) (tC (.int 6364136223846793007))) (tC (.int 1442695040888963407))) (tC (.int 10000000000000000000000000000000000000000))))
def tb__law_shape (K : PySem.W.Frag) : TS :=
  (tSeq (tAsg (tLst tNil) (gName 2))
    (tSeq (tFor (iRng1 (tCons (tVar 1) tNil)) (gName 3) (tSeq (tAsg (tCall (sp__law_next K) [] E0 (tCons (tVar 0) tNil)) (gName 0))
    (tDrop (tBM K "list" rAppend (tVar 2) (tCons (tOp rModU (tOp rDivU (tVar 0) (tC (.int 1000000000000000))) (tC (.int 4))) tNil)))))
    (tSeq (tIfS (tTest (tOp (rEqU K) (tCB (rSumU K) (tCons (tVar 2) tNil)) (tC (.int 0)))) (tAsg (tC (.int 1)) (gSub (tVar 2) (tC (.int 0)) rSetL)) tNext)
    (tRet (tVar 2)))))
def tb__law_best (K : PySem.W.Frag) : TS :=
  (tSeq (tFor (iRng1 (tCons (tCB (rLenU K) (tCons (tVar 0) tNil)) tNil)) (gName 3) (tIfS (tTest (tOp rGtU (tOp (rMulU K) (tOp (rAddU K) (tC (.int 1)) (tOp (rIx K) (tVar 1) (tVar 3))) (tOp (rIx K) (tVar 0) (tVar 2))) (tOp (rMulU K) (tOp (rAddU K) (tC (.int 1)) (tOp (rIx K) (tVar 1) (tVar 2))) (tOp (rIx K) (tVar 0) (tVar 3))))) (tRet (tC (.int 0))) tNext))
    (tRet (tC (.int 1))))
def tb__law_bought (K : PySem.W.Frag) : TS :=
  (tSeq (tIfS (tTest (tOp (rEqU K) (tVar 0) (tC (.int 3)))) (tRet (tComp [none, some 4, some 3] (iRng1 (tCons (tCB (rLenU K) (tCons (tVar 1) tNil)) tNil)) (gName 0) tYes (tOp (rMulU K) (tVar 1) (tOp (rIx K) (tVar 2) (tVar 0))))) tNext)
    (tSeq (tIfS (tTest (tOp (rEqU K) (tVar 0) (tC (.int 4)))) (tRet (tComp [none, some 4, some 3, some 1] (iRng1 (tCons (tCB (rLenU K) (tCons (tVar 1) tNil)) tNil)) (gName 0) tYes (tOp rDivU (tOp (rMulU K) (tOp (rMulU K) (tVar 1) (tOp (rIx K) (tVar 2) (tVar 0))) (tC (.int 12))) (tOp (rIx K) (tVar 3) (tVar 0))))) tNext)
    (tSeq (tIfS (tTest (tOp (rEqU K) (tVar 0) (tC (.int 5)))) (tRet (tComp [none, some 2, some 1, some 3] (iRng1 (tCons (tCB (rLenU K) (tCons (tVar 1) tNil)) tNil)) (gName 0) tYes (tOp (rMulU K) (tOp (rAddU K) (tC (.int 1)) (tOp (rIx K) (tVar 1) (tVar 0))) (tCall (sp__law_best K) [] E0 (tCons (tVar 2) (tCons (tVar 3) (tCons (tVar 0) tNil))))))) tNext)
    (tSeq (tIfS (tTest (tOp (rEqU K) (tVar 0) (tC (.int 6)))) (tRet (tComp [none, some 2, some 1] (iRng1 (tCons (tCB (rLenU K) (tCons (tVar 1) tNil)) tNil)) (gName 0) tYes (tOp (rMulU K) (tOp (rAddU K) (tC (.int 1)) (tOp (rIx K) (tVar 1) (tVar 0))) (tCB (rTy_int K) (tCons (tOp (rEqU K) (tOp (rIx K) (tVar 2) (tVar 0)) (tCB (rMinU K) (tCons (tVar 2) tNil))) tNil))))) tNext)
    (tSeq (tIfS (tTest (tOp (rEqU K) (tVar 0) (tC (.int 7)))) (tRet (tComp [none] (iSeq K (tVar 1)) (gName 0) tYes (tOp rSubU (tC (.int 9)) (tVar 0)))) tNext)
    (tRet (tVar 2)))))))
def tb__law_price (K : PySem.W.Frag) : TS :=
  (tSeq (tIfS (tTest (tOp (rEqU K) (tVar 0) (tC (.int 0)))) (tRet (tOp (rAddU K) (tC (.int 1)) (tOp rModU (tVar 1) (tC (.int 3))))) tNext)
    (tSeq (tIfS (tTest (tOp (rEqU K) (tVar 0) (tC (.int 1)))) (tRet (tOp (rAddU K) (tC (.int 1)) (tOp rModU (tVar 1) (tC (.int 5))))) tNext)
    (tSeq (tIfS (tTest (tOp (rEqU K) (tVar 0) (tC (.int 2)))) (tRet (tOp (rAddU K) (tC (.int 1)) (tOp rModU (tVar 1) (tC (.int 1000000000))))) tNext)
    (tSeq (tIfS (tTest (tOp (rEqU K) (tVar 0) (tC (.int 4)))) (tRet (tOp (rIx K) (tLst (tCons (tC (.int 1)) (tCons (tC (.int 2)) (tCons (tC (.int 3)) (tCons (tC (.int 4)) (tCons (tC (.int 6)) (tCons (tC (.int 12)) tNil))))))) (tOp rModU (tVar 1) (tC (.int 6))))) tNext)
    (tRet (tOp (rAddU K) (tC (.int 1)) (tOp rModU (tVar 1) (tC (.int 8)))))))))
def tb__law_day (K : PySem.W.Frag) : TS :=
  (tSeq (tAsg (tLst tNil) (gName 3))
    (tSeq (tAsg (tLst tNil) (gName 4))
    (tSeq (tFor (iRng1 (tCons (tCB (rLenU K) (tCons (tVar 2) tNil)) tNil)) (gName 5) (tSeq (tAsg (tCall (sp__law_next K) [] E0 (tCons (tVar 0) tNil)) (gName 0))
    (tSeq (tAsg (tOp rDivU (tVar 0) (tC (.int 1000000000000000))) (gName 6))
    (tSeq (tDrop (tBM K "list" rAppend (tVar 3) (tCons (tCall (sp__law_price K) [] E0 (tCons (tVar 1) (tCons (tVar 6) tNil))) tNil)))
    (tDrop (tBM K "list" rAppend (tVar 4) (tCons (tOp (rIx K) (tLst (tCons (tOp rModU (tOp rDivU (tVar 6) (tC (.int 420))) (tC (.int 4))) (tCons (tOp rModU (tOp rDivU (tVar 6) (tC (.int 1000000000))) (tC (.int 1000000000))) tNil))) (tCB (rTy_int K) (tCons (tOp (rEqU K) (tVar 1) (tC (.int 2))) tNil))) tNil)))))))
    (tSeq (tIfS (tTest (tOp (rEqU K) (tVar 1) (tC (.int 8)))) (tSeq (tAsg (tOp rModU (tOp rDivU (tVar 0) (tC (.int 10000000000000000000000000))) (tCB (rLenU K) (tCons (tVar 3) tNil))) (gName 7))
    (tSeq (tAsg (tComp [none, some 0, some 7, some 2] (iRng1 (tCons (tCB (rLenU K) (tCons (tVar 2) tNil)) tNil)) (gName 0) tYes (tOp (rIx K) (tLst (tCons (tC (.int 9)) (tCons (tOp (rAddU K) (tC (.int 2)) (tOp rModU (tVar 1) (tC (.int 2)))) tNil))) (tCB (rTy_int K) (tCons (tOp (rEqU K) (tVar 0) (tOp rModU (tOp (rAddU K) (tVar 2) (tC (.int 1))) (tCB (rLenU K) (tCons (tVar 3) tNil)))) tNil)))) (gName 3))
    (tSeq (tAsg (tC (.int 3)) (gSub (tVar 3) (tVar 7) rSetL))
    (tAsg (tComp [none, some 7] (iRng1 (tCons (tCB (rLenU K) (tCons (tVar 2) tNil)) tNil)) (gName 0) tYes (tCB (rTy_int K) (tCons (tOp (rEqU K) (tVar 0) (tVar 1)) tNil))) (gName 4))))) tNext)
    (tSeq (tAsg (tCall (sp__law_bought K) [] E0 (tCons (tVar 1) (tCons (tVar 3) (tCons (tVar 4) (tCons (tVar 2) (tCons (tOp (rAddU K) (tC (.int 1)) (tOp rModU (tOp rDivU (tVar 0) (tC (.int 1000000000000000000000000000000))) (tC (.int 5)))) tNil)))))) (gName 4))
    (tSeq (tIfS (tTest (tOp (rEqU K) (tCB (rSumU K) (tCons (tVar 4) tNil)) (tC (.int 0)))) (tAsg (tC (.int 1)) (gSub (tVar 4) (tC (.int 0)) rSetL)) tNext)
    (tRet (tTup (tCons (tCB (rTy_tuple K) (tCons (tVar 3) tNil)) (tCons (tCB (rTy_tuple K) (tCons (tVar 4) tNil)) tNil))))))))))
def tb__law_book (K : PySem.W.Frag) : TS :=
  (tSeq (tAsg (tCall (sp__law_cell K) [] E0 (tCons (tVar 0) (tCons (tVar 1) tNil))) (gName 4))
    (tSeq (tAsg (tOp (rIx K) (tLst (tCons (tC (.int 0)) (tCons (tC (.int 1)) (tCons (tC (.int 0)) (tCons (tC (.int 2)) (tCons (tC (.int 8)) (tCons (tC (.int 3)) (tCons (tC (.int 4)) (tCons (tC (.int 5)) (tCons (tC (.int 6)) (tCons (tC (.int 7)) tNil))))))))))) (tOp rModU (tOp rDivU (tVar 4) (tC (.int 8))) (tC (.int 10)))) (gName 5))
    (tSeq (tAsg (tCall (sp__law_shape K) [] E0 (tCons (tVar 4) (tCons (tOp (rAddU K) (tC (.int 1)) (tOp rModU (tVar 4) (tVar 3))) tNil))) (gName 6))
    (tSeq (tAsg (tComp [none, some 0, some 1, some 5, some 6] (iRng1 (tCons (tOp (rAddU K) (tC (.int 1)) (tOp rModU (tOp rDivU (tVar 4) (tC (.int 80))) (tVar 2))) tNil)) (gName 0) tYes (tCall (sp__law_day K) [] E0 (tCons (tCall (sp__law_cell K) [] E0 (tCons (tVar 1) (tCons (tOp (rAddU K) (tOp (rAddU K) (tVar 2) (tC (.int 1))) (tVar 0)) tNil))) (tCons (tVar 3) (tCons (tVar 4) tNil))))) (gName 7))
    (tSeq (tIfS (tTest (tOp (rEqU K) (tOp rModU (tOp rDivU (tVar 4) (tC (.int 1000))) (tC (.int 4))) (tC (.int 0)))) (tSeq (tAsg (tOp rModU (tOp rDivU (tVar 4) (tC (.int 4000))) (tCB (rLenU K) (tCons (tVar 7) tNil))) (gName 8))
    (tSeq (tAsg (tOp rModU (tOp rDivU (tVar 4) (tC (.int 40000))) (tCB (rLenU K) (tCons (tVar 6) tNil))) (gName 9))
    (tSeq (tAsg (tOp (rAddU K) (tOp (rAddU K) (tSl (rSlU K) (tOp (rIx K) (tOp (rIx K) (tVar 7) (tVar 8)) (tC (.int 1))) tNoPart (tPart (tVar 9))) (tTup (tCons (tOp (rAddU K) (tOp (rIx K) (tOp (rIx K) (tOp (rIx K) (tVar 7) (tVar 8)) (tC (.int 1))) (tVar 9)) (tC (.int 1))) tNil))) (tSl (rSlU K) (tOp (rIx K) (tOp (rIx K) (tVar 7) (tVar 8)) (tC (.int 1))) (tPart (tOp (rAddU K) (tVar 9) (tC (.int 1)))) tNoPart)) (gName 10))
    (tAsg (tTup (tCons (tOp (rIx K) (tOp (rIx K) (tVar 7) (tVar 8)) (tC (.int 0))) (tCons (tVar 10) tNil))) (gSub (tVar 7) (tVar 8) rSetL))))) tNext)
    (tRet (tCB (rTy_tuple K) (tCons (tVar 7) tNil))))))))
theorem rd__law_next {K : PySem.W.Frag} {a : V} {H : Hp} {Q : VK} {E : XK} (h : sb__law_next K a H Q E) : tb__law_next K (Rt Q) [some a] H := by
  obtain ⟨c, rfl, q⟩ := h
  unfold tb__law_next
  exact w_ret (w_op (w_op (w_op (w_var rfl (w_c (w_mulI (mulok_r (by decide) (by decide)) (w_c (w_addI (w_c (w_modI (by decide) (q _ (Int.emod_nonneg _ (by decide)) (Int.emod_lt_of_pos _ (by decide)))))))))))))
theorem rd__law_shape {K : PySem.W.Frag} {a b : V} {H : Hp} {Q : VK} {E : XK} (h : sb__law_shape K a b H Q E) : tb__law_shape K (Rt Q) [some a, some b, none, none] H := by
  obtain ⟨c, n, rfl, rfl, n1, n8, q⟩ := h
  unfold tb__law_shape
  refine w_seq (w_asg (w_lst (w_nil ⟨Nat.zero_le _, fun p hp => w_name ?_⟩)))
  refine w_seq (w_for (w_rng1 (w_cons (w_var rfl (w_nil (⟨_, rfl, (rng_ok (by omega)).1, (rng_ok (by omega)).2, (for_range0 (fun i σ H2 => ∃ (c : Int) (ns : List Int) (r : Option V), σ = [some (.int c), some (.int n), some (.ref p), r] ∧ Same H H2 ∧ H2 p = some (.lst (ns.map V.int)) ∧ ns.length = i ∧ ∀ x ∈ ns, 0 ≤ x ∧ x < 4)
    ⟨c, [], none, rfl, Same.laid hp, upd_same, rfl, fun x hx => by simp at hx⟩ ?_ ?_)⟩))))))
  · rintro i σ H2 hi ⟨c, ns, r, rfl, s, hp2, hl, hx⟩
    refine w_name (w_seq (w_asg (w_call (w_cons (w_var rfl (w_nil ⟨_, rfl, c, rfl, fun c' d0 d1 => w_name ?_⟩))))))
    refine w_drop (w_bm (w_var rfl ⟨tyV_lst hp2, w_cons (w_op (w_op (w_var rfl (w_c (w_divI (by decide) (by decide) (w_c (w_modI (by decide) (w_nil (w_append hp2 (small1000 (by rw [List.length_map]; omega)) ?_)))))))))⟩))
    refine ⟨c', ns ++ [c' / 1000000000000000 % 4], _, rfl, s.put hp, by rw [upd_same, List.map_append]; rfl, by simp [hl], fun x hx' => ?_⟩
    rcases List.mem_append.mp hx' with e | e
    · exact hx x e
    · rw [List.mem_singleton.mp e]
      exact ⟨Int.emod_nonneg _ (by decide), Int.emod_lt_of_pos _ (by decide)⟩
  · rintro σ H2 ⟨c, ns, r, rfl, s, hp2, hl, hx⟩
    refine w_seq (w_ifS (w_test (w_op (w_cb (w_cons (w_var rfl (w_nil (w_sumA (.inl (SqL.of hp2)) (w_c (w_eqI (w_bl (iteD (fun hz => ?_) fun hz => ?_))))))))))))
    · refine w_asg (w_c (w_sub (w_var rfl (w_c (w_setL hp2 (ixN_at (by decide) (by rw [List.length_map]; omega)) ?_)))))
      refine w_ret (w_var rfl (q p (ns.set 0 1) _ hp (s.put hp) (by rw [upd_same, map_set_int]; rfl) (by rw [List.length_set]; exact hl) (fun x hx' => ?_) ?_))
      · rcases List.mem_or_eq_of_mem_set hx' with e | e
        · exact hx x e
        · subst e; decide
      · refine sum_pos_of (x := 1) (fun y hy => ?_) ?_ (by decide)
        · rcases List.mem_or_eq_of_mem_set hy with e | e
          · exact (hx y e).1
          · subst e; decide
        · exact List.mem_set (by omega) 1
    · refine w_next (w_ret (w_var rfl (q p ns H2 hp s hp2 hl hx ?_)))
      have := sum_nn (ns := ns) fun x h => (hx x h).1
      omega
theorem rd__law_best {K : PySem.W.Frag} {a b c : V} {H : Hp} {Q : VK} {E : XK} (h : sb__law_best K a b c H Q E) : tb__law_best K (Rt Q) [some a, some b, some c, none] H := by
  obtain ⟨p1, p2, ps, ss, j, rfl, rfl, rfl, h1, h2, hl, hn, hj, hps, hss, q⟩ := h
  unfold tb__law_best
  refine w_seq (w_for (w_rng1 (w_cons (w_cb (w_cons (w_var rfl (w_nil (w_lenL (SqL.of h1) (w_nil (⟨_, rfl, (rng_ok (by rw [List.length_map]; omega)).1, (rng_ok (by rw [List.length_map]; omega)).2, (for_range0 (fun i σ H2 => H2 = H ∧ ∃ r, σ = [some (.ref p1), some (.ref p2), some (.int j), r]) ⟨rfl, none, rfl⟩ ?_ ?_)⟩))))))))))
  · rintro i σ H2 hi ⟨rfl, r, rfl⟩
    rw [List.length_map] at hi
    have b1 := hps _ (getD_in hj)
    have b2 := hps _ (getD_in hi)
    have c1 := hss _ (getD_in (show j < ss.length by omega))
    have c2 := hss _ (getD_in (show i < ss.length by omega))
    refine w_name (w_ifS (w_test (w_op (w_op (w_op (w_c (w_op (w_var rfl (w_var rfl (w_ixL (SqL.of h2) (ixi (by omega)) (w_addI (w_op (w_var rfl (w_var rfl (w_ixL (SqL.of h1) (ixi hj) (w_mulI (mulok_l (by omega) (by omega)) ?_))))))))))))))))
    refine w_op (w_op (w_c (w_op (w_var rfl (w_var rfl (w_ixL (SqL.of h2) (ixi (by omega)) (w_addI (w_op (w_var rfl (w_var rfl (w_ixL (SqL.of h1) (ixi hi) (w_mulI (mulok_l (by omega) (by omega)) (w_gtI (w_bl (iteB (fun _ => w_ret (w_c (q 0 (.inl rfl)))) fun _ => w_next ⟨rfl, _, rfl⟩)))))))))))))))
  · rintro σ H2 ⟨rfl, r, rfl⟩
    exact q 1 (.inr rfl)
theorem rd_wares {K : PySem.W.Frag} {H : Hp} {σ σr : St} {l : List (Option Nat)} {te : TE} {p1 : Addr} {ps : List Int} {m : Nat} {Q : VK} (hσ : σ[m]? = some (some (.ref p1))) (h1 : H p1 = some (.lst (ps.map V.int))) (hn : ps.length ≤ 8) (hini : ∃ r0, iniOf l σ = r0 :: σr) (Good : Nat → Int → Prop)
    (hs : ∀ i H1 (R : VK), i < ps.length → Same H H1 → (∀ x H2, Same H1 H2 → Good i x → R (.int x) H2) → te (some (.int (i : Nat)) :: σr) H1 R)
    (q : ∀ p (rs : List Int) H', H p = none → Same H H' → H' p = some (.lst (rs.map V.int)) → rs.length = ps.length → (∀ (i : Nat) x, rs[i]? = some x → Good i x) → Q (.ref p) H') :
    tComp l (iRng1 (tCons (tCB (rLenU K) (tCons (tVar m) tNil)) tNil)) (gName 0) tYes te σ H Q := by
  refine w_comp (w_rng1 (w_cons (w_cb (w_cons (w_var hσ (w_nil (w_lenL (SqL.of h1) (w_nil (⟨_, rfl, (rng_ok (by rw [List.length_map]; omega)).1, (rng_ok (by rw [List.length_map]; omega)).2, fun D hD => ?_⟩)))))))))
  rw [List.length_map]
  refine comp_rangeP D (fun i v _ => ∃ x, v = .int x ∧ Good i x) (fun _ _ _ _ _ z => z) (by omega) hD hini (fun i H1 R hi s1 k => hs i H1 R hi s1 fun x H2 s2 g => k _ H2 s2 ⟨x, rfl, g⟩) (fun ys H1 hy hall s1 hD1 => ?_)
  obtain ⟨rs, rfl, hr⟩ := all_ints hall
  exact q D rs H1 hD s1 hD1 (by simpa using hy) hr
theorem all_of_get {rs : List Int} {P : Int → Prop} (h : ∀ (i : Nat) x, rs[i]? = some x → P x) : ∀ x ∈ rs, P x := fun x hx => by
  obtain ⟨i, hi, e⟩ := List.mem_iff_getElem.mp hx
  exact h i x (by rw [List.getElem?_eq_getElem hi, e])
theorem rd__law_bought {K : PySem.W.Frag} {a b c d e : V} {H : Hp} {Q : VK} {E : XK} (h : sb__law_bought K a b c d e H Q E) : tb__law_bought K (Rt Q) [some a, some b, some c, some d, some e] H := by
  obtain ⟨w, t, p1, p2, p3, ps, as, ss, rfl, rfl, rfl, rfl, rfl, h1, h2, h3, l2, l3, n8, n1, hps, has, hss, t1, t5, h7, q⟩ := h
  unfold tb__law_bought
  have fin : ∀ p (rs : List Int) H', H p = none → Same H H' → H' p = some (.lst (rs.map V.int)) → rs.length = ps.length → (∀ (i : Nat) x, rs[i]? = some x → 0 ≤ x ∧ x ≤ 1000000001) → Q (.ref p) H' := fun p rs H' hp s hp' hl hr => q p rs H' (.inr hp) s hp' hl (all_of_get hr)
  refine w_seq (w_ifS (w_test (w_op (w_var rfl (w_c (w_eqI (w_bl (iteD (fun _ => ?_) fun _ => w_next ?_))))))))
  · refine w_ret (rd_wares rfl h1 n8 ⟨_, rfl⟩ (fun _ x => 0 ≤ x ∧ x ≤ 1000000001) (fun i H1 R hi s1 k => ?_) fin)
    have b := hss _ (getD_in (show i < ss.length by omega))
    refine w_op (w_var rfl (w_op (w_var rfl (w_var rfl (w_ixL (SqL.of (s1 _ _ h3)) (ixi (by omega)) (w_mulI (mulok_l (by omega) (by omega)) (k _ _ (Same.refl _) ?_)))))))
    have e1 : t * ss.getD i 0 ≤ 5 * 3 := Int.mul_le_mul t5 (by omega) b.1 (by decide)
    exact ⟨Int.mul_nonneg (by omega) b.1, by omega⟩
  refine w_seq (w_ifS (w_test (w_op (w_var rfl (w_c (w_eqI (w_bl (iteD (fun _ => ?_) fun _ => w_next ?_))))))))
  · refine w_ret (rd_wares rfl h1 n8 ⟨_, rfl⟩ (fun _ x => 0 ≤ x ∧ x ≤ 1000000001) (fun i H1 R hi s1 k => ?_) fin)
    have b := hss _ (getD_in (show i < ss.length by omega))
    have c := hps _ (getD_in hi)
    have e1 : t * ss.getD i 0 ≤ 5 * 3 := Int.mul_le_mul t5 (by omega) b.1 (by decide)
    have e0 : 0 ≤ t * ss.getD i 0 := Int.mul_nonneg (by omega) b.1
    refine w_op (w_op (w_op (w_var rfl (w_op (w_var rfl (w_var rfl (w_ixL (SqL.of (s1 _ _ h3)) (ixi (by omega)) (w_mulI (mulok_l (by omega) (by omega)) (w_c (w_mulI (mulok_l (by omega) (by omega)) ?_))))))))))
    refine w_op (w_var rfl (w_var rfl (w_ixL (SqL.of (s1 _ _ h1)) (ixi hi) (w_divI (by omega) (by omega) (k _ _ (Same.refl _) ?_)))))
    refine ⟨Int.ediv_nonneg (by omega) (by omega), Int.le_trans (Int.ediv_le_self _ (by omega)) (by omega)⟩
  refine w_seq (w_ifS (w_test (w_op (w_var rfl (w_c (w_eqI (w_bl (iteD (fun _ => ?_) fun _ => w_next ?_))))))))
  · refine w_ret (rd_wares rfl h1 n8 ⟨_, rfl⟩ (fun _ x => 0 ≤ x ∧ x ≤ 1000000001) (fun i H1 R hi s1 k => ?_) fin)
    have b := has _ (getD_in (show i < as.length by omega))
    refine w_op (w_op (w_c (w_op (w_var rfl (w_var rfl (w_ixL (SqL.of (s1 _ _ h2)) (ixi (by omega)) (w_addI ?_)))))))
    refine w_call (w_cons (w_var rfl (w_cons (w_var rfl (w_cons (w_var rfl (w_nil ?_)))))))
    refine ⟨_, _, _, rfl, p1, p3, ps, ss, i, rfl, rfl, rfl, s1 _ _ h1, s1 _ _ h3, l3, n8, hi, fun x hx => ⟨by have := (hps x hx).1; omega, (hps x hx).2⟩, hss, fun r hr => w_mulI (mulok_l (by omega) (by omega)) (k _ _ (Same.refl _) ?_)⟩
    rcases hr with rfl | rfl <;> omega
  refine w_seq (w_ifS (w_test (w_op (w_var rfl (w_c (w_eqI (w_bl (iteD (fun _ => ?_) fun _ => w_next ?_))))))))
  · refine w_ret (rd_wares rfl h1 n8 ⟨_, rfl⟩ (fun _ x => 0 ≤ x ∧ x ≤ 1000000001) (fun i H1 R hi s1 k => ?_) fin)
    have b := has _ (getD_in (show i < as.length by omega))
    refine w_op (w_op (w_c (w_op (w_var rfl (w_var rfl (w_ixL (SqL.of (s1 _ _ h2)) (ixi (by omega)) (w_addI ?_)))))))
    refine w_cb (w_cons (w_op (w_op (w_var rfl (w_var rfl (w_ixL (SqL.of (s1 _ _ h1)) (ixi hi) (w_cb (w_cons (w_var rfl (w_nil ?_))))))))))
    refine ⟨p1, ps, rfl, .inl (SqL.of (s1 _ _ h1)), fun z => by subst z; simp at n1, fun mm _ _ => w_eqI (w_nil (w_intB (w_mulI (mulok_l (by omega) (by omega)) (k _ _ (Same.refl _) ?_))))⟩
    split <;> omega
  refine w_seq (w_ifS (w_test (w_op (w_var rfl (w_c (w_eqI (w_bl (iteD (fun hw => ?_) fun _ => w_next ?_))))))))
  · refine w_ret (w_comp (w_seq0 (w_var rfl (⟨_, rfl, .inl ⟨⟨_, SqL.of h1⟩, fun D hD => ?_⟩⟩))))
    refine comp_seqP (K := K) (a := p1) (.inr ⟨rfl, h1⟩) D (fun i v _ => ∃ x, v = .int x ∧ 0 ≤ x ∧ x ≤ 1000000001) (fun _ _ _ _ _ z => z) (by rw [List.length_map]; omega) hD ⟨_, rfl⟩ (fun i x H1 R hi s1 k => ?_) (fun ys H1 hy hall s1 hD1 => ?_)
    · have hi' : i < ps.length := by have := (List.getElem?_eq_some_iff.mp hi).1; simpa using this
      rw [get_ints hi'] at hi
      cases hi
      have b := hps _ (getD_in hi')
      have b8 := h7 hw _ (getD_in hi')
      exact w_op (w_c (w_var rfl (w_subI (k _ _ (Same.refl _) ⟨_, rfl, by omega, by omega⟩))))
    · obtain ⟨rs, rfl, hr⟩ := all_ints hall
      exact fin D rs H1 hD s1 hD1 (by simpa using hy) hr
  exact w_ret (w_var rfl (q p2 as H (.inl rfl) (Same.refl _) h2 l2 fun x hx => ⟨(has x hx).1, by have := (has x hx).2; omega⟩))
theorem rd__law_price {K : PySem.W.Frag} {a b : V} {H : Hp} {Q : VK} {E : XK} (h : sb__law_price K a b H Q E) : tb__law_price K (Rt Q) [some a, some b] H := by
  obtain ⟨w, h, rfl, rfl, q⟩ := h
  unfold tb__law_price
  refine w_seq (w_ifS (w_test (w_op (w_var rfl (w_c (w_eqI (w_bl (iteD (fun hw => ?_) fun _ => w_next ?_))))))))
  · refine w_ret (w_op (w_c (w_op (w_var rfl (w_c (w_modI (by decide) (w_addI (q _ _ (Same.refl _) (by omega) (by omega) (by omega)))))))))
  refine w_seq (w_ifS (w_test (w_op (w_var rfl (w_c (w_eqI (w_bl (iteD (fun hw => ?_) fun _ => w_next ?_))))))))
  · refine w_ret (w_op (w_c (w_op (w_var rfl (w_c (w_modI (by decide) (w_addI (q _ _ (Same.refl _) (by omega) (by omega) (by omega)))))))))
  refine w_seq (w_ifS (w_test (w_op (w_var rfl (w_c (w_eqI (w_bl (iteD (fun hw => ?_) fun _ => w_next ?_))))))))
  · refine w_ret (w_op (w_c (w_op (w_var rfl (w_c (w_modI (by decide) (w_addI (q _ _ (Same.refl _) (by omega) (by omega) (by omega)))))))))
  refine w_seq (w_ifS (w_test (w_op (w_var rfl (w_c (w_eqI (w_bl (iteD (fun hw => ?_) fun _ => w_next ?_))))))))
  · refine w_ret (w_op (w_lst (w_cons (w_c (w_cons (w_c (w_cons (w_c (w_cons (w_c (w_cons (w_c (w_cons (w_c (w_nil ⟨by show 6 ≤ sizeLine; decide, fun p hp => ?_⟩)))))))))))))))
    refine w_op (w_var rfl (w_c (w_modI (by decide) ?_)))
    have r0 := Int.emod_nonneg h (show (6 : Int) ≠ 0 by decide)
    have r1 := Int.emod_lt_of_pos h (show (0 : Int) < 6 by decide)
    generalize h % 6 = m at r0 r1 ⊢
    have : ∃ r : Int, atI [V.int 1, .int 2, .int 3, .int 4, .int 6, .int 12] m = some (.int r) ∧ 1 ≤ r ∧ r ≤ 12 := by
      rcases (by omega : m = 0 ∨ m = 1 ∨ m = 2 ∨ m = 3 ∨ m = 4 ∨ m = 5) with rfl | rfl | rfl | rfl | rfl | rfl
      · exact ⟨1, rfl, by decide, by decide⟩
      · exact ⟨2, rfl, by decide, by decide⟩
      · exact ⟨3, rfl, by decide, by decide⟩
      · exact ⟨4, rfl, by decide, by decide⟩
      · exact ⟨6, rfl, by decide, by decide⟩
      · exact ⟨12, rfl, by decide, by decide⟩
    obtain ⟨r, e, r1, r2⟩ := this
    exact w_ixL (SqL.of upd_same) e (q r _ (Same.laid hp) r1 (by omega) (by omega))
  refine w_ret (w_op (w_c (w_op (w_var rfl (w_c (w_modI (by decide) (w_addI (q _ _ (Same.refl _) (by omega) (by omega) (by omega)))))))))
end LB
set_option Elab.async false
set_option linter.all false
set_option maxRecDepth 100000
set_option maxHeartbeats 4000000
namespace LB
open PySem L2
theorem w_cat {K : PySem.W.Frag} {H : Hp} {Q : VK} {a b : Addr} {xs ys : List V} (h1 : H a = some (.tup xs)) (h2 : H b = some (.tup ys)) (hz : xs.length + ys.length ≤ 1000) (k : ∀ p H', Same H H' → H' p = some (.tup (xs ++ ys)) → Q (.ref p) H') : rAddU K (.ref a) (.ref b) H Q := by
  by_cases hx : xs = []
  · subst hx
    exact .inr (.inr (.inl ⟨a, b, ys, rfl, rfl, SqT.of h1, SqT.of h2, k b H (Same.refl _) (by simpa using h2)⟩))
  · exact .inr (.inl ⟨a, b, xs, ys, rfl, rfl, SqT.of h1, SqT.of h2, hx, small9 hz, fun z => k a H (Same.refl _) (by subst z; simpa using h1), fun _ p hp => k p _ (Same.laid hp) upd_same⟩)
theorem w_cutTo {K : PySem.W.Frag} {H : Hp} {Q : VK} {a : Addr} {xs : List V} {j : Nat} (h : H a = some (.tup xs)) (hj : j < xs.length) (k : ∀ p H', Same H H' → H' p = some (.tup (xs.take j)) → Q (.ref p) H') : rSlU K (.ref a) none (some (j : Int)) H Q := by
  have e1 : HT.sIx xs.length xs.length (some (j : Int)) = j := by rw [HT.sIx_nat]; omega
  have e0 : HT.sIx xs.length 0 none = 0 := rfl
  refine .inl ⟨a, xs, rfl, SqT.of h, fun z => by rw [e1] at z; omega, fun p hp => k p _ (Same.laid hp) ?_⟩
  rw [upd_same]
  unfold cutV
  rw [e1, e0]; simp
theorem w_cutFrom {K : PySem.W.Frag} {H : Hp} {Q : VK} {a : Addr} {xs : List V} {j : Nat} {i : Int} (h : H a = some (.tup xs)) (hi : i = (j : Int)) (h0 : 0 < j) (hj : j ≤ xs.length) (k : ∀ p H', Same H H' → H' p = some (.tup (xs.drop j)) → Q (.ref p) H') : rSlU K (.ref a) (some i) none H Q := by
  subst hi
  have e1 : HT.sIx xs.length 0 (some (j : Int)) = j := by rw [HT.sIx_nat]; omega
  have e0 : HT.sIx xs.length xs.length none = xs.length := rfl
  refine .inl ⟨a, xs, rfl, SqT.of h, fun z => by rw [e1] at z; omega, fun p hp => k p _ (Same.laid hp) ?_⟩
  rw [upd_same]
  unfold cutV
  rw [e1, e0, List.take_of_length_le (by rw [List.length_drop]; omega)]
theorem rep_day {H : Hp} {p p1 p2 : Addr} {d : List Int × List Int} (h : H p = some (.tup [.ref p1, .ref p2])) (h1 : H p1 = some (.tup (d.1.map V.int))) (h2 : H p2 = some (.tup (d.2.map V.int))) : Rep H (.ref p) (dayD d) := by
  unfold dayD Rep
  refine ⟨p, _, rfl, h, ?_⟩
  unfold Reps
  refine ⟨_, _, rfl, by unfold Rep; exact ⟨p1, _, rfl, h1, Reps.ints _⟩, ?_⟩
  unfold Reps
  refine ⟨_, _, rfl, by unfold Rep; exact ⟨p2, _, rfl, h2, Reps.ints _⟩, ?_⟩
  unfold Reps
  rfl
theorem reps_ints {H : Hp} : ∀ {ns : List Int} {xs : List V}, Reps H xs (ns.map PyData.int) → xs = ns.map V.int
  | [], xs, h => by unfold List.map Reps at h; exact h
  | n :: ns, xs, h => by
    rw [List.map_cons] at h
    unfold Reps at h
    obtain ⟨x, r, rfl, h1, h2⟩ := h
    unfold Rep at h1
    rw [h1, reps_ints h2]; rfl
theorem day_rep {H : Hp} {v : V} {d : List Int × List Int} (h : Rep H v (dayD d)) : ∃ p p1 p2, v = .ref p ∧ H p = some (.tup [.ref p1, .ref p2]) ∧ H p1 = some (.tup (d.1.map V.int)) ∧ H p2 = some (.tup (d.2.map V.int)) := by
  unfold dayD Rep at h
  obtain ⟨p, xs, rfl, hp, rs⟩ := h
  unfold Reps at rs
  obtain ⟨x0, r1, rfl, rd0, rs⟩ := rs
  unfold Reps at rs
  obtain ⟨x1, r2, rfl, rd1, rs⟩ := rs
  unfold Reps at rs
  subst rs
  unfold Rep at rd0 rd1
  obtain ⟨p1, ys1, rfl, h1, q1⟩ := rd0
  obtain ⟨p2, ys2, rfl, h2, q2⟩ := rd1
  rw [reps_ints q1] at h1
  rw [reps_ints q2] at h2
  exact ⟨p, p1, p2, rfl, hp, h1, h2⟩
theorem noL_ints : ∀ (ns : List Int), noLs (ns.map PyData.int) = true
  | [] => rfl
  | n :: ns => by
    show (noL (.int n) && noLs (ns.map PyData.int)) = true
    rw [noL_ints ns]; rfl
theorem noL_day (d : List Int × List Int) : noL (dayD d) = true := by
  unfold dayD
  simp only [noL, noLs, noL_ints, Bool.and_self]
theorem rd__law_day {K : PySem.W.Frag} {a b c : V} {H : Hp} {Q : VK} {E : XK} (h : sb__law_day K a b c H Q E) : tb__law_day K (Rt Q) [some a, some b, some c, none, none, none, none, none] H := by
  obtain ⟨cc, w, p, ss, rfl, rfl, rfl, c0, c1, hp, n1, n8, hss, q⟩ := h
  unfold tb__law_day
  refine w_seq (w_asg (w_lst (w_nil ⟨Nat.zero_le _, fun a1 ha1 => w_name ?_⟩)))
  refine w_seq (w_asg (w_lst (w_nil ⟨Nat.zero_le _, fun a2 ha2 => w_name ?_⟩)))
  have n12 : a1 ≠ a2 := ne_of_none upd_same ha2
  have ha2' : H a2 = none := (Same.laid ha1).free ha2
  have tail : ∀ (c : Int) (b1 b2 : Addr) (ps as : List Int) (r5 r6 r7 : Option V) (H2 : Hp), Same H H2 → H b1 = none → H b2 = none → b1 ≠ b2 → H2 b1 = some (.lst (ps.map V.int)) → H2 b2 = some (.lst (as.map V.int)) → ps.length = ss.length → as.length = ss.length →
      (∀ x ∈ ps, 1 ≤ x ∧ x ≤ 1000000000) → (w = 7 → ∀ x ∈ ps, x ≤ 8) → (∀ x ∈ as, 0 ≤ x ∧ x ≤ 1000000000) →
      (tSeq (tAsg (tCall (sp__law_bought K) [] E0 (tCons (tVar 1) (tCons (tVar 3) (tCons (tVar 4) (tCons (tVar 2) (tCons (tOp (rAddU K) (tC (.int 1)) (tOp rModU (tOp rDivU (tVar 0) (tC (.int 1000000000000000000000000000000))) (tC (.int 5)))) tNil)))))) (gName 4))
        (tSeq (tIfS (tTest (tOp (rEqU K) (tCB (rSumU K) (tCons (tVar 4) tNil)) (tC (.int 0)))) (tAsg (tC (.int 1)) (gSub (tVar 4) (tC (.int 0)) rSetL)) tNext)
        (tRet (tTup (tCons (tCB (rTy_tuple K) (tCons (tVar 3) tNil)) (tCons (tCB (rTy_tuple K) (tCons (tVar 4) tNil)) tNil)))))) (Rt Q) [some (.int c), some (.int w), some (.ref p), some (.ref b1), some (.ref b2), r5, r6, r7] H2 := by
    intro c b1 b2 ps as r5 r6 r7 H2 s2 f1 f2 nb h1 h2 l1 l2 hps h7 has
    have t0 := Int.emod_nonneg (c / 1000000000000000000000000000000) (show (5 : Int) ≠ 0 by decide)
    have t1 := Int.emod_lt_of_pos (c / 1000000000000000000000000000000) (show (0 : Int) < 5 by decide)
    refine w_seq (w_asg (w_call (w_cons (w_var rfl (w_cons (w_var rfl (w_cons (w_var rfl (w_cons (w_var rfl (w_cons (w_op (w_c (w_op (w_op (w_var rfl (w_c (w_divI (by decide) (by decide) (w_c (w_modI (by decide) (w_addI (w_nil ?_))))))))))))))))))))))
    refine ⟨_, _, _, _, _, rfl, w, _, b1, b2, p, ps, as, ss, rfl, rfl, rfl, rfl, rfl, h1, h2, s2 _ _ hp, by omega, by omega, by omega, by omega, hps, has, hss, by omega, by omega, h7, fun p4 rs H3 hp4 s3 h4 hl hr => w_name ?_⟩
    have f4 : H p4 = none := by
      rcases hp4 with e | e
      · rw [e]; exact f2
      · exact s2.free e
    have n4 : b1 ≠ p4 := by
      rcases hp4 with e | e
      · rw [e]; exact nb
      · exact ne_of_none h1 e
    have fin : ∀ (rs : List Int) (H4 : Hp), Same H H4 → H4 b1 = some (.lst (ps.map V.int)) → H4 p4 = some (.lst (rs.map V.int)) → rs.length = ss.length → (∀ x ∈ rs, 0 ≤ x ∧ x ≤ 1000000001) → (∃ x ∈ rs, 0 < x) →
        (tRet (tTup (tCons (tCB (rTy_tuple K) (tCons (tVar 3) tNil)) (tCons (tCB (rTy_tuple K) (tCons (tVar 4) tNil)) tNil)))) (Rt Q) [some (.int c), some (.int w), some (.ref p), some (.ref b1), some (.ref p4), r5, r6, r7] H4 := by
      intro rs H4 s4 g1 g4 hl hr hpos
      refine w_ret (w_tup (w_cons (w_cb (w_cons (w_var rfl (w_nil (w_tupL (SqL.of g1) fun u1 hu1 => ?_)))))))
      have e4 : upd H4 u1 (.tup (ps.map V.int)) p4 = some (.lst (rs.map V.int)) := Same.laid hu1 _ _ g4
      refine w_cons (w_cb (w_cons (w_var rfl (w_nil (w_tupL (SqL.of e4) fun u2 hu2 => w_nil ⟨by show 2 ≤ sizeLine; decide, fun u3 hu3 => ?_⟩)))))
      refine q _ (ps, rs) _ ((s4.laidT hu1).laidT hu2 |>.laidT hu3) (rep_day upd_same ?_ ?_) ⟨l1, hl, hps, fun x hx => ⟨(hr x hx).1, by have := (hr x hx).2; omega⟩, hpos⟩ fun x hx => (hr x hx).2
      · exact Same.laid hu3 _ _ (Same.laid hu2 _ _ upd_same)
      · exact Same.laid hu3 _ _ upd_same
    refine w_seq (w_ifS (w_test (w_op (w_cb (w_cons (w_var rfl (w_nil (w_sumA (.inl (SqL.of h4)) (w_c (w_eqI (w_bl (iteD (fun hz => ?_) fun hz => ?_))))))))))))
    · refine w_asg (w_c (w_sub (w_var rfl (w_c (w_setL h4 (ixN_at (by decide) (by rw [List.length_map]; omega)) ?_)))))
      refine fin (rs.set 0 1) _ ((s2.trans s3).put f4) (by rw [upd_ne n4]; exact s3 _ _ h1) (by rw [upd_same, map_set_int]; rfl) (by rw [List.length_set]; omega) (fun x hx => ?_) ⟨1, List.mem_set (by omega) 1, by decide⟩
      rcases List.mem_or_eq_of_mem_set hx with e | e
      · exact hr x e
      · subst e; decide
    · exact w_next (fin rs H3 (s2.trans s3) (s3 _ _ h1) h4 (by omega) hr (pos_of_sum (fun y hy => (hr y hy).1) hz))
  refine w_seq (w_for (w_rng1 (w_cons (w_cb (w_cons (w_var rfl (w_nil (w_lenL (xs := ss.map V.int) (SqL.of ?hp1) (w_nil (⟨_, rfl, (rng_ok (by rw [List.length_map]; omega)).1, (rng_ok (by rw [List.length_map]; omega)).2, (for_range0 (fun i σ H2 => ∃ (c : Int) (ps as : List Int) (r5 r6 : Option V), σ = [some (.int c), some (.int w), some (.ref p), some (.ref a1), some (.ref a2), r5, r6, none] ∧ 0 ≤ c ∧ Same H H2 ∧
      H2 a1 = some (.lst (ps.map V.int)) ∧ H2 a2 = some (.lst (as.map V.int)) ∧ ps.length = i ∧ as.length = i ∧ (∀ x ∈ ps, 1 ≤ x ∧ x ≤ 1000000000) ∧ (w = 7 → ∀ x ∈ ps, x ≤ 8) ∧ ∀ x ∈ as, 0 ≤ x ∧ x ≤ 1000000000) ⟨cc, [], [], none, none, rfl, c0, (Same.laid ha1).laidT ha2, by rw [upd_ne n12]; exact upd_same, upd_same, rfl, rfl, fun x hx => by simp at hx, fun _ x hx => by simp at hx, fun x hx => by simp at hx⟩ ?step ?done)⟩))))))))))
  case hp1 => exact Same.laid ha2 _ _ (Same.laid ha1 _ _ hp)
  case step =>
    rintro i σ H2 hi ⟨c, ps, as, r5, r6, rfl, d0, s, h1, h2, l1, l2, hps, h7, has⟩
    rw [List.length_map] at hi
    refine w_name (w_seq (w_asg (w_call (w_cons (w_var rfl (w_nil ⟨_, rfl, c, rfl, fun c' e0 e1 => w_name ?_⟩))))))
    refine w_seq (w_asg (w_op (w_var rfl (w_c (w_divI (by decide) (by decide) (w_name ?_))))))
    have g0 : 0 ≤ c' / 1000000000000000 := Int.ediv_nonneg e0 (by decide)
    generalize c' / 1000000000000000 = hh at g0 ⊢
    refine w_seq (w_drop (w_bm (w_var rfl ⟨tyV_lst h1, w_cons (w_call (w_cons (w_var rfl (w_cons (w_var rfl (w_nil ⟨_, _, rfl, w, hh, rfl, rfl, fun r H3 s3 r1 r2 r7 => w_nil (w_append (s3 _ _ h1) (small1000 (by rw [List.length_map]; omega)) ?_)⟩))))))⟩)))
    have h2' : upd H3 a1 (.lst (ps.map V.int ++ [.int r])) a2 = some (.lst (as.map V.int)) := by rw [upd_ne n12.symm]; exact s3 _ _ h2
    have sB : Same H (upd H3 a1 (.lst (ps.map V.int ++ [.int r]))) := (s.trans s3).put ha1
    refine w_drop (w_bm (w_var rfl ⟨tyV_lst h2', w_cons (w_op (w_lst (w_cons (w_op (w_op (w_var rfl (w_c (w_divI (by decide) (by decide) (w_c (w_modI (by decide) ?_))))))))))⟩))
    refine w_cons (w_op (w_op (w_var rfl (w_c (w_divI (by decide) (by decide) (w_c (w_modI (by decide) (w_nil ⟨by show 2 ≤ sizeLine; decide, fun a3 ha3 => ?_⟩))))))))
    refine w_cb (w_cons (w_op (w_var rfl (w_c (w_eqI (w_nil (w_intB ?_)))))))
    have x0 := Int.emod_nonneg (hh / 420) (show (4 : Int) ≠ 0 by decide)
    have x1 := Int.emod_lt_of_pos (hh / 420) (show (0 : Int) < 4 by decide)
    have y0 := Int.emod_nonneg (hh / 1000000000) (show (1000000000 : Int) ≠ 0 by decide)
    have y1 := Int.emod_lt_of_pos (hh / 1000000000) (show (0 : Int) < 1000000000 by decide)
    have i0 : 0 ≤ (if decide (w = 2) = true then (1 : Int) else 0) := by split <;> decide
    have i1 : (if decide (w = 2) = true then (1 : Int) else 0) < 2 := by split <;> decide
    obtain ⟨v, ev, hv⟩ := at2 (a := .int (hh / 420 % 4)) (b := .int (hh / 1000000000 % 1000000000)) i0 i1
    obtain ⟨x, rfl, hx0, hx1⟩ : ∃ x : Int, v = .int x ∧ 0 ≤ x ∧ x ≤ 1000000000 := by
      rcases hv with rfl | rfl
      · exact ⟨_, rfl, by omega, by omega⟩
      · exact ⟨_, rfl, by omega, by omega⟩
    refine w_ixL (SqL.of upd_same) ev (w_nil (w_append (Same.laid ha3 _ _ h2') (small1000 (by rw [List.length_map]; omega)) ?_))
    refine ⟨c', ps ++ [r], as ++ [x], _, _, rfl, e0, (sB.laidT ha3).put ha2', ?_, by rw [upd_same, List.map_append]; rfl, by simp [l1], by simp [l2], fun z hz => ?_, fun w7 z hz => ?_, fun z hz => ?_⟩
    · rw [upd_ne n12]
      have := Same.laid (o := .lst [.int (hh / 420 % 4), .int (hh / 1000000000 % 1000000000)]) ha3 _ _ (upd_same (H := H3) (a := a1) (o := .lst (ps.map V.int ++ [.int r])))
      rw [this, List.map_append]; rfl
    · rcases List.mem_append.mp hz with e | e
      · exact hps z e
      · rw [List.mem_singleton.mp e]; exact ⟨r1, r2⟩
    · rcases List.mem_append.mp hz with e | e
      · exact h7 w7 z e
      · rw [List.mem_singleton.mp e]; exact r7 w7
    · rcases List.mem_append.mp hz with e | e
      · exact has z e
      · rw [List.mem_singleton.mp e]; exact ⟨hx0, hx1⟩
  case done =>
    rintro σ H2 ⟨c, ps, as, r5, r6, rfl, d0, s, h1, h2, l1, l2, hps, h7, has⟩
    rw [List.length_map] at l1 l2
    refine w_seq (w_ifS (w_test (w_op (w_var rfl (w_c (w_eqI (w_bl (iteD (fun hw => ?_) fun _ => w_next (tail c a1 a2 ps as r5 r6 none H2 s ha1 ha2' n12 h1 h2 l1 l2 hps h7 has)))))))))
    refine w_seq (w_asg (w_op (w_op (w_var rfl (w_c (w_divI (by decide) (by decide) (w_cb (w_cons (w_var rfl (w_nil (w_lenL (SqL.of h1) (w_modI (by rw [List.length_map]; omega) (w_name ?_)))))))))))))
    rw [List.length_map]
    obtain ⟨at', eat, hat⟩ : ∃ k : Nat, c / 10000000000000000000000000 % (ps.length : Int) = (k : Int) ∧ k < ss.length := by
      have r0 := Int.emod_nonneg (c / 10000000000000000000000000) (show (ps.length : Int) ≠ 0 by omega)
      have r1 := Int.emod_lt_of_pos (c / 10000000000000000000000000) (show (0 : Int) < ps.length by omega)
      exact ⟨(c / 10000000000000000000000000 % (ps.length : Int)).toNat, by omega, by omega⟩
    rw [eat]
    refine w_seq (w_asg (rd_wares (p1 := p) (ps := ss) rfl (s _ _ hp) n8 ⟨_, rfl⟩ (fun _ x => 1 ≤ x ∧ x ≤ 9) (fun i H3 R hi s3 k => ?_) fun b1 qs H3 hb1 s3 g1 gl gq => w_name ?_))
    · refine w_op (w_lst (w_cons (w_c (w_cons (w_op (w_c (w_op (w_var rfl (w_c (w_modI (by decide) (w_addI (w_nil ⟨by show 2 ≤ sizeLine; decide, fun a3 ha3 => ?_⟩))))))))))))
      have hp3 : upd H3 a3 (.lst [.int 9, .int (2 + c % 2)]) p = some (.lst (ss.map V.int)) := Same.laid ha3 _ _ (s3 _ _ (s _ _ hp))
      refine w_cb (w_cons (w_op (w_var rfl (w_op (w_op (w_var rfl (w_c (w_addI (w_cb (w_cons (w_var rfl (w_nil (w_lenL (SqL.of hp3) (w_modI (by rw [List.length_map]; omega) (w_eqI (w_nil (w_intB ?_)))))))))))))))))
      generalize (decide ((i : Int) = ((at' : Int) + 1) % ((ss.map V.int).length : Int))) = bb
      have i0 : 0 ≤ (if bb = true then (1 : Int) else 0) := by split <;> decide
      have i1 : (if bb = true then (1 : Int) else 0) < 2 := by split <;> decide
      obtain ⟨v, ev, hv⟩ := at2 (a := .int 9) (b := .int (2 + c % 2)) i0 i1
      refine w_ixL (SqL.of upd_same) ev ?_
      rcases hv with rfl | rfl
      · exact k _ _ (Same.laid ha3) (by decide)
      · exact k _ _ (Same.laid ha3) (by omega)
    have sb : Same H H3 := s.trans s3
    refine w_seq (w_asg (w_c (w_sub (w_var rfl (w_var rfl (w_setL g1 (ixN_at (by omega) (by rw [List.length_map]; omega)) ?_))))))
    have fb1 : H b1 = none := s.free hb1
    have sb2 : Same H (upd H3 b1 (.lst ((qs.map V.int).set (at' : Int).toNat (.int 3)))) := sb.put fb1
    have gb : upd H3 b1 (.lst ((qs.map V.int).set (at' : Int).toNat (.int 3))) b1 = some (.lst ((qs.set at' 3).map V.int)) := by rw [upd_same, Int.toNat_natCast, map_set_int]
    refine w_asg (rd_wares (p1 := p) (ps := ss) rfl (sb2 _ _ hp) n8 ⟨_, rfl⟩ (fun _ x => 0 ≤ x ∧ x ≤ 1) (fun i H4 R hi s4 k => ?_) fun b2 zs H4 hb2 s4 g2 gl2 gz => w_name ?_)
    · refine w_cb (w_cons (w_op (w_var rfl (w_var rfl (w_eqI (w_nil (w_intB (k _ _ (Same.refl _) ?_))))))))
      split <;> decide
    have nb12 : b1 ≠ b2 := ne_of_none gb hb2
    refine tail c b1 b2 (qs.set at' 3) zs _ _ _ H4 (sb2.trans s4) fb1 (sb2.free hb2) nb12 (s4 _ _ gb) g2 (by rw [List.length_set]; exact gl) gl2 (fun x hx => ?_) (fun w7 => by omega) (fun x hx => ?_)
    · rcases List.mem_or_eq_of_mem_set hx with e | e
      · have := all_of_get gq x e
        omega
      · subst e; decide
    · have := all_of_get gz x hx
      omega
theorem days_of {H : Hp} {G : List Int × List Int → Prop} : ∀ {ys : List V}, (∀ (i : Nat) v, ys[i]? = some v → ∃ d, Rep H v (dayD d) ∧ G d) → ∃ B : List (List Int × List Int), Reps H ys (B.map dayD) ∧ ∀ d ∈ B, G d
  | [], _ => ⟨[], by unfold List.map Reps; rfl, fun d hd => by simp at hd⟩
  | y :: ys, h => by
    obtain ⟨d, h1, h2⟩ := h 0 y rfl
    obtain ⟨B, h3, h4⟩ := days_of (ys := ys) fun i v e => h (i + 1) v (by simpa using e)
    refine ⟨d :: B, ?_, fun e he => ?_⟩
    · rw [List.map_cons]
      unfold Reps
      exact ⟨y, ys, rfl, h1, h3⟩
    · rcases List.mem_cons.mp he with z | z
      · rw [z]; exact h2
      · exact h4 e z
theorem Reps.set {H : Hp} : ∀ {ds : List PyData} {xs : List V} (k : Nat) {x : V} {d : PyData}, Reps H xs ds → Rep H x d → Reps H (xs.set k x) (ds.set k d)
  | [], _, k, _, _, h, _ => by unfold Reps at h; subst h; unfold List.set Reps; rfl
  | e :: ds, _, 0, x, d, h, r => by
    unfold Reps at h
    obtain ⟨y, t, rfl, h1, h2⟩ := h
    show Reps H (x :: t) (d :: ds)
    unfold Reps
    exact ⟨x, t, rfl, r, h2⟩
  | e :: ds, _, k + 1, x, d, h, r => by
    unfold Reps at h
    obtain ⟨y, t, rfl, h1, h2⟩ := h
    show Reps H (y :: t.set k x) (e :: ds.set k d)
    unfold Reps
    exact ⟨y, _, rfl, h1, Reps.set k h2 r⟩
theorem noL_days : ∀ (B : List (List Int × List Int)), noLs (B.map dayD) = true
  | [] => rfl
  | d :: B => by
    show (noL (dayD d) && noLs (B.map dayD)) = true
    rw [noL_day, noL_days B]; rfl
theorem rd__law_book {K : PySem.W.Frag} {a b c d : V} {H : Hp} {Q : VK} {E : XK} (h : sb__law_book K a b c d H Q E) : tb__law_book K (Rt Q) [some a, some b, some c, some d, none, none, none, none, none, none, none] H := by
  obtain ⟨l, ns, st, m, n, rfl, rfl, rfl, rfl, hl, hb, hst, m1, m8, n1, n6, q⟩ := h
  unfold tb__law_book
  refine w_seq (w_asg (w_call (w_cons (w_var rfl (w_cons (w_var rfl (w_nil ⟨_, _, rfl, l, ns, st, rfl, rfl, hl, hb, by omega, w_name ?_⟩)))))))
  have c0 := cellF_lo ns st
  have c1 := cellF_hi ns st
  generalize cellF ns st = c at c0 c1 ⊢
  refine w_seq (w_asg (w_op (w_lst (w_cons (w_c (w_cons (w_c (w_cons (w_c (w_cons (w_c (w_cons (w_c (w_cons (w_c (w_cons (w_c (w_cons (w_c (w_cons (w_c (w_cons (w_c (w_nil ⟨by show 10 ≤ sizeLine; decide, fun a1 ha1 => ?_⟩))))))))))))))))))))))))
  refine w_op (w_op (w_var rfl (w_c (w_divI (by decide) (by decide) (w_c (w_modI (by decide) ?_))))))
  have way : ∃ w : Int, atI [V.int 0, .int 1, .int 0, .int 2, .int 8, .int 3, .int 4, .int 5, .int 6, .int 7] (c / 8 % 10) = some (.int w) := by
    have r0 := Int.emod_nonneg (c / 8) (show (10 : Int) ≠ 0 by decide)
    have r1 := Int.emod_lt_of_pos (c / 8) (show (0 : Int) < 10 by decide)
    generalize c / 8 % 10 = z at r0 r1 ⊢
    rcases (by omega : z = 0 ∨ z = 1 ∨ z = 2 ∨ z = 3 ∨ z = 4 ∨ z = 5 ∨ z = 6 ∨ z = 7 ∨ z = 8 ∨ z = 9) with rfl | rfl | rfl | rfl | rfl | rfl | rfl | rfl | rfl | rfl <;> exact ⟨_, rfl⟩
  obtain ⟨w, ew⟩ := way
  refine w_ixL (SqL.of upd_same) ew (w_name ?_)
  have s1 : Same H (upd H a1 (.lst [.int 0, .int 1, .int 0, .int 2, .int 8, .int 3, .int 4, .int 5, .int 6, .int 7])) := Same.laid ha1
  generalize upd H a1 (.lst [.int 0, .int 1, .int 0, .int 2, .int 8, .int 3, .int 4, .int 5, .int 6, .int 7]) = H1 at s1 ⊢
  obtain ⟨k, ek, k1, k2⟩ : ∃ k : Nat, 1 + c % (n : Int) = (k : Int) ∧ 1 ≤ k ∧ k ≤ n := by
    have r0 := Int.emod_nonneg c (show (n : Int) ≠ 0 by omega)
    have r1 := Int.emod_lt_of_pos c (show (0 : Int) < n by omega)
    exact ⟨(1 + c % (n : Int)).toNat, by omega, by omega, by omega⟩
  refine w_seq (w_asg (w_call (w_cons (w_var rfl (w_cons (w_op (w_c (w_op (w_var rfl (w_var rfl (w_modI (by omega) (w_addI (w_nil ?_)))))))))))))
  rw [ek]
  refine ⟨_, _, rfl, c, k, rfl, rfl, k1, by omega, fun p ss H2 hp2 s2 hp hl2 hss hsum => w_name ?_⟩
  have s12 := s1.trans s2
  obtain ⟨g, eg, g1, g2⟩ : ∃ g : Nat, 1 + c / 80 % (m : Int) = (g : Int) ∧ 1 ≤ g ∧ g ≤ m := by
    have r0 := Int.emod_nonneg (c / 80) (show (m : Int) ≠ 0 by omega)
    have r1 := Int.emod_lt_of_pos (c / 80) (show (0 : Int) < m by omega)
    exact ⟨(1 + c / 80 % (m : Int)).toNat, by omega, by omega, by omega⟩
  refine w_seq (w_asg (w_comp (w_rng1 (w_cons (w_op (w_c (w_op (w_op (w_var rfl (w_c (w_divI (by decide) (by decide) (w_var rfl (w_modI (by omega) (w_addI (w_nil ?_)))))))))))))))
  rw [eg]
  refine ⟨_, rfl, (rng_ok (by omega)).1, (rng_ok (by omega)).2, fun D hD => ?_⟩
  refine comp_rangeP D (fun i v H => ∃ d, Rep H v (dayD d) ∧ GoodDay k d ∧ ∀ x ∈ d.2, x ≤ 1000000001) (fun i v H H' t ⟨d, r, z⟩ => ⟨d, Rep.tu t _ _ (noL_day d) r, z⟩) (by omega) hD ⟨_, rfl⟩ (fun i H3 R hi s3 kk => ?_) (fun ys H3 hy hall s3 hD3 => w_name ?_)
  · have s13 := s12.trans s3
    refine w_call (w_cons (w_call (w_cons (w_var rfl (w_cons (w_op (w_op (w_var rfl (w_c (w_addI (w_var rfl (w_addI (w_nil ?_)))))))))))))
    refine ⟨_, _, rfl, l, ns, st + 1 + i, rfl, by simp, s13.seq hl, hb, by omega, ?_⟩
    have e0 := cellF_lo ns (st + 1 + i)
    have e1 := cellF_hi ns (st + 1 + i)
    refine w_cons (w_var rfl (w_cons (w_var rfl (w_nil ⟨_, _, _, rfl, _, w, p, ss, rfl, rfl, rfl, e0, e1, s3 _ _ hp, by omega, by omega, hss, fun v d H4 s4 r gd gx => kk v H4 s4 ⟨d, r, ?_, gx⟩⟩))))
    rw [← hl2]; exact gd
  obtain ⟨B, rB, gB⟩ := days_of (G := fun d => GoodDay k d ∧ ∀ x ∈ d.2, x ≤ 1000000001) (fun i v e => by obtain ⟨d, h1, h2⟩ := hall i v e; exact ⟨d, h1, h2⟩)
  have lB : B.length = g := by have := rB.length; rw [List.length_map] at this; omega
  have s13 := s12.trans s3
  have fD : H D = none := s12.free hD
  have fin : ∀ (B : List (List Int × List Int)) (ys : List V) (H4 : Hp) r8 r9 r10, Same H H4 → H4 D = some (.lst ys) → Reps H4 ys (B.map dayD) → B.length = g → (∀ d ∈ B, GoodDay k d ∧ ∀ x ∈ d.2, x ≤ 1000000002) →
      (tRet (tCB (rTy_tuple K) (tCons (tVar 7) tNil))) (Rt Q) [some (.ref l), some (.int st), some (.int m), some (.int n), some (.int c), some (.int w), some (.ref p), some (.ref D), r8, r9, r10] H4 := by
    intro B ys H4 r8 r9 r10 s4 hD4 r4 l4 g4
    refine w_ret (w_cb (w_cons (w_var rfl (w_nil (w_tupL (SqL.of hD4) fun u hu => ?_)))))
    refine q _ B k _ (s4.laidT hu) ?_ ⟨k1, by omega, by omega, by omega, fun d hd => (g4 d hd).1⟩ k2 fun d hd => (g4 d hd).2
    unfold bookD Rep
    exact ⟨u, ys, rfl, upd_same, Reps.mono (Same.laid hu) _ _ r4⟩
  have gB2 : ∀ d ∈ B, GoodDay k d ∧ ∀ x ∈ d.2, x ≤ 1000000002 := fun d hd => ⟨(gB d hd).1, fun x hx => by have := (gB d hd).2 x hx; omega⟩
  refine w_seq (w_ifS (w_test (w_op (w_op (w_op (w_var rfl (w_c (w_divI (by decide) (by decide) (w_c (w_modI (by decide) (w_c (w_eqI (w_bl (iteD (fun _ => ?_) fun _ => w_next (fin B ys H3 _ _ _ s13 hD3 rB lB gB2)))))))))))))))
  refine w_seq (w_asg (w_op (w_op (w_var rfl (w_c (w_divI (by decide) (by decide) (w_cb (w_cons (w_var rfl (w_nil (w_lenL (SqL.of hD3) (w_modI (by omega) (w_name ?_)))))))))))))
  have hpp : H3 p = some (.lst (ss.map V.int)) := s3 _ _ hp
  refine w_seq (w_asg (w_op (w_op (w_var rfl (w_c (w_divI (by decide) (by decide) (w_cb (w_cons (w_var rfl (w_nil (w_lenL (SqL.of hpp) (w_modI (by rw [List.length_map]; omega) (w_name ?_)))))))))))))
  rw [List.length_map]
  obtain ⟨kk, ekk, hkk⟩ : ∃ z : Nat, c / 4000 % (ys.length : Int) = (z : Int) ∧ z < ys.length := by
    have r0 := Int.emod_nonneg (c / 4000) (show (ys.length : Int) ≠ 0 by omega)
    have r1 := Int.emod_lt_of_pos (c / 4000) (show (0 : Int) < ys.length by omega)
    exact ⟨(c / 4000 % (ys.length : Int)).toNat, by omega, by omega⟩
  obtain ⟨j, ej, hj⟩ : ∃ z : Nat, c / 40000 % (ss.length : Int) = (z : Int) ∧ z < ss.length := by
    have r0 := Int.emod_nonneg (c / 40000) (show (ss.length : Int) ≠ 0 by omega)
    have r1 := Int.emod_lt_of_pos (c / 40000) (show (0 : Int) < ss.length by omega)
    exact ⟨(c / 40000 % (ss.length : Int)).toNat, by omega, by omega⟩
  rw [ekk, ej]
  obtain ⟨d, hd⟩ : ∃ d, B[kk]? = some d := ⟨B[kk]'(by omega), by simp [show kk < B.length by omega]⟩
  obtain ⟨v, hv⟩ : ∃ v, ys[kk]? = some v := ⟨ys[kk], by simp [hkk]⟩
  obtain ⟨d', hd', rd⟩ := rB.get hv
  rw [List.getElem?_map, hd] at hd'
  cases hd'
  obtain ⟨pd, p1, p2, rfl, e1, e2, e3⟩ := day_rep rd
  have gd := (gB d (List.mem_of_getElem? hd)).1
  have gx := (gB d (List.mem_of_getElem? hd)).2
  have l2 := gd.l2
  refine w_seq (w_asg (w_op (w_op (w_sl (w_op (w_op (w_var rfl (w_var rfl (w_ixL (SqL.of hD3) (atI_nat hv) (w_c (w_ixT (SqT.of e1) (v := .ref p2) rfl (w_nopart (w_part (w_var rfl (w_int (w_cutTo e3 (by rw [List.length_map]; omega) fun t1 H4 s4 f1 => ?_))))))))))))))))
  have hD4 := s4 _ _ hD3
  have e1' := s4 _ _ e1
  have e3' := s4 _ _ e3
  refine w_tup (w_cons (w_op (w_op (w_op (w_op (w_var rfl (w_var rfl (w_ixL (SqL.of hD4) (atI_nat hv) (w_c (w_ixT (SqT.of e1') (v := .ref p2) rfl (w_var rfl (w_ixT (SqT.of e3') (ixi (by omega)) (w_c (w_addI (w_nil ⟨by show 1 ≤ sizeLine; decide, fun t2 ht2 => ?_⟩)))))))))))))))
  have f1' : upd H4 t2 (.tup [.int (d.2.getD j 0 + 1)]) t1 = some (.tup ((d.2.map V.int).take j)) := Same.laid ht2 _ _ f1
  have s5 : Same H4 (upd H4 t2 (.tup [.int (d.2.getD j 0 + 1)])) := Same.laid ht2
  refine w_cat f1' upd_same (by rw [List.length_take, List.length_map]; show min j d.2.length + 1 ≤ 1000; omega) fun t3 H6 s6 f3 => ?_
  have hD6 := s6 _ _ (s5 _ _ hD4)
  have e1'' := s6 _ _ (s5 _ _ e1')
  have e3'' := s6 _ _ (s5 _ _ e3')
  refine w_sl (w_op (w_op (w_var rfl (w_var rfl (w_ixL (SqL.of hD6) (atI_nat hv) (w_c (w_ixT (SqT.of e1'') (v := .ref p2) rfl (w_part (w_op (w_var rfl (w_c (w_addI (w_int (w_nopart (w_cutFrom (j := j + 1) e3'' (by simp) (by omega) (by rw [List.length_map]; omega) fun t4 H7 s7 f4 => ?_)))))))))))))))
  refine w_cat (s7 _ _ f3) f4 (by simp; omega) fun t5 H8 s8 f5 => w_name ?_
  have s38 : Same H3 H8 := (((s4.trans s5).trans s6).trans s7).trans s8
  have hD8 := s38 _ _ hD3
  have e18 := s38 _ _ e1
  refine w_asg (w_tup (w_cons (w_op (w_op (w_var rfl (w_var rfl (w_ixL (SqL.of hD8) (atI_nat hv) (w_c (w_ixT (SqT.of e18) (v := .ref p1) rfl (w_cons (w_var rfl (w_nil ⟨by show 2 ≤ sizeLine; decide, fun t6 ht6 => ?_⟩))))))))))))
  have s9 : Same H8 (upd H8 t6 (.tup [.ref p1, .ref t5])) := Same.laid ht6
  refine w_sub (w_var rfl (w_var rfl (w_setL (s9 _ _ hD8) (ixN_at (by omega) (by omega)) ?_)))
  rw [Int.toNat_natCast]
  have eam : (d.2.map V.int).take j ++ [V.int (d.2.getD j 0 + 1)] ++ (d.2.map V.int).drop (j + 1) = (d.2.set j (d.2.getD j 0 + 1)).map V.int := by
    rw [List.map_set, List.set_eq_take_append_cons_drop, if_pos (by rw [List.length_map]; omega)]
    simp
  rw [eam] at f5
  have tu := Tu.put (ys := ys.set kk (.ref t6)) (s9 _ _ hD8)
  refine fin (B.set kk (d.1, d.2.set j (d.2.getD j 0 + 1))) (ys.set kk (.ref t6)) _ _ _ _ ?_ upd_same ?_ (by rw [List.length_set]; exact lB) (fun e he => ?_)
  · exact ((s13.trans s38).trans s9).put fD
  · have r1 : Reps (upd (upd H8 t6 (.tup [.ref p1, .ref t5])) D (.lst (ys.set kk (.ref t6)))) ys (B.map dayD) := Reps.tu ((s38.trans s9).tu.trans tu) _ _ (noL_days B) rB
    have := Reps.set kk (x := .ref t6) (d := dayD (d.1, d.2.set j (d.2.getD j 0 + 1))) r1 (rep_day (p1 := p1) (p2 := t5) (tu _ _ upd_same) (tu _ _ (s9 _ _ (s38 _ _ e2))) (tu _ _ (s9 _ _ f5)))
    rw [List.map_set]; exact this
  · rcases List.mem_or_eq_of_mem_set he with z | z
    · exact gB2 e z
    · subst z
      have hg := gd.am _ (getD_in (show j < d.2.length by omega))
      have hg2 := gx _ (getD_in (show j < d.2.length by omega))
      refine ⟨⟨gd.l1, by rw [List.length_set]; exact l2, gd.pr, fun x hx => ?_, ⟨_, List.mem_set (by omega) _, by omega⟩⟩, fun x hx => ?_⟩
      · rcases List.mem_or_eq_of_mem_set hx with z | z
        · exact gd.am x z
        · subst z; omega
      · rcases List.mem_or_eq_of_mem_set hx with z | z
        · have := gx x z
          omega
        · subst z; omega
theorem all_ints_D {ns : List Int} {f : PyData → Bool} {P : Int → Prop} (hf : ∀ x, P x → f (.int x) = true) (h : ∀ x ∈ ns, P x) : (ns.map PyData.int).all f = true := by
  rw [List.all_eq_true]
  intro d hd
  obtain ⟨x, hx, rfl⟩ := List.mem_map.mp hd
  exact hf x (h x hx)
theorem good_day {n : Nat} {d : List Int × List Int} (h : GoodDay n d) (h1 : 1 ≤ n) (h6 : n ≤ 6) : isDayD (dayD d) = true ∧ waresD (dayD d) = n := by
  have e1 : (d.1.map PyData.int).length = n := by rw [List.length_map]; exact h.l1
  have e2 : (d.2.map PyData.int).length = n := by rw [List.length_map]; exact h.l2
  refine ⟨?_, e1⟩
  unfold isDayD
  show (true && arePricesD (.tuple (d.1.map PyData.int)) && areAmtsD (.tuple (d.2.map PyData.int)) && decide ((d.1.map PyData.int).length = (d.2.map PyData.int).length)) = true
  have p1 : arePricesD (.tuple (d.1.map PyData.int)) = true := by
    unfold arePricesD
    show ((decide (1 ≤ (d.1.map PyData.int).length) && decide ((d.1.map PyData.int).length ≤ 6)) && (d.1.map PyData.int).all isPriceD) = true
    rw [e1, decide_eq_true h1, decide_eq_true h6, all_ints_D (P := fun x => 1 ≤ x ∧ x ≤ 1000000000) (fun x hx => by show (decide (1 ≤ x) && decide (x ≤ 1000000000)) = true; rw [decide_eq_true hx.1, decide_eq_true hx.2]; rfl) h.pr]; rfl
  have p2 : areAmtsD (.tuple (d.2.map PyData.int)) = true := by
    unfold areAmtsD
    show ((decide (1 ≤ (d.2.map PyData.int).length) && decide ((d.2.map PyData.int).length ≤ 6)) && (d.2.map PyData.int).all isAmtD && (d.2.map PyData.int).any posD) = true
    have p3 : (d.2.map PyData.int).any posD = true := by
      obtain ⟨x, hx, h0⟩ := h.ps
      exact List.any_eq_true.mpr ⟨.int x, List.mem_map.mpr ⟨x, hx, rfl⟩, decide_eq_true h0⟩
    rw [e2, decide_eq_true h1, decide_eq_true h6, p3, all_ints_D (P := fun x => 0 ≤ x ∧ x ≤ 1000000000000000000) (fun x hx => by show (decide (0 ≤ x) && decide (x ≤ 1000000000000000000)) = true; rw [decide_eq_true hx.1, decide_eq_true hx.2]; rfl) h.am]; rfl
  rw [p1, p2, e1, e2, decide_eq_true rfl]; rfl
theorem good_book {m n : Nat} {B : List (List Int × List Int)} (h : GoodBook m n B) (hm : m ≤ 8) : isBookD (bookD B) = true := by
  unfold isBookD bookD
  show ((decide (1 ≤ (B.map dayD).length) && decide ((B.map dayD).length ≤ 8)) && (B.map dayD).all isDayD && (B.map dayD).all fun e => decide (waresD e = waresD ((B.map dayD).getD 0 .none))) = true
  have hl : (B.map dayD).length = B.length := List.length_map ..
  have a1 : (B.map dayD).all isDayD = true := by
    rw [List.all_eq_true]
    intro e he
    obtain ⟨d, hd, rfl⟩ := List.mem_map.mp he
    exact (good_day (h.dy d hd) h.n1 h.n6).1
  have w0 : waresD ((B.map dayD).getD 0 .none) = n := by
    have : 0 < B.length := h.m1
    have e : (B.map dayD).getD 0 .none = dayD B[0] := by rw [List.getD, List.getElem?_map, List.getElem?_eq_getElem this]; rfl
    rw [e]
    exact (good_day (h.dy _ (List.getElem_mem this)) h.n1 h.n6).2
  have a2 : ((B.map dayD).all fun e => decide (waresD e = waresD ((B.map dayD).getD 0 .none))) = true := by
    rw [List.all_eq_true]
    intro e he
    obtain ⟨d, hd, rfl⟩ := List.mem_map.mp he
    rw [w0]
    exact decide_eq_true (good_day (h.dy d hd) h.n1 h.n6).2
  have := h.m1
  have := h.m8
  rw [hl, a1, a2, decide_eq_true (by omega : 1 ≤ B.length), decide_eq_true (by omega : B.length ≤ 8)]; rfl
end LB
set_option Elab.async false
set_option linter.all false
set_option maxRecDepth 100000
set_option maxHeartbeats 4000000
namespace LB
open PySem L2
theorem w_nret {te : TE} {D : Ends} {r : VK} {b c : St → Hp → Prop} {σ : St} {H : Hp} (h : te σ H D.rt) : tNext { nx := tRet te D, rt := r, bk := b, ct := c } σ H := h
theorem w_raise {E : XK} {C : Value} {t : TA} {D : Ends} {σ : St} {H : Hp} (h : t σ H fun vs H1 => vs.length ≤ sizeLine ∧ E C none H1) : tRaise E C t D σ H := h
theorem three_of {α : Type} {a b c x : α} {i : Nat} (h : [a, b, c][i]? = some x) : x = a ∨ x = b ∨ x = c := by
  match i, h with
  | 0, h => left; simpa using h.symm
  | 1, h => right; left; simpa using h.symm
  | 2, h => right; right; simpa using h.symm
  | (n + 3), h => simp at h
theorem rep_tup {H : Hp} {p : Addr} {xs : List V} {ds : List PyData} (h : H p = some (.tup xs)) (r : Reps H xs ds) : Rep H (.ref p) (.tuple ds) := by
  unfold Rep; exact ⟨p, xs, rfl, h, r⟩
theorem rep_lst {H : Hp} {p : Addr} {xs : List V} {ds : List PyData} (h : H p = some (.lst xs)) (r : Reps H xs ds) : Rep H (.ref p) (.list ds) := by
  unfold Rep; exact ⟨p, xs, rfl, h, r⟩
theorem reps_nil {H : Hp} : Reps H [] [] := by unfold Reps; rfl
theorem reps_cons {H : Hp} {x : V} {xs : List V} {d : PyData} {ds : List PyData} (h : Rep H x d) (r : Reps H xs ds) : Reps H (x :: xs) (d :: ds) := by
  unfold Reps; exact ⟨x, xs, rfl, h, r⟩
theorem reps_app {H : Hp} : ∀ {xs ys : List V} {ds es : List PyData}, Reps H xs ds → Reps H ys es → Reps H (xs ++ ys) (ds ++ es)
  | xs, ys, [], es, h, g => by unfold Reps at h; subst h; exact g
  | xs, ys, d :: ds, es, h, g => by
    unfold Reps at h
    obtain ⟨x, r, rfl, h1, h2⟩ := h
    exact reps_cons h1 (reps_app h2 g)
theorem rep_int {H : Hp} {i : Int} : Rep H (.int i) (.int i) := by unfold Rep; rfl
theorem rep_bl {H : Hp} {b : Bool} : Rep H (.bl b) (.bool b) := by unfold Rep; rfl
theorem rep_non {H : Hp} : Rep H .non .none := by unfold Rep; rfl
theorem rep_str {H : Hp} {x : Str} : Rep H (.str x) (.str x) := by unfold Rep; rfl
theorem rep_dict {H : Hp} {p : Addr} (h : H p = some (.dK [])) : Rep H (.ref p) (.dict []) := by unfold Rep; exact ⟨rfl, p, rfl, h⟩
theorem emod_at {c : Int} {n : Nat} (h : 0 < n) : ∃ i : Nat, c % (n : Int) = (i : Int) ∧ i < n := by
  have a := Int.emod_nonneg c (show (n : Int) ≠ 0 by omega)
  have b := Int.emod_lt_of_pos c (show (0 : Int) < n by omega)
  exact ⟨(c % (n : Int)).toNat, by omega, by omega⟩
end LB
set_option Elab.async false
set_option linter.all false
set_option maxRecDepth 100000
set_option maxHeartbeats 4000000
namespace L2
open PySem PySem.Spec PyProof.Rows
section
variable {κ : Type} [DecidableEq κ]
def valV (kvs : List (κ × V)) (k : κ) : Option V := (kvs.find? fun kv => decide (kv.1 = k)).map (·.2)
def putK (kvs : List (κ × V)) (k : κ) (v : V) : List (κ × V) :=
  if (kvs.any fun kv => decide (kv.1 = k)) = true then kvs.map (fun kv => if kv.1 = k then (kv.1, v) else kv) else kvs ++ [(k, v)]
def dropK (kvs : List (κ × V)) (k : κ) : List (κ × V) := kvs.filter fun kv => decide (kv.1 ≠ k)
theorem valV_nil {k : κ} : valV ([] : List (κ × V)) k = none := rfl
theorem valV_pos {p : κ × V} {r : List (κ × V)} {k : κ} (e : p.1 = k) : valV (p :: r) k = some p.2 := by simp [valV, List.find?_cons, e]
theorem valV_neg {p : κ × V} {r : List (κ × V)} {k : κ} (e : ¬ p.1 = k) : valV (p :: r) k = valV r k := by simp [valV, List.find?_cons, e]
theorem valV_any (k : κ) : ∀ kvs : List (κ × V), (kvs.any fun kv => decide (kv.1 = k)) = (valV kvs k).isSome
  | [] => rfl
  | p :: r => by
    rw [List.any_cons]
    by_cases e : p.1 = k
    · simp only [valV_pos e, decide_eq_true e, Bool.true_or, Option.isSome_some]
    · rw [valV_neg e, decide_eq_false e, Bool.false_or]; exact valV_any k r
theorem length_putK (kvs : List (κ × V)) (k : κ) (v : V) : (putK kvs k v).length ≤ kvs.length + 1 := by
  unfold putK
  split
  · rw [List.length_map]; omega
  · rw [List.length_append, List.length_cons, List.length_nil]; omega
theorem putK_new {kvs : List (κ × V)} {k : κ} (v : V) (h : valV kvs k = none) : putK kvs k v = kvs ++ [(k, v)] := by
  unfold putK
  rw [valV_any, h]
  exact if_neg (by decide)
theorem RelO.isSome_eq {o : Option V} {u : Option Value} (r : RelO o u) : o.isSome = u.isSome := by
  cases o with
  | none => cases u with
    | none => rfl
    | some _ => exact (show False from r).elim
  | some _ => cases u with
    | none => exact (show False from r).elim
    | some _ => rfl
theorem KV.val {kvs : List (κ × V)} {vs : List (κ × Value)} (r : KV kvs vs) (k : κ) : RelO (valV kvs k) (valueAt vs k) := by
  unfold KV at r
  induction r with
  | nil => exact True.intro
  | @cons p q ps qs h t ih =>
    obtain ⟨h1, h2⟩ := h
    by_cases e : p.1 = k
    · have e' : q.1 = k := h1.symm.trans e
      have b : valueAt (q :: qs) k = some q.2 := by simp [valueAt, List.find?_cons, e']
      rw [valV_pos e, b]; exact h2
    · have e' : ¬ q.1 = k := fun z => e (h1.trans z)
      have b : valueAt (q :: qs) k = valueAt qs k := by simp [valueAt, List.find?_cons, e']
      rw [valV_neg e, b]; exact ih
theorem KV.any {kvs : List (κ × V)} {vs : List (κ × Value)} (r : KV kvs vs) (k : κ) : (kvs.any fun kv => decide (kv.1 = k)) = vs.any fun kv => decide (kv.1 = k) := by
  unfold KV at r
  induction r with
  | nil => rfl
  | cons h t ih => rw [List.any_cons, List.any_cons, ih, h.1]
theorem KV.repl {kvs : List (κ × V)} {vs : List (κ × Value)} (r : KV kvs vs) (k : κ) {y : V} {u : Value} (ry : RelV y u) :
    KV (kvs.map fun kv => if kv.1 = k then (kv.1, y) else kv) (vs.map fun kv => if kv.1 = k then (kv.1, u) else kv) := by
  unfold KV at r ⊢
  induction r with
  | nil => exact .nil
  | @cons p q ps qs h t ih =>
    rw [List.map_cons, List.map_cons]
    refine .cons ?_ ih
    obtain ⟨h1, h2⟩ := h
    by_cases e : p.1 = k
    · rw [if_pos e, if_pos (h1.symm.trans e)]; exact ⟨h1, ry⟩
    · rw [if_neg e, if_neg (fun z => e (h1.trans z))]; exact ⟨h1, h2⟩
theorem KV.put {kvs : List (κ × V)} {vs : List (κ × Value)} (r : KV kvs vs) (k : κ) {y : V} {u : Value} (ry : RelV y u) : KV (putK kvs k y) (stored vs k u) := by
  unfold putK stored
  rw [r.any k]
  by_cases e : (vs.any fun kv => decide (kv.1 = k)) = true
  · rw [if_pos e, if_pos e]; exact r.repl k ry
  · rw [if_neg e, if_neg e]; exact Paired.snoc r ⟨rfl, ry⟩
theorem KV.drop {kvs : List (κ × V)} {vs : List (κ × Value)} (r : KV kvs vs) (k : κ) : KV (dropK kvs k) (without vs k) := by
  unfold KV at r ⊢
  unfold dropK without
  induction r with
  | nil => exact .nil
  | @cons p q ps qs h t ih =>
    obtain ⟨h1, h2⟩ := h
    rw [List.filter_cons, List.filter_cons]
    by_cases e : p.1 = k
    · have a : ¬ decide (p.1 ≠ k) = true := by simp [e]
      have b : ¬ decide (q.1 ≠ k) = true := by simp [h1.symm.trans e]
      rw [if_neg a, if_neg b]; exact ih
    · have e' : ¬ q.1 = k := fun z => e (h1.trans z)
      have a : decide (p.1 ≠ k) = true := by simp [e]
      have b : decide (q.1 ≠ k) = true := by simp [e']
      rw [if_pos a, if_pos b]; exact .cons ⟨h1, h2⟩ ih
theorem KV.keys {kvs : List (κ × V)} {vs : List (κ × Value)} (r : KV kvs vs) : kvs.map (·.1) = vs.map (·.1) := by
  unfold KV at r
  induction r with
  | nil => rfl
  | cons h t ih => rw [List.map_cons, List.map_cons, ih, h.1]
theorem KV.length {kvs : List (κ × V)} {vs : List (κ × Value)} (r : KV kvs vs) : kvs.length = vs.length := Paired.length r
theorem dropK_le (kvs : List (κ × V)) (k : κ) : (dropK kvs k).length ≤ kvs.length := List.length_filter_le _ _
end
theorem kV_is {P : Program} {w : World} {k : Key} {u : Value} (r : RelV (kV k) u) : (mixKind P w).is k u = true := by
  cases k with
  | inl i => obtain ⟨t, e⟩ := (show ∃ t, u = Value.int i t from r); subst e; exact mixKind_int P w i t
  | inr x => obtain ⟨t, e⟩ := (show ∃ t, u = Value.str x t from r); subst e; exact mixKind_str P w x t
theorem items_are {P : Program} {w : World} : ∀ {ks : List Key} {us : List Value}, Vals (ks.map kV) us → ItemsAre (mixKind P w) ks us
  | [], _, r => by rw [List.map_nil] at r; cases r; exact .nil
  | k :: ks, _, r => by
    rw [List.map_cons] at r
    cases r with
    | cons h t => exact .cons (kV_is h) (items_are t)
abbrev KT (H : Hp) : List (List Key × V) → List (List Key × Addr × Value) → Prop := Paired fun p q => p.1 = q.1 ∧ H q.2.1 = some (.tup (p.1.map kV)) ∧ RelV p.2 q.2.2
theorem KT.val {H : Hp} {kvs : List (List Key × V)} {xs : List (List Key × Addr × Value)} (r : KT H kvs xs) (k : List Key) : RelO (valV kvs k) ((atKey xs k).map (·.2)) := by
  induction r with
  | nil => exact True.intro
  | @cons p q ps qs h t ih =>
    obtain ⟨h1, _, h2⟩ := h
    by_cases e : p.1 = k
    · have e' : q.1 = k := h1.symm.trans e
      have b : atKey (q :: qs) k = some q.2 := by simp [atKey, List.find?_cons, e']
      rw [valV_pos e, b]; exact h2
    · have e' : ¬ q.1 = k := fun z => e (h1.trans z)
      have b : atKey (q :: qs) k = atKey qs k := by simp [atKey, List.find?_cons, e']
      rw [valV_neg e, b]; exact ih
theorem KT.repl {H : Hp} {kvs : List (List Key × V)} {xs : List (List Key × Addr × Value)} (r : KT H kvs xs) (k : List Key) {y : V} {u : Value} (ry : RelV y u) :
    KT H (kvs.map fun kv => if kv.1 = k then (kv.1, y) else kv) (xs.map (putAt k u)) := by
  induction r with
  | nil => exact .nil
  | @cons p q ps qs h t ih =>
    rw [List.map_cons, List.map_cons]
    refine .cons ?_ ih
    obtain ⟨h1, h2, h3⟩ := h
    unfold putAt
    by_cases e : p.1 = k
    · rw [if_pos e, if_pos (h1.symm.trans e)]; exact ⟨h1, h2, ry⟩
    · rw [if_neg e, if_neg (fun z => e (h1.trans z))]; exact ⟨h1, h2, h3⟩
theorem KT.put {H : Hp} {kvs : List (List Key × V)} {xs : List (List Key × Addr × Value)} (r : KT H kvs xs) (k : List Key) {b : Addr} {y : V} {u : Value} (hb : H b = some (.tup (k.map kV))) (ry : RelV y u) :
    KT H (putK kvs k y) (storedH xs k b u) := by
  have e : (kvs.any fun kv => decide (kv.1 = k)) = (atKey xs k).isSome := by
    rw [valV_any, (r.val k).isSome_eq, Option.isSome_map]
  unfold putK storedH
  rw [e]
  by_cases q : (atKey xs k).isSome = true
  · rw [if_pos q, if_pos q]; exact r.repl k ry
  · rw [if_neg q, if_neg q]; exact Paired.snoc r ⟨rfl, hb, ry⟩
theorem KT.keeps {H H' : Hp} {kvs : List (List Key × V)} {xs : List (List Key × Addr × Value)} (r : KT H kvs xs) (ht : ∀ b ys, H b = some (.tup ys) → H' b = some (.tup ys)) : KT H' kvs xs :=
  Paired.mapP r fun _ _ z => ⟨z.1, ht _ _ z.2.1, z.2.2⟩
section
variable {P : Program} {w : World} {H : Hp} {h : Heap} {a : Addr}
theorem rd_of {u : HO} (ok : HOk P w H h) (e : Rd H a u) : ObjOk P w H h a u := e.ok ok
theorem dk_rd {kvs : List (Key × V)} (ok : HOk P w H h) (e : Rd H a (.dK kvs)) : kvs.length ≤ sizeLine ∧ (a == sysModules) = false ∧ ∃ vs, KV kvs vs ∧ h.DictOf (mixKind P w) a vs :=
  show ObjOk P w H h a (.dK kvs) from rd_of ok e
theorem dk_of {kvs : List (Key × V)} (ok : HOk P w H h) (e : H a = some (.dK kvs)) : kvs.length ≤ sizeLine ∧ (a == sysModules) = false ∧ ∃ vs, KV kvs vs ∧ h.DictOf (mixKind P w) a vs := dk_rd ok (.inl e)
theorem key_of {ks : List Key} (ok : HOk P w H h) (e : H a = some (.tup (ks.map kV))) : (tupleKind (mixKind P w)).is h ks a := by
  obtain ⟨_, its, r, o, h1, h2, n, h3⟩ := (show ObjOk P w H h a (.tup (ks.map kV)) from ok a _ e)
  exact ⟨o, its.toArray, n, h1, h2, h3, by simpa using items_are r⟩
theorem dt_rd {kvs : List (List Key × V)} (ok : HOk P w H h) (e : Rd H a (.dT kvs)) : kvs.length ≤ sizeLine ∧ (a == sysModules) = false ∧
    ∃ xs, KT H kvs xs ∧ h.DictOfH (tupleKind (mixKind P w)) a xs := by
  obtain ⟨z, y, xs, r, o, es, ep, h1, h2, h3, h4, h5⟩ := (show ObjOk P w H h a (.dT kvs) from rd_of ok e)
  refine ⟨z, y, xs, r, o, es, ep, h1, h2, h3, h4, fun x hx => ?_, h5⟩
  have all : ∀ {l : List (List Key × V)} {m : List (List Key × Addr × Value)}, KT H l m → ∀ x ∈ m, (tupleKind (mixKind P w)).is h x.1 x.2.1 := by
    intro l m q
    induction q with
    | nil => intro x hx; exact nomatch hx
    | @cons p q ps qs hq t ih =>
      intro x hx
      rcases List.mem_cons.mp hx with e | hx
      · subst e
        exact key_of ok (by rw [← hq.1]; exact hq.2.1)
      · exact ih x hx
  exact all r x hx
theorem dt_of {kvs : List (List Key × V)} (ok : HOk P w H h) (e : H a = some (.dT kvs)) : kvs.length ≤ sizeLine ∧ (a == sysModules) = false ∧
    ∃ xs, KT H kvs xs ∧ h.DictOfH (tupleKind (mixKind P w)) a xs := dt_rd ok (.inl e)
end
def DGet (H : Hp) (a : Addr) (y : V) (r : Option V) : Prop :=
  (∃ kvs k, Rd H a (.dK kvs) ∧ y = kV k ∧ r = valV kvs k) ∨ ∃ kvs k b, Rd H a (.dT kvs) ∧ y = .ref b ∧ H b = some (.tup (k.map kV)) ∧ r = valV kvs k
def DPut (H : Hp) (a : Addr) (y v : V) (H' : Hp) : Prop :=
  (∃ kvs k, H a = some (.dK kvs) ∧ y = kV k ∧ kvs.length < sizeLine ∧ H' = upd H a (.dK (putK kvs k v))) ∨
  ∃ kvs k b, H a = some (.dT kvs) ∧ y = .ref b ∧ H b = some (.tup (k.map kV)) ∧ kvs.length < sizeLine ∧ H' = upd H a (.dT (putK kvs k v))
theorem DGet.k {H : Hp} {a : Addr} {kvs : List (Key × V)} {k : Key} (e : H a = some (.dK kvs)) : DGet H a (kV k) (valV kvs k) := .inl ⟨kvs, k, .inl e, rfl, rfl⟩
theorem DPut.k {H : Hp} {a : Addr} {kvs : List (Key × V)} {k : Key} {v : V} (e : H a = some (.dK kvs)) (hl : kvs.length < sizeLine) : DPut H a (kV k) v (upd H a (.dK (putK kvs k v))) := .inl ⟨kvs, k, e, rfl, hl, rfl⟩
section
variable {X : Cx} {pins : List (Addr × Obj)} {σ : St} {H : Hp} {s : Shared} {a : Addr} {y v : V} {u r : Value} {o : Option V} {A : Around} {E : Value → Shared → Prop}
theorem Inv.big (I : Inv X pins σ H s) : sysModules < s.heap.objs.size := by
  have h : mainGlobals < s.heap.objs.size := (I.mod.glob.keeps I.bk).lt
  exact Nat.lt_trans (by decide) h
theorem d_getItem {Q : Value → Shared → Prop} (hu : A.units + 1 < cLine) (I : Inv X pins σ H s) (g : DGet H a y (some v)) (ry : RelV y u) (h : ∀ w' s', Inv X pins σ H s' → RelV v w' → Q w' s') :
    wpAny (model X.prog X.w) A (getItem (.ref a) u) Q E s := by
  rcases g with ⟨kvs, k, e, ey, l⟩ | ⟨kvs, k, b, e, ey, eb, l⟩
  · subst ey
    obtain ⟨z, hd, vs, rel, dd⟩ := dk_rd I.hok e
    obtain ⟨w', hw, rw'⟩ := RelO.some_of (v := v) (o := valueAt vs k) (by rw [l]; exact rel.val k)
    exact wpAny_getItem_of (kV_is ry) dd.mapOf hw (h w' _ (I.tok _) rw')
  · subst ey
    cases (show u = Value.ref b from ry)
    obtain ⟨z, hd, xs, rel, dd⟩ := dt_rd I.hok e
    obtain ⟨w', hw, rw'⟩ := RelO.some_of (v := v) (o := (atKey xs k).map (·.2)) (by rw [l]; exact rel.val k)
    obtain ⟨p, hp, hp2⟩ := Option.map_eq_some_iff.mp hw
    refine wpAny_getItem_heap (tupleKind_room_in1 hu) (key_of I.hok eb) dd hp ?_
    rw [hp2]
    exact h w' _ (I.tok _) rw'
theorem d_in {Q : Value → Shared → Prop} (hu : A.units + 1 < cLine) (I : Inv X pins σ H s) (g : DGet H a y o) (ry : RelV y u) (h : ∀ s', Inv X pins σ H s' → Q (.bool o.isSome) s') :
    wpAny (model X.prog X.w) A (compareOp .In u (.ref a)) Q E s := by
  rcases g with ⟨kvs, k, e, ey, l⟩ | ⟨kvs, k, b, e, ey, eb, l⟩
  · subst ey
    obtain ⟨z, hd, vs, rel, dd⟩ := dk_rd I.hok e
    refine wpAny_in_of (kV_is ry) hd dd.mapOf ?_
    rw [← (rel.val k).isSome_eq, ← l]
    exact h _ (I.tok _)
  · subst ey
    cases (show u = Value.ref b from ry)
    obtain ⟨z, hd, xs, rel, dd⟩ := dt_rd I.hok e
    refine wpAny_in_heap (tupleKind_room_in1 hu) (key_of I.hok eb) hd dd ?_
    have q := (rel.val k).isSome_eq
    rw [Option.isSome_map] at q
    rw [← q, ← l]
    exact h _ (I.tok _)
theorem d_notIn {Q : Value → Shared → Prop} (hu : A.units + 1 < cLine) (I : Inv X pins σ H s) (g : DGet H a y o) (ry : RelV y u) (h : ∀ s', Inv X pins σ H s' → Q (.bool (!o.isSome)) s') :
    wpAny (model X.prog X.w) A (compareOp .NotIn u (.ref a)) Q E s := by
  rcases g with ⟨kvs, k, e, ey, l⟩ | ⟨kvs, k, b, e, ey, eb, l⟩
  · subst ey
    obtain ⟨z, hd, vs, rel, dd⟩ := dk_rd I.hok e
    refine wpAny_notIn_of (kV_is ry) hd dd.mapOf ?_
    rw [← (rel.val k).isSome_eq, ← l]
    exact h _ (I.tok _)
  · subst ey
    cases (show u = Value.ref b from ry)
    obtain ⟨z, hd, xs, rel, dd⟩ := dt_rd I.hok e
    refine wpAny_notIn_heap (tupleKind_room_in1 hu) (key_of I.hok eb) hd dd ?_
    have q := (rel.val k).isSome_eq
    rw [Option.isSome_map] at q
    rw [← q, ← l]
    exact h _ (I.tok _)
theorem d_write {h' : Heap} {t' : Nat} {ob : HO} (I : Inv X pins σ H s) (mu : Mut (H a)) (hs : Heap.SameBut a s.heap h') (he : ∃ q, h'.get? a = some q) (new : ObjOk X.prog X.w (upd H a ob) h' a ob) :
    Inv X pins σ (upd H a ob) { s with heap := h', toks := t' } :=
  I.write (x := a) (e := a) mu (.inl rfl) (fun b q hb z => (hs.2 b hb).trans z) he new
theorem dk_new {P : Program} {w : World} {H' : Hp} {h' : Heap} {kvs : List (Key × V)} {vs : List (Key × Value)} (z : kvs.length ≤ sizeLine) (hd : (a == sysModules) = false) (rel : KV kvs vs) (dd : h'.DictOf (mixKind P w) a vs) :
    ObjOk P w H' h' a (.dK kvs) := ⟨z, hd, vs, rel, dd⟩
theorem d_setItem {H' : Hp} {Q : Unit → Shared → Prop} (hu : A.units + 1 < cLine) (I : Inv X pins σ H s) (g : DPut H a y v H') (ry : RelV y u) (rv : RelV v r) (h : ∀ s', Inv X pins σ H' s' → Q () s') :
    wpAny (model X.prog X.w) A (setItem (.ref a) u r) Q E s := by
  rcases g with ⟨kvs, k, e, ey, l, eH⟩ | ⟨kvs, k, b, e, ey, eb, l, eH⟩
  · subst ey eH
    obtain ⟨z, hd, vs, rel, dd⟩ := dk_of I.hok e
    have hz : vs.length ≤ sizeLine := by rw [← rel.length]; exact z
    have hl : (putK kvs k v).length ≤ sizeLine := by have := length_putK kvs k v; omega
    refine wpAny_setItem_pairs (hsz := hz) (kV_is ry) dd fun h' dd' hs => h _ ?_
    have he : ∃ q, h'.get? a = some q := let ⟨q, _, _, hq, _⟩ := dd'; ⟨q, hq⟩
    exact d_write I (by rw [e]; exact True.intro) hs he (dk_new hl hd (rel.put k rv) dd')
  · subst ey eH
    cases (show u = Value.ref b from ry)
    obtain ⟨z, hd, xs, rel, dd⟩ := dt_of I.hok e
    have hz : xs.length ≤ sizeLine := by rw [← Paired.length rel]; exact z
    have hl : (putK kvs k v).length ≤ sizeLine := by have := length_putK kvs k v; omega
    refine wpAny_setItem_heap (hsz := hz) (tupleKind_room_in1 hu) (key_of I.hok eb) dd fun h' dd' hs => h _ ?_
    obtain ⟨q, es, ep, hq, h2, h3, h4, _, h5⟩ := dd'
    refine d_write I (by rw [e]; exact True.intro) hs ⟨q, hq⟩ ⟨hl, hd, _, (rel.put k eb rv).keeps fun c ys ec => ?_, q, es, ep, hq, h2, h3, h4, h5⟩
    rw [upd_ne (ne_of ec e (fun z => nomatch z))]
    exact ec
end
section
variable {X : Cx} {pins : List (Addr × Obj)} {σ : St} {H : Hp} {s : Shared} {a : Addr} {kvs : List (Key × V)} {k : Key} {u : Value} {A : Around} {E : Value → Shared → Prop}
theorem d_delItem {Q : Unit → Shared → Prop} (I : Inv X pins σ H s) (e : H a = some (.dK kvs)) (ry : RelV (kV k) u) (l : (valV kvs k).isSome = true) (h : ∀ s', Inv X pins σ (upd H a (.dK (dropK kvs k))) s' → Q () s') :
    wpAny (model X.prog X.w) A (delItem (.ref a) u) Q E s := by
  obtain ⟨z, hd, vs, rel, dd⟩ := dk_of I.hok e
  refine wpAny_delItem_slot dd.typeIs (by decide) PySem.F.slot_dict_delitem
    (call_meetsIn PySem.F.slot_dict_delitem dd.typeIs PySem.F.entry_dict_delitem (PySem.F.args_dict_delitem_2 _ _) (meets_dict_delitem_pairs (mixKind X.prog X.w) a (kV_is ry)) ⟨vs, dd, by rw [← rel.length]; exact z, by rw [← (rel.val k).isSome_eq]; exact l, fun h' dd' hs => h _ ?_⟩)
  have he : ∃ q, h'.get? a = some q := let ⟨q, _, _, hq, _⟩ := dd'; ⟨q, hq⟩
  exact d_write I (by rw [e]; exact True.intro) hs he (dk_new (Nat.le_trans (dropK_le kvs k) z) hd (rel.drop k) dd')
theorem d_pop {v : V} {more : List Value} {Q : Value → Shared → Prop} (I : Inv X pins σ H s) (e : H a = some (.dK kvs)) (ry : RelV (kV k) u) (l : valV kvs k = some v) (hm : more = [] ∨ ∃ x, more = [x])
    (h : ∀ w' s', Inv X pins σ (upd H a (.dK (dropK kvs k))) s' → RelV v w' → Q w' s') : wpAny (model X.prog X.w) A (call (.builtin "dict.pop") (.ref a :: u :: more)) Q E s := by
  obtain ⟨z, hd, vs, rel, dd⟩ := dk_of I.hok e
  obtain ⟨w', hw, rw'⟩ := RelO.some_of (v := v) (o := valueAt vs k) (by rw [← l]; exact rel.val k)
  have hp : (keyPart u).isSome = true := by
    cases k with
    | inl i => obtain ⟨t, q⟩ := (show ∃ t, u = Value.int i t from ry); subst q; rfl
    | inr x => obtain ⟨t, q⟩ := (show ∃ t, u = Value.str x t from ry); subst q; rfl
  have ha : argsOk "dict.pop" ⟨.ref a :: u :: more, []⟩ := by
    rcases hm with q | ⟨x, q⟩
    · subst q; exact PySem.F.args_dict_pop_2 _ _
    · subst q; exact PySem.F.args_dict_pop_3 _ _ _
  refine call_meetsIn PySem.F.slot_dict_pop dd.typeIs PySem.F.entry_dict_pop ha (meets_dict_pop_there (mixKind X.prog X.w) a (kV_is ry) more hm hp)
    ⟨vs, w', dd, by rw [← rel.length]; exact z, hw, fun h' dd' hs => h w' _ ?_ rw'⟩
  have he : ∃ q, h'.get? a = some q := let ⟨q, _, _, hq, _⟩ := dd'; ⟨q, hq⟩
  exact d_write I (by rw [e]; exact True.intro) hs he (dk_new (Nat.le_trans (dropK_le kvs k) z) hd (rel.drop k) dd')
theorem d_len {Q : Value → Shared → Prop} (I : Inv X pins σ H s) (e : Rd H a (.dK kvs)) (h : ∀ t s', Inv X pins σ H s' → Q (.int kvs.length t) s') : wpAny (model X.prog X.w) A (call (.builtin "len") [.ref a]) Q E s := by
  obtain ⟨z, hd, vs, rel, dd⟩ := dk_rd I.hok e
  refine call_len_dict hd dd (by rw [← rel.length]; rw [sizeLine_eq] at z; omega) ?_
  rw [← rel.length]
  exact h _ _ (I.tok _)
end
def NoSl (i : Expr) : Prop := ∀ ov iv, subscripted i false ov iv = operate [ov, iv] (getItem ov iv)
theorem subD_of {prog : Program} {w : World} {A : Around} {E : Value → Shared → Prop} {s : Shared} {env : Env} {value slice : Expr} {pos : Pos} {T id : String} {Q : Value → Shared → Prop}
    (hl : typeLookup (.type T) "__getitem__" = pure (some (.builtin id))) (hs : NoSl slice)
    (h : wpAny (model prog w) A (eval value env) (fun o s₁ => wpAny (model prog w) A (eval slice env) (fun i s₂ => s₂.TypeIs o T ∧ wpAny (model prog w) A (getItem o i) Q E s₂) E s₁) E s) :
    wpAny (model prog w) A (eval (.Subscript value slice pos) env) Q E s := by
  refine Subscript_ (wpAny_mono h (fun o s₁ h₁ => wpAny_mono h₁ (fun i s₂ h₂ => ?_) fun _ _ x => x) fun _ _ x => x)
  obtain ⟨hT, h₂⟩ := h₂
  unfold subscriptTail
  refine wpAny_bind ?_
  rw [getitemInPython_of_ne hT.not_modules]
  refine wpAny_bind (wpAny_specialOf hT hl ?_)
  have fin : wpAny (model prog w) A (subscripted slice false o i) (fun r s₃ => wpAny (model prog w) A (letTemporaryGo value o r >>= fun _ => pure r) Q E s₃) E s₂ := by
    rw [hs o i]
    exact wpAny_operating (wpAny_mono h₂ (fun r s₃ h₃ => wpAny_bind (wpAny_letTemporaryGo (wpAny_pure h₃))) fun _ _ x => x)
  first
    | exact wpAny_pure (wpAny_bind fin)
    | exact wpAny_bind (wpAny_pure (wpAny_bind fin))
    | exact wpAny_bind fin
theorem dict_typeIs {X : Cx} {pins : List (Addr × Obj)} {σ : St} {H : Hp} {s : Shared} {a : Addr} {y : V} {o : Option V} (I : Inv X pins σ H s) (g : DGet H a y o) : s.TypeIs (.ref a) "dict" := by
  rcases g with ⟨kvs, k, e, _, _⟩ | ⟨kvs, k, b, e, _, _, _⟩
  · obtain ⟨_, _, vs, _, dd⟩ := dk_rd I.hok e
    exact dd.typeIs
  · obtain ⟨_, _, xs, _, dd⟩ := dt_rd I.hok e
    exact dd.typeIs
def tDGet (td ty : TE) : TE := fun σ H Q => td σ H fun x H1 => ty σ H1 fun y H2 => ∃ a v, x = .ref a ∧ DGet H2 a y (some v) ∧ Q v H2
def tDIn (ty td : TE) : TE := fun σ H Q => ty σ H fun y H1 => td σ H1 fun x H2 => ∃ a o, x = .ref a ∧ DGet H2 a y o ∧ Q (.bl o.isSome) H2
def tDNotIn (ty td : TE) : TE := fun σ H Q => ty σ H fun y H1 => td σ H1 fun x H2 => ∃ a o, x = .ref a ∧ DGet H2 a y o ∧ Q (.bl (!o.isSome)) H2
def sDPut (td ty tv : TE) : TS := fun D σ H => tv σ H fun v H1 => td σ H1 fun x H2 => ty σ H2 fun y H3 => ∃ a H4, x = .ref a ∧ DPut H3 a y v H4 ∧ D.nx σ H4
section
variable {X : Cx} {o i e value : Expr} {pos pos' tpos : Pos} {td ty tv : TE}
theorem pe_dget (hu : X.A.units + 1 < cLine) (ho : PE X o td) (hi : PE X i ty) (hs : NoSl i) : PE X (.Subscript o i pos) (tDGet td ty) := by
  intro pins s σ H Q I h
  refine subD_of PySem.F.slot_dict_getitem.lookup hs (thn (ho pins s σ H _ I h) fun u s1 ⟨x, H1, I1, rx, q1⟩ => thn (hi pins s1 σ H1 _ I1 q1) fun iv s2 ⟨y, H2, I2, ry, a, v, ex, g, q2⟩ => ?_)
  subst ex
  obtain rfl : u = Value.ref a := rx
  exact ⟨dict_typeIs I2 g, d_getItem hu I2 g ry fun w' s3 I3 rw' => ⟨v, H2, I3, rw', q2⟩⟩
theorem pc_din (hu : X.A.units + 1 < cLine) (hi : PE X i ty) (ho : PE X o td) : PC X .In i o (tDIn ty td) := by
  intro pins s σ H Q I h
  refine thn (hi pins s σ H _ I h) fun iv s1 ⟨y, H1, I1, ry, q1⟩ => thn (ho pins s1 σ H1 _ I1 q1) fun u s2 ⟨x, H2, I2, rx, a, ov, ex, g, q2⟩ => ?_
  subst ex
  obtain rfl : u = Value.ref a := rx
  exact d_in hu I2 g ry fun s3 I3 => ⟨.bl ov.isSome, H2, I3, rfl, q2⟩
theorem pc_dnotin (hu : X.A.units + 1 < cLine) (hi : PE X i ty) (ho : PE X o td) : PC X .NotIn i o (tDNotIn ty td) := by
  intro pins s σ H Q I h
  refine thn (hi pins s σ H _ I h) fun iv s1 ⟨y, H1, I1, ry, q1⟩ => thn (ho pins s1 σ H1 _ I1 q1) fun u s2 ⟨x, H2, I2, rx, a, ov, ex, g, q2⟩ => ?_
  subst ex
  obtain rfl : u = Value.ref a := rx
  exact d_notIn hu I2 g ry fun s3 I3 => ⟨.bl (!ov.isSome), H2, I3, rfl, q2⟩
theorem ps_dput (hu : X.A.units + 1 < cLine) (ho : PE X o td) (hi : PE X i ty) (hv : PE X value tv) (hs : swapsWith value (some (.Subscript o i pos')) pos.line X.env = pure false) :
    PS X (.Assign [.Subscript o i pos'] value pos) (sDPut td ty tv) := by
  intro pins s σ H D I h
  refine wpAny_Assign_Subscript (thn (hv pins s σ H _ I h) fun r s1 ⟨v, H1, I1, rv, q1⟩ => thn (ho pins s1 σ H1 _ I1 q1) fun u s2 ⟨x, H2, I2, rx, q2⟩ => thn (hi pins s2 σ H2 _ I2 q2) fun iv s3 ⟨y, H3, I3, ry, a, H4, ex, g, q3⟩ => ?_) hs
  subst ex
  obtain rfl : u = Value.ref a := rx
  exact d_setItem hu I3 g ry rv fun s4 I4 => ⟨σ, H4, I4, q3⟩
end
theorem dk_empty {P : Program} {w : World} {H : Hp} (h : Heap) (hb : sysModules < h.objs.size) : ObjOk P w H (h.push { cls := .type "dict", data := .dict #[] }) h.objs.size (.dK []) :=
  ⟨Nat.zero_le _, beq_eq_false_iff_ne.mpr (Ne.symm (Nat.ne_of_lt hb)), [], .nil, Heap.DictOf.new h⟩
section
variable {X : Cx} {pos : Pos}
end
def tPairs : List (TE × TE) → St → Hp → (List (V × V) → Hp → Prop) → Prop
  | [], _, H, Q => Q [] H
  | (tk, tv) :: r, σ, H, Q => tk σ H fun x H1 => tv σ H1 fun y H2 => tPairs r σ H2 fun ps H3 => Q ((x, y) :: ps) H3
abbrev VV : List (V × V) → List (Value × Value) → Prop := Paired fun p q => RelV p.1 q.1 ∧ RelV p.2 q.2
def PPs (X : Cx) (pos : Pos) (keys : List (Option Expr)) (values : List Expr) (trs : List (TE × TE)) : Prop :=
  ∀ (pins : List (Addr × Obj)) (s : Shared) (σ : St) (H : Hp) (Q : List (V × V) → Hp → Prop), Inv X pins σ H s → tPairs trs σ H Q →
    wpAny (model X.prog X.w) X.A (evalPairs (pairTrees keys values X.env pos)) (fun vs s' => ∃ ps H', Inv X pins σ H' s' ∧ VV ps vs ∧ Q ps H') X.xe s
theorem pps_nil {X : Cx} {pos : Pos} : PPs X pos [] [] [] := fun pins s σ H Q I h => pairTrees_nil_walk ⟨[], H, I, .nil, h⟩
theorem pps_cons {X : Cx} {pos : Pos} {k v : Expr} {ks : List (Option Expr)} {vs : List Expr} {tk tv : TE} {trs : List (TE × TE)} (hk : PE X k tk) (hv : PE X v tv) (hr : PPs X pos ks vs trs) :
    PPs X pos (some k :: ks) (v :: vs) ((tk, tv) :: trs) := fun pins s σ H Q I h =>
  pairTrees_cons_walk (thn (hk pins s σ H _ I h) fun u s1 ⟨x, H1, I1, rx, q1⟩ => thn (hv pins s1 σ H1 _ I1 q1) fun w2 s2 ⟨y, H2, I2, ry, q2⟩ =>
    thn (hr pins s2 σ H2 _ I2 q2) fun ws s3 ⟨ps, H3, I3, rel, q3⟩ => ⟨(x, y) :: ps, H3, I3, .cons ⟨rx, ry⟩ rel, q3⟩)
def mergeK (kvs more : List (Key × V)) : List (Key × V) := more.foldl (fun acc kv => putK acc kv.1 kv.2) kvs
theorem KV.merge : ∀ {more : List (Key × V)} {rs : List (Key × Value)} {kvs : List (Key × V)} {vs : List (Key × Value)}, KV more rs → KV kvs vs → KV (mergeK kvs more) (merged vs rs) := by
  intro more rs kvs vs r
  unfold KV at r
  induction r generalizing kvs vs with
  | nil => intro q; exact q
  | @cons p q ps qs h t ih =>
    intro r0
    have e : KV (putK kvs p.1 p.2) (stored vs q.1 q.2) := by
      have := r0.put p.1 h.2
      rw [← h.1]; exact this
    exact ih e
theorem length_mergeK : ∀ (more kvs : List (Key × V)), (mergeK kvs more).length ≤ kvs.length + more.length
  | [], kvs => by show kvs.length ≤ kvs.length + 0; omega
  | p :: r, kvs => by
    have h1 := length_mergeK r (putK kvs p.1 p.2)
    have h2 := length_putK kvs p.1 p.2
    show (mergeK (putK kvs p.1 p.2) r).length ≤ _
    rw [List.length_cons]; omega
theorem carries_of {P : Program} {w : World} : ∀ {kvs : List (Key × V)} {ws : List (Value × Value)}, VV (kvs.map fun kv => (kV kv.1, kv.2)) ws → ∃ rs, Carries (mixKind P w) ws rs ∧ KV kvs rs
  | [], _, r => by rw [List.map_nil] at r; cases r; exact ⟨[], True.intro, .nil⟩
  | p :: kvs, _, r => by
    rw [List.map_cons] at r
    cases r with
    | @cons a b as bs h t =>
      obtain ⟨rs, c, q⟩ := carries_of (P := P) (w := w) t
      obtain ⟨b1, b2⟩ := b
      exact ⟨(p.1, b2) :: rs, ⟨kV_is h.1, rfl, c⟩, .cons ⟨rfl, h.2⟩ q⟩
def tDisp (trs : List (TE × TE)) : TE := fun σ H Q => ∀ p, H p = none → tPairs trs σ (upd H p (.dK [])) fun ps H2 => H2 p = some (.dK []) ∧ ∃ kvs : List (Key × V), ps = kvs.map (fun kv => (kV kv.1, kv.2)) ∧ kvs.length ≤ 15 ∧ Q (.ref p) (upd H2 p (.dK (mergeK [] kvs)))
theorem pe_disp {X : Cx} {pos : Pos} {keys : List (Option Expr)} {values : List Expr} {trs : List (TE × TE)} (h : PPs X pos keys values trs) (hall : keys.all (·.isSome) = true) (hl : keys.length = values.length) (h0 : keys ≠ [])
    (h15 : keys.length ≤ 15) : PE X (.Dict keys values pos) (tDisp trs) := by
  intro pins s σ H Q I q
  have hn := I.hok.fresh (Nat.le_refl s.heap.objs.size)
  have I1 := I.laid (a := s.heap.objs.size) (o := .dK []) (h' := s.heap.push { cls := .type "dict", data := .dict #[] }) (t' := s.toks) (fun _ _ q => Heap.get?_push_of_some _ q) (Nat.le_refl _) (dk_empty s.heap I.big)
  refine wpAny_Dict_walk (knd := mixKind X.prog X.w) hall hl h0 h15 (thn (h pins _ σ _ _ I1 (q _ hn)) fun ws s2 ⟨ps, H2, I2, rel, e, kvs, ep, lk, q2⟩ => ?_)
  subst ep
  obtain ⟨rs, c, rk⟩ := carries_of (P := X.prog) (w := X.w) rel
  obtain ⟨z, hd, vs0, r0, dd⟩ := dk_of I2.hok e
  cases r0
  refine ⟨rs, c, dd, fun h' dd' hs => ⟨.ref s.heap.objs.size, _, ?_, rfl, q2⟩⟩
  have hz : (mergeK [] kvs).length ≤ sizeLine := by
    have h1 := length_mergeK kvs []
    rw [List.length_nil] at h1
    rw [sizeLine_eq]; omega
  have he : ∃ q, h'.get? s.heap.objs.size = some q := let ⟨q, _, _, hq, _⟩ := dd'; ⟨q, hq⟩
  exact d_write I2 (by rw [e]; exact True.intro) hs he (dk_new hz hd (rk.merge .nil) dd')
structure M1 (X : Cx) (o : Expr) (m : Str) (apos : Pos) (e : Expr) (cpos : Pos) : Prop where
  base : attributeBase o m X.env (eval o X.env) = eval o X.env
  few : ((backTo cpos (starEach [e] X.env)).all (fun x => !x.1) && (backToKw cpos (keywordEach [] X.env)).all (fun x => x.1.isSome)
    && decide (([e] : List Expr).length + ([] : List Keyword).length + (if ([] : List Keyword).isEmpty then 0 else 1) < 30)) = true
  line : (apos.endLine == cpos.line) = true
  trees : backTo cpos (starEach [e] X.env) = [(false, eval e X.env)]
def IsD (H : Hp) (a : Addr) : Prop := (∃ kvs, Rd H a (.dK kvs)) ∨ ∃ kvs, Rd H a (.dT kvs)
theorem isD_at {X : Cx} {pins : List (Addr × Obj)} {σ : St} {H : Hp} {s : Shared} {a : Addr} (I : Inv X pins σ H s) (d : IsD H a) :
    s.TypeIs (.ref a) "dict" ∧ (∀ b, Value.ref a = .ref b → ∃ ob, s.heap.get? b = some ob ∧ ob.dict = none) ∧ (a == sysModules) = false := by
  rcases d with ⟨kvs, e⟩ | ⟨kvs, e⟩
  · obtain ⟨_, hd, vs, _, dd⟩ := dk_rd I.hok e
    refine ⟨dd.typeIs, fun b q => ?_, hd⟩
    cases q
    obtain ⟨ob, _, _, h1, h2, _⟩ := dd
    exact ⟨ob, h1, h2.2.1⟩
  · obtain ⟨_, hd, xs, _, dd⟩ := dt_rd I.hok e
    refine ⟨dd.typeIs, fun b q => ?_, hd⟩
    cases q
    obtain ⟨ob, _, _, h1, h2, _⟩ := dd
    exact ⟨ob, h1, h2.2.1⟩
section
variable {X : Cx} {pins : List (Addr × Obj)} {σ : St} {H : Hp} {s : Shared} {a : Addr} {y d : V} {u r : Value} {o : Option V} {A : Around} {E : Value → Shared → Prop}
end
def tDPop1 (td ty : TE) : TE := fun σ H Q => td σ H fun x H1 => ∃ a, x = .ref a ∧ IsD H1 a ∧ ty σ H1 fun y H2 => ∃ kvs k v, H2 a = some (.dK kvs) ∧ y = kV k ∧ valV kvs k = some v ∧ Q v (upd H2 a (.dK (dropK kvs k)))
section
variable {X : Cx} {o e f : Expr} {apos cpos : Pos} {td ty tx : TE}
theorem pe_dpop1 (ho : PE X o td) (he : PE X e ty) (m : M1 X o "pop" apos e cpos) : PE X (.Call (.Attribute o "pop" apos) [e] [] cpos) (tDPop1 td ty) := by
  intro pins s σ H Q I h
  refine wpAny_Call_method m.base m.few m.line PySem.F.plainAttrs_dict PySem.F.slot_dict_pop PySem.F.type_dict_pop (thn (ho pins s σ H _ I h) fun u s1 ⟨x, H1, I1, rx, a, ex, d, q1⟩ => ?_)
  subst ex
  obtain rfl : u = Value.ref a := rx
  obtain ⟨t1, t2, _⟩ := isD_at I1 d
  refine ⟨t1, t2, ?_⟩
  rw [m.trees]
  refine Calls.callWith_builtin rfl (Calls.evalArgs_plain (Calls.spliced_cons (thn (he pins s1 σ H1 _ I1 q1) fun iv s2 ⟨y, H2, I2, ry, kvs, k, v, ea, ey, l, q2⟩ => Calls.spliced_nil ?_)))
  subst ey
  exact d_pop I2 ea ry l (.inl rfl) fun w' s3 I3 rw' => ⟨v, _, I3, rw', q2⟩
end
section
variable {X : Cx} {pins : List (Addr × Obj)} {σ : St} {H : Hp} {s : Shared} {a : Addr} {kvs : List (Key × V)} {A : Around} {E : Value → Shared → Prop}
end
section
variable {X : Cx} {pins : List (Addr × Obj)} {σ : St} {H : Hp} {s : Shared} {a : Addr} {y : V} {u : Value} {A : Around} {E : Value → Shared → Prop}
end
end L2
set_option Elab.async false
set_option linter.all false
set_option maxRecDepth 100000
set_option maxHeartbeats 4000000
namespace L2
open PySem PySem.Spec PyProof.Rows
section
variable {X : Cx}
end
end L2
set_option Elab.async false
set_option linter.all false
set_option maxRecDepth 100000
set_option maxHeartbeats 4000000
namespace L2
open PySem PySem.Spec PyProof.Rows
end L2
set_option Elab.async false
set_option linter.all false
set_option maxRecDepth 100000
set_option maxHeartbeats 4000000
namespace L2
open PySem PySem.Spec PyProof.Rows
section
variable {X : Cx}
end
end L2
set_option Elab.async false
set_option linter.all false
set_option maxRecDepth 100000
set_option maxHeartbeats 4000000
namespace LB
open PySem L2
theorem hu1 {u c : Nat} (h : u + 64 < c) : u + 1 < c := by omega
theorem m1_mk {X : Cx} {o : Expr} {m : Str} {apos : Pos} {e : Expr} {cpos : Pos} (hb : attributeBase o m X.env (eval o X.env) = eval o X.env) (he : isStar e = false) (hl : (apos.endLine == cpos.line) = true) : M1 X o m apos e cpos := ⟨hb, star_few he, hl, by rw [star_cons he]; rfl⟩
theorem w_tB {t : TE} {σ : St} {H : Hp} {Q : Bool → Hp → Prop} (h : t σ H fun x H1 => ∃ c, x = .bl c ∧ Q c H1) : tB t σ H Q := h
theorem w_dnotin {ty td : TE} {σ : St} {H : Hp} {Q : VK} (h : ty σ H fun y H1 => td σ H1 fun x H2 => ∃ a o, x = .ref a ∧ DGet H2 a y o ∧ Q (.bl (!o.isSome)) H2) : tDNotIn ty td σ H Q := h
theorem w_din {ty td : TE} {σ : St} {H : Hp} {Q : VK} (h : ty σ H fun y H1 => td σ H1 fun x H2 => ∃ a o, x = .ref a ∧ DGet H2 a y o ∧ Q (.bl o.isSome) H2) : tDIn ty td σ H Q := h
theorem w_dget {ty td : TE} {σ : St} {H : Hp} {Q : VK} (h : td σ H fun x H1 => ty σ H1 fun y H2 => ∃ a v, x = .ref a ∧ DGet H2 a y (some v) ∧ Q v H2) : tDGet td ty σ H Q := h
theorem w_dput {ty td tv : TE} {D : Ends} {σ : St} {H : Hp} (h : tv σ H fun v H1 => td σ H1 fun x H2 => ty σ H2 fun y H3 => ∃ a H4, x = .ref a ∧ DPut H3 a y v H4 ∧ D.nx σ H4) : sDPut td ty tv D σ H := h
theorem w_while {c : TT} {tb : TS} {D : Ends} {σ : St} {H : Hp} (W : Nat → St → Hp → Prop) {m : Nat} (h0 : W m σ H) (hs : ∀ m σ H, W m σ H → c σ H fun b H1 => if b = true then ∃ N : St → Hp → Prop, (∀ σ' H', N σ' H' → ∃ m', m' < m ∧ W m' σ' H') ∧ tb { D with nx := N, ct := N, bk := D.nx } σ H1 else D.nx σ H1) : tWhile c tb D σ H := ⟨W, ⟨m, h0⟩, hs⟩
end LB
set_option Elab.async false
set_option linter.all false
set_option maxRecDepth 100000
set_option maxHeartbeats 4000000
namespace LB
open PySem L2
end LB
set_option Elab.async false
set_option linter.all false
set_option maxRecDepth 100000
set_option maxHeartbeats 4000000
namespace LB
open PySem L2
end LB
set_option Elab.async false
set_option linter.all false
set_option maxRecDepth 100000
set_option maxHeartbeats 4000000
namespace LB
open PySem L2
end LB
set_option Elab.async false
set_option linter.all false
set_option maxRecDepth 100000
set_option maxHeartbeats 4000000
namespace LB
open PySem L2
def insI (x : Int) : List Int → List Int
  | [] => [x]
  | y :: r => if x ≤ y then x :: y :: r else y :: insI x r
theorem ins_perm (x : Int) : ∀ l, (insI x l).Perm (x :: l)
  | [] => List.Perm.refl _
  | y :: r => by
    unfold insI
    split
    · exact List.Perm.refl _
    · exact ((ins_perm x r).cons y).trans (List.Perm.swap x y r)
theorem lay_ints : ∀ ns : List Int, PyData.canLayAll0 (ns.map .int) = true
  | [] => by simp [PyData.canLayAll0]
  | n :: ns => by rw [List.map_cons]; simp [PyData.canLayAll0, PyData.canLay0, lay_ints ns]
theorem depth_ints : ∀ ns : List Int, PyData.depthAll (ns.map .int) ≤ 1
  | [] => by simp [PyData.depthAll]
  | n :: ns => by
    have := depth_ints ns
    rw [List.map_cons]
    simp only [PyData.depthAll, PyData.depth]
    omega
end LB
set_option Elab.async false
set_option linter.all false
set_option maxRecDepth 100000
set_option maxHeartbeats 4000000
namespace PySem
open Sem (wp)
open AutoSeq1 (wpAny_loadPart')
section
variable {prog : Program} {w : World} {A : Around} {E : Value → Shared → Prop} {s : Shared}
end
end PySem
namespace L2
open PySem PySem.Spec PyProof.Rows
section
variable {X : Cx}
end
end L2
set_option Elab.async false
set_option linter.all false
set_option maxRecDepth 100000
set_option maxHeartbeats 4000000
namespace L2
open PySem PySem.Spec PySem.W PyProof.Rows
structure Own (K : PySem.W.Frag) (mg : Str → Option Value) (x : Str) (C : Addr) : Prop where
  bound : mg x = some (.ref C)
  cl : Cls K C
  mks : PySem.W.makesIn K C = true
  kp : PySem.W.keepIn K (.ref C) = true
  ha : PySem.W.findIn K (.ref C) "__class__" = some (some (.builtin "object.__class__"))
  hn : PySem.W.specialIn K (.builtin "object.__class__") "__get__" = some (some (.builtin "getset_descriptor.__get__"))
  htk : PySem.W.takesIn K (.builtin "object.__class__") = some true
  hm : PySem.W.mroIn K C (.type "object") = some true
def DfM (K : PySem.W.Frag) (C : Addr) (m qual : Str) (st : Stmt) : Prop := ∃ f fd, Fun K m qual st f fd ∧ Meth K C m f
def FnM (P : Program) (w : World) (K : PySem.W.Frag) (mg : Str → Option Value) (base : Heap) (CX : CXT) (C : Addr) (m : Str) (k : Nat) (ps : List Str) (sp : Sp) : Prop :=
  ∃ f fd, FnOk P w K mg base CX k f fd ps sp ∧ Meth K C m f ∧ Binds K fd ps []
section
variable {K : PySem.W.Frag} {mg : Str → Option Value} {h : Heap} {x y m qual fl : Str} {C D f : Addr}
theorem cls_is (X : K.In h) (G : h.Ns mainGlobals mg) (aC : PySem.W.nsIn K mainGlobals x = some (some (.ref C))) : clsA mg x = C := by unfold clsA; rw [PySem.W.mg_of X G aC]
theorem own_mk (X : K.In h) (G : h.Ns mainGlobals mg) (aC : PySem.W.nsIn K mainGlobals x = some (some (.ref C))) (pg : PySem.W.plainGet K C Str.empty = true) (hd : PySem.W.hasDictIn K C = true) (po : PySem.W.plainOver K C = true)
    (sa : PySem.W.findIn K (.ref C) "__setattr__" = some (some (.builtin "object.__setattr__"))) (mk : PySem.W.makesIn K C = true) (kc : PySem.W.keepIn K (.ref C) = true)
    (ha : PySem.W.findIn K (.ref C) "__class__" = some (some (.builtin "object.__class__"))) (hn : PySem.W.specialIn K (.builtin "object.__class__") "__get__" = some (some (.builtin "getset_descriptor.__get__")))
    (htk : PySem.W.takesIn K (.builtin "object.__class__") = some true) (hm : PySem.W.mroIn K C (.type "object") = some true) : Own K mg x (clsA mg x) := by
  have e := PySem.W.mg_of X G aC
  rw [cls_is X G aC]
  exact ⟨e, ⟨pg, hd, po, sa⟩, mk, kc, ha, hn, htk, hm⟩
theorem dfm_mk {st : Stmt} {oc : Value} {od an : Option Addr} {osl : Array (Option Value)} {kV doc pm cdv ct : Value} (X : K.In h) (G : h.Ns mainGlobals mg) (aC : PySem.W.nsIn K mainGlobals x = some (some (.ref C)))
    (a : PySem.W.findIn K (.ref C) m = some (some (.ref f))) (i : PySem.W.isFn K (.ref f) = true)
    (l : K.lookup f = some ⟨oc, od, .func (PySem.W.fnOf m qual (defArgs st) (defBody st) (defScope st) .none kV doc pm an cdv ct), osl⟩)
    (c : PySem.W.codeIn K cdv qual = true) (k : PySem.W.keepIn K (.ref f) = true) : DfM K (clsA mg x) m qual st := by
  rw [cls_is X G aC]
  exact ⟨f, _, fun_mk l c k, a, i, k⟩
theorem noat_mk (X : K.In h) (G : h.Ns mainGlobals mg) (aC : PySem.W.nsIn K mainGlobals x = some (some (.ref C))) (n : PySem.W.findIn K (.ref C) fl = some none) : NoAttr K (clsA mg x) fl := by
  rw [cls_is X G aC]; exact n
variable {P : Program} {w : World} {base : Heap}
theorem DfM.to {CX : CXT} {st : Stmt} {ps : List Str} {k : Nat} {sp : Sp} (D : DfM K C m qual st) (h : ∀ {f : Addr} {fd : FuncData}, Fun K m qual st f fd → FnOk P w K mg base CX k f fd ps sp)
    (hb : ∀ (kV doc pm : Value) (an : Option Addr) (cdv ct : Value) (us : List Value), us.length = ps.length → bindArgs (PySem.W.fnOf m qual (defArgs st) (defBody st) (defScope st) .none kV doc pm an cdv ct) ⟨us, []⟩ = pure (ps.zip us)) : FnM P w K mg base CX C m k ps sp := by
  obtain ⟨f, fd, F, hm⟩ := D
  exact ⟨f, fd, h F, hm, F.binds hb⟩
end
section
variable {X : Cx} {CX : CXT} {k : Nat} {C : Addr} {ps : List Str} {sp : Sp} {E : XK} {x m : Str} {p pos apos cpos : Pos} {e o : Expr} {es : List Expr} {ta to : TE} {t : TA}
theorem fb_meth0 {pl : Sem Bool} (c : Own X.K X.mg x C) (G : FnM X.prog X.w X.K X.mg X.base CX C m k ps sp) (hr : Room k X.A) (hx : Passes CX X E) (he : PE X o ta)
    (ht : eval (.Call (.Attribute o m apos) [] [] pos) X.env = (do
      let ov ← eval o X.env
      standAt apos.atName
      let (f, first) ← holding [ov] (getMethod ov m pl)
      callWith pos f first (backTo pos (starEach [] X.env)) (backToKw pos (keywordEach [] X.env))) := by rfl) :
    PE X (.Call (.Attribute o m apos) [] [] pos) (tMeth C m sp [] E ta tNil) := by
  obtain ⟨f, fd, F, hm, hb⟩ := G
  exact pe_meth0 (pl := pl) he c.cl hm F hr hb .nil hx ht
end
theorem matches_ownB {M : Model} {A : Around} {E : Value → Shared → Prop} {K : PySem.W.Frag} {s : Shared} {e C D : Addr} {oe : Obj} {b : Bool} {Q : Bool → Shared → Prop} (X : K.In s.heap)
    (qC : PySem.W.excIn K C bmV "ValueError.__new__" = true) (qD : PySem.W.excIn K D bmV "ValueError.__new__" = true) (he : s.heap.get? e = some oe) (hcls : oe.cls = .ref C) (hs : PySem.W.mroIn K C (.ref D) = some b)
    (hq : Q b s) : wpAny M A (excMatches (.ref e) (.ref D)) Q E s := by
  obtain ⟨h, g, d, t, os⟩ := s
  obtain ⟨bm, N, nm, q, bs, hdct, sn, sub, ab, col, dd, k0, k1, k2, k3, k5, mN, hC, hN, hni, TL, cd, hcd, hm⟩ := exc_obj X qC
  obtain ⟨bm', N', nm', q', bs', hdct', sn', sub', ab', col', dd', j0, j1, j2, j3, j5, mN', hD, hN', hni', TL', cd', hcd', hm'⟩ := exc_obj X qD
  have hcB : (Value.ref D :: bm').contains (.type "BaseException") = true := by rw [List.contains_cons, TL'.hasType PySem.F.excBase_ValueError.hasBase, Bool.or_true]
  have hcC : (Value.ref C :: bm).contains (.ref D) = b := by
    unfold PySem.W.mroIn at hs
    rw [hcd] at hs
    dsimp only [Option.bind] at hs
    rw [hm] at hs
    exact Option.some.inj hs
  have f := tc_notTuple
  unfold excMatches
  cases b
  all_goals
    repeat (first | (with_reducible refine wpAny_loadPart_at he ?_; rw [hcls]) | with_reducible refine wpAny_loadPart_at hD ?_ | (with_reducible refine wpAny_isSubtype_exc hD ?_; rw [hcB]) | (with_reducible refine wpAny_isSubtype_exc hC ?_; rw [hcC]) | wp_step)
    exact hq
section
variable {X : Cx} {k : Nat} {g x x2 n : Str} {ps : List Str} {sp : Sp} {p np np2 cpos epos hpos hpos2 pos : Pos} {e : Expr} {es : List Expr} {t : TA} {ts ts2 : TS} {D D2 : Addr} {b₀ b₂ : Stmt} {suite suite2 : List Stmt} {i : Nat}
end
section
variable {X : Cx}
end
section
variable {K : PySem.W.Frag} {σ : St} {H : Hp} {Q : VK} {D : Ends} {te ta tb : TE} {t : TA} {C p : Addr} {sp : Sp} {E : XK} {m f : Str}
theorem w_fld (h : te σ H fun x H1 => ∃ a C dx fs v, x = .ref a ∧ H1 a = some (.ins C dx fs) ∧ Cls K C ∧ NoAttr K C f ∧ fs.lookup f = some v ∧ Q v H1) : tFld K te f σ H Q := h
theorem w_sfld {tv : TE} (h : tv σ H fun y H1 => ta σ H1 fun x H2 => ∃ a C dx fs, x = .ref a ∧ H2 a = some (.ins C dx fs) ∧ Cls K C ∧ NoAttr K C f ∧ fs.length < 1000 ∧ D.nx σ (upd H2 a (.ins C dx (putF f y fs)))) : sFld K ta tv f D σ H := h
theorem w_meth (h : te σ H fun x H1 => ∃ a dx fs, x = .ref a ∧ H1 a = some (.ins C dx fs) ∧ fs.lookup m = none ∧ t σ H1 fun vs H2 => sp (x :: (vs ++ [])) H2 Q E) : tMeth C m sp [] E te t σ H Q := h
theorem w_make (h : t σ H fun vs H1 => ∀ x dx, H1 x = none → H1 dx = none → dx ≠ x → sp (.ref x :: (vs ++ [])) (upd (upd H1 dx (.own x)) x (.ins C dx [])) (fun v H2 => v = .non ∧ Q (.ref x) H2) E) : tMake C sp [] E t σ H Q := h
end
end L2
set_option Elab.async false
set_option linter.all false
set_option maxRecDepth 100000
set_option maxHeartbeats 4000000
namespace LB
open PySem L2
mutual
theorem eqv_self : ∀ d : PyData, d.canLay0 = true → PyData.eqv d d = true
  | .none, _ => by simp [PyData.eqv]
  | .bool b, _ => by simp [PyData.eqv]
  | .int i, _ => by simp [PyData.eqv]
  | .str x, _ => by simp [PyData.eqv]
  | .list xs, h => by simp only [PyData.eqv]; exact eqvAll_self xs (by simpa only [PyData.canLay0] using h)
  | .tuple xs, h => by simp only [PyData.eqv]; exact eqvAll_self xs (by simpa only [PyData.canLay0] using h)
  | .dict _, h => by simp [PyData.canLay0] at h
theorem eqvAll_self : ∀ ds : List PyData, PyData.canLayAll0 ds = true → PyData.eqvAll ds ds = true
  | [], _ => by simp [PyData.eqvAll]
  | d :: ds, h => by
    have c : d.canLay0 = true ∧ PyData.canLayAll0 ds = true := by simpa [PyData.canLayAll0] using h
    simp only [PyData.eqvAll, eqv_self d c.1, eqvAll_self ds c.2, Bool.and_self]
end
theorem layAll_map {α : Type} {f : α → PyData} : ∀ {xs : List α}, (∀ x ∈ xs, (f x).canLay0 = true) → PyData.canLayAll0 (xs.map f) = true
  | [], _ => by simp [PyData.canLayAll0]
  | x :: xs, h => by
    rw [List.map_cons]
    simp only [PyData.canLayAll0, h x (by simp), layAll_map (xs := xs) fun y hy => h y (by simp [hy]), Bool.and_self]
theorem depthAll_map {α : Type} {f : α → PyData} {k : Nat} : ∀ {xs : List α}, (∀ x ∈ xs, (f x).depth ≤ k) → PyData.depthAll (xs.map f) ≤ k
  | [], _ => by simp [PyData.depthAll]
  | x :: xs, h => by
    rw [List.map_cons]
    simp only [PyData.depthAll]
    have := h x (by simp)
    have := depthAll_map (xs := xs) (k := k) fun y hy => h y (by simp [hy])
    omega
theorem lay_day (d : List Int × List Int) : (dayD d).canLay0 = true := by
  unfold dayD
  simp only [PyData.canLay0, PyData.canLayAll0, lay_ints, Bool.and_self]
theorem depth_day (d : List Int × List Int) : (dayD d).depth ≤ 3 := by
  unfold dayD
  have := depth_ints d.1
  have := depth_ints d.2
  simp only [PyData.depth, PyData.depthAll]; omega
theorem lay_days (B : List (List Int × List Int)) : (bookD B).canLay0 = true := by
  unfold bookD
  simp only [PyData.canLay0]
  exact layAll_map fun d _ => lay_day d
theorem depth_days (B : List (List Int × List Int)) : (bookD B).depth ≤ 4 := by
  unfold bookD
  have := depthAll_map (f := dayD) (k := 3) (xs := B) fun d _ => depth_day d
  simp only [PyData.depth]; omega
theorem w_eqSelf {K : PySem.W.Frag} {H : Hp} {Q : VK} {x y : V} {d : PyData} (h1 : Rep H x d) (h2 : Rep H y d) (l : d.canLay0 = true) (dp : d.depth ≤ 64) (k : Q (.bl true) H) : rEqU K x y H Q := by
  refine .inr ⟨d, d, h1, h2, l, l, by omega, ?_⟩
  rw [eqv_self d l]; exact k
theorem w_neSelf {K : PySem.W.Frag} {H : Hp} {Q : VK} {x y : V} {d : PyData} (h1 : Rep H x d) (h2 : Rep H y d) (l : d.canLay0 = true) (dp : d.depth ≤ 64) (k : Q (.bl false) H) : rNeU K x y H Q := by
  refine .inr ⟨d, d, h1, h2, l, l, by omega, ?_⟩
  rw [eqv_self d l]; exact k
theorem comp_rangeF {l : List (Option Nat)} {te : TE} {tc : TT} {σ σr : St} {H1 : Hp} {Q : Hp → Prop} {n : Nat} (D : Addr) (f : Nat → Bool) (g : Nat → V) (hn : n ≤ 1000) (hD : H1 D = none) (hini : ∃ r0, iniOf l σ = r0 :: σr)
    (ht : ∀ i H (R : Bool → Hp → Prop), i < n → Same H1 H → R (f i) H → tc (some (.int (i : Nat)) :: σr) H R)
    (hs : ∀ i H (R : VK), i < n → f i = true → Same H1 H → R (g i) H → te (some (.int (i : Nat)) :: σr) H R)
    (hd : ∀ H, Same H1 H → H D = some (.lst (((List.range n).filter f).map g)) → Q H) :
    ∃ W : CompW, (∃ m, W 0 m [] (iniOf l σ) (upd H1 D (.lst []))) ∧ compStep (Itr 0 n) (gName 0) tc te D W Q := by
  obtain ⟨r0, hini⟩ := hini
  refine comp_range D (fun i ys σ2 H => ys = ((List.range i).filter f).map g ∧ Same H1 H ∧ ∃ r0, σ2 = r0 :: σr) hn (fun i ys σ H h => ?_) ⟨rfl, Same.laid hD, r0, hini⟩ ?_ ?_
  · rw [h.1, List.length_map]
    exact Nat.le_trans (List.length_filter_le ..) (Nat.le_of_eq List.length_range)
  · rintro i ys σ2 H hi ⟨rfl, hs1, r1, rfl⟩ hH
    refine w_name ?_
    show tc (some (.int (0 + (i : Nat))) :: σr) H _
    rw [Int.zero_add]
    have hr : (List.range (i + 1)).filter f = (List.range i).filter f ++ [i].filter f := by rw [List.range_succ, List.filter_append]
    refine ht i H _ hi hs1 (iteB (fun hf => ?_) fun hf => ?_)
    · refine hs i H _ hi hf hs1 ⟨hH, ?_, hs1.put hD, _, rfl⟩
      rw [hr, List.map_append, List.filter_cons_of_pos hf]; rfl
    · refine ⟨hH, ?_, hs1, _, rfl⟩
      rw [hr, List.map_append, List.filter_cons_of_neg (by rw [hf]; decide)]; simp
  · rintro ys σ2 H ⟨rfl, hs1, _⟩ hH
    exact hd H hs1 hH
theorem rep_tup_inv {H : Hp} {w : V} {ds : List PyData} (h : Rep H w (.tuple ds)) : ∃ p xs, w = .ref p ∧ H p = some (.tup xs) ∧ Reps H xs ds := by
  unfold Rep at h; exact h
theorem reps_cons_inv {H : Hp} {xs : List V} {d : PyData} {ds : List PyData} (h : Reps H xs (d :: ds)) : ∃ x r, xs = x :: r ∧ Rep H x d ∧ Reps H r ds := by
  unfold Reps at h; exact h
theorem reps_nil_inv {H : Hp} {xs : List V} (h : Reps H xs []) : xs = [] := by unfold Reps at h; exact h
section
variable {K : PySem.W.Frag} {σ : St} {H : Hp} {Q : VK}
end
theorem w_seqI {t u : TS} {D : Ends} {σ : St} {H : Hp} (I : St → Hp → Prop) (h : ∀ R : St → Hp → Prop, (∀ σ' H', I σ' H' → R σ' H') → t { D with nx := R } σ H) (k : ∀ σ' H', I σ' H' → u D σ' H') : tSeq t u D σ H := h _ k
theorem w_eqS {K : PySem.W.Frag} {H : Hp} {Q : VK} {x y : Str} (h : Q (.bl (decide (x = y))) H) : rEqU K (.str x) (.str y) H Q := .inl ⟨rfl, by rw [show decide (V.str x = V.str y) = decide (x = y) by simp]; exact h⟩
theorem w_neS {K : PySem.W.Frag} {H : Hp} {Q : VK} {x y : Str} (h : Q (.bl (!decide (x = y))) H) : rNeU K (.str x) (.str y) H Q := .inl ⟨rfl, by rw [show decide (V.str x = V.str y) = decide (x = y) by simp]; exact h⟩
end LB
set_option Elab.async false
set_option linter.all false
namespace L2
end L2
set_option Elab.async false
set_option linter.all false
set_option maxRecDepth 100000
set_option maxHeartbeats 4000000
namespace L2
open PySem PySem.Spec PyProof.Rows
section
variable {X : Cx}
end
def Its (x : Str) : It := { go := fun i _ => i < x.cps.size, yld := fun i H v H' => H' = H ∧ ∃ c, x.cps[i]? = some c ∧ v = .str ⟨#[c]⟩, stop := fun i _ => x.cps.size ≤ i }
theorem turn_str {P : Program} {w : World} {K : PySem.W.Frag} {tg : Expr} (x : Str) (t : Tok) (it : Addr) : Turn P w K tg (Its x) [it] it (fun i h => h.IsStrIter it "str_ascii_iterator" x t i) where
  mem := by simp
  obj := fun i h st b hb => by
    have e : b = it := by simpa using hb
    subst e
    obtain ⟨o, e, c, d⟩ := st
    exact ⟨o, e, fun v z => by rw [d] at z; cases z⟩
  keep := fun i h h' st k => let ⟨o, ho, r⟩ := st; ⟨o, k it (by simp) o ho, r⟩
  item := by
    intro X hP hw hK hc i pins s σ H E I hf st hg
    subst hP hw hK
    have hg' : i < x.cps.size := hg
    obtain ⟨f0, f1, f2, f3, f4, f5⟩ := hf it (by simp)
    refine wpAny_pyNext_ascii_item st (c := x.cps[i]) (by simp [hg']) fun h' st' sb => ?_
    have I1 : Inv X pins σ H { s with heap := h', toks := s.toks + 1 } := I.turned (t' := s.toks + 1) (fun b o hb e => (sb.2 b hb).trans e) f0 f1 f3 f4 f5
    obtain ⟨o, e, c, d⟩ := id st'
    exact ⟨_, rfl, go_of (s := { s with heap := h', toks := s.toks + 1 }) e c d (by decide) ⟨.str ⟨#[x.cps[i]]⟩, H, I1, ⟨_, rfl⟩, ⟨rfl, _, by simp [hg'], rfl⟩, st', fun b hb => (hf b hb).1⟩⟩
  done := by
    intro X hP hw hK hc i pins s σ H E I hf st hg
    subst hP hw hK
    have hg' : x.cps.size ≤ i := hg
    obtain ⟨f0, f1, f2, f3, f4, f5⟩ := hf it (by simp)
    exact wpAny_pyNext_ascii_end (I.ok.hd hc) st (by simp [hg']) fun h' eb => ⟨rfl, I.turned (t' := s.toks) (fun b o hb e => eb b o hb e) f0 f1 f3 f4 f5⟩
  self := fun _ _ _ _ _ st h => wpAny_pyIter_striter_ascii st h
def iStr (te : TE) : TI := fun σ H R => te σ H fun v H1 => ∃ x, v = .str x ∧ x.cps.all (· < 128) = true ∧ R (Its x) H1
theorem pi_str {X : Cx} {tg l : Expr} {tl : TE} (hl : PE X l tl) : PI X tg l (iStr tl) := by
  intro pins s σ H R I h
  refine thn (hl pins s σ H _ I h) fun v s1 ⟨y, H1, I1, r1, q1⟩ => ?_
  obtain ⟨x, rfl, ha, q⟩ := q1
  obtain ⟨t, rfl⟩ := r1
  refine wpAny_pyIter_ascii ha ?_
  refine ⟨s1.heap.objs.size, [s1.heap.objs.size], _, _, H1, rfl, I1.kept (t' := s1.toks) fun b o e => Heap.get?_push_of_some _ e, turn_str x t _, ⟨_, Heap.get?_push_size _ rfl, rfl, rfl⟩, fun b hb => ?_, q⟩
  have e : b = s1.heap.objs.size := by simpa using hb
  subst e
  exact I1.fpOk (Nat.le_refl _) (I1.hok.fresh (Nat.le_refl _))
theorem its_of (x : Str) (H : Hp) (i : Nat) : (∀ v, (x.cps.toList.map fun c => V.str ⟨#[c]⟩)[i]? = some v → (Its x).go i H ∧ ∀ y H', (Its x).yld i H y H' → H' = H ∧ y = v) ∧ ((x.cps.toList.map fun c => V.str ⟨#[c]⟩).length ≤ i → (Its x).stop i H) := by
  refine ⟨fun v hv => ?_, fun h => by rw [List.length_map, Array.length_toList] at h; exact h⟩
  rw [List.getElem?_map, Array.getElem?_toList] at hv
  obtain ⟨c, hc, rfl⟩ := Option.map_eq_some_iff.mp hv
  refine ⟨(Array.getElem?_eq_some_iff.mp hc).1, fun y H' h => ⟨h.1, ?_⟩⟩
  obtain ⟨d, hd, e⟩ := h.2
  rw [hc] at hd
  cases hd
  exact e
theorem w_istr {te : TE} {σ : St} {H : Hp} {R : It → Hp → Prop} (h : te σ H fun v H1 => ∃ x, v = .str x ∧ x.cps.all (· < 128) = true ∧ R (Its x) H1) : iStr te σ H R := h
section
variable {X : Cx}
def rAddS : R2 := fun x y H Q => ∃ i j, x = .str i ∧ y = .str j ∧ i.length + j.length ≤ sizeLine ∧ Q (.str (i ++ j)) H
theorem op_addS : OpR X (binaryOp .Add) rAddS := op_add_str
def rInS : R2 := fun x y H Q => ∃ i j, x = .str i ∧ y = .str j ∧ Q (.bl (!(Builtin.Str.occurrences j i 0 j.length 1).isEmpty)) H
theorem op_inS : OpR X (compareOp .In) rInS := op_in_str
end
end L2
set_option Elab.async false
set_option linter.all false
set_option maxRecDepth 100000
set_option maxHeartbeats 4000000
namespace L2
open PySem PySem.Spec PyProof.Rows
section
variable {X : Cx}
end
end L2
set_option Elab.async false
set_option linter.all false
set_option maxRecDepth 100000
set_option maxHeartbeats 4000000
namespace L2
open PySem PySem.Spec PyProof.Rows
section
variable {X : Cx} {tg : Expr} {pins : List (Addr × Obj)} {σ : St} {H : Hp} {s : Shared} {d : Addr} {o : Obj} {kvs : List (Key × V)}
theorem Inv.freeze (I : Inv X pins σ H s) (e : H d = some (.dK kvs)) : ∃ o, Inv X pins σ (upd H d (.frz o (.dK kvs))) s := by
  obtain ⟨z, y, vs, r, ob, es, ep, g, c⟩ := id (show ObjOk X.prog X.w H s.heap d (.dK kvs) from I.hok d _ e)
  exact ⟨ob, I.write (h' := s.heap) (t' := s.toks) (x := d) (e := d) (by rw [e]; trivial) (.inl rfl) (fun _ _ _ q => q) ⟨ob, g⟩ ⟨g, z, y, vs, r, ob, es, ep, g, c⟩⟩
theorem Inv.thaw (I : Inv X pins σ H s) (e : H d = some (.frz o (.dK kvs))) (nf : ∀ ob u, X.H₀ d ≠ some (.frz ob u)) : Inv X pins σ (upd H d (.dK kvs)) s := by
  have no : ∀ b u, H b = u → u ≠ some (.frz o (.dK kvs)) → upd H d (.dK kvs) b = u := fun b u q n => by
    rw [upd_ne (fun z => by rw [z, e] at q; exact n q.symm)]; exact q
  refine ⟨I.ok, I.os, I.bare, ⟨I.base.keep, I.base.slot, fun b ob q n hx => no b _ (I.base.free b ob q n hx) (by simp), I.base.there, fun b xs q => no b _ (I.base.tups b xs q) (by simp), fun b ob u q => ?_, fun b ps q => ?_⟩, I.loc, I.cell, no _ _ I.free (by simp), fun x c q => no c _ (I.freeC x c q) (by simp), fun p hp => ?_, fun b u q => ?_, I.len⟩
  · have z := I.base.frzs b ob u q
    rw [upd_ne (fun w => nf ob u (by rw [← w]; exact q))]; exact z
  · obtain ⟨m, z⟩ := I.base.tbls b ps q
    exact ⟨m, no b _ z (by simp)⟩
  · obtain ⟨a1, a2, a3⟩ := I.pin p hp
    exact ⟨a1, no _ _ a2 (by simp), a3⟩
  · by_cases hb : b = d
    · subst hb
      rw [upd_same] at q
      cases q
      obtain ⟨_, z⟩ := (show ObjOk X.prog X.w H s.heap b (.frz o (.dK kvs)) from I.hok b _ e)
      exact z
    · rw [upd_ne hb] at q
      exact (I.hok b u q).stay (fun c v _ r => r) (fun c r => no c _ r (by simp)) fun c xs r => no c _ r (by simp)
theorem dict_at (I : Inv X pins σ H s) (e : H d = some (.frz o (.dK kvs))) {es ep} (ho : o.data = .dict es ep) : ∃ vs, KV kvs vs ∧ s.heap.DictAt (mixKind X.prog X.w) d vs ep := by
  obtain ⟨g, z, y, vs, r, ob, es', ep', g', c1, c2, c3⟩ := (show ObjOk X.prog X.w H s.heap d (.frz o (.dK kvs)) from I.hok d _ e)
  rw [g] at g'
  cases g'
  rw [ho] at c2
  cases c2
  exact ⟨vs, r, o, es, g, c1, ho, c3⟩
def Ends.held (D : Ends) (d : Addr) (o : Obj) (kvs : List (Key × V)) : Ends where
  nx := fun σ H => H d = some (.frz o (.dK kvs)) ∧ D.nx σ (upd H d (.dK kvs))
  rt := fun v H => H d = some (.frz o (.dK kvs)) ∧ D.rt v (upd H d (.dK kvs))
  bk := fun σ H => H d = some (.frz o (.dK kvs)) ∧ D.bk σ (upd H d (.dK kvs))
  ct := fun σ H => H d = some (.frz o (.dK kvs)) ∧ D.ct σ (upd H d (.dK kvs))
theorem DGet.f {k : Key} (e : H d = some (.frz o (.dK kvs))) : DGet H d (kV k) (valV kvs k) := .inl ⟨kvs, k, .inr ⟨o, e⟩, rfl, rfl⟩
def rLenD : List V → Hp → VK → Prop := fun xs H Q => ∃ (a : Addr) (kvs : List (Key × V)), xs = [.ref a] ∧ H a = some (.dK kvs) ∧ Q (.int (kvs.length : Nat)) H
theorem call_lenD : CallR X (.builtin "len") rLenD := by
  intro pins s σ H xs us Q I r h
  obtain ⟨a, kvs, rfl, ha, q⟩ := h
  obtain ⟨u, rfl, ru⟩ := vals1 r
  cases ru
  exact d_len I (.inl ha) fun t s' I' => ⟨.int (kvs.length : Nat), H, I', ⟨t, rfl⟩, q⟩
theorem w_lenD {a : Addr} {Q : VK} (h : H a = some (.dK kvs)) (q : Q (.int (kvs.length : Nat)) H) : rLenD [.ref a] H Q := ⟨a, kvs, rfl, h, q⟩
end
end L2
set_option Elab.async false
set_option linter.all false
set_option maxRecDepth 100000
set_option maxHeartbeats 4000000
namespace L2
open PySem PySem.Spec PyProof.Rows
theorem entry_unchain : entryFor table "proto.unchain" = some Builtin.«proto.unchain» := entryFor_of_fast (by kernel_rfl)
theorem plain_unchain : plainId "proto.unchain" = true := by decide +kernel
def HdOk (A : Around) (h : Heap) : Prop := A.handled = none ∨ ∃ e, A.handled = some (.ref e) ∧ CtxN e h
section
variable {prog : Program} {w : World} {A : Around} {E : Value → Shared → Prop} {s : Shared}
theorem raise_new {α : Type} {a : Addr} {o : Obj} {vs : Array Value} {Q : α → Shared → Prop} (hd : HdOk A s.heap) (q1 : s.heap.get? a = some o) (q2 : o.data = .fields vs) (q3 : 2 < vs.size) (ne : ∀ e, A.handled = some (.ref e) → e ≠ a)
    (k : ∀ h', Heap.SameBut a s.heap h' → (∃ o', h'.get? a = some o' ∧ o'.cls = o.cls) → E (.ref a) { s with heap := h' }) : wpAny (model prog w) A (raiseNew (.ref a) : Sem α) Q E s := by
  simp only [raiseNew]
  rcases hd with hd | ⟨e, hd, oe, ws, r1, r2, r3⟩
  · refine wpAny_bind (wpAny_handled ?_)
    rw [hd]
    exact wpAny_bind (wpAny_pure (wpAny_throw (k _ (Heap.SameBut.refl _ _) ⟨o, q1, rfl⟩)))
  · refine wpAny_bind (wpAny_handled ?_)
    rw [hd]
    have nea : e ≠ a := ne e hd
    have hne : (Value.ref e != Value.ref a) = true := by simp [nea]
    dsimp only
    rw [if_pos hne]
    refine wpAny_bind (wpAny_holding (wpAny_runValue (codeAny_builtin entry_unchain ?_)))
    rw [Around.under_plainId plain_unchain _]
    unfold Builtin.«proto.unchain»
    refine wpAny_bind (wpAny_field r1 r2 r3 ?_)
    rw [if_pos (by simp)]
    refine wpAny_pure (wpAny_bind ?_)
    refine wpAny_setField (x := Value.ref e) q1 q2 q3 (wpAny_throw (k _ (Heap.SameBut.update ..) ⟨_, Heap.get?_update_self _ q1 (Obj.isFreed_of_fields (Obj.data_mapFields q2 _)), Obj.cls_mapFields _ _⟩))
theorem next_dict_end {K : Type} [DecidableEq K] {knd : KeyKind prog w K} {it d : Addr} {i ep : Nat} {kvs : List (K × Value)} {Q : Option Value → Shared → Prop} (hh : HdOk A s.heap) (hit : s.heap.IsKeyIter it d i kvs.length ep)
    (hm : s.heap.DictAt knd d kvs ep) (hx : kvs[i]? = none) (nit : ∀ e, A.handled = some (.ref e) → e ≠ it)
    (k : ∀ h', Heap.ExtBut it s.heap h' → Q none { s with heap := h' }) : wpAny (model prog w) A (pyNext (.ref it)) Q E s := by
  obtain ⟨o, ho, hc, hd⟩ := id hit
  obtain ⟨od, es, hod, hcd, hdd, hk, hp, hn⟩ := id hm
  unfold pyNext
  refine wpAny_bind (wpAny_attempt (wpAny_callSpecial?_slot (name := Str.ofString "__next__") hit.typeIs F.slot_dict_keyiterator_next (wpAny_call_entry F.slot_dict_keyiterator_next hit.typeIs F.entry_dict_keyiterator_next ?_ (F.args_dict_keyiterator_next_1 _))))
  refine wpAny_bind (wpAny_pure (wpAny_bind (wpAny_bind ?_)))
  first | refine wpAny_bind (wpAny_typeNameOfWhole_keyiter hit.typeIs (wpAny_pure ?_)) | refine wpAny_bind (wpAny_typeNameOf_keyiter hit.typeIs (wpAny_pure ?_))
  refine wpAny_bind (wpAny_fieldsOf ho hd ?_)
  have ot : Builtin.Dict_items.ownsTuple "dict_keyiterator" = false := by decide
  simp only [ot, Bool.false_eq_true, if_false]
  show wpAny _ _ (if (Value.ref d == Value.none) = true then _ else _) _ _ s
  rw [if_neg (show ¬ ((Value.ref d == Value.none) = true) by simp)]
  refine wpAny_bind (wpAny_pure (wpAny_bind (wpAny_dictEntries hod hdd ?_)))
  have sz : es.size = kvs.length := by rw [← hp.length]; simp
  rw [if_neg (by rw [sz]; simp)]
  refine wpAny_bind (wpAny_pure (wpAny_bind (wpAny_dictEpoch hod hdd ?_)))
  rw [if_neg (by simp)]
  refine wpAny_pure ?_
  have ge : es.size ≤ i := by rw [sz]; simpa using hx
  simp only [show ¬ ((i : Int) < 0) by omega, if_false, Int.toNat_natCast, Array.getElem?_eq_none ge]
  refine wpAny_bind ?_
  first | refine wpAny_bind (wpAny_typeNameOfWhole_keyiter hit.typeIs (wpAny_pure ?_)) | refine wpAny_bind (wpAny_typeNameOf_keyiter hit.typeIs (wpAny_pure ?_))
  show wpAny _ _ (setField (.ref it) 0 .none >>= _) _ _ s
  refine wpAny_bind (wpAny_setField ho hd (by simp) ?_)
  show wpAny _ _ (newExc (.type "StopIteration") [] >>= _) _ _ _
  refine wpAny_bind ?_
  simp only [newExc, newTuple]
  refine wpAny_bind (wpAny_newObj_type ?_ (by size_fits))
  refine wpAny_bind (m := firstArgMember _ _) (wpAny_of_eq (a := Value.none) (by first | rfl | (simp only [firstArgMember]; rfl)) ?_)
  refine wpAny_newObj_type ?_ (by size_fits)
  dsimp only
  have sb : Heap.SameBut it s.heap (s.heap.update it (Obj.mapFields fun x => x.setIfInBounds 0 Value.none)) := Heap.SameBut.update ..
  generalize (s.heap.update it (Obj.mapFields fun x => x.setIfInBounds 0 Value.none)) = g1 at sb ⊢
  have kp : ∀ b o, b ≠ it → s.heap.get? b = some o → ((g1.push { cls := Value.type "tuple", data := Data.seq #[] }).push { cls := .type "StopIteration", dict := none, data := .fields #[.ref g1.objs.size, .none, .none, .none, .bool false, .none] }).get? b = some o := fun b o nb r =>
    Heap.get?_push_of_some _ (Heap.get?_push_of_some _ ((sb.2 b nb).trans r))
  refine raise_new (o := { cls := .type "StopIteration", dict := none, data := .fields #[.ref g1.objs.size, .none, .none, .none, .bool false, .none] }) ?_ (Heap.get?_push_size _ rfl) rfl (by show 2 < 6; decide) (fun e q => ?_) fun h' sb' ho' => ?_
  · rcases hh with z | ⟨e, z, oe, ws, r1, r2, r3⟩
    · exact .inl z
    · exact .inr ⟨e, z, oe, ws, kp e oe (nit e z) r1, r2, r3⟩
  · rcases hh with z | ⟨e', z, oe, ws, r1, r2, r3⟩
    · have q' : A.handled = some (.ref e) := q
      rw [z] at q'; cases q'
    · have q' : A.handled = some (.ref e) := q
      rw [z] at q'
      cases q'
      have l := Heap.lt_size (Heap.get?_push_of_some { cls := Value.type "tuple", data := Data.seq #[] } ((sb.2 _ (nit _ z)).trans r1))
      exact Nat.ne_of_lt l
  · obtain ⟨o', r', c'⟩ := ho'
    refine wpAny_bind (wpAny_isInstance (T := "StopIteration") (b := true) ⟨_, r', c'⟩ isSubtype_stop ?_)
    refine wpAny_pure (k _ fun b o nb r => ?_)
    have l := Heap.lt_size (Heap.get?_push_of_some { cls := Value.type "tuple", data := Data.seq #[] } ((sb.2 b nb).trans r))
    exact (sb'.2 b (Nat.ne_of_lt l)).trans (kp b o nb r)
end
def ExPc (e C : Addr) : Heap → Prop := fun h => ∃ o, h.get? e = some o ∧ o.cls = .ref C ∧ ∃ vs, o.data = .fields vs ∧ vs[2]? = some Value.none
theorem ExPc.ctx {e C : Addr} {h : Heap} (x : ExPc e C h) : CtxN e h := let ⟨o, a, _, vs, b, c⟩ := x; ⟨o, vs, a, b, c⟩
theorem ExPc.exp {e C : Addr} {h : Heap} (x : ExPc e C h) : ExP e C h := let ⟨o, a, b, _⟩ := x; ⟨o, a, b⟩
theorem str_key {P : Program} {w : World} {x : Str} {u : Value} (hi : (mixKind P w).is (Sum.inr x) u = true) : ∃ t, u = .str x t := by
  rw [mixKind_is] at hi
  exact Value.isStrOf_shape hi
def tForH (e : Addr) (j : Nat) (g : TG) (tb : TS) : TS := fun D σ H => ∃ (d : Addr) (kvs : List (Key × V)) (ks : List Str), σ[j]? = some (some (.ref d)) ∧ H d = some (.dK kvs) ∧ kvs.map (·.1) = ks.map Sum.inr ∧ ∀ o, ∃ W : Nat → Nat → St → Hp → Prop,
  (∃ m, W 0 m σ (upd H d (.frz o (.dK kvs)))) ∧ ∀ i m σ' H', W i m σ' H' → H' d = some (.frz o (.dK kvs)) ∧ (∃ C, H' e = some (.ext (ExPc e C))) ∧ ((ks.length ≤ i ∧ (D.held d o kvs).nx σ' H') ∨
    (∃ x, ks[i]? = some x ∧ ∃ N : St → Hp → Prop, (∀ σ2 H2, N σ2 H2 → ∃ m', m' < m ∧ W (i + 1) m' σ2 H2) ∧ g (.str x) σ' H' fun σ2 H2 => tb { D.held d o kvs with nx := N, ct := N, bk := (D.held d o kvs).nx } σ2 H2))
theorem ps_forH {X : Cx} {tg l : Expr} {body : List Stmt} {g : TG} {tb : TS} {pos : Pos} {e : Addr} {j : Nat} (hp : PassesOwn (model X.prog X.w) X.A X.env X.xe) (hh : X.A.handled = some (.ref e)) (hl : PE X l (tVar j)) (hg : PG X tg g) (hb : PSs X body tb)
    (hs : ∀ x, foldedSetIterable l X.env x = pure x := by intro _; rfl) : PS X (.For tg l body [] pos) (tForH e j g tb) := by
  intro pins s σ H D I ⟨d, kvs, ks, hσ, hd, hk, w⟩
  obtain ⟨o, I1⟩ := I.freeze hd
  have nf : ∀ ob u, X.H₀ d ≠ some (.frz ob u) := fun ob u z => by
    have := I.base.frzs d ob u z
    rw [hd] at this; cases this
  obtain ⟨W, ⟨m0, w0⟩, turn⟩ := w o
  have main : wpAny (model X.prog X.w) X.A (exec (.For tg l body [] pos) X.env) (SP X pins (D.held d o kvs)) X.xe s := by
    refine wpAny_For (thn (hl pins s σ _ (fun v H' => v = .ref d ∧ H' = upd H d (.frz o (.dK kvs))) I1 ⟨_, hσ, rfl, rfl⟩) fun v s1 ⟨y, H1, I2, r1, ey, eH⟩ => ?_) hs
    subst ey
    subst eH
    cases r1
    obtain ⟨g0, z, sy, vs, r, ob, es, ep, g', c1, c2, c3⟩ := id (show ObjOk X.prog X.w _ s1.heap d (.frz o (.dK kvs)) from I2.hok d _ upd_same)
    have eo : ob = o := by rw [g0] at g'; cases g'; rfl
    subst eo
    have hm : s1.heap.DictAt (mixKind X.prog X.w) d vs ep := ⟨ob, es, g0, c1, c2, c3⟩
    have lv : vs.length = ks.length := by rw [← r.length]; have := congrArg List.length hk; simpa using this
    refine wpAny_pyIter_dict sy hm ?_
    have nit : upd H d (.frz ob (.dK kvs)) s1.heap.objs.size = none := I2.hok.fresh (Nat.le_refl _)
    have fit : ∀ {H' : Hp}, H' s1.heap.objs.size = none → FpOk X pins H' s1.heap.objs.size := fun q => ⟨q, (I2.fpOk (Nat.le_refl _) nit).2⟩
    refine codeAny_forLoop_any (fun n s' => ∃ i σ' H', Inv X pins σ' H' s' ∧ s'.heap.IsKeyIter s1.heap.objs.size d i ks.length ep ∧ H' s1.heap.objs.size = none ∧ W i n σ' H') ?_ m0
      ⟨0, σ, _, I2.kept (t' := s1.toks) fun b o q => Heap.get?_push_of_some _ q, ⟨_, Heap.get?_push_size _ rfl, rfl, by rw [lv]; rfl⟩, nit, w0⟩
    rintro n s3 ⟨i, σ3, H3, I3, st3, fr3, w3⟩
    obtain ⟨hd3, ⟨C, he3⟩, tt⟩ := turn i n σ3 H3 w3
    have ob3 := (show ObjOk X.prog X.w H3 s3.heap e (.ext (ExPc e C)) from I3.hok e _ he3).1
    obtain ⟨vs3, r3, hm3⟩ := dict_at I3 hd3 c2
    have lv3 : vs3.length = ks.length := by rw [← r3.length]; have := congrArg List.length hk; simpa using this
    obtain ⟨f0, f1, f2, f3, f4, f5⟩ := fit fr3
    rcases tt with ⟨hge, qn⟩ | ⟨x, hx, N, hN, step⟩
    · refine wpAny_passesOwn hp (next_dict_end (knd := mixKind X.prog X.w) (.inr ⟨e, hh, ob3.ctx⟩) (by rw [lv3]; exact st3) hm3 (List.getElem?_eq_none (by omega)) (fun e' q z => ?_) fun h' eb => ?_)
      · rw [hh] at q
        cases q
        rw [z, fr3] at he3; cases he3
      · exact wpAny_execs_nil ⟨σ3, H3, I3.turned (t' := s3.toks) (fun b o hb q => eb b o hb q) f0 f1 f3 f4 f5, qn⟩
    · have kx : (vs3.map (·.1))[i]? = some (Sum.inr x) := by rw [← r3.keys, hk, List.getElem?_map, hx]; rfl
      rw [List.getElem?_map] at kx
      obtain ⟨⟨kk, xx⟩, ex, ek⟩ := Option.map_eq_some_iff.mp kx
      have ek' : kk = Sum.inr x := ek
      subst ek'
      refine wpAny_passesOwn hp (wpAny_pyNext_dict_item (knd := mixKind X.prog X.w) (by rw [lv3]; exact st3) hm3 ex fun key h' hkey st' sb => ?_)
      rw [lv3] at st'
      obtain ⟨t, rfl⟩ := str_key hkey
      have I4 : Inv X pins σ3 H3 { s3 with heap := h' } := I3.turned (t' := s3.toks) (fun b o hb q => (sb.2 b hb).trans q) f0 f1 f3 f4 f5
      obtain ⟨o', e', cc', d'⟩ := id st'
      refine wpAny_passesOwn hp (go_of (s := { s3 with heap := h' }) e' cc' d' (by decide) ?_)
      have one : ∀ b ∈ [s1.heap.objs.size], b = s1.heap.objs.size := fun b q => by simpa using q
      have I5 := I4.pinned (fp := [s1.heap.objs.size]) (fun b q => by rw [one b q]; exact fit fr3) (fun b q => by rw [one b q]; exact ⟨o', e', fun v q => by rw [d'] at q; cases q⟩)
      refine wpAny_passesOwn hp (thn (hg _ _ σ3 H3 (.str x) _ _ I5 ⟨t, rfl⟩ step) fun _ s6 ⟨σ6, H6, I6, q6⟩ => ?_)
      refine wpAny_passesOwn hp (thn (hb _ s6 σ6 H6 _ I6 q6) fun f s7 q7 => ?_)
      have again : ∀ {σ7 : St} {H7 : Hp}, Inv X (pins ++ pinsAt [s1.heap.objs.size] h') σ7 H7 s7 → N σ7 H7 → ∃ m, m < n ∧ ∃ i σ' H', Inv X pins σ' H' s7 ∧ s7.heap.IsKeyIter s1.heap.objs.size d i ks.length ep ∧ H' s1.heap.objs.size = none ∧ W i m σ' H' := fun {σ7 H7} I7 n7 => by
        obtain ⟨m', hm', w7⟩ := hN σ7 H7 n7
        have pn := I7.pin (s1.heap.objs.size, o') (List.mem_append_right _ (List.mem_append_right _ (mem_pinsAt (by simp) e')))
        exact ⟨m', hm', i + 1, σ7, H7, I7.unpinned, ⟨o', pn.1, cc', d'⟩, pn.2.1, w7⟩
      cases f with
      | next => obtain ⟨σ7, H7, I7, n7⟩ := q7; exact again I7 n7
      | cont => obtain ⟨σ7, H7, I7, n7⟩ := q7; exact again I7 n7
      | brk => obtain ⟨σ7, H7, I7, q7⟩ := q7; exact ⟨σ7, H7, I7.unpinned, q7⟩
      | ret v => obtain ⟨x7, σ7, H7, I7, r7, q7⟩ := q7; exact ⟨x7, σ7, H7, I7.unpinned, r7, q7⟩
  refine thn main fun f s' q => ?_
  cases f with
  | next => obtain ⟨σ', H', I', e, q⟩ := q; exact ⟨σ', _, I'.thaw e nf, q⟩
  | brk => obtain ⟨σ', H', I', e, q⟩ := q; exact ⟨σ', _, I'.thaw e nf, q⟩
  | cont => obtain ⟨σ', H', I', e, q⟩ := q; exact ⟨σ', _, I'.thaw e nf, q⟩
  | ret u => obtain ⟨v, σ', H', I', r, e, q⟩ := q; exact ⟨v, σ', _, I'.thaw e nf, r, q⟩
theorem w_forH {e : Addr} {j : Nat} {g : TG} {tb : TS} {D : Ends} {σ : St} {H : Hp} {d : Addr} {kvs : List (Key × V)} {ks : List Str} (hσ : σ[j]? = some (some (.ref d))) (hd : H d = some (.dK kvs)) (hk : kvs.map (·.1) = ks.map Sum.inr) (Pv : Obj → Nat → St → Hp → Prop)
    (h0 : ∀ o, Pv o 0 σ (upd H d (.frz o (.dK kvs)))) (hl : ∀ o i σ H, Pv o i σ H → H d = some (.frz o (.dK kvs)) ∧ ∃ C, H e = some (.ext (ExPc e C)))
    (hs : ∀ o i x σ H, ks[i]? = some x → Pv o i σ H → g (.str x) σ H fun σ2 H2 => tb { D.held d o kvs with nx := Pv o (i + 1), ct := Pv o (i + 1), bk := (D.held d o kvs).nx } σ2 H2)
    (he : ∀ o σ H, Pv o ks.length σ H → D.nx σ (upd H d (.dK kvs))) : tForH e j g tb D σ H := by
  refine ⟨d, kvs, ks, hσ, hd, hk, fun o => ⟨fun i m σ H => m = ks.length - i ∧ i ≤ ks.length ∧ Pv o i σ H, ⟨ks.length, by simp, Nat.zero_le _, h0 o⟩, ?_⟩⟩
  rintro i m σ H ⟨rfl, hi, p⟩
  obtain ⟨q1, q2⟩ := hl o i σ H p
  refine ⟨q1, q2, ?_⟩
  by_cases hlt : i < ks.length
  · exact .inr ⟨ks[i], List.getElem?_eq_getElem hlt, Pv o (i + 1), fun σ' H' p' => ⟨ks.length - (i + 1), by omega, rfl, hlt, p'⟩, hs o i _ σ H (List.getElem?_eq_getElem hlt) p⟩
  · have z : i = ks.length := by omega
    subst z
    exact .inl ⟨Nat.le_refl _, q1, he o σ H p⟩
theorem Flown.caughtC {X : Cx} {pins : List (Addr × Obj)} {σ : St} {H1 H2 : Hp} {s1 s' : Shared} {e C : Addr} {B : Heap} {a0 : Value} (I1 : Inv X pins σ H1 s1) (F : Flown X.prog X.w X.base X.stack H1 s1 s' e (.ref C) H2 B a0) (hL : X.env.locals ∈ frs X.stack) {h5 : Heap}
    (fl : Heap.FlyingW B X.stack e (.ref C) a0 h5) (cn : CtxN e h5) (up : s'.heap.UpToSlots h5) : Inv X pins σ (upd H2 e (.ext (ExPc e C))) { s' with heap := h5 } := by
  have c := F.caught I1 hL fl up
  have ob := (show ObjOk X.prog X.w _ h5 e (.ext (ExP e C)) from c.trk.hok e _ upd_same)
  obtain ⟨o, a, b⟩ := ob.1
  obtain ⟨o', vs, q1, q2, q3⟩ := cn
  rw [a] at q1
  cases q1
  have I2 := c.trk.write (h' := h5) (t' := s'.toks) (x := e) (e := e) (o := .ext (ExPc e C)) (by rw [upd_same]; trivial) (.inl rfl) (fun _ _ _ q => q) ⟨o, a⟩
    ⟨⟨o, a, b, vs, q2, q3⟩, ⟨o, a⟩, fun g1 g2 ⟨o, a, b⟩ k => ⟨o, k o a, b⟩⟩
  rw [upd_upd] at I2
  exact I2
def tTryB (K : PySem.W.Frag) (D : Addr) (i : Nat) (sp : Sp) (t : TA) (ts : Addr → TS) : TS := fun Dn σ H => t σ H fun vs H1 => sp vs H1 (fun _ H2 => Dn.nx σ H2)
  (fun cls _ H2 => ∃ C, cls = .ref C ∧ PySem.W.excIn K C bmV "ValueError.__new__" = true ∧ PySem.W.mroIn K C (.ref D) = some true ∧ ∀ e, H2 e = none →
    ts e { nx := fun σ' H' => Dn.nx (σ'.set i none) H', rt := Dn.rt, bk := fun σ' H' => Dn.bk (σ'.set i none) H', ct := fun σ' H' => Dn.ct (σ'.set i none) H' } (σ.set i (some (.ref e))) (upd H2 e (.ext (ExPc e C))))
section
variable {X : Cx} {k : Nat} {g x n : Str} {ps : List Str} {sp : Sp} {p np cpos epos hpos pos : Pos} {e : Expr} {es : List Expr} {t : TA} {ts : Addr → TS} {D : Addr} {b₀ : Stmt} {suite : List Stmt} {i : Nat}
theorem ps_tryB (hN : X.N.Nodup) (hi : X.N[i]? = some n) (hk : X.env.scope.names.lookup n = some .local) (hst : X.stack = X.env :: X.outer) (hfr : X.env.frame = some X.env.locals)
    (G : Fn X.prog X.w X.K X.mg X.base (CXr X.prog X.w X.base) g k ps sp) (hr : Room k X.A) (hg : Gl X g) (ha : ∀ E', PA (X.wish E') (e :: es) t)
    (T : ExC X.K X.mg x D) (hgx : Gl X x) (hs : ∀ e', PSs (X.suite e') (b₀ :: suite) (ts e'))
    (hdb : (g == ("__debug__" : Str)) = false := by decide) (hdx : (x == ("__debug__" : Str)) = false := by decide) (he : starEach (e :: es) X.env = (false, eval e X.env) :: starEach es X.env := by rfl) (hpl : (backTo cpos (starEach es X.env)).any (·.1) = false := by rfl)
    (hsw : swapsWith (.Call (.Name g p) (e :: es) [] cpos) none epos.line X.env = pure false := by rfl) :
    PS X (.Try [.Expr (.Call (.Name g p) (e :: es) [] cpos) epos] [.ExceptHandler (some (.Name x np)) (some n) (b₀ :: suite) hpos] [] [] pos) (tTryB X.K D i sp t ts) := by
  intro pins s σ H Dn I h
  have hL : X.env.locals ∈ frs X.stack := by
    rw [hst]
    show _ ∈ (X.env :: X.outer).filterMap (·.frame)
    rw [List.filterMap_cons, hfr]
    exact List.mem_cons_self
  refine wpAny_Try_except (wpAny_execs_cons (wpAny_Expr_any (thn (call_try G hr hg ha I h (fun s1 s' H1 e' cls H2 B a0 I1 F hcl => ?_) hdb he hpl) fun v s2 ⟨_, H2, I2, _, q⟩ => wpAny_execs_nil (wpAny_execs_nil ⟨σ, H2, I2, q⟩)) I.quiet hsw))
  obtain ⟨C, rfl, qC, hsub, hts⟩ := hcl
  have frm : X.A.frames = some (X.env :: X.outer) := by rw [← hst]; exact I.ok.frames
  have fly := F.fly
  rw [hst] at fly
  obtain ⟨y1, y2, y3, y4⟩ := fly
  refine noteC frm hfr y1 y2 y3 y4.at F.ctx fun h4 held cn4 up4 => ?_
  obtain ⟨w1, w2, w3, w4⟩ := held
  refine landsC (s := { s' with heap := h4 }) w1 w2 w3 w4 cn4 fun h5 fl5 cn5 up5 => ?_
  have c5 := F.caught I1 hL (by rw [hst]; exact fl5) (up4.trans up5)
  obtain ⟨oe, hoe, hcl⟩ := c5.there
  refine wpAny_handleBy_cons (codeAny_handlers_test (ld_glob (c5.inv.suite e') hgx T.bound (matches_own c5.inv.kIn qC T.q hoe hcl hsub ?_) hdx)) (by intro q; cases q)
  obtain ⟨v1, v2, v3, v4⟩ := fl5
  refine codeAny_handlers_suite_as (landsC (s := { s' with heap := h5 }) v1 v2 v3 v4.at cn5 fun h6 fl6 cn6 up6 => ?_)
  have I6 := F.caughtC I1 hL (by rw [hst]; exact fl6) cn6 ((up4.trans up5).trans up6)
  refine store_ok (X := X.suite e') (v := .ref e') (I6.suite e') hN hi (.inl hk) rfl (fun s7 I7 => ?_) (.inr hk)
  refine wpAny_mono (hs e' pins s7 _ _ _ I7 (hts e' c5.noe)) (fun f s8 q => ?_) fun _ _ z => z.elim
  have q' := q.unsuite I.ok
  cases f with
  | next => obtain ⟨σ', H', I', q⟩ := q'; exact gone_ok I' hN hi hk fun s9 I9 => ⟨_, H', I9, q⟩
  | brk => obtain ⟨σ', H', I', q⟩ := q'; exact gone_ok I' hN hi hk fun s9 I9 => ⟨_, H', I9, q⟩
  | cont => obtain ⟨σ', H', I', q⟩ := q'; exact gone_ok I' hN hi hk fun s9 I9 => ⟨_, H', I9, q⟩
  | ret u => obtain ⟨v, σ', H', I', r, q⟩ := q'; exact gone_ok I' hN hi hk fun s9 I9 => ⟨v, _, H', I9, r, q⟩
end
end L2
set_option Elab.async false
set_option linter.all false
set_option maxRecDepth 100000
set_option maxHeartbeats 4000000
namespace L2
open PySem PySem.Spec PySem.W PyProof.Rows
theorem key_rel {P : Program} {w : World} {k : Key} {u : Value} (h : (mixKind P w).is k u = true) : RelV (kV k) u := by
  rw [mixKind_is] at h
  rcases keyIs_shape h with ⟨i, t, rfl, rfl⟩ | ⟨x, t, rfl, rfl⟩
  · exact ⟨t, rfl⟩
  · exact ⟨t, rfl⟩
theorem keys_vals {P : Program} {w : World} : ∀ {ks : List Key} {us : List Value}, us.length = ks.length → (∀ (j : Nat) (u : Value), us[j]? = some u → ∃ k, ks[j]? = some k ∧ (mixKind P w).is k u = true) → Vals (ks.map kV) us
  | [], [], _, _ => .nil
  | [], _ :: _, h, _ => by simp at h
  | _ :: _, [], h, _ => by simp at h
  | k :: ks, u :: us, h, f => by
    obtain ⟨k', e, z⟩ := f 0 u rfl
    have e' : k = k' := by simpa using e
    subst e'
    exact .cons (key_rel z) (keys_vals (by simpa using h) fun j v q => by simpa using f (j + 1) v (by simpa using q))
section
variable {X : Cx}
def rListD : List V → Hp → VK → Prop := fun xs H Q => ∃ (a : Addr) (kvs : List (Key × V)), xs = [.ref a] ∧ Rd H a (.dK kvs) ∧ ∀ p, H p = none → Q (.ref p) (upd H p (.lst (kvs.map fun kv => kV kv.1)))
theorem call_listD (hc : X.calm = true) : CallR X (.type "list") rListD := by
  intro pins s σ H xs us Q I r h
  obtain ⟨a, kvs, rfl, ha, q⟩ := h
  obtain ⟨u, rfl, rx⟩ := vals1 r
  cases rx
  obtain ⟨hz, hsys, vs, kv, hd⟩ := dk_rd I.hok ha
  obtain ⟨ep, hat⟩ := hd.dictAt
  refine kdl_call (kdl_dict (knd := mixKind X.prog X.w) (kvs := vs) (ep := ep) hsys) (I.ok.hd hc) hat (by rw [← kv.length]; exact hz) fun h' tk acc c hk hD hacc => ?_
  have hn : H s.heap.objs.size = none := I.hok.fresh (Nat.le_refl _)
  refine ⟨.ref s.heap.objs.size, _, I.laid (o := .lst (kvs.map fun kv => kV kv.1)) (t' := tk) hk (Nat.le_refl _) ⟨by rw [List.length_map]; exact hz, acc.toList, c, ?_, by rw [Array.toArray_toList]; exact hD⟩, rfl, q _ hn⟩
  have e : (kvs.map fun kv => kV kv.1) = (vs.map (·.1)).map kV := by rw [← kv.keys, List.map_map]; rfl
  rw [e]
  refine keys_vals (P := X.prog) (w := X.w) (by rw [Array.length_toList, List.length_map]; exact hacc.1) fun j u hu => ?_
  obtain ⟨k, x, e1, e2⟩ := hacc.2 j u (by rw [← Array.getElem?_toList]; exact hu)
  exact ⟨k, by rw [List.getElem?_map, e1]; rfl, e2⟩
theorem w_listD {H : Hp} {Q : VK} {a : Addr} {kvs : List (Key × V)} (h : H a = some (.dK kvs)) (q : ∀ p, H p = none → Q (.ref p) (upd H p (.lst (kvs.map fun kv => kV kv.1)))) : rListD [.ref a] H Q := ⟨a, kvs, rfl, .inl h, q⟩
def VwP (v d : Addr) : Heap → Prop := fun h => h.IsValuesView v d
def tDVals (td : TE) : TE := fun σ H Q => td σ H fun x H1 => ∃ a kvs, x = .ref a ∧ H1 a = some (.dK kvs) ∧ ∀ p, H1 p = none → Q (.ref p) (upd H1 p (.ext (VwP p a)))
theorem pe_dvals {o : Expr} {td : TE} {apos cpos : Pos} (ho : PE X o td) (hbase : attributeBase o "values" X.env (eval o X.env) = eval o X.env := by rfl) (hline : (apos.endLine == cpos.line) = true := by rfl) :
    PE X (.Call (.Attribute o "values" apos) [] [] cpos) (tDVals td) := by
  intro pins s σ H Q I h
  refine wpAny_Call_method0_late hbase hline (thn (ho pins s σ H _ I h) fun v s1 ⟨x, H1, I1, r1, a, kvs, ex, ha, q⟩ => ?_)
  subst ex
  cases r1
  obtain ⟨t1, t2, hsys⟩ := isD_at I1 (.inl ⟨kvs, .inl ha⟩)
  obtain ⟨_, _, vs, kv, hd⟩ := dk_rd I1.hok (.inl ha)
  refine ⟨"dict", "dict.values", PySem.F.plainAttrs_dict, PySem.F.slot_dict_values, PySem.F.type_dict_values, t1, t2, Calls.callWith_builtin rfl (PySem.evalArgs_none ?_)⟩
  refine call_meetsIn PySem.F.slot_dict_values t1 PySem.F.entry_dict_values (PySem.F.args_dict_values_1 _) (meets_dict_values (mixKind X.prog X.w) a hsys) ⟨⟨vs, hd⟩, ?_⟩
  have hn : H1 s1.heap.objs.size = none := I1.hok.fresh (Nat.le_refl _)
  refine ⟨.ref s1.heap.objs.size, _, I1.laid (o := .ext (VwP s1.heap.objs.size a)) (t' := s1.toks) (fun b o e => Heap.get?_push_of_some _ e) (Nat.le_refl _) ⟨⟨_, Heap.get?_push_size _ rfl, rfl, rfl⟩, ⟨_, Heap.get?_push_size _ rfl⟩, fun g1 g2 ⟨o, e, c⟩ k => ⟨o, k o e, c⟩⟩, rfl, q _ hn⟩
theorem code_tuple_view {A : Around} {E : Value → Shared → Prop} {s : Shared} {prog : Program} {w : World} {T : String} {r d : Addr} {n : Nat} {P : Nat → Value → Prop} {OK : Heap → Prop} {Q₁ : Value → Shared → Prop} (K : KdlSrc prog w T r d n P OK) (hh : A.handled = none) (hok : OK s.heap) (hn : n ≤ sizeLine)
    (h : ∀ (h' : Heap) (tk : Nat) (acc : Array Value), (∀ b o, s.heap.get? b = some o → h'.get? b = some o) → ItemsOf P acc n → Q₁ (.ref h'.objs.size) { s with heap := h'.push { cls := .type "tuple", data := .seq acc }, toks := tk }) :
    codeAny (model prog w) A (.call (.builtin "tuple.__new__") ⟨[.type "tuple", .ref r], []⟩) (wants Q₁ E) s := by
  refine codeAny_of_tree ?_
  show wpAny _ A.in1 (do checkBuiltinCall "tuple.__new__" ⟨[.type "tuple", .ref r], []⟩; again (.builtin "tuple.__new__" ⟨[.type "tuple", .ref r], []⟩)) _ _ s
  refine wpAny_bind (wpAny_of_eq (PySem.F.newCall_tuple_1 _) (wpAny_pure ⟨plainId_quiet PySem.F.plain_tuple_new _, codeAny_builtin PySem.F.entry_tuple_new ?_⟩))
  rw [Around.under_plainId PySem.F.plain_tuple_new _]
  have h1 := sub_tuple_self
  have h2 := init_tuple_lookup
  have h3 := madeHere_tuple
  have hTI := K.type s hok
  have nt := K.notTuple
  have nl := K.notList
  wp_walk using wpAny_typeOf hTI, kdu_collect (A := A.in1) K hh hok hn
  intro h' tk acc hk hacc
  rw [Array.toArray_toList]
  show wpAny _ _ (Builtin.Tuple.tupleExact acc >>= fun v => ret v) _ _ _
  unfold Builtin.Tuple.tupleExact
  exact wpAny_bind (wpAny_newObj_type (wpAny_pure (h h' tk acc hk hacc)) (by show acc.size ≤ sizeLine; rw [hacc.1]; exact hn))
theorem call_tuple_view {A : Around} {E : Value → Shared → Prop} {s : Shared} {prog : Program} {w : World} {T : String} {r d : Addr} {n : Nat} {P : Nat → Value → Prop} {OK : Heap → Prop} {Q : Value → Shared → Prop} (K : KdlSrc prog w T r d n P OK) (hh : A.handled = none) (hok : OK s.heap) (hn : n ≤ sizeLine)
    (h : ∀ (h' : Heap) (tk : Nat) (acc : Array Value), (∀ b o, s.heap.get? b = some o → h'.get? b = some o) → ItemsOf P acc n → Q (.ref h'.objs.size) { s with heap := h'.push { cls := .type "tuple", data := .seq acc }, toks := tk }) :
    wpAny (model prog w) A (call (.type "tuple") [.ref r]) Q E s := by
  refine callType_codes (Q₁ := fun obj s₁ => s₁.TypeIs obj "tuple" ∧ Q obj s₁) PySem.F.called_tuple (PySem.F.typeCall_tuple_1 _) PySem.F.entry_object_init
    (code_tuple_view (A := A.in1) K hh hok hn fun h' tk acc hk hacc => ⟨⟨_, Heap.get?_push_size _ rfl, rfl⟩, h h' tk acc hk hacc⟩) fun obj s₁ z => ?_
  exact ⟨z.1, PySem.F.args_object_init_2 obj _, object_init_meets PySem.F.called_tuple.init.lookup PySem.F.called_tuple.made (by decide) prog w A.in1 _ s₁ ⟨z.1, rfl, z.2⟩⟩
def rTupV : List V → Hp → VK → Prop := fun xs H Q => ∃ (v a : Addr) (kvs : List (Key × V)), xs = [.ref v] ∧ H v = some (.ext (VwP v a)) ∧ H a = some (.dK kvs) ∧ ∀ p, H p = none → Q (.ref p) (upd H p (.tup (kvs.map (·.2))))
theorem vals_values : ∀ {kvs : List (Key × V)} {vs : List (Key × Value)}, KV kvs vs → Vals (kvs.map (·.2)) (vs.map (·.2))
  | _, _, .nil => .nil
  | _, _, .cons r t => .cons r.2 (vals_values t)
theorem call_tupV (hc : X.calm = true) : CallR X (.type "tuple") rTupV := by
  intro pins s σ H xs us Q I r h
  obtain ⟨v, a, kvs, rfl, hv, ha, q⟩ := h
  obtain ⟨u, rfl, rx⟩ := vals1 r
  cases rx
  obtain ⟨hz, hsys, vs, kv, hd⟩ := dk_of I.hok ha
  obtain ⟨ep, hat⟩ := hd.dictAt
  have hvw := (show ObjOk X.prog X.w H s.heap v (.ext (VwP v a)) from I.hok v _ hv).1
  refine call_tuple_view (kdl_values (knd := mixKind X.prog X.w) (r := v) (d := a) (kvs := vs) (ep := ep)) (I.ok.hd hc) ⟨hvw, hat⟩ (by rw [← kv.length]; exact hz) fun h' tk acc hk hacc => ?_
  have I' : Inv X pins σ H { s with heap := h', toks := tk } := I.kept hk
  have hn : H h'.objs.size = none := I'.hok.fresh (Nat.le_refl _)
  have e : acc.toList = vs.map (·.2) := kdl_vals_eq acc.toList (by rw [Array.length_toList]; exact hacc.1) fun j v e => hacc.2 j v (by rw [← Array.getElem?_toList]; exact e)
  refine ⟨.ref h'.objs.size, _, I'.laid (o := .tup (kvs.map (·.2))) (t' := tk) (fun b o e => Heap.get?_push_of_some _ e) (Nat.le_refl _) ⟨by rw [List.length_map]; exact hz, vs.map (·.2), vals_values kv, ?_⟩, rfl, q _ hn⟩
  rw [← e, Array.toArray_toList]
  exact IsTup.new h' acc
theorem w_tupV {H : Hp} {Q : VK} {v a : Addr} {kvs : List (Key × V)} (hv : H v = some (.ext (VwP v a))) (h : H a = some (.dK kvs)) (q : ∀ p, H p = none → Q (.ref p) (upd H p (.tup (kvs.map (·.2))))) : rTupV [.ref v] H Q := ⟨v, a, kvs, rfl, hv, h, q⟩
def rIndexS : V → List V → Hp → VK → Prop := fun x vs H Q => ∃ (l : Addr) (ks : List Str) (y : Str) (j : Nat), x = .ref l ∧ vs = [.str y] ∧ H l = some (.lst (ks.map V.str)) ∧ ks[j]? = some y ∧ (∀ i, i < j → ks[i]? ≠ some y) ∧ Q (.int (j : Nat)) H
theorem mt_indexS : MtM X "list.index" rIndexS := by
  intro pins s σ H x vs v us Q I rx rv h
  obtain ⟨l, ks, y, j, rfl, rfl, hH, hj, hno, q⟩ := h
  cases rx
  obtain ⟨u, rfl, ru⟩ := rv.one
  obtain ⟨t, rfl⟩ := ru
  obtain ⟨z, its, n, r, hl, e⟩ := I.lstM hH
  have at_ : ∀ m (hm : m < its.toArray.size), ∃ x t', ks[m]? = some x ∧ its.toArray[m] = Value.str x t' := fun m hm => by
    have hm' : m < its.length := by simpa using hm
    have hk : m < ks.length := by rw [List.length_map] at hl; omega
    obtain ⟨u, e1, t', e2⟩ := r.get (i := m) (x := .str ks[m]) (by simp [hk])
    have e3 : its[m] = u := by rw [List.getElem?_eq_getElem hm'] at e1; exact Option.some.inj e1
    exact ⟨ks[m], t', List.getElem?_eq_getElem hk, by simp [e3, e2]⟩
  let f : Value → Bool := fun v => match v with | .str a _ => a.cps.toList == y.cps.toList | _ => false
  have jl : j < its.toArray.size := by
    have := (List.getElem?_eq_some_iff.mp hj).1
    rw [List.length_map] at hl
    simp; omega
  rw [sizeLine_eq] at z
  rw [List.length_map] at z hl
  refine call_meets PySem.F.slot_list_index ⟨_, e, rfl⟩ PySem.F.entry_list_index (PySem.F.args_list_index_2 _ _) (MeetsSeq.list_index l its.toArray n (.str y t) f (fun v hv => ?_) j jl (by simp at jl; omega) ?_ (fun m hm hlt => ?_)) ⟨e, ⟨.int (j : Nat), H, I.tok _, ⟨_, rfl⟩, q⟩⟩
  · obtain ⟨m, hm, em⟩ := Array.mem_iff_getElem.mp hv
    obtain ⟨x, t', _, e2⟩ := at_ m hm
    rw [← em, e2]
    exact SeqRoads2.EqGives.str x y t' t
  · obtain ⟨x, t', e1, e2⟩ := at_ j jl
    rw [hj] at e1
    cases e1
    rw [e2]
    show (y.cps.toList == y.cps.toList) = true
    simp
  · obtain ⟨x, t', e1, e2⟩ := at_ m hm
    rw [e2]
    show (x.cps.toList == y.cps.toList) = false
    have ne : x ≠ y := fun q => hno m hlt (by rw [e1, q])
    rw [beq_eq_false_iff_ne]
    intro q
    apply ne
    cases x; cases y
    congr
    exact Array.toList_inj.mp q
theorem w_indexS {H : Hp} {Q : VK} {l : Addr} {ks : List Str} {y : Str} {j : Nat} (h : H l = some (.lst (ks.map V.str))) (hj : ks[j]? = some y) (hno : ∀ i, i < j → ks[i]? ≠ some y) (q : Q (.int (j : Nat)) H) : rIndexS (.ref l) [.str y] H Q := ⟨l, ks, y, j, rfl, rfl, h, hj, hno, q⟩
theorem fb_meth {CX : CXT} {k : Nat} {C : Addr} {ps : List Str} {sp : Sp} {E : XK} {x m : Str} {pos apos : Pos} {e o : Expr} {es : List Expr} {ta : TE} {t : TA} {pl : Sem Bool} (c : Own X.K X.mg x C) (G : FnM X.prog X.w X.K X.mg X.base CX C m k ps sp) (hr : Room k X.A) (hx : Passes CX X E) (he : PE X o ta) (ha : PB X (e :: es) t)
    (hst : isStar e = false := by rfl) (hpl : es.all (fun e => !isStar e) = true := by rfl)
    (ht : eval (.Call (.Attribute o m apos) (e :: es) [] pos) X.env = (do
      let ov ← eval o X.env
      standAt apos.atName
      let (f, first) ← holding [ov] (getMethod ov m pl)
      callWith pos f first (backTo pos (starEach (e :: es) X.env)) (backToKw pos (keywordEach [] X.env))) := by rfl) :
    PE X (.Call (.Attribute o m apos) (e :: es) [] pos) (tMeth C m sp [] E ta t) := by
  obtain ⟨f, fd, F, hm, hb⟩ := G
  exact pe_meth (pl := pl) he c.cl hm F hr hb .nil hx ha.ok (star_cons hst) (star_any hpl) ht
theorem fb_make0 {CX : CXT} {k : Nat} {C : Addr} {ps : List Str} {sp : Sp} {E : XK} {x : Str} {p pos : Pos} (c : Own X.K X.mg x C) (G : FnM X.prog X.w X.K X.mg X.base CX C "__init__" k ps sp) (hr : Room (k + 1) X.A) (hg : Gl X x) (hx : Passes CX X E)
    (hdb : (x == ("__debug__" : Str)) = false := by decide) : PE X (.Call (.Name x p) [] [] pos) (tMake C sp [] E tNil) := by
  obtain ⟨f, fd, F, hm, hb⟩ := G
  exact pe_make0 ⟨c.mks, hm.at_, hm.fn, c.kp⟩ F hr hg c.bound hb .nil hx hdb
def spNo : Sp := fun _ _ _ _ => False
theorem FnOk.no {P : Program} {w : World} {K : Frag} {mg : Str → Option Value} {base : Heap} {CX : CXT} {k : Nat} {f : Addr} {fd : FuncData} {ps : List Str} : FnOk P w K mg base CX k f fd ps spNo := ⟨fun _ _ _ _ h => h.elim, fun _ _ _ _ _ _ _ _ _ _ _ _ _ h => h.elim⟩
end
end L2
set_option Elab.async false
set_option linter.all false
set_option maxRecDepth 100000
set_option maxHeartbeats 4000000
namespace L2
open PySem PySem.Spec PyProof.Rows
structure FunD (K : PySem.W.Frag) (x qual : Str) (st : Stmt) (f : Addr) (fd : FuncData) (T : Addr) : Prop where
  ex : ∃ (oc : Value) (od : Option Addr) (kV doc pm : Value) (an : Option Addr) (cdv ct : Value) (osl : Array (Option Value)),
    fd = PySem.W.fnOf x qual (defArgs st) (defBody st) (defScope st) (.ref T) kV doc pm an cdv ct ∧ K.lookup f = some ⟨oc, od, .func fd, osl⟩ ∧ PySem.W.codeIn K cdv qual = true
  tup : ∃ (oc : Value) (od : Option Addr) (n : Nat) (osl : Array (Option Value)), K.lookup T = some ⟨oc, od, .seq #[Value.none] n, osl⟩
  kp : PySem.W.keepIn K (.ref f) = true
section
variable {P : Program} {w : World} {K : PySem.W.Frag} {mg : Str → Option Value} {base : Heap}
end
section
variable {X : Cx} {e : Expr} {es : List Expr} {t : TA} {p pos : Pos} {x : Str} {k : Nat} {ps : List Str} {sp : Sp} {CX : CXT} {E : XK}
end
end L2
set_option Elab.async false
set_option linter.all false
set_option maxRecDepth 100000
set_option maxHeartbeats 4000000
namespace PyProof.Rows
open PySem
section
variable {prog : Program} {w : World} {A : Around} {E : Value → Shared → Prop} {s : Shared}
theorem draw_list {it l : Addr} {items : Array Value} (hne : l ≠ it) : ∀ (n i : Nat) (s : Shared) (Q : List Value → Shared → Prop), s.heap.IsListIter it l i → s.heap.IsList l items → i + n ≤ items.size →
    (∀ h', h'.IsListIter it l (i + n) → Heap.SameBut it s.heap h' → Q ((items.toList.drop i).take n) { s with heap := h' }) → wpAny (model prog w) A (draw (.ref it) n) Q E s
  | 0, i, s, Q, hit, _, _, hQ => by
    show wpAny _ _ (pure []) Q E s
    exact wpAny_pure (by simpa using hQ s.heap hit (Heap.SameBut.refl ..))
  | n + 1, i, s, Q, hit, ht, hle, hQ => by
    have hlt : i < items.size := by omega
    show wpAny _ _ (pyNext (.ref it) >>= _) Q E s
    refine wpAny_bind (wpAny_pyNext_list_item hit ht (x := items[i]) (by simp [hlt]) fun h₁ hit₁ hs₁ => ?_)
    refine wpAny_bind (wpAny_holding (draw_list hne n (i + 1) _ _ hit₁ (ht.at fun o e => (hs₁.2 l hne).trans e) (by omega) fun h₂ hit₂ hs₂ => wpAny_pure ?_))
    have hd : items.toList.drop i = items[i] :: items.toList.drop (i + 1) := by simp [List.drop_eq_getElem_cons, hlt]
    have := hQ h₂ (by rw [show i + (n + 1) = i + 1 + n by omega]; exact hit₂) (hs₁.trans hs₂)
    rw [hd, List.take_succ_cons] at this
    exact this
theorem unpackItems_list {l : Addr} {items : Array Value} {Q : List Value → Shared → Prop} (hh : A.handled = none) (ht : s.heap.IsList l items)
    (hQ : ∀ h', Heap.ExtBut s.heap.objs.size s.heap h' → Q items.toList { s with heap := h' }) : wpAny (model prog w) A (unpackItems (.ref l) items.size none) Q E s := by
  have hlt : l ≠ s.heap.objs.size := by obtain ⟨o, ho, _⟩ := ht; exact Nat.ne_of_lt (Heap.lt_size ho)
  unfold unpackItems
  refine wpAny_bind ?_
  · unfold notIterableAtAll
    refine wpAny_bind (wpAny_specialOf ht.typeIs slot_list_iter.lookup ?_)
    refine wpAny_pure ?_
    simp only [Bool.false_eq_true, if_false]
    refine wpAny_bind (wpAny_holding (wpAny_pyIter_list ht ?_))
    refine wpAny_bind (wpAny_holding (draw_list hlt items.size 0 _ _ ⟨_, Heap.get?_push_size _ rfl, rfl, rfl⟩ (ht.push _) (by omega) fun h₁ hit₁ hs₁ => ?_))
    have hall : List.take items.size (List.drop 0 items.toList) = items.toList := by
      rw [List.drop_zero]; exact List.take_of_length_le (by simp)
    rw [hall]
    rw [if_neg (by simp)]
    have ht₁ : h₁.IsList l items := (ht.push _).at fun o e => (hs₁.2 l hlt).trans e
    refine wpAny_bind (wpAny_holding (wpAny_pyNext_list_end hh hit₁ ht₁ (by simp) fun h₂ he₂ => ?_))
    simp only [Option.isSome_none, Bool.false_eq_true, if_false]
    refine wpAny_pure (hQ h₂ fun b o hb e => he₂ b o hb (hs₁.extBut b o hb (Heap.get?_push_of_some _ e)))
theorem assign_Tuple_list {env : Env} {elts : List Expr} {x1} {pos : Pos} {l : Addr} {items : Array Value} {Q : Unit → Shared → Prop} (hh : A.handled = none) (ht : s.heap.IsList l items)
    (hn : (assignEach elts env).length = items.size) (hstar : (assignEach elts env).findIdx? (·.1) = none)
    (h : ∀ h', Heap.ExtBut s.heap.objs.size s.heap h' → wpAny (model prog w) A (assignInOrder ((assignEach elts env).map (·.2)) items.toList) Q E { s with heap := h' }) :
    wpAny (model prog w) A (assign (.Tuple elts x1 pos) env (.ref l)) Q E s := by
  rw [assign_Tuple]
  refine wpAny_bind (wpAny_standAt ?_)
  unfold unpack
  rw [hn, hstar]
  exact wpAny_bind (wpAny_holding (unpackItems_list hh ht h))
end
end PyProof.Rows
namespace L2
open PySem PySem.Spec PyProof.Rows
def gTupL (K : PySem.W.Frag) (n : Nat) (t : TGs) : TG := fun v σ H Q => ∃ a xs, v = .ref a ∧ SqL K H a xs ∧ xs.length = n ∧ t xs σ H Q
theorem pg_tupL {X : Cx} {pos : Pos} {es : List Expr} {k : Nat} {t : TGs} {n : Nat} (hc : X.calm = true) (h : PGs X es t)
    (hn : (assignEach es X.env).length = n := by rfl) (hst : (assignEach es X.env).findIdx? (·.1) = none := by rfl) : PG X (.Tuple es k pos) (gTupL X.K n t) := by
  intro pins s σ H v u Q I r hw
  obtain ⟨a, xs, e1, hq, hl, hw⟩ := hw
  subst e1
  cases r
  obtain ⟨its, rv, ht, hz⟩ := I.list hq
  refine assign_Tuple_list (I.ok.hd hc) ht.isList (by simp [hn, ← hl, rv.length]) hst fun h' hx => ?_
  have I1 : Inv X pins σ H { s with heap := h' } := I.kept (t' := s.toks) fun b o e => hx b o (Nat.ne_of_lt (Heap.lt_size e)) e
  exact h pins _ σ H xs _ Q I1 (by simpa using rv) hw
theorem w_gtupL {K : PySem.W.Frag} {H : Hp} {σ : St} {p : Addr} {xs : List V} {n : Nat} {t : TGs} {R : St → Hp → Prop} (e : SqL K H p xs) (hn : xs.length = n) (h : t xs σ H R) : gTupL K n t (.ref p) σ H R := ⟨p, xs, rfl, e, hn, h⟩
end L2
set_option Elab.async false
set_option linter.all false
set_option maxRecDepth 100000
set_option maxHeartbeats 4000000
namespace L2
open PySem PySem.Spec PyProof.Rows
def Itzm (K : PySem.W.Frag) (a1 a2 : Addr) : It :=
  ⟨fun i H => ∃ xs ys x y, SqL K H a1 xs ∧ SqT K H a2 ys ∧ xs[i]? = some x ∧ ys[i]? = some y,
   fun i H v H' => ∃ p x y, H p = none ∧ v = .ref p ∧ (∀ xs, SqL K H a1 xs → xs[i]? = some x) ∧ (∀ ys, SqT K H a2 ys → ys[i]? = some y) ∧ H' = upd H p (.tup [x, y]),
   fun i H => ∃ xs ys, SqL K H a1 xs ∧ SqT K H a2 ys ∧ (xs.length ≤ i ∨ ys.length ≤ i)⟩
def Tnzm (z TI TO i1 i2 l1 l2 : Addr) (i : Nat) (h : Heap) : Prop := IsZip h z TI TO .none ∧ IsPair h TI (.ref i1) (.ref i2) ∧ (∃ a b, IsPair h TO a b) ∧ ItB false h i1 l1 i ∧ ItB true h i2 l2 i
theorem turn_zipm {P : Program} {w : World} {K : PySem.W.Frag} {elts : List Expr} {x1} {pos : Pos} {z TI TO i1 i2 l1 l2 : Addr} (D : Apz z TI TO i1 i2) (n1 : ∀ c ∈ [z, TO, i1, i2], l1 ≠ c ∧ l2 ≠ c) :
    Turn P w K (.Tuple elts x1 pos) (Itzm K l1 l2) [z, TI, TO, i1, i2] z (Tnzm z TI TO i1 i2 l1 l2) where
  mem := by simp
  obj := fun i h st b hb => by
    obtain ⟨q1, q2, ⟨a, b', q3⟩, q4, q5⟩ := st
    have hb' : b = z ∨ b = TI ∨ b = TO ∨ b = i1 ∨ b = i2 := by simpa using hb
    rcases hb' with e | e | e | e | e <;> subst e
    · exact ⟨_, q1, fun v z => by cases z⟩
    · exact ⟨_, q2, fun v z => by cases z⟩
    · exact ⟨_, q3, fun v z => by cases z⟩
    · exact q4.ob
    · exact q5.ob
  keep := fun i h h' st k => by
    obtain ⟨q1, q2, ⟨a, b', q3⟩, q4, q5⟩ := st
    exact ⟨k z (by simp) _ q1, k TI (by simp) _ q2, ⟨a, b', k TO (by simp) _ q3⟩, q4.at fun o e => k i1 (by simp) o e, q5.at fun o e => k i2 (by simp) o e⟩
  item := by
    intro X hP hw hK hc i pins s σ H E I hf st hg
    subst hP hw hK
    obtain ⟨xs, ys, x, y, h1, h2, hx, hy⟩ := hg
    obtain ⟨its, rv, p, hz⟩ := I.list h1
    obtain ⟨jts, rv', p', hz'⟩ := I.tuple h2
    obtain ⟨u, hu, ru⟩ := rv.get hx
    obtain ⟨u', hu', ru'⟩ := rv'.get hy
    obtain ⟨q1, q2, ⟨a, b, q3⟩, q4, q5⟩ := st
    refine zip_item D q1 q2 q3 q4 q5 p.isList (show s.heap.IsTuple l2 jts.toArray from p') n1 (x := u) (y := u') (by simpa using hu) (by simpa using hu') fun h' a1 a2 a3 a4 a5 a6 kk => ?_
    have lt : ∀ {c o}, s.heap.get? c = some o → s.heap.objs.size ≠ c := fun e => Nat.ne_of_gt (Heap.lt_size e)
    refine ⟨_, rfl, wpAny_letOwnedTupleGo_zip a1 fun hh2 z2 s2 => ?_⟩
    have kk2 : ∀ c o, c ∉ [z, TI, TO, i1, i2] → s.heap.get? c = some o → hh2.get? c = some o := fun c o hc e =>
      s2.extBut _ _ (fun x => hc (by simp [x])) (kk c o (fun x => hc (by simp [x])) (fun x => hc (by simp [x])) (fun x => hc (by simp [x])) (fun x => hc (by simp [x])) e)
    have I1 : Inv X pins σ H { s with heap := hh2 } := I.turnedN (t' := s.toks) kk2 hf
    have T2 : IsPair hh2 s.heap.objs.size u u' := s2.extBut _ _ (lt q1) a5
    have hn : H s.heap.objs.size = none := I.hok.fresh (Nat.le_refl _)
    have fr := I.fpOk (H' := H) (Nat.le_refl _) hn
    have I2 : Inv X pins σ (upd H s.heap.objs.size (.tup [x, y])) { s with heap := hh2 } := by
      refine I1.track hn (fun b o q _ _ => ?_) fr.2.1.symm fr.2.2.2.2.1 fr.2.2.2.2.2 ?_
      · exact Nat.ne_of_lt (Nat.lt_of_lt_of_le (Heap.lt_size q) I.sz)
      · exact ⟨by simp [sizeLine], [u, u'], .cons ru (.cons ru' .nil), ⟨_, T2, rfl, _, rfl⟩⟩
    refine ⟨.ref s.heap.objs.size, _, I2, rfl, ⟨_, x, y, hn, rfl, fun zs hzs => ?_, fun zs hzs => ?_, rfl⟩, ?_, fun b hb => ?_⟩
    · rw [I.list_inj hzs h1]; exact hx
    · rw [I.tuple_inj hzs h2]; exact hy
    · exact ⟨z2, s2.extBut _ _ D.a1 (kk _ _ D.a1 D.a5 D.a6 D.a7 q2), ⟨_, _, s2.extBut _ _ D.a2 a2⟩, a3.at fun o e => s2.extBut _ _ D.a3 e, a4.at fun o e => s2.extBut _ _ D.a4 e⟩
    · have e : b ≠ s.heap.objs.size := by
        have hb' : b = z ∨ b = TI ∨ b = TO ∨ b = i1 ∨ b = i2 := by simpa using hb
        rcases hb' with e | e | e | e | e <;> subst e
        · exact (lt q1).symm
        · exact (lt q2).symm
        · exact (lt q3).symm
        · obtain ⟨o, e, _⟩ := q4.ob; exact (lt e).symm
        · obtain ⟨o, e, _⟩ := q5.ob; exact (lt e).symm
      rw [upd_ne e]
      exact (hf b hb).1
  done := by
    intro X hP hw hK hc i pins s σ H E I hf st hg
    subst hP hw hK
    obtain ⟨xs, ys, h1, h2, hx⟩ := hg
    obtain ⟨its, rv, p, hz⟩ := I.list h1
    obtain ⟨jts, rv', p', hz'⟩ := I.tuple h2
    have e1 := rv.length
    have e2 := rv'.length
    obtain ⟨q1, q2, ⟨a, b, q3⟩, q4, q5⟩ := st
    refine zip_stop (I.ok.hd hc) D q1 q2 q3 q4 q5 p.isList (show s.heap.IsTuple l2 jts.toArray from p') n1 (by rcases hx with q | q; (· left; simp; omega); (· right; simp; omega)) fun h' kk => ⟨rfl, ?_⟩
    exact I.turnedN (t' := s.toks) (fun c o hc e => kk c o (fun x => hc (by simp [x])) (fun x => hc (by simp [x])) (fun x => hc (by simp [x])) (fun x => hc (by simp [x])) e) hf
  self := fun _ _ _ _ _ st h => wpAny_pyIter_zip st.1 h
section
variable {X : Cx}
def iZip2m (K : PySem.W.Frag) (ta : TA) : TI := fun σ H R => ta σ H fun vs H1 => ∃ a b, vs = [.ref a, .ref b] ∧ (∃ xs, SqL K H1 a xs) ∧ (∃ ys, SqT K H1 b ys) ∧ R (Itzm K a b) H1
theorem pi_zip2m {a b : Expr} {ta : TA} {p pos tpos : Pos} {elts : List Expr} {x1} (hg : Gl X "zip") (hm : X.mg "zip" = none) (ha : PA X [a, b] ta) (hs : starEach [a, b] X.env = [(false, eval a X.env), (false, eval b X.env)] := by rfl) (hs2 : starEach [b] X.env = [(false, eval b X.env)] := by rfl) :
    PI X (.Tuple elts x1 tpos) (.Call (.Name "zip" p) [a, b] [] pos) (iZip2m X.K ta) := by
  intro pins s σ H R I h
  refine Call_ (ld_blt I hg hm boot_zip (PyProof.Rows.callWith_type1 (thn (ha pos pins s σ H _ I h) fun us s1 ⟨vs, H1, I1, r1, q1⟩ => ?_) (by rw [hs, hs2]) (by rw [hs2]; rfl)))
  obtain ⟨l1, l2, e, ⟨xs, h1⟩, ⟨ys, h2⟩, q⟩ := q1
  subst e
  cases r1 with
  | cons r rr =>
    cases rr with
    | cons r' rr =>
      cases rr
      cases r
      cases r'
      obtain ⟨its, rv, p, hz⟩ := I1.list h1
      obtain ⟨jts, rv', p', hz'⟩ := I1.tuple h2
      have hl1 : l1 < s1.heap.objs.size := by obtain ⟨o, e, _⟩ := p.isList; exact Heap.lt_size e
      have hl2 : l2 < s1.heap.objs.size := by exact p'.lt
      refine zip_call (b1 := false) (b2 := true) p.isList (show s1.heap.IsTuple l2 jts.toArray from p') fun h' a1 a2 a3 a4 a5 kk => wpAny_pyIter_zip a1 ?_
      refine ⟨s1.heap.objs.size + 4, _, _, _, H1, rfl, I1.kept (t' := s1.toks) kk, turn_zipm (apz_new s1.heap.objs.size) (l1 := l1) (l2 := l2) fun c hc => ?_, ⟨a1, a2, ⟨_, _, a3⟩, a4, a5⟩, fun b hb => ?_, q⟩
      · have hc' : c = s1.heap.objs.size + 4 ∨ c = s1.heap.objs.size + 3 ∨ c = s1.heap.objs.size ∨ c = s1.heap.objs.size + 1 := by simpa using hc
        have hle : s1.heap.objs.size ≤ c := by rcases hc' with e | e | e | e <;> rw [e] <;> first | exact Nat.le_refl _ | exact Nat.le_add_right _ _
        exact ⟨Nat.ne_of_lt (Nat.lt_of_lt_of_le hl1 hle), Nat.ne_of_lt (Nat.lt_of_lt_of_le hl2 hle)⟩
      · have hb' : b = s1.heap.objs.size + 4 ∨ b = s1.heap.objs.size + 2 ∨ b = s1.heap.objs.size + 3 ∨ b = s1.heap.objs.size ∨ b = s1.heap.objs.size + 1 := by simpa using hb
        have hle : s1.heap.objs.size ≤ b := by rcases hb' with e | e | e | e | e <;> rw [e] <;> first | exact Nat.le_refl _ | exact Nat.le_add_right _ _
        exact I1.fpOk hle (I1.hok.fresh hle)
theorem fb_zip2m {a b : Expr} {ta : TA} {p pos tpos : Pos} {elts : List Expr} {x1} (hg : Gl X "zip") (hm : X.mg "zip" = none) (ha : PB X [a, b] ta) (he : isStar a = false := by rfl) (hf : isStar b = false := by rfl) : PI X (.Tuple elts x1 tpos) (.Call (.Name "zip" p) [a, b] [] pos) (iZip2m X.K ta) :=
  pi_zip2m hg hm ha.ok (by rw [star_cons he, star_cons hf]; rfl) (by rw [star_cons hf]; rfl)
end
theorem w_zip2m {K : PySem.W.Frag} {ta : TA} {σ : St} {H : Hp} {R : It → Hp → Prop} (h : ta σ H fun vs H1 => ∃ a b, vs = [.ref a, .ref b] ∧ (∃ xs, SqL K H1 a xs) ∧ (∃ ys, SqT K H1 b ys) ∧ R (Itzm K a b) H1) : iZip2m K ta σ H R := h
section
open PySem.W
def rIsinstP (K : Frag) : List V → Hp → VK → Prop := fun xs H Q => ∃ a C b, H a = some (.ext (ExPc a C)) ∧ ExF K C ∧ Q (.bl b) H ∧
  ((∃ T, xs = [.ref a, .ty T] ∧ kitOne K (.ref C) (.type T) = some b) ∨ (∃ D, xs = [.ref a, .ref D] ∧ kitOne K (.ref C) (.ref D) = some b) ∨ (∃ (tp : Addr) (cs : List Addr), xs = [.ref a, .ref tp] ∧ H tp = some (.tup (cs.map V.ref)) ∧ kitAny K (.ref C) (cs.map Value.ref) = some b))
theorem call_isinstP {X : Cx} : CallR X (.builtin "isinstance") (rIsinstP X.K) := by
  intro pins s σ H xs us Q I r h
  obtain ⟨a, C, b, ea, Y, q, h⟩ := h
  have ob := (show ObjOk X.prog X.w H s.heap a (.ext (ExPc a C)) from I.hok a _ ea).1.exp
  have fin : ∀ tk, EP X pins σ Q (.bool b) { s with toks := tk } := fun tk => ⟨.bl b, H, I.tok tk, rfl, q⟩
  rcases h with ⟨T, rfl, e⟩ | ⟨D, rfl, e⟩ | ⟨tp, cs, rfl, et, e⟩
  · obtain ⟨u, w', rfl, rx, ry⟩ := vals2 r
    cases ry
    cases (show u = Value.ref a from rx)
    exact kia_one (kitx_exc Y) I.kIn ob e (fun z => nomatch z) fin
  · obtain ⟨u, w', rfl, rx, ry⟩ := vals2 r
    cases (show w' = Value.ref D from ry)
    cases (show u = Value.ref a from rx)
    exact kia_one (kitx_exc Y) I.kIn ob e (fun z => nomatch z) fin
  · obtain ⟨u, w', rfl, rx, ry⟩ := vals2 r
    cases (show w' = Value.ref tp from ry)
    cases (show u = Value.ref a from rx)
    obtain ⟨its, rv, p, hz⟩ := I.tuple (SqT.of et)
    cases vals_refs rv
    obtain ⟨o, h1, h2, n, h3⟩ := p
    obtain ⟨oc, od, odt, osl⟩ := o
    cases h2
    cases h3
    exact kia_tup (kitx_exc Y) I.kIn ob h1 e (fun z => nomatch z) fin
end
def tTry3 (K : PySem.W.Frag) (D D2 D3 : Addr) (sp : Sp) (t : TA) (ts ts2 ts3 : TS) : TS := fun Dn σ H => t σ H fun vs H1 => sp vs H1 (fun _ H2 => Dn.nx σ H2)
  (fun cls _ H2 => ∃ C, cls = .ref C ∧ PySem.W.excIn K C bmV "ValueError.__new__" = true ∧ ((PySem.W.mroIn K C (.ref D) = some true ∧ ts Dn σ H2) ∨ (PySem.W.mroIn K C (.ref D) = some false ∧ PySem.W.mroIn K C (.ref D2) = some true ∧ ts2 Dn σ H2) ∨
    (PySem.W.mroIn K C (.ref D) = some false ∧ PySem.W.mroIn K C (.ref D2) = some false ∧ PySem.W.mroIn K C (.ref D3) = some true ∧ ts3 Dn σ H2)))
section
variable {X : Cx} {k : Nat} {g x x2 x3 n : Str} {ps : List Str} {sp : Sp} {p np np2 np3 cpos epos hpos hpos2 hpos3 pos : Pos} {e : Expr} {es : List Expr} {t : TA} {ts ts2 ts3 : TS} {D D2 D3 : Addr} {b₀ b₂ b₃ : Stmt} {suite suite2 suite3 : List Stmt} {i : Nat}
theorem fb_try3 (hst : X.stack = X.env :: X.outer) (hfr : X.env.frame = some X.env.locals) (G : Fn X.prog X.w X.K X.mg X.base (CXr X.prog X.w X.base) g k ps sp) (hr : Room k X.A) (hg : Gl X g) (ha : ∀ E', PB (X.wish E') (e :: es) t)
    (T : ExC X.K X.mg x D) (hgx : Gl X x) (hs : ∀ e', PSs (X.suite e') (b₀ :: suite) ts) (T2 : ExC X.K X.mg x2 D2) (hgx2 : Gl X x2) (hs2 : ∀ e', PSs (X.suite e') (b₂ :: suite2) ts2) (T3 : ExC X.K X.mg x3 D3) (hgx3 : Gl X x3) (hs3 : ∀ e', PSs (X.suite e') (b₃ :: suite3) ts3)
    (hdb : (g == ("__debug__" : Str)) = false := by decide) (hdx : (x == ("__debug__" : Str)) = false := by decide) (hdx2 : (x2 == ("__debug__" : Str)) = false := by decide) (hdx3 : (x3 == ("__debug__" : Str)) = false := by decide) (he : isStar e = false := by rfl) (hpl : es.all (fun e => !isStar e) = true := by rfl)
    (hsw : swapsWith (.Call (.Name g p) (e :: es) [] cpos) none epos.line X.env = pure false := by rfl) :
    PS X (.Try [.Expr (.Call (.Name g p) (e :: es) [] cpos) epos] [.ExceptHandler (some (.Name x np)) none (b₀ :: suite) hpos, .ExceptHandler (some (.Name x2 np2)) none (b₂ :: suite2) hpos2, .ExceptHandler (some (.Name x3 np3)) none (b₃ :: suite3) hpos3] [] [] pos) (tTry3 X.K D D2 D3 sp t ts ts2 ts3) := by
  intro pins s σ H Dn I h
  have hL : X.env.locals ∈ frs X.stack := by
    rw [hst]
    show _ ∈ (X.env :: X.outer).filterMap (·.frame)
    rw [List.filterMap_cons, hfr]
    exact List.mem_cons_self
  refine wpAny_Try_except (wpAny_execs_cons (wpAny_Expr_any (thn (call_try G hr hg (fun E' => (ha E').ok) I h (fun s1 s' H1 e' cls H2 B a0 I1 F hcl => ?_) hdb (star_cons he) (star_any hpl)) fun v s2 ⟨_, H2, I2, _, q⟩ => wpAny_execs_nil (wpAny_execs_nil ⟨σ, H2, I2, q⟩)) I.quiet hsw))
  obtain ⟨C, rfl, qC, hor⟩ := hcl
  have frm : X.A.frames = some (X.env :: X.outer) := by rw [← hst]; exact I.ok.frames
  have fly := F.fly
  rw [hst] at fly
  refine wpAny_looks_onW frm hfr fly fun h4 held up4 => ?_
  refine wpAny_landsW held fun h5 fl5 up5 => ?_
  have c5 := F.caught I1 hL (by rw [hst]; exact fl5) (up4.trans up5)
  obtain ⟨oe, hoe, hcl⟩ := c5.there
  rcases hor with ⟨hsub, hts⟩ | ⟨hno, hsub, hts⟩ | ⟨hno, hno2, hsub, hts⟩
  · refine wpAny_handleBy_cons (codeAny_handlers_test (ld_glob (c5.inv.suite e') hgx T.bound (matches_ownB c5.inv.kIn qC T.q hoe hcl hsub ?_) hdx)) (by intro q; cases q)
    refine codeAny_handlers_suite (lands_againW fl5 fun h6 fl6 up6 => ?_)
    have c6 := F.caught I1 hL (by rw [hst]; exact fl6) ((up4.trans up5).trans up6)
    exact wpAny_mono (hs e' pins _ σ H2 Dn (c6.inv.suite e') hts) (fun f s7 q => q.unsuite I.ok) fun _ _ z => z.elim
  · refine wpAny_handleBy_cons (codeAny_handlers_test (ld_glob (c5.inv.suite e') hgx T.bound (matches_ownB c5.inv.kIn qC T.q hoe hcl hno ?_) hdx)) (by intro q; cases q)
    refine wpAny_handleBy_cons (codeAny_handlers_test (ld_glob (c5.inv.suite e') hgx2 T2.bound (matches_ownB c5.inv.kIn qC T2.q hoe hcl hsub ?_) hdx2)) (by intro q; cases q)
    refine codeAny_handlers_suite (lands_againW fl5 fun h6 fl6 up6 => ?_)
    have c6 := F.caught I1 hL (by rw [hst]; exact fl6) ((up4.trans up5).trans up6)
    exact wpAny_mono (hs2 e' pins _ σ H2 Dn (c6.inv.suite e') hts) (fun f s7 q => q.unsuite I.ok) fun _ _ z => z.elim
  · refine wpAny_handleBy_cons (codeAny_handlers_test (ld_glob (c5.inv.suite e') hgx T.bound (matches_ownB c5.inv.kIn qC T.q hoe hcl hno ?_) hdx)) (by intro q; cases q)
    refine wpAny_handleBy_cons (codeAny_handlers_test (ld_glob (c5.inv.suite e') hgx2 T2.bound (matches_ownB c5.inv.kIn qC T2.q hoe hcl hno2 ?_) hdx2)) (by intro q; cases q)
    refine wpAny_handleBy_cons (codeAny_handlers_test (ld_glob (c5.inv.suite e') hgx3 T3.bound (matches_ownB c5.inv.kIn qC T3.q hoe hcl hsub ?_) hdx3)) (by intro q; cases q)
    refine codeAny_handlers_suite (lands_againW fl5 fun h6 fl6 up6 => ?_)
    have c6 := F.caught I1 hL (by rw [hst]; exact fl6) ((up4.trans up5).trans up6)
    exact wpAny_mono (hs3 e' pins _ σ H2 Dn (c6.inv.suite e') hts) (fun f s7 q => q.unsuite I.ok) fun _ _ z => z.elim
theorem fb_tryB {ts : Addr → TS} (hN : X.N.Nodup) (hi : X.N[i]? = some n) (hk : X.env.scope.names.lookup n = some .local) (hst : X.stack = X.env :: X.outer) (hfr : X.env.frame = some X.env.locals)
    (G : Fn X.prog X.w X.K X.mg X.base (CXr X.prog X.w X.base) g k ps sp) (hr : Room k X.A) (hg : Gl X g) (ha : ∀ E', PB (X.wish E') (e :: es) t)
    (T : ExC X.K X.mg x D) (hgx : Gl X x) (hs : ∀ e', PSs (X.suite e') (b₀ :: suite) (ts e'))
    (hdb : (g == ("__debug__" : Str)) = false := by decide) (hdx : (x == ("__debug__" : Str)) = false := by decide) (he : isStar e = false := by rfl) (hpl : es.all (fun e => !isStar e) = true := by rfl)
    (hsw : swapsWith (.Call (.Name g p) (e :: es) [] cpos) none epos.line X.env = pure false := by rfl) :
    PS X (.Try [.Expr (.Call (.Name g p) (e :: es) [] cpos) epos] [.ExceptHandler (some (.Name x np)) (some n) (b₀ :: suite) hpos] [] [] pos) (tTryB X.K D i sp t ts) := ps_tryB hN hi hk hst hfr G hr hg (fun E' => (ha E').ok) T hgx hs hdb hdx (star_cons he) (star_any hpl) hsw
end
def NoC (K : PySem.W.Frag) (mg : Str → Option Value) (x : Str) : Prop := ∃ f, mg x = some (.ref f) ∧ PySem.W.keepIn K (.ref f) = true
theorem noc_mk {K : PySem.W.Frag} {mg : Str → Option Value} {h : Heap} {x : Str} {f : Addr} (X : K.In h) (G : h.Ns mainGlobals mg) (a : PySem.W.nsIn K mainGlobals x = some (some (.ref f))) (k : PySem.W.keepIn K (.ref f) = true) : NoC K mg x := ⟨f, PySem.W.mg_of X G a, k⟩
def tCallNo (t : TA) : TE := fun σ H _ => t σ H fun _ _ => False
section
variable {X : Cx} {k : Nat} {x : Str} {p pos : Pos} {e : Expr} {es : List Expr} {t : TA}
theorem fb_callNo (N : NoC X.K X.mg x) (hg : Gl X x) (ha : PB X (e :: es) t) (hdb : (x == ("__debug__" : Str)) = false := by decide) (he : isStar e = false := by rfl) (hpl : es.all (fun e => !isStar e) = true := by rfl) : PE X (.Call (.Name x p) (e :: es) [] pos) (tCallNo t) := by
  intro pins s σ H Q I h
  obtain ⟨f, hm, hk⟩ := N
  refine wpAny_Call_Name_kw (ld_glob I hg hm ?_ hdb)
  exact PySem.W.callWith_K (h₀ := X.base) I.ok.mod.kin hk (thn (ha.ok pos pins s σ H _ I h) fun us s1 ⟨vs, H1, I1, r, q⟩ => q.elim) (star_cons he) (star_any hpl)
end
def DfMD (K : PySem.W.Frag) (C : Addr) (m qual : Str) (st : Stmt) : Prop := ∃ f fd T, FunD K m qual st f fd T ∧ Meth K C m f
theorem dfmd_mk {K : PySem.W.Frag} {mg : Str → Option Value} {h : Heap} {x m qual : Str} {C f T : Addr} {st : Stmt} {oc oc' : Value} {od od' an : Option Addr} {n : Nat} {osl osl' : Array (Option Value)} {kV doc pm cdv ct : Value} (X : K.In h) (G : h.Ns mainGlobals mg) (aC : PySem.W.nsIn K mainGlobals x = some (some (.ref C)))
    (a : PySem.W.findIn K (.ref C) m = some (some (.ref f))) (i : PySem.W.isFn K (.ref f) = true)
    (l : K.lookup f = some ⟨oc, od, .func (PySem.W.fnOf m qual (defArgs st) (defBody st) (defScope st) (.ref T) kV doc pm an cdv ct), osl⟩)
    (t : K.lookup T = some ⟨oc', od', .seq #[Value.none] n, osl'⟩)
    (c : PySem.W.codeIn K cdv qual = true) (k : PySem.W.keepIn K (.ref f) = true) : DfMD K (clsA mg x) m qual st := by
  rw [cls_is X G aC]
  exact ⟨f, _, T, ⟨⟨oc, od, kV, doc, pm, an, cdv, ct, osl, rfl, l, c⟩, ⟨oc', od', n, osl', t⟩, k⟩, a, i, k⟩
def FnMD (P : Program) (w : World) (K : PySem.W.Frag) (mg : Str → Option Value) (base : Heap) (CX : CXT) (C : Addr) (m : Str) (k : Nat) (ps : List Str) (sp : Sp) : Prop :=
  ∃ f fd, FnOk P w K mg base CX k f fd ps sp ∧ Meth K C m f ∧ Binds K fd ps [] ∧ Binds K fd ps [Value.none]
section
variable {P : Program} {w : World} {K : PySem.W.Frag} {mg : Str → Option Value} {base : Heap}
theorem FunD.okR {x qual : Str} {st : Stmt} {f T : Addr} {fd : FuncData} {N ps : List Str} {k : Nat} {sp : Sp} (F : FunD K x qual st f fd T) (S : FnScope N ps (defScope st)) (len : ∀ vs H Q E, sp vs H Q E → vs.length = ps.length)
    (hbody : ∀ (cdv : Value) (A : Around) (outer : List Env) (s : Shared) (H : Hp) (vs : List V) (Q : VK) (E : XK), Room k (A.deeper (envOfC qual (defScope st) s.heap.objs.size f cdv)) → sp vs H Q E →
      ∃ t, PSs (cxR P w K mg base N qual (defScope st) f cdv A outer s H E) (defBody st) t ∧ t { nx := fun _ H' => Q .non H', rt := Q } (start N vs) H) : FnOk P w K mg base (CXr P w base) (k + 1) f fd ps sp := by
  obtain ⟨oc, od, kV, doc, pm, an, cdv, ct, osl, rfl, lk, hcd⟩ := F.ex
  exact fn_of lk hcd S len fun A outer s H vs Q E hr hsp => hbody cdv A outer s H vs Q E hr hsp
theorem DfMD.to {CX : CXT} {C : Addr} {m qual p1 p2 : Str} {st : Stmt} {k : Nat} {sp : Sp} (D : DfMD K C m qual st) (h : ∀ {f T : Addr} {fd : FuncData}, FunD K m qual st f fd T → FnOk P w K mg base CX k f fd [p1, p2] sp)
    (h2 : ∀ (T : Addr) (kV doc pm : Value) (an : Option Addr) (cdv ct u v : Value), ∃ k, bindArgs (PySem.W.fnOf m qual (defArgs st) (defBody st) (defScope st) (.ref T) kV doc pm an cdv ct) ⟨[u, v], []⟩ = seqItems? (.ref T) >>= k ∧ k (some #[Value.none]) = pure [(p1, u), (p2, v)])
    (h1 : ∀ (T : Addr) (kV doc pm : Value) (an : Option Addr) (cdv ct u : Value), ∃ k, bindArgs (PySem.W.fnOf m qual (defArgs st) (defBody st) (defScope st) (.ref T) kV doc pm an cdv ct) ⟨[u], []⟩ = seqItems? (.ref T) >>= k ∧ k (some #[Value.none]) = pure [(p1, u), (p2, Value.none)]) :
    FnMD P w K mg base CX C m k [p1, p2] sp := by
  obtain ⟨f, fd, T, F, hm⟩ := D
  have ok := h F
  obtain ⟨oc', od', n, osl', ht⟩ := F.tup
  obtain ⟨oc, od, kV, doc, pm, an, cdv, ct, osl, rfl, lk, hcd⟩ := F.ex
  refine ⟨f, _, ok, hm, fun s us X hl => ?_, fun s us X hl => ?_⟩
  · rw [List.append_nil] at hl ⊢
    match us, hl with
    | [u, v], _ =>
      obtain ⟨k, e1, e2⟩ := h2 T kV doc pm an cdv ct u v
      exact BindsTo.of_defaults (k := k) rfl (X _ _ ht) rfl e1 e2
  · have h1' : us.length = 1 := by simpa using hl
    obtain ⟨u, rfl⟩ := List.length_eq_one_iff.mp h1'
    obtain ⟨k, e1, e2⟩ := h1 T kV doc pm an cdv ct u
    exact BindsTo.of_defaults (k := k) rfl (X _ _ ht) rfl e1 e2
end
section
variable {X : Cx} {CX : CXT} {k : Nat} {C : Addr} {ps : List Str} {sp : Sp} {E : XK} {x m : Str} {p pos apos cpos : Pos} {e o : Expr} {es : List Expr} {ta to : TE} {t : TA}
theorem fb_meth0D {pl : Sem Bool} (c : Own X.K X.mg x C) (G : FnMD X.prog X.w X.K X.mg X.base CX C m k ps sp) (hr : Room k X.A) (hx : Passes CX X E) (he : PE X o ta)
    (ht : eval (.Call (.Attribute o m apos) [] [] pos) X.env = (do
      let ov ← eval o X.env
      standAt apos.atName
      let (f, first) ← holding [ov] (getMethod ov m pl)
      callWith pos f first (backTo pos (starEach [] X.env)) (backToKw pos (keywordEach [] X.env))) := by rfl) :
    PE X (.Call (.Attribute o m apos) [] [] pos) (tMeth C m sp [.non] E ta tNil) := by
  obtain ⟨f, fd, F, hm, _, hb⟩ := G
  exact pe_meth0 (pl := pl) he c.cl hm F hr hb (.cons rfl .nil) hx ht
end
end L2
set_option Elab.async false
set_option linter.all false
set_option maxRecDepth 100000
set_option maxHeartbeats 4000000
namespace L2
open PySem PySem.Spec PyProof.Rows
structure PEb (X : Cx) (e : Expr) (t : TE) : Prop where
  ok : PE X e t
structure PSb (X : Cx) (st : Stmt) (t : TS) : Prop where
  ok : PS X st t
structure PSsb (X : Cx) (st : List Stmt) (t : TS) : Prop where
  ok : PSs X st t
section
variable {X : Cx} {e a b : Expr} {es : List Expr} {te ta tb : TE} {t : TA} {pos pos' : Pos} {st : Stmt} {rest : List Stmt} {ts us : TS}
theorem sb_cons (h1 : PSb X st ts) (h2 : PSsb X rest us) : PSsb X (st :: rest) (tSeq ts us) := ⟨pss_cons h1.ok h2.ok⟩
theorem sb_one (h1 : PSb X st ts) : PSsb X [st] ts := ⟨pss_one h1.ok⟩
theorem sb_set {i : Nat} {x : Str} (hN : X.N.Nodup) (hi : X.N[i]? = some x) (hx : Loc X.env.scope x) (he : PEb X e te) (hs : swapsWith e (some (.Name x pos')) pos.line X.env = pure false := by rfl)
    (hf : X.fn x = true ∨ X.env.scope.names.lookup x = some .local := by first | exact .inl rfl | exact .inr rfl | assumption) : PSb X (.Assign [.Name x pos'] e pos) (tAsg te (gName i)) := ⟨ps_set hN hi hx he.ok hs hf⟩
theorem eb_lst (h : PB X es t) : PEb X (.List es pos) (tLst t) := ⟨fb_lst h⟩
end
theorem Fun.okb {P : Program} {w : World} {K : PySem.W.Frag} {mg : Str → Option Value} {base : Heap} {x qual : Str} {st : Stmt} {f : Addr} {fd : FuncData} {N ps : List Str} {k : Nat} {sp : Sp} (F : Fun K x qual st f fd) (S : FnScope N ps (defScope st)) (len : ∀ vs H Q E, sp vs H Q E → vs.length = ps.length)
    (hbody : ∀ (cdv : Value) (A : Around) (outer : List Env) (s : Shared) (H : Hp) (vs : List V) (Q : VK) (E : XK), Room k (A.deeper (envOfC qual (defScope st) s.heap.objs.size f cdv)) → sp vs H Q E →
      ∃ t, PSsb (cxOf CX0 P w K mg base N qual (defScope st) f cdv A outer s H E).nox (defBody st) t ∧ t { nx := fun _ H' => Q .non H', rt := Q } (start N vs) H) : FnOk P w K mg base CX0 (k + 1) f fd ps sp :=
  F.ok S len fun cdv A outer s H vs Q E hr h => let ⟨t, a, q⟩ := hbody cdv A outer s H vs Q E hr h; ⟨t, a.ok, q⟩
end L2
set_option Elab.async false
set_option linter.all false
set_option maxRecDepth 100000
set_option maxHeartbeats 4000000
namespace K82
open PySem L2 LB
abbrev NoB (mg : Str → Option Value) : Value := .ref (clsA mg "NoBook")
abbrev NoN (mg : Str → Option Value) : Value := .ref (clsA mg "NoName")
abbrev Twi (mg : Str → Option Value) : Value := .ref (clsA mg "Twice")
def sb_check (K : PySem.W.Frag) (mg : Str → Option Value) (a : V) (H : Hp) (Q : VK) (E : XK) : Prop := ∃ d : PyData, Rep H a d ∧ (isBookD d = true → ∀ H', Same H H' → Q (.bl true) H') ∧ (isBookD d = false → ∀ H', Same H H' → E (NoB mg) none H')
def sp_check (K : PySem.W.Frag) (mg : Str → Option Value) : Sp := sp1 (sb_check K mg)
def ascT (w : Str) : Prop := (∀ c ∈ w.cps.toList, c < 128) ∧ w.length ≤ 900
def lowB (w : Str) : Bool := w.cps.toList.all fun c => decide (97 ≤ c) && decide (c ≤ 122)
def nameB (w : Str) : Bool := (decide (1 ≤ w.length) && decide (w.length ≤ 8)) && lowB w
def sb_is_name (K : PySem.W.Frag) (a : V) (H : Hp) (Q : VK) (E : XK) : Prop := ∃ w, a = .str w ∧ ascT w ∧ ∀ H', Same H H' → Q (.bl (nameB w)) H'
def sp_is_name (K : PySem.W.Frag) : Sp := sp1 (sb_is_name K)
def sb_check_name (K : PySem.W.Frag) (mg : Str → Option Value) (a : V) (H : Hp) (Q : VK) (E : XK) : Prop := ∃ w, a = .str w ∧ ascT w ∧ (nameB w = true → ∀ H', Same H H' → Q .non H') ∧ (nameB w = false → ∀ H', Same H H' → E (NoN mg) none H')
def sp_check_name (K : PySem.W.Frag) (mg : Str → Option Value) : Sp := sp1 (sb_check_name K mg)
abbrev Kvs := List (Str × V)
def dkv (kvs : Kvs) : List (Key × V) := kvs.map fun p => ((Sum.inr p.1 : Key), p.2)
abbrev keysL (kvs : Kvs) : List Str := kvs.map (·.1)
structure Led (mg : Str → Option Value) (H : Hp) (v : V) (d : Addr) (kvs : Kvs) : Prop where
  at_ : ∃ a dx, v = .ref a ∧ H a = some (.ins (clsA mg "Ledger") dx [("kept", .ref d)])
  kept : H d = some (.dK (dkv kvs))
  nd : (keysL kvs).Nodup
  len : kvs.length ≤ 8
def SameB (d : Addr) (H H' : Hp) : Prop := ∀ b o, b ≠ d → H b = some o → H' b = some o
def sb_Ledger_init (K : PySem.W.Frag) (mg : Str → Option Value) (a : V) (H : Hp) (Q : VK) (E : XK) : Prop := ∃ p dx, a = .ref p ∧ H p = some (.ins (clsA mg "Ledger") dx []) ∧ ∀ d, H d = none → Q .non (upd (upd H d (.dK [])) p (.ins (clsA mg "Ledger") dx [("kept", .ref d)]))
def sp_Ledger_init (K : PySem.W.Frag) (mg : Str → Option Value) : Sp := sp1 (sb_Ledger_init K mg)
def sb_Ledger_put (K : PySem.W.Frag) (mg : Str → Option Value) (a b c e : V) (H : Hp) (Q : VK) (E : XK) : Prop := ∃ (d : Addr) (kvs : Kvs) (nm : Str) (Ds : List PyData) (d1 d2 : PyData), Led mg H a d kvs ∧ b = .str nm ∧ ascT nm ∧ Reps H (kvs.map (·.2)) Ds ∧ Rep H c d1 ∧ Rep H e d2 ∧
  (nameB nm = false → ∀ H', Same H H' → E (NoN mg) none H') ∧ (nameB nm = true → nm ∈ keysL kvs → ∀ H', Same H H' → E (Twi mg) none H') ∧
  (nameB nm = true → nm ∉ keysL kvs → isBookD (.tuple (Ds ++ [.tuple [d1, d2]])) = false → ∀ H', Same H H' → E (NoB mg) none H') ∧
  (nameB nm = true → nm ∉ keysL kvs → isBookD (.tuple (Ds ++ [.tuple [d1, d2]])) = true → ∀ t H', SameB d H H' → H' t = some (.tup [c, e]) → Led mg H' a d (kvs ++ [(nm, .ref t)]) → Q .non H')
def sp_Ledger_put (K : PySem.W.Frag) (mg : Str → Option Value) : Sp := sp4 (sb_Ledger_put K mg)
def sb_Ledger_check_standing (K : PySem.W.Frag) (mg : Str → Option Value) (a b : V) (H : Hp) (Q : VK) (E : XK) : Prop := ∃ (d : Addr) (kvs : Kvs) (nm : Str), Led mg H a d kvs ∧ b = .str nm ∧ (nm ∈ keysL kvs → Q .non H) ∧ (nm ∉ keysL kvs → E (NoN mg) none H)
def sp_Ledger_check_standing (K : PySem.W.Frag) (mg : Str → Option Value) : Sp := sp2 (sb_Ledger_check_standing K mg)
def sb_Ledger_take (K : PySem.W.Frag) (mg : Str → Option Value) (a b : V) (H : Hp) (Q : VK) (E : XK) : Prop := ∃ (d : Addr) (kvs : Kvs) (nm : Str), Led mg H a d kvs ∧ b = .str nm ∧ (nm ∈ keysL kvs → ∀ H', SameB d H H' → Led mg H' a d (kvs.filter fun p => !decide (p.1 = nm)) → Q .non H') ∧ (nm ∉ keysL kvs → E (NoN mg) none H)
def sp_Ledger_take (K : PySem.W.Frag) (mg : Str → Option Value) : Sp := sp2 (sb_Ledger_take K mg)
def sb_Ledger_names (K : PySem.W.Frag) (mg : Str → Option Value) (a : V) (H : Hp) (Q : VK) (E : XK) : Prop := ∃ (d : Addr) (kvs : Kvs), Led mg H a d kvs ∧ ∀ p H', Same H H' → H p = none → H' p = some (.lst ((keysL kvs).map V.str)) → Q (.ref p) H'
def sp_Ledger_names (K : PySem.W.Frag) (mg : Str → Option Value) : Sp := sp1 (sb_Ledger_names K mg)
def sb_Ledger_book (K : PySem.W.Frag) (mg : Str → Option Value) (a : V) (H : Hp) (Q : VK) (E : XK) : Prop := ∃ (d : Addr) (kvs : Kvs), Led mg H a d kvs ∧ (kvs = [] → E (NoB mg) none H) ∧ (kvs ≠ [] → ∀ p H', Same H H' → H' p = some (.tup (kvs.map (·.2))) → Q (.ref p) H')
def sp_Ledger_book (K : PySem.W.Frag) (mg : Str → Option Value) : Sp := sp1 (sb_Ledger_book K mg)
def sb_Ledger_number_of (K : PySem.W.Frag) (mg : Str → Option Value) (a b : V) (H : Hp) (Q : VK) (E : XK) : Prop := ∃ (d : Addr) (kvs : Kvs) (nm : Str), Led mg H a d kvs ∧ b = .str nm ∧ (∀ j, (keysL kvs)[j]? = some nm → ∀ H', Same H H' → Q (.int (j : Nat)) H') ∧ (nm ∉ keysL kvs → E (NoN mg) none H)
def sp_Ledger_number_of (K : PySem.W.Frag) (mg : Str → Option Value) : Sp := sp2 (sb_Ledger_number_of K mg)
def sb_Ledger_at_once (K : PySem.W.Frag) (mg : Str → Option Value) (a b c : V) (H : Hp) (Q : VK) (E : XK) : Prop := ∃ (d : Addr) (kvs : Kvs) (n1 n2 : Str), Led mg H a d kvs ∧ b = .str n1 ∧ c = .str n2 ∧ (n1 ∉ keysL kvs ∨ n2 ∉ keysL kvs) ∧ ∀ H', Same H H' → E (NoN mg) none H'
def sp_Ledger_at_once (K : PySem.W.Frag) (mg : Str → Option Value) : Sp := sp3 (sb_Ledger_at_once K mg)
def sb_Ledger_reached (K : PySem.W.Frag) (mg : Str → Option Value) (a b : V) (H : Hp) (Q : VK) (E : XK) : Prop := ∃ (d : Addr) (kvs : Kvs) (nm : Str), Led mg H a d kvs ∧ b = .str nm ∧ nm ∉ keysL kvs ∧ E (NoN mg) none H
def sp_Ledger_reached (K : PySem.W.Frag) (mg : Str → Option Value) : Sp := sp2 (sb_Ledger_reached K mg)
def sb_none (mg : Str → Option Value) (a : V) (H : Hp) (Q : VK) (E : XK) : Prop := ∃ d, Led mg H a d [] ∧ E (NoB mg) none H
def sp_Ledger_taste (K : PySem.W.Frag) (mg : Str → Option Value) : Sp := sp2 (fun a b => sb_none mg a)
def sp_Ledger_cut (K : PySem.W.Frag) (mg : Str → Option Value) : Sp := sp1 (sb_none mg)
def sp_Ledger_fewest (K : PySem.W.Frag) (mg : Str → Option Value) : Sp := sp1 (sb_none mg)
def sp_Ledger_two_hands (K : PySem.W.Frag) (mg : Str → Option Value) : Sp := sp1 (sb_none mg)
inductive Rk where
  | name | twice | book
def Rk.cls (mg : Str → Option Value) : Rk → Addr
  | .name => clsA mg "NoName"
  | .twice => clsA mg "Twice"
  | .book => clsA mg "NoBook"
def Rk.txt : Rk → Str
  | .name => "name"
  | .twice => "twice"
  | .book => "book"
def Refd (H : Hp) (kvs : Kvs) (w : Str) (xs : List V) (r : Rk) : Prop :=
  (w = "put" ∧ ∃ (nm : Str) (p a : V) (Ds : List PyData) (d1 d2 : PyData), xs = [.str nm, p, a] ∧ ascT nm ∧ Reps H (kvs.map (·.2)) Ds ∧ Rep H p d1 ∧ Rep H a d2 ∧
    ((nameB nm = false ∧ r = .name) ∨ (nameB nm = true ∧ nm ∈ keysL kvs ∧ r = .twice) ∨ (nameB nm = true ∧ nm ∉ keysL kvs ∧ isBookD (.tuple (Ds ++ [.tuple [d1, d2]])) = false ∧ r = .book))) ∨
  ((w = "take" ∨ w = "reached") ∧ ∃ nm, xs = [.str nm] ∧ nm ∉ keysL kvs ∧ r = .name) ∨
  (w = "at_once" ∧ ∃ n1 n2, xs = [.str n1, .str n2] ∧ (n1 ∉ keysL kvs ∨ n2 ∉ keysL kvs) ∧ r = .name) ∨
  ((w = "book" ∨ w = "taste" ∨ w = "cut" ∨ w = "fewest" ∨ w = "two_hands") ∧ kvs = [] ∧ r = .book)
def sb__law_do (K : PySem.W.Frag) (mg : Str → Option Value) (a b c : V) (H : Hp) (Q : VK) (E : XK) : Prop := ∃ (d : Addr) (kvs : Kvs) (w : Str) (xs : List V) (t : Addr) (r : Rk), Led mg H a d kvs ∧ b = .str w ∧ c = .ref t ∧ H t = some (.lst xs) ∧ Refd H kvs w xs r ∧ ∀ H', Same H H' → E (.ref (r.cls mg)) none H'
def sp__law_do (K : PySem.W.Frag) (mg : Str → Option Value) : Sp := sp3 (sb__law_do K mg)
def sb__law_refused (K : PySem.W.Frag) (mg : Str → Option Value) (a b c : V) (H : Hp) (Q : VK) (E : XK) : Prop := ∃ (d : Addr) (kvs : Kvs) (w : Str) (xs : List V) (t : Addr) (r : Rk), Led mg H a d kvs ∧ b = .str w ∧ c = .ref t ∧ H t = some (.lst xs) ∧ Refd H kvs w xs r ∧ ∀ H', Same H H' → Q (.str r.txt) H'
def sp__law_refused (K : PySem.W.Frag) (mg : Str → Option Value) : Sp := sp3 (sb__law_refused K mg)
def sb__law_bad_name (K : PySem.W.Frag) (a : V) (H : Hp) (Q : VK) (E : XK) : Prop := ∃ c : Int, a = .int c ∧ ∀ w H', Same H H' → ascT w → nameB w = false → Q (.str w) H'
def sp__law_bad_name (K : PySem.W.Frag) : Sp := sp1 (sb__law_bad_name K)
def BadD (n : Nat) (d : PyData) : Prop := isDayD d = false ∨ waresD d ≠ n
def sb__law_bad_day (K : PySem.W.Frag) (a b c : V) (H : Hp) (Q : VK) (E : XK) : Prop := ∃ (cc : Int) (p1 p2 : Addr) (d : List Int × List Int) (n : Nat), a = .int cc ∧ b = .ref p1 ∧ c = .ref p2 ∧ H p1 = some (.tup (d.1.map V.int)) ∧ H p2 = some (.tup (d.2.map V.int)) ∧ GoodDay n d ∧ 1 ≤ n ∧ n ≤ 4 ∧
  ∀ v d1 d2 H', Same H H' → Rep H' v (.tuple [d1, d2]) → BadD n (.tuple [d1, d2]) → Q v H'
def sp__law_bad_day (K : PySem.W.Frag) : Sp := sp3 (sb__law_bad_day K)
def sb__law_none (K : PySem.W.Frag) (mg : Str → Option Value) (a : V) (H : Hp) (Q : VK) (E : XK) : Prop := ∃ d, Led mg H a d [] ∧ ∀ H', Same H H' → Q (.bl true) H'
def sp__law_none (K : PySem.W.Frag) (mg : Str → Option Value) : Sp := sp1 (sb__law_none K mg)
structure LedB (mg : Str → Option Value) (H : Hp) (v : V) (d : Addr) (kvs : Kvs) (B : List (List Int × List Int)) (n : Nat) : Prop where
  led : Led mg H v d kvs
  reps : Reps H (kvs.map (·.2)) (B.map dayD)
  good : ∀ x ∈ B, GoodDay n x
  n1 : 1 ≤ n
  n4 : n ≤ 6
def NmL (H : Hp) (v : V) (ks : List Str) : Prop := ∃ l, v = .ref l ∧ H l = some (.lst (ks.map V.str))
def sb__law_puts (K : PySem.W.Frag) (mg : Str → Option Value) (a b c e : V) (H : Hp) (Q : VK) (E : XK) : Prop := ∃ (d : Addr) (kvs : Kvs) (B : List (List Int × List Int)) (n : Nat) (cc : Int) (g : List Int × List Int), LedB mg H a d kvs B n ∧ n ≤ 4 ∧ NmL H b (keysL kvs) ∧ kvs ≠ [] ∧ ("new" : Str) ∉ keysL kvs ∧ (∀ k ∈ keysL kvs, ascT k ∧ nameB k = true) ∧
  c = .int cc ∧ Rep H e (dayD g) ∧ GoodDay n g ∧ ∀ H', Same H H' → Q (.bl true) H'
def sp__law_puts (K : PySem.W.Frag) (mg : Str → Option Value) : Sp := sp4 (sb__law_puts K mg)
def sb__law_names (K : PySem.W.Frag) (mg : Str → Option Value) (a b c : V) (H : Hp) (Q : VK) (E : XK) : Prop := ∃ (d : Addr) (kvs : Kvs) (cc : Int), Led mg H a d kvs ∧ NmL H b (keysL kvs) ∧ kvs ≠ [] ∧ ("new" : Str) ∉ keysL kvs ∧ ("abcdefgh" : Str) ∉ keysL kvs ∧ (∀ k ∈ keysL kvs, nameB k = true) ∧ c = .int cc ∧ ∀ H', Same H H' → Q (.bl true) H'
def sp__law_names (K : PySem.W.Frag) (mg : Str → Option Value) : Sp := sp3 (sb__law_names K mg)
def sp_law (K : PySem.W.Frag) (mg : Str → Option Value) : Sp := sp1 (sb_top K)
def tb_check (K : PySem.W.Frag) (mg : Str → Option Value) (E : XK) : TS :=
  (tSeq (tIfS (tNot (tTru K (tCall (sp_is_book K) [] E0 (tCons (tVar 0) tNil)))) (tRaise E (.ref (clsA mg "NoBook")) (tCons (tC (.str "this is no book")) tNil)) tNext)
    (tRet (tC (.bl true))))
def tb_is_name (K : PySem.W.Frag) : TS :=
  (tRet (tAndV (tChain rLeU rLeU (tC (.int 1)) (tCB (rLenU K) (tCons (tVar 0) tNil)) (tC (.int 8))) (tCB (rAllU K) (tCons (tComp [none] (iStr (tVar 0)) (gName 0) tYes (tOp rInS (tVar 0) (tC (.str "abcdefghijklmnopqrstuvwxyz")))) tNil))))
def tb_check_name (K : PySem.W.Frag) (mg : Str → Option Value) (E : XK) : TS :=
  (tIfS (tNot (tTru K (tCall (sp_is_name K) [] E0 (tCons (tVar 0) tNil)))) (tRaise E (.ref (clsA mg "NoName")) (tCons (tC (.str "a name is one to eight small letters")) tNil)) tNext)
def tb_Ledger_init (K : PySem.W.Frag) (mg : Str → Option Value) : TS :=
  (sFld K (tVar 0) tDNew "kept")
def tb_Ledger_put (K : PySem.W.Frag) (mg : Str → Option Value) (E : XK) : TS :=
  (tSeq (tDrop (tCall (sp_check_name K mg) [] E (tCons (tVar 1) tNil)))
    (tSeq (tIfS (tB (tDIn (tVar 1) (tFld K (tVar 0) "kept"))) (tRaise E (.ref (clsA mg "Twice")) (tCons (tC (.str "a day of this name stands")) tNil)) tNext)
    (tSeq (tAsg (tTup (tCons (tVar 2) (tCons (tVar 3) tNil))) (gName 4))
    (tSeq (tDrop (tCall (sp_check K mg) [] E (tCons (tOp (rAddU K) (tCB rTupV (tCons (tDVals (tFld K (tVar 0) "kept")) tNil)) (tTup (tCons (tVar 4) tNil))) tNil)))
    (sDPut (tFld K (tVar 0) "kept") (tVar 1) (tVar 4))))))
def tb_Ledger_check_standing (K : PySem.W.Frag) (mg : Str → Option Value) (E : XK) : TS :=
  (tIfS (tB (tDNotIn (tVar 1) (tFld K (tVar 0) "kept"))) (tRaise E (.ref (clsA mg "NoName")) (tCons (tC (.str "no day of this name stands")) tNil)) tNext)
def tb_Ledger_take (K : PySem.W.Frag) (mg : Str → Option Value) (E : XK) : TS :=
  (tSeq (tDrop (tMeth (clsA mg "Ledger") "check_standing" (sp_Ledger_check_standing K mg) [] E (tVar 0) (tCons (tVar 1) tNil)))
    (tDrop (tDPop1 (tFld K (tVar 0) "kept") (tVar 1))))
def tb_Ledger_names (K : PySem.W.Frag) (mg : Str → Option Value) : TS :=
  (tRet (tCB rListD (tCons (tFld K (tVar 0) "kept") tNil)))
def tb_Ledger_book (K : PySem.W.Frag) (mg : Str → Option Value) (E : XK) : TS :=
  (tSeq (tIfS (tTest (tOp (rEqU K) (tCB rLenD (tCons (tFld K (tVar 0) "kept") tNil)) (tC (.int 0)))) (tRaise E (.ref (clsA mg "NoBook")) (tCons (tC (.str "the ledger has no days")) tNil)) tNext)
    (tRet (tCB rTupV (tCons (tDVals (tFld K (tVar 0) "kept")) tNil))))
def tb_Ledger_number_of (K : PySem.W.Frag) (mg : Str → Option Value) (E : XK) : TS :=
  (tSeq (tDrop (tMeth (clsA mg "Ledger") "check_standing" (sp_Ledger_check_standing K mg) [] E (tVar 0) (tCons (tVar 1) tNil)))
    (tRet (tBM K "list" rIndexS (tMeth (clsA mg "Ledger") "names" (sp_Ledger_names K mg) [] E0 (tVar 0) tNil) (tCons (tVar 1) tNil))))
def tb_Ledger_at_once (K : PySem.W.Frag) (mg : Str → Option Value) (E : XK) : TS :=
  (tSeq (tAsg (tMeth (clsA mg "Ledger") "number_of" (sp_Ledger_number_of K mg) [] E (tVar 0) (tCons (tVar 1) tNil)) (gName 3))
    (tSeq (tAsg (tMeth (clsA mg "Ledger") "number_of" (sp_Ledger_number_of K mg) [] E (tVar 0) (tCons (tVar 2) tNil)) (gName 4))
    tNever))
def tb_Ledger_reached (K : PySem.W.Frag) (mg : Str → Option Value) (E : XK) : TS :=
  (tSeq (tAsg (tMeth (clsA mg "Ledger") "number_of" (sp_Ledger_number_of K mg) [] E (tVar 0) (tCons (tVar 1) tNil)) (gName 2))
    tNever)
def tb_Ledger_taste (K : PySem.W.Frag) (mg : Str → Option Value) (E : XK) : TS :=
  (tSeq (tAsg (tCallNo (tCons (tMeth (clsA mg "Ledger") "book" (sp_Ledger_book K mg) [] E (tVar 0) tNil) (tCons (tVar 1) tNil))) (gName 2))
    (tSeq tNever
    tNever))
def tb_Ledger_cut (K : PySem.W.Frag) (mg : Str → Option Value) (E : XK) : TS :=
  (tRet (tCallNo (tCons (tMeth (clsA mg "Ledger") "book" (sp_Ledger_book K mg) [] E (tVar 0) tNil) tNil)))
def tb_Ledger_fewest (K : PySem.W.Frag) (mg : Str → Option Value) (E : XK) : TS :=
  (tRet (tMeth (clsA mg "Ledger") "names_of" spNo [] E0 (tVar 0) (tCons (tCallNo (tCons (tMeth (clsA mg "Ledger") "book" (sp_Ledger_book K mg) [] E (tVar 0) tNil) tNil)) tNil)))
def tb_Ledger_two_hands (K : PySem.W.Frag) (mg : Str → Option Value) (E : XK) : TS :=
  (tSeq (tAsg (tCallNo (tCons (tMeth (clsA mg "Ledger") "book" (sp_Ledger_book K mg) [] E (tVar 0) tNil) tNil)) (gName 1))
    (tSeq tNever
    tNever))
def tb__law_do (K : PySem.W.Frag) (mg : Str → Option Value) (E : XK) : TS :=
  (tSeq (tIfS (tTest (tOp (rEqU K) (tVar 1) (tC (.str "put")))) (tDrop (tMeth (clsA mg "Ledger") "put" (sp_Ledger_put K mg) [] E (tVar 0) (tCons (tOp (rIx K) (tVar 2) (tC (.int 0))) (tCons (tOp (rIx K) (tVar 2) (tC (.int 1))) (tCons (tOp (rIx K) (tVar 2) (tC (.int 2))) tNil))))) tNext)
    (tSeq (tIfS (tTest (tOp (rEqU K) (tVar 1) (tC (.str "take")))) (tDrop (tMeth (clsA mg "Ledger") "take" (sp_Ledger_take K mg) [] E (tVar 0) (tCons (tOp (rIx K) (tVar 2) (tC (.int 0))) tNil))) tNext)
    (tSeq (tIfS (tTest (tOp (rEqU K) (tVar 1) (tC (.str "at_once")))) (tDrop (tMeth (clsA mg "Ledger") "at_once" (sp_Ledger_at_once K mg) [] E (tVar 0) (tCons (tOp (rIx K) (tVar 2) (tC (.int 0))) (tCons (tOp (rIx K) (tVar 2) (tC (.int 1))) tNil)))) tNext)
    (tSeq (tIfS (tTest (tOp (rEqU K) (tVar 1) (tC (.str "reached")))) (tDrop (tMeth (clsA mg "Ledger") "reached" (sp_Ledger_reached K mg) [] E (tVar 0) (tCons (tOp (rIx K) (tVar 2) (tC (.int 0))) tNil))) tNext)
    (tSeq (tIfS (tTest (tOp (rEqU K) (tVar 1) (tC (.str "book")))) (tDrop (tMeth (clsA mg "Ledger") "book" (sp_Ledger_book K mg) [] E (tVar 0) tNil)) tNext)
    (tSeq (tIfS (tTest (tOp (rEqU K) (tVar 1) (tC (.str "taste")))) (tDrop (tMeth (clsA mg "Ledger") "taste" (sp_Ledger_taste K mg) [.non] E (tVar 0) tNil)) tNext)
    (tSeq (tIfS (tTest (tOp (rEqU K) (tVar 1) (tC (.str "cut")))) (tDrop (tMeth (clsA mg "Ledger") "cut" (sp_Ledger_cut K mg) [] E (tVar 0) tNil)) tNext)
    (tSeq (tIfS (tTest (tOp (rEqU K) (tVar 1) (tC (.str "fewest")))) (tDrop (tMeth (clsA mg "Ledger") "fewest" (sp_Ledger_fewest K mg) [] E (tVar 0) tNil)) tNext)
    (tIfS (tTest (tOp (rEqU K) (tVar 1) (tC (.str "two_hands")))) (tDrop (tMeth (clsA mg "Ledger") "two_hands" (sp_Ledger_two_hands K mg) [] E (tVar 0) tNil)) tNext)))))))))
def tb__law_refused (K : PySem.W.Frag) (mg : Str → Option Value) : TS :=
  (tSeq (tAsg (tC (.str "")) (gName 3))
    (tSeq (tTry3 K (clsA mg "NoName") (clsA mg "Twice") (clsA mg "NoBook") (sp__law_do K mg) (tCons (tVar 0) (tCons (tVar 1) (tCons (tVar 2) tNil))) (tAsg (tC (.str "name")) (gName 3)) (tAsg (tC (.str "twice")) (gName 3)) (tAsg (tC (.str "book")) (gName 3)))
    (tSeq (tTryB K (clsA mg "TasteError") 4 (sp__law_do K mg) (tCons (tVar 0) (tCons (tVar 1) (tCons (tVar 2) tNil))) (fun e' => (tSeq (tAsg (tDisp [((tC (.str "name")), (tCB (rIsinstP K) (tCons (tVar 4) (tCons (tC (.ref (clsA mg "NoName"))) tNil)))), ((tC (.str "twice")), (tCB (rIsinstP K) (tCons (tVar 4) (tCons (tC (.ref (clsA mg "Twice"))) tNil))))]) (gName 5))
    (tSeq (sDPut (tVar 5) (tC (.str "book")) (tCB (rIsinstP K) (tCons (tVar 4) (tCons (tC (.ref (clsA mg "NoBook"))) tNil))))
    (tSeq (tIfS (tOr (tNot (tTru K (tCB (rIsinstP K) (tCons (tVar 4) (tCons (tC (.ty "ValueError")) tNil))))) (tTru K (tCB (rIsinstP K) (tCons (tVar 4) (tCons (tTup (tCons (tC (.ref (clsA mg "NoDay"))) (tCons (tC (.ref (clsA mg "NoRow"))) (tCons (tC (.ref (clsA mg "NoTaste"))) (tCons (tC (.ref (clsA mg "NoText"))) tNil))))) tNil))))) (tRet (tC (.str "other"))) tNext)
    (tSeq (tForH e' 5 (gName 6) (tIfS (tTest (tOp (rNeU K) (tDGet (tVar 5) (tVar 6)) (tOp (rEqU K) (tVar 6) (tVar 3)))) (tRet (tC (.str "other"))) tNext))
    (tRet (tVar 3))))))))
    (tRet (tC (.str ""))))))
def tb__law_bad_name (K : PySem.W.Frag) : TS :=
  (tSeq (tAsg (tLst (tCons (tC (.str "")) (tCons (tC (.str "abcdefghi")) (tCons (tC (.str "A")) (tCons (tC (.str "a1")) (tCons (tC (.str "a b")) (tCons (tC (.str " a")) (tCons (tC (.str "a ")) (tCons (tC (.str "aB")) (tCons (tC (.str "a-")) (tCons (tC (.str "1")) (tCons (tC (.str " ")) (tCons (tC (.str "a_")) tNil))))))))))))) (gName 1))
    (tRet (tOp (rIx K) (tVar 1) (tOp rModU (tVar 0) (tC (.int 12))))))
def tb__law_bad_day (K : PySem.W.Frag) : TS :=
  (tSeq (tAsg (tOp rModU (tOp rDivU (tVar 0) (tC (.int 40))) (tCB (rLenU K) (tCons (tVar 1) tNil))) (gName 3))
    (tSeq (tAsg (tCB (rTy_tuple K) (tCons (tComp [none] (iSeq K (tVar 1)) (gName 0) tYes (tC (.int 0))) tNil)) (gName 4))
    (tSeq (tAsg (tLst (tCons (tC (.int 0)) (tCons (tUn rNegU (tC (.int 1))) (tCons (tOp (rAddU K) (tC (.int 1000000000)) (tC (.int 1))) (tCons (tOp (rAddU K) (tOp (rAddU K) (tC (.int 1000000000)) (tC (.int 1))) (tOp rModU (tOp rDivU (tVar 0) (tC (.int 400))) (tC (.int 100000000000000000000)))) (tCons (tC (.bl true)) (tCons (tC .non) (tCons (tC (.str "1")) (tCons (tTup (tCons (tC (.int 1)) tNil)) tNil))))))))) (gName 5))
    (tSeq (tAsg (tComp [none, some 1, some 3, some 2] (iSeq K (tVar 5)) (gName 0) tYes (tTup (tCons (tOp (rAddU K) (tOp (rAddU K) (tSl (rSlU K) (tVar 1) tNoPart (tPart (tVar 2))) (tTup (tCons (tVar 0) tNil))) (tSl (rSlU K) (tVar 1) (tPart (tOp (rAddU K) (tVar 2) (tC (.int 1)))) tNoPart)) (tCons (tVar 3) tNil)))) (gName 6))
    (tSeq (tAsg (tLst (tCons (tUn rNegU (tC (.int 1))) (tCons (tOp (rAddU K) (tC (.int 1000000000000000000)) (tC (.int 1))) (tCons (tOp (rAddU K) (tOp (rAddU K) (tC (.int 1000000000000000000)) (tC (.int 1))) (tOp rModU (tOp rDivU (tVar 0) (tC (.int 400))) (tC (.int 100000000000000000000)))) (tCons (tC (.bl false)) (tCons (tC .non) (tCons (tC (.str "1")) (tCons (tLst (tCons (tC (.int 1)) tNil)) tNil)))))))) (gName 5))
    (tSeq (tAsg (tOp (rAddU K) (tVar 6) (tComp [none, some 1, some 2, some 3] (iSeq K (tVar 5)) (gName 0) tYes (tTup (tCons (tVar 1) (tCons (tOp (rAddU K) (tOp (rAddU K) (tSl (rSlU K) (tVar 2) tNoPart (tPart (tVar 3))) (tTup (tCons (tVar 0) tNil))) (tSl (rSlU K) (tVar 2) (tPart (tOp (rAddU K) (tVar 3) (tC (.int 1)))) tNoPart)) tNil))))) (gName 6))
    (tSeq (tAsg (tOp (rAddU K) (tVar 6) (tLst (tCons (tTup (tCons (tVar 1) (tCons (tVar 4) tNil))) (tCons (tTup (tCons (tVar 1) (tCons (tSl (rSlU K) (tVar 2) tNoPart (tPart (tUn rNegU (tC (.int 1))))) tNil))) (tCons (tTup (tCons (tSl (rSlU K) (tVar 1) tNoPart (tPart (tUn rNegU (tC (.int 1))))) (tCons (tVar 2) tNil))) (tCons (tTup (tCons (tVar 1) (tCons (tOp (rAddU K) (tVar 2) (tTup (tCons (tC (.int 1)) tNil))) tNil))) tNil)))))) (gName 6))
    (tSeq (tAsg (tOp (rAddU K) (tVar 6) (tLst (tCons (tTup (tCons (tOp (rAddU K) (tVar 1) (tTup (tCons (tC (.int 1)) tNil))) (tCons (tVar 2) tNil))) (tCons (tTup (tCons (tOp (rAddU K) (tVar 1) (tTup (tCons (tC (.int 1)) tNil))) (tCons (tOp (rAddU K) (tVar 2) (tTup (tCons (tC (.int 1)) tNil))) tNil))) (tCons (tTup (tCons (tSl (rSlU K) (tVar 1) tNoPart (tPart (tUn rNegU (tC (.int 1))))) (tCons (tSl (rSlU K) (tVar 2) tNoPart (tPart (tUn rNegU (tC (.int 1))))) tNil))) tNil))))) (gName 6))
    (tSeq (tAsg (tOp (rAddU K) (tVar 6) (tLst (tCons (tTup (tCons (tTup tNil) (tCons (tTup tNil) tNil))) (tCons (tTup (tCons (tCB (rTy_list K) (tCons (tVar 1) tNil)) (tCons (tVar 2) tNil))) (tCons (tTup (tCons (tVar 1) (tCons (tCB (rTy_list K) (tCons (tVar 2) tNil)) tNil))) (tCons (tTup (tCons (tC .non) (tCons (tVar 2) tNil))) (tCons (tTup (tCons (tVar 1) (tCons (tC .non) tNil))) tNil))))))) (gName 6))
    (tSeq (tAsg (tOp (rAddU K) (tVar 6) (tLst (tCons (tTup (tCons (tC (.int 1)) (tCons (tC (.int 1)) tNil))) (tCons (tTup (tCons (tC (.str "1")) (tCons (tC (.str "1")) tNil))) (tCons (tTup (tCons tDNew (tCons tDNew tNil))) (tCons (tTup (tCons (tOp (rMulV K) (tTup (tCons (tC (.int 1)) tNil)) (tC (.int 7))) (tCons (tOp (rMulV K) (tTup (tCons (tC (.int 1)) tNil)) (tC (.int 7))) tNil))) (tCons (tTup (tCons (tVar 2) (tCons (tTup tNil) tNil))) (tCons (tTup (tCons (tC (.bl true)) (tCons (tC (.bl false)) tNil))) tNil)))))))) (gName 6))
    (tRet (tOp (rIx K) (tVar 6) (tOp rModU (tVar 0) (tC (.int 33)))))))))))))))
def tb__law_none (K : PySem.W.Frag) (mg : Str → Option Value) : TS :=
  (tSeq (tIfS (tOr (tTest (tOp (rNeU K) (tMeth (clsA mg "Ledger") "names" (sp_Ledger_names K mg) [] E0 (tVar 0) tNil) (tLst tNil))) (tTest (tOp (rNeU K) (tCall (sp__law_refused K mg) [] E0 (tCons (tVar 0) (tCons (tC (.str "at_once")) (tCons (tLst (tCons (tC (.str "a")) (tCons (tC (.str "b")) tNil))) tNil)))) (tC (.str "name"))))) (tRet (tC (.bl false))) tNext)
    (tSeq (tFor (iSeq K (tLst (tCons (tC (.str "book")) (tCons (tC (.str "taste")) (tCons (tC (.str "cut")) (tCons (tC (.str "fewest")) (tCons (tC (.str "two_hands")) tNil))))))) (gName 1) (tIfS (tTest (tOp (rNeU K) (tCall (sp__law_refused K mg) [] E0 (tCons (tVar 0) (tCons (tVar 1) (tCons (tLst tNil) tNil)))) (tC (.str "book")))) (tRet (tC (.bl false))) tNext))
    (tRet (tAndV (tOp (rEqU K) (tCall (sp__law_refused K mg) [] E0 (tCons (tVar 0) (tCons (tC (.str "reached")) (tCons (tLst (tCons (tC (.str "a")) tNil)) tNil)))) (tC (.str "name"))) (tOp (rEqU K) (tCall (sp__law_refused K mg) [] E0 (tCons (tVar 0) (tCons (tC (.str "take")) (tCons (tLst (tCons (tC (.str "a")) tNil)) tNil)))) (tC (.str "name")))))))
def tb__law_puts (K : PySem.W.Frag) (mg : Str → Option Value) : TS :=
  (tSeq (tAsg (tCall (sp__law_bad_day K) [] E0 (tCons (tOp rDivU (tVar 2) (tC (.int 16))) (tCons (tOp (rIx K) (tVar 3) (tC (.int 0))) (tCons (tOp (rIx K) (tVar 3) (tC (.int 1))) tNil)))) (gName 4))
    (tSeq (tAsg (tLst (tCons (tOp (rIx K) (tVar 1) (tOp rModU (tOp rDivU (tVar 2) (tC (.int 2))) (tCB (rLenU K) (tCons (tVar 1) tNil)))) (tCons (tCall (sp__law_bad_name K) [] E0 (tCons (tOp rDivU (tVar 2) (tC (.int 2))) tNil)) (tCons (tC (.str "new")) tNil)))) (gName 5))
    (tSeq (tAsg (tLst (tCons (tC (.str "twice")) (tCons (tC (.str "name")) (tCons (tC (.str "book")) tNil)))) (gName 6))
    (tSeq (tFor (iRng1 (tCons (tC (.int 3)) tNil)) (gName 7) (tSeq (tAsg (tVar 4) (gName 8))
    (tSeq (tIfS (tAnd (tTest (tOp rLtU (tVar 7) (tC (.int 2)))) (tTest (tOp (rEqU K) (tOp rModU (tVar 2) (tC (.int 2))) (tC (.int 0))))) (tAsg (tVar 3) (gName 8)) tNext)
    (tIfS (tTest (tOp (rNeU K) (tCall (sp__law_refused K mg) [] E0 (tCons (tVar 0) (tCons (tC (.str "put")) (tCons (tLst (tCons (tOp (rIx K) (tVar 5) (tVar 7)) (tCons (tOp (rIx K) (tVar 8) (tC (.int 0))) (tCons (tOp (rIx K) (tVar 8) (tC (.int 1))) tNil)))) tNil)))) (tOp (rIx K) (tVar 6) (tVar 7)))) (tRet (tC (.bl false))) tNext))))
    (tRet (tC (.bl true)))))))
def tb__law_names (K : PySem.W.Frag) (mg : Str → Option Value) : TS :=
  (tSeq (tFor (iSeq K (tLst (tCons (tCall (sp__law_bad_name K) [] E0 (tCons (tVar 2) tNil)) (tCons (tC (.str "new")) (tCons (tC (.str "abcdefgh")) tNil))))) (gName 3) (tSeq (tFor (iSeq K (tLst (tCons (tLst (tCons (tC (.str "take")) (tCons (tLst (tCons (tVar 3) tNil)) tNil))) (tCons (tLst (tCons (tC (.str "reached")) (tCons (tLst (tCons (tVar 3) tNil)) tNil))) (tCons (tLst (tCons (tC (.str "at_once")) (tCons (tLst (tCons (tVar 3) (tCons (tOp (rIx K) (tVar 1) (tC (.int 0))) tNil))) tNil))) tNil))))) (gTupL K 2 (gCons (gName 4) (gCons (gName 5) gNil))) (tIfS (tTest (tOp (rNeU K) (tCall (sp__law_refused K mg) [] E0 (tCons (tVar 0) (tCons (tVar 4) (tCons (tVar 5) tNil)))) (tC (.str "name")))) (tRet (tC (.bl false))) tNext))
    (tIfS (tTest (tOp (rNeU K) (tCall (sp__law_refused K mg) [] E0 (tCons (tVar 0) (tCons (tC (.str "at_once")) (tCons (tLst (tCons (tOp (rIx K) (tVar 1) (tOp rModU (tVar 2) (tCB (rLenU K) (tCons (tVar 1) tNil)))) (tCons (tVar 3) tNil))) tNil)))) (tC (.str "name")))) (tRet (tC (.bl false))) tNext)))
    (tRet (tC (.bl true))))
def tb_law (K : PySem.W.Frag) (mg : Str → Option Value) : TS :=
  (tSeq (tAsg (tCall (sp__law_book K) [] E0 (tCons (tVar 0) (tCons (tC (.int 4)) (tCons (tC (.int 6)) (tCons (tC (.int 4)) tNil))))) (gName 1))
    (tSeq (tAsg (tComp [none] (iRng1 (tCons (tCB (rLenU K) (tCons (tVar 1) tNil)) tNil)) (gName 0) tYes (tOp (rIx K) (tC (.str "abcdef")) (tVar 0))) (gName 2))
    (tSeq (tAsg (tMake (clsA mg "Ledger") (sp_Ledger_init K mg) [] E0 tNil) (gName 3))
    (tSeq (tIfS (tNot (tTru K (tCall (sp__law_none K mg) [] E0 (tCons (tVar 3) tNil)))) (tRet (tC (.bl false))) tNext)
    (tSeq (tFor (iZip2m K (tCons (tVar 2) (tCons (tVar 1) tNil))) (gTup K 2 (gCons (gName 4) (gCons (gName 5) gNil))) (tDrop (tMeth (clsA mg "Ledger") "put" (sp_Ledger_put K mg) [] E0 (tVar 3) (tCons (tVar 4) (tCons (tOp (rIx K) (tVar 5) (tC (.int 0))) (tCons (tOp (rIx K) (tVar 5) (tC (.int 1))) tNil))))))
    (tSeq (tAsg (tCall (sp__law_cell K) [] E0 (tCons (tVar 0) (tCons (tC (.int 1)) tNil))) (gName 6))
    (tSeq (tAsg (tOp (rIx K) (tVar 1) (tOp rModU (tVar 6) (tCB (rLenU K) (tCons (tVar 1) tNil)))) (gName 7))
    (tSeq (tIfS (tOr (tNot (tTru K (tCall (sp__law_puts K mg) [] E0 (tCons (tVar 3) (tCons (tVar 2) (tCons (tOp rDivU (tVar 6) (tC (.int 8))) (tCons (tVar 7) tNil))))))) (tNot (tTru K (tCall (sp__law_names K mg) [] E0 (tCons (tVar 3) (tCons (tVar 2) (tCons (tCall (sp__law_cell K) [] E0 (tCons (tVar 0) (tCons (tC (.int 2)) tNil))) tNil))))))) (tRet (tC (.bl false))) tNext)
    (tSeq (tIfS (tOr (tTest (tOp (rNeU K) (tMeth (clsA mg "Ledger") "names" (sp_Ledger_names K mg) [] E0 (tVar 3) tNil) (tVar 2))) (tTest (tOp (rNeU K) (tMeth (clsA mg "Ledger") "book" (sp_Ledger_book K mg) [] E0 (tVar 3) tNil) (tVar 1)))) (tRet (tC (.bl false))) tNext)
    (tSeq (tDrop (tMeth (clsA mg "Ledger") "put" (sp_Ledger_put K mg) [] E0 (tVar 3) (tCons (tC (.str "new")) (tCons (tOp (rIx K) (tVar 7) (tC (.int 0))) (tCons (tOp (rIx K) (tVar 7) (tC (.int 1))) tNil)))))
    (tSeq (tWhile (tTest (tOp rLtU (tCB (rLenU K) (tCons (tMeth (clsA mg "Ledger") "names" (sp_Ledger_names K mg) [] E0 (tVar 3) tNil) tNil)) (tC (.int 8)))) (tDrop (tMeth (clsA mg "Ledger") "put" (sp_Ledger_put K mg) [] E0 (tVar 3) (tCons (tOp rAddS (tC (.str "new")) (tOp (rIx K) (tC (.str "abcdefgh")) (tCB (rLenU K) (tCons (tMeth (clsA mg "Ledger") "names" (sp_Ledger_names K mg) [] E0 (tVar 3) tNil) tNil)))) (tCons (tOp (rIx K) (tVar 7) (tC (.int 0))) (tCons (tOp (rIx K) (tVar 7) (tC (.int 1))) tNil))))))
    (tSeq (tIfS (tOr (tTest (tOp (rNeU K) (tCall (sp__law_refused K mg) [] E0 (tCons (tVar 3) (tCons (tC (.str "put")) (tCons (tLst (tCons (tC (.str "ninth")) (tCons (tOp (rIx K) (tVar 7) (tC (.int 0))) (tCons (tOp (rIx K) (tVar 7) (tC (.int 1))) tNil)))) tNil)))) (tC (.str "book")))) (tTest (tOp (rNeU K) (tCB (rLenU K) (tCons (tMeth (clsA mg "Ledger") "names" (sp_Ledger_names K mg) [] E0 (tVar 3) tNil) tNil)) (tC (.int 8))))) (tRet (tC (.bl false))) tNext)
    (tSeq (tFor (iSeq K (tSl (rSlU K) (tMeth (clsA mg "Ledger") "names" (sp_Ledger_names K mg) [] E0 (tVar 3) tNil) (tPart (tCB (rLenU K) (tCons (tVar 1) tNil))) tNoPart)) (gName 4) (tDrop (tMeth (clsA mg "Ledger") "take" (sp_Ledger_take K mg) [] E0 (tVar 3) (tCons (tVar 4) tNil))))
    (tSeq (tIfS (tOr (tTest (tOp (rNeU K) (tMeth (clsA mg "Ledger") "names" (sp_Ledger_names K mg) [] E0 (tVar 3) tNil) (tVar 2))) (tOr (tTest (tOp (rNeU K) (tMeth (clsA mg "Ledger") "book" (sp_Ledger_book K mg) [] E0 (tVar 3) tNil) (tVar 1))) (tTest (tOp (rNeU K) (tCall (sp__law_refused K mg) [] E0 (tCons (tVar 3) (tCons (tC (.str "take")) (tCons (tLst (tCons (tC (.str "new")) tNil)) tNil)))) (tC (.str "name")))))) (tRet (tC (.bl false))) tNext)
    (tSeq (tFor (iSeq K (tVar 2)) (gName 4) (tDrop (tMeth (clsA mg "Ledger") "take" (sp_Ledger_take K mg) [] E0 (tVar 3) (tCons (tVar 4) tNil))))
    (tSeq (tAsg (tTup (tCons (tOp (rAddU K) (tOp (rIx K) (tVar 7) (tC (.int 0))) (tTup (tCons (tC (.int 3)) tNil))) (tCons (tOp (rAddU K) (tOp (rIx K) (tVar 7) (tC (.int 1))) (tTup (tCons (tC (.int 1)) tNil))) tNil))) (gName 8))
    (tSeq (tDrop (tMeth (clsA mg "Ledger") "put" (sp_Ledger_put K mg) [] E0 (tVar 3) (tCons (tC (.str "other")) (tCons (tOp (rIx K) (tVar 8) (tC (.int 0))) (tCons (tOp (rIx K) (tVar 8) (tC (.int 1))) tNil)))))
    (tRet (tAndV (tOp (rEqU K) (tMeth (clsA mg "Ledger") "book" (sp_Ledger_book K mg) [] E0 (tVar 3) tNil) (tTup (tCons (tVar 8) tNil))) (tOp (rEqU K) (tCall (sp__law_refused K mg) [] E0 (tCons (tVar 3) (tCons (tC (.str "put")) (tCons (tLst (tCons (tC (.str "a")) (tCons (tOp (rIx K) (tVar 7) (tC (.int 0))) (tCons (tOp (rIx K) (tVar 7) (tC (.int 1))) tNil)))) tNil)))) (tC (.str "book"))))))))))))))))))))))
def top (i : Nat) : Stmt := PySem.Challenge.pw_tastesbook_k82_ledger_refuses.main.body.getD i (.Pass ⟨0, 0, 0, 0⟩)
structure Md (K : PySem.W.Frag) (mg : Str → Option Value) : Prop where
  b_ValueError : mg "ValueError" = none
  b_all : mg "all" = none
  b_any : mg "any" = none
  b_bool : mg "bool" = none
  b_int : mg "int" = none
  b_isinstance : mg "isinstance" = none
  b_len : mg "len" = none
  b_list : mg "list" = none
  b_min : mg "min" = none
  b_range : mg "range" = none
  b_sum : mg "sum" = none
  b_tuple : mg "tuple" = none
  b_zip : mg "zip" = none
  c_HIGHEST_AMOUNT : ∃ t, mg "HIGHEST_AMOUNT" = some (.int 1000000000000000000 t)
  c_HIGHEST_PRICE : ∃ t, mg "HIGHEST_PRICE" = some (.int 1000000000 t)
  c_LETTERS : ∃ t, mg "LETTERS" = some (.str "abcdefghijklmnopqrstuvwxyz" t)
  c_LONGEST_NAME : ∃ t, mg "LONGEST_NAME" = some (.int 8 t)
  c_MOST_DAYS : ∃ t, mg "MOST_DAYS" = some (.int 8 t)
  c_MOST_WARES : ∃ t, mg "MOST_WARES" = some (.int 6 t)
  x_NoBook : ExC K mg "NoBook" (clsA mg "NoBook")
  x_NoDay : ExC K mg "NoDay" (clsA mg "NoDay")
  x_NoName : ExC K mg "NoName" (clsA mg "NoName")
  x_NoRow : ExC K mg "NoRow" (clsA mg "NoRow")
  x_NoTaste : ExC K mg "NoTaste" (clsA mg "NoTaste")
  x_NoText : ExC K mg "NoText" (clsA mg "NoText")
  x_TasteError : ExC K mg "TasteError" (clsA mg "TasteError")
  x_Twice : ExC K mg "Twice" (clsA mg "Twice")
  s_NoBook_NoBook : PySem.W.mroIn K (clsA mg "NoBook") (.ref (clsA mg "NoBook")) = some true
  s_NoBook_TasteError : PySem.W.mroIn K (clsA mg "NoBook") (.ref (clsA mg "TasteError")) = some true
  s_NoDay_NoDay : PySem.W.mroIn K (clsA mg "NoDay") (.ref (clsA mg "NoDay")) = some true
  s_NoDay_TasteError : PySem.W.mroIn K (clsA mg "NoDay") (.ref (clsA mg "TasteError")) = some true
  s_NoName_NoName : PySem.W.mroIn K (clsA mg "NoName") (.ref (clsA mg "NoName")) = some true
  s_NoName_TasteError : PySem.W.mroIn K (clsA mg "NoName") (.ref (clsA mg "TasteError")) = some true
  s_NoRow_NoRow : PySem.W.mroIn K (clsA mg "NoRow") (.ref (clsA mg "NoRow")) = some true
  s_NoRow_TasteError : PySem.W.mroIn K (clsA mg "NoRow") (.ref (clsA mg "TasteError")) = some true
  s_NoTaste_NoTaste : PySem.W.mroIn K (clsA mg "NoTaste") (.ref (clsA mg "NoTaste")) = some true
  s_NoTaste_TasteError : PySem.W.mroIn K (clsA mg "NoTaste") (.ref (clsA mg "TasteError")) = some true
  s_NoText_NoText : PySem.W.mroIn K (clsA mg "NoText") (.ref (clsA mg "NoText")) = some true
  s_NoText_TasteError : PySem.W.mroIn K (clsA mg "NoText") (.ref (clsA mg "TasteError")) = some true
  s_TasteError_TasteError : PySem.W.mroIn K (clsA mg "TasteError") (.ref (clsA mg "TasteError")) = some true
  s_Twice_Twice : PySem.W.mroIn K (clsA mg "Twice") (.ref (clsA mg "Twice")) = some true
  s_Twice_TasteError : PySem.W.mroIn K (clsA mg "Twice") (.ref (clsA mg "TasteError")) = some true
  v_NoBook : PySem.W.kitOne K (.ref (clsA mg "NoBook")) (.type "ValueError") = some true
  v_NoDay : PySem.W.kitOne K (.ref (clsA mg "NoDay")) (.type "ValueError") = some true
  v_NoName : PySem.W.kitOne K (.ref (clsA mg "NoName")) (.type "ValueError") = some true
  v_NoRow : PySem.W.kitOne K (.ref (clsA mg "NoRow")) (.type "ValueError") = some true
  v_NoTaste : PySem.W.kitOne K (.ref (clsA mg "NoTaste")) (.type "ValueError") = some true
  v_NoText : PySem.W.kitOne K (.ref (clsA mg "NoText")) (.type "ValueError") = some true
  v_TasteError : PySem.W.kitOne K (.ref (clsA mg "TasteError")) (.type "ValueError") = some true
  v_Twice : PySem.W.kitOne K (.ref (clsA mg "Twice")) (.type "ValueError") = some true
  f_NoBook : ExF K (clsA mg "NoBook")
  j_NoBook_0 : PySem.W.kitAny K (.ref (clsA mg "NoBook")) [.ref (clsA mg "NoDay"), .ref (clsA mg "NoRow"), .ref (clsA mg "NoTaste"), .ref (clsA mg "NoText")] = some false
  ky_NoBook_NoBook : PySem.W.kitOne K (.ref (clsA mg "NoBook")) (.ref (clsA mg "NoBook")) = some true
  ky_NoBook_Twice : PySem.W.kitOne K (.ref (clsA mg "NoBook")) (.ref (clsA mg "Twice")) = some false
  ky_NoBook_NoName : PySem.W.kitOne K (.ref (clsA mg "NoBook")) (.ref (clsA mg "NoName")) = some false
  f_NoName : ExF K (clsA mg "NoName")
  j_NoName_0 : PySem.W.kitAny K (.ref (clsA mg "NoName")) [.ref (clsA mg "NoDay"), .ref (clsA mg "NoRow"), .ref (clsA mg "NoTaste"), .ref (clsA mg "NoText")] = some false
  ky_NoName_NoBook : PySem.W.kitOne K (.ref (clsA mg "NoName")) (.ref (clsA mg "NoBook")) = some false
  ky_NoName_Twice : PySem.W.kitOne K (.ref (clsA mg "NoName")) (.ref (clsA mg "Twice")) = some false
  ky_NoName_NoName : PySem.W.kitOne K (.ref (clsA mg "NoName")) (.ref (clsA mg "NoName")) = some true
  f_Twice : ExF K (clsA mg "Twice")
  j_Twice_0 : PySem.W.kitAny K (.ref (clsA mg "Twice")) [.ref (clsA mg "NoDay"), .ref (clsA mg "NoRow"), .ref (clsA mg "NoTaste"), .ref (clsA mg "NoText")] = some false
  ky_Twice_NoBook : PySem.W.kitOne K (.ref (clsA mg "Twice")) (.ref (clsA mg "NoBook")) = some false
  ky_Twice_Twice : PySem.W.kitOne K (.ref (clsA mg "Twice")) (.ref (clsA mg "Twice")) = some true
  ky_Twice_NoName : PySem.W.kitOne K (.ref (clsA mg "Twice")) (.ref (clsA mg "NoName")) = some false
  nm_Twice_NoName : PySem.W.mroIn K (clsA mg "Twice") (.ref (clsA mg "NoName")) = some false
  nm_NoBook_NoName : PySem.W.mroIn K (clsA mg "NoBook") (.ref (clsA mg "NoName")) = some false
  nm_NoBook_Twice : PySem.W.mroIn K (clsA mg "NoBook") (.ref (clsA mg "Twice")) = some false
  o_Ledger : Own K mg "Ledger" (clsA mg "Ledger")
  na_Ledger_kept : NoAttr K (clsA mg "Ledger") "kept"
  nc_taste_of : NoC K mg "taste_of"
  nc_cut_cuts : NoC K mg "cut_cuts"
  nc_fewest_leaving : NoC K mg "fewest_leaving"
  nc_two_hands_leaving : NoC K mg "two_hands_leaving"
theorem md_mk {K : PySem.W.Frag} {mg : Str → Option Value} {h : Heap} {c_NoBook c_NoDay c_NoName c_NoRow c_NoTaste c_NoText c_TasteError c_Twice : Addr} {t_HIGHEST_AMOUNT t_HIGHEST_PRICE t_LETTERS t_LONGEST_NAME t_MOST_DAYS t_MOST_WARES : Tok} (X : K.In h) (G : h.Ns mainGlobals mg) (n_NoBook : PySem.W.nsIn K mainGlobals "NoBook" = some (some (.ref c_NoBook))) (n_NoDay : PySem.W.nsIn K mainGlobals "NoDay" = some (some (.ref c_NoDay))) (n_NoName : PySem.W.nsIn K mainGlobals "NoName" = some (some (.ref c_NoName))) (n_NoRow : PySem.W.nsIn K mainGlobals "NoRow" = some (some (.ref c_NoRow))) (n_NoTaste : PySem.W.nsIn K mainGlobals "NoTaste" = some (some (.ref c_NoTaste))) (n_NoText : PySem.W.nsIn K mainGlobals "NoText" = some (some (.ref c_NoText))) (n_TasteError : PySem.W.nsIn K mainGlobals "TasteError" = some (some (.ref c_TasteError))) (n_Twice : PySem.W.nsIn K mainGlobals "Twice" = some (some (.ref c_Twice))) (q_NoBook : PySem.W.excIn K c_NoBook bmV "ValueError.__new__" = true) (q_NoDay : PySem.W.excIn K c_NoDay bmV "ValueError.__new__" = true) (q_NoName : PySem.W.excIn K c_NoName bmV "ValueError.__new__" = true) (q_NoRow : PySem.W.excIn K c_NoRow bmV "ValueError.__new__" = true) (q_NoTaste : PySem.W.excIn K c_NoTaste bmV "ValueError.__new__" = true) (q_NoText : PySem.W.excIn K c_NoText bmV "ValueError.__new__" = true) (q_TasteError : PySem.W.excIn K c_TasteError bmV "ValueError.__new__" = true) (q_Twice : PySem.W.excIn K c_Twice bmV "ValueError.__new__" = true) (s_NoBook_NoBook : PySem.W.mroIn K c_NoBook (.ref c_NoBook) = some true) (s_NoBook_TasteError : PySem.W.mroIn K c_NoBook (.ref c_TasteError) = some true) (s_NoDay_NoDay : PySem.W.mroIn K c_NoDay (.ref c_NoDay) = some true) (s_NoDay_TasteError : PySem.W.mroIn K c_NoDay (.ref c_TasteError) = some true) (s_NoName_NoName : PySem.W.mroIn K c_NoName (.ref c_NoName) = some true) (s_NoName_TasteError : PySem.W.mroIn K c_NoName (.ref c_TasteError) = some true) (s_NoRow_NoRow : PySem.W.mroIn K c_NoRow (.ref c_NoRow) = some true) (s_NoRow_TasteError : PySem.W.mroIn K c_NoRow (.ref c_TasteError) = some true) (s_NoTaste_NoTaste : PySem.W.mroIn K c_NoTaste (.ref c_NoTaste) = some true) (s_NoTaste_TasteError : PySem.W.mroIn K c_NoTaste (.ref c_TasteError) = some true) (s_NoText_NoText : PySem.W.mroIn K c_NoText (.ref c_NoText) = some true) (s_NoText_TasteError : PySem.W.mroIn K c_NoText (.ref c_TasteError) = some true) (s_TasteError_TasteError : PySem.W.mroIn K c_TasteError (.ref c_TasteError) = some true) (s_Twice_Twice : PySem.W.mroIn K c_Twice (.ref c_Twice) = some true) (s_Twice_TasteError : PySem.W.mroIn K c_Twice (.ref c_TasteError) = some true) (v_NoBook : PySem.W.kitOne K (.ref c_NoBook) (.type "ValueError") = some true) (v_NoDay : PySem.W.kitOne K (.ref c_NoDay) (.type "ValueError") = some true) (v_NoName : PySem.W.kitOne K (.ref c_NoName) (.type "ValueError") = some true) (v_NoRow : PySem.W.kitOne K (.ref c_NoRow) (.type "ValueError") = some true) (v_NoTaste : PySem.W.kitOne K (.ref c_NoTaste) (.type "ValueError") = some true) (v_NoText : PySem.W.kitOne K (.ref c_NoText) (.type "ValueError") = some true) (v_TasteError : PySem.W.kitOne K (.ref c_TasteError) (.type "ValueError") = some true) (v_Twice : PySem.W.kitOne K (.ref c_Twice) (.type "ValueError") = some true) (ga_NoBook : PySem.W.findIn K (.ref c_NoBook) "__getattribute__" = some (some (.builtin "BaseException.__getattribute__"))) (gn_NoBook : PySem.W.findIn K (.ref c_NoBook) "__getattr__" = some none) (be_NoBook : PySem.W.mroIn K c_NoBook (.type "BaseException") = some true) (at_NoBook : PySem.W.findIn K (.ref c_NoBook) "__class__" = some (some (.builtin "object.__class__"))) (gt_NoBook : PySem.W.specialIn K (.builtin "object.__class__") "__get__" = some (some (.builtin "getset_descriptor.__get__"))) (tk_NoBook : PySem.W.takesIn K (.builtin "object.__class__") = some true) (ob_NoBook : PySem.W.mroIn K c_NoBook (.type "object") = some true) (cl_NoBook : PySem.W.isClsIn K c_NoBook = true) (j_NoBook_0 : PySem.W.kitAny K (.ref c_NoBook) [.ref c_NoDay, .ref c_NoRow, .ref c_NoTaste, .ref c_NoText] = some false) (ky_NoBook_NoBook : PySem.W.kitOne K (.ref c_NoBook) (.ref c_NoBook) = some true) (ky_NoBook_Twice : PySem.W.kitOne K (.ref c_NoBook) (.ref c_Twice) = some false) (ky_NoBook_NoName : PySem.W.kitOne K (.ref c_NoBook) (.ref c_NoName) = some false) (ga_NoName : PySem.W.findIn K (.ref c_NoName) "__getattribute__" = some (some (.builtin "BaseException.__getattribute__"))) (gn_NoName : PySem.W.findIn K (.ref c_NoName) "__getattr__" = some none) (be_NoName : PySem.W.mroIn K c_NoName (.type "BaseException") = some true) (at_NoName : PySem.W.findIn K (.ref c_NoName) "__class__" = some (some (.builtin "object.__class__"))) (gt_NoName : PySem.W.specialIn K (.builtin "object.__class__") "__get__" = some (some (.builtin "getset_descriptor.__get__"))) (tk_NoName : PySem.W.takesIn K (.builtin "object.__class__") = some true) (ob_NoName : PySem.W.mroIn K c_NoName (.type "object") = some true) (cl_NoName : PySem.W.isClsIn K c_NoName = true) (j_NoName_0 : PySem.W.kitAny K (.ref c_NoName) [.ref c_NoDay, .ref c_NoRow, .ref c_NoTaste, .ref c_NoText] = some false) (ky_NoName_NoBook : PySem.W.kitOne K (.ref c_NoName) (.ref c_NoBook) = some false) (ky_NoName_Twice : PySem.W.kitOne K (.ref c_NoName) (.ref c_Twice) = some false) (ky_NoName_NoName : PySem.W.kitOne K (.ref c_NoName) (.ref c_NoName) = some true) (ga_Twice : PySem.W.findIn K (.ref c_Twice) "__getattribute__" = some (some (.builtin "BaseException.__getattribute__"))) (gn_Twice : PySem.W.findIn K (.ref c_Twice) "__getattr__" = some none) (be_Twice : PySem.W.mroIn K c_Twice (.type "BaseException") = some true) (at_Twice : PySem.W.findIn K (.ref c_Twice) "__class__" = some (some (.builtin "object.__class__"))) (gt_Twice : PySem.W.specialIn K (.builtin "object.__class__") "__get__" = some (some (.builtin "getset_descriptor.__get__"))) (tk_Twice : PySem.W.takesIn K (.builtin "object.__class__") = some true) (ob_Twice : PySem.W.mroIn K c_Twice (.type "object") = some true) (cl_Twice : PySem.W.isClsIn K c_Twice = true) (j_Twice_0 : PySem.W.kitAny K (.ref c_Twice) [.ref c_NoDay, .ref c_NoRow, .ref c_NoTaste, .ref c_NoText] = some false) (ky_Twice_NoBook : PySem.W.kitOne K (.ref c_Twice) (.ref c_NoBook) = some false) (ky_Twice_Twice : PySem.W.kitOne K (.ref c_Twice) (.ref c_Twice) = some true) (ky_Twice_NoName : PySem.W.kitOne K (.ref c_Twice) (.ref c_NoName) = some false) (nm_Twice_NoName : PySem.W.mroIn K c_Twice (.ref c_NoName) = some false) (nm_NoBook_NoName : PySem.W.mroIn K c_NoBook (.ref c_NoName) = some false) (nm_NoBook_Twice : PySem.W.mroIn K c_NoBook (.ref c_Twice) = some false) (o_Ledger : Own K mg "Ledger" (clsA mg "Ledger")) (na_Ledger_kept : NoAttr K (clsA mg "Ledger") "kept") (nc_taste_of : NoC K mg "taste_of") (nc_cut_cuts : NoC K mg "cut_cuts") (nc_fewest_leaving : NoC K mg "fewest_leaving") (nc_two_hands_leaving : NoC K mg "two_hands_leaving") (z_ValueError : PySem.W.nsIn K mainGlobals "ValueError" = some none) (z_all : PySem.W.nsIn K mainGlobals "all" = some none) (z_any : PySem.W.nsIn K mainGlobals "any" = some none) (z_bool : PySem.W.nsIn K mainGlobals "bool" = some none) (z_int : PySem.W.nsIn K mainGlobals "int" = some none) (z_isinstance : PySem.W.nsIn K mainGlobals "isinstance" = some none) (z_len : PySem.W.nsIn K mainGlobals "len" = some none) (z_list : PySem.W.nsIn K mainGlobals "list" = some none) (z_min : PySem.W.nsIn K mainGlobals "min" = some none) (z_range : PySem.W.nsIn K mainGlobals "range" = some none) (z_sum : PySem.W.nsIn K mainGlobals "sum" = some none) (z_tuple : PySem.W.nsIn K mainGlobals "tuple" = some none) (z_zip : PySem.W.nsIn K mainGlobals "zip" = some none) (y_HIGHEST_AMOUNT : PySem.W.nsIn K mainGlobals "HIGHEST_AMOUNT" = some (some (.int 1000000000000000000 t_HIGHEST_AMOUNT))) (y_HIGHEST_PRICE : PySem.W.nsIn K mainGlobals "HIGHEST_PRICE" = some (some (.int 1000000000 t_HIGHEST_PRICE))) (y_LETTERS : PySem.W.nsIn K mainGlobals "LETTERS" = some (some (.str "abcdefghijklmnopqrstuvwxyz" t_LETTERS))) (y_LONGEST_NAME : PySem.W.nsIn K mainGlobals "LONGEST_NAME" = some (some (.int 8 t_LONGEST_NAME))) (y_MOST_DAYS : PySem.W.nsIn K mainGlobals "MOST_DAYS" = some (some (.int 8 t_MOST_DAYS))) (y_MOST_WARES : PySem.W.nsIn K mainGlobals "MOST_WARES" = some (some (.int 6 t_MOST_WARES))) : Md K mg := by
  have e_NoBook : clsA mg "NoBook" = c_NoBook := by unfold clsA; rw [PySem.W.mg_of X G n_NoBook]
  have e_NoDay : clsA mg "NoDay" = c_NoDay := by unfold clsA; rw [PySem.W.mg_of X G n_NoDay]
  have e_NoName : clsA mg "NoName" = c_NoName := by unfold clsA; rw [PySem.W.mg_of X G n_NoName]
  have e_NoRow : clsA mg "NoRow" = c_NoRow := by unfold clsA; rw [PySem.W.mg_of X G n_NoRow]
  have e_NoTaste : clsA mg "NoTaste" = c_NoTaste := by unfold clsA; rw [PySem.W.mg_of X G n_NoTaste]
  have e_NoText : clsA mg "NoText" = c_NoText := by unfold clsA; rw [PySem.W.mg_of X G n_NoText]
  have e_TasteError : clsA mg "TasteError" = c_TasteError := by unfold clsA; rw [PySem.W.mg_of X G n_TasteError]
  have e_Twice : clsA mg "Twice" = c_Twice := by unfold clsA; rw [PySem.W.mg_of X G n_Twice]
  exact ⟨PySem.W.mg_none_of X G z_ValueError, PySem.W.mg_none_of X G z_all, PySem.W.mg_none_of X G z_any, PySem.W.mg_none_of X G z_bool, PySem.W.mg_none_of X G z_int, PySem.W.mg_none_of X G z_isinstance, PySem.W.mg_none_of X G z_len, PySem.W.mg_none_of X G z_list, PySem.W.mg_none_of X G z_min, PySem.W.mg_none_of X G z_range, PySem.W.mg_none_of X G z_sum, PySem.W.mg_none_of X G z_tuple, PySem.W.mg_none_of X G z_zip, ⟨_, PySem.W.mg_of X G y_HIGHEST_AMOUNT⟩, ⟨_, PySem.W.mg_of X G y_HIGHEST_PRICE⟩, ⟨_, PySem.W.mg_of X G y_LETTERS⟩, ⟨_, PySem.W.mg_of X G y_LONGEST_NAME⟩, ⟨_, PySem.W.mg_of X G y_MOST_DAYS⟩, ⟨_, PySem.W.mg_of X G y_MOST_WARES⟩, e_NoBook ▸ ⟨PySem.W.mg_of X G n_NoBook, q_NoBook⟩, e_NoDay ▸ ⟨PySem.W.mg_of X G n_NoDay, q_NoDay⟩, e_NoName ▸ ⟨PySem.W.mg_of X G n_NoName, q_NoName⟩, e_NoRow ▸ ⟨PySem.W.mg_of X G n_NoRow, q_NoRow⟩, e_NoTaste ▸ ⟨PySem.W.mg_of X G n_NoTaste, q_NoTaste⟩, e_NoText ▸ ⟨PySem.W.mg_of X G n_NoText, q_NoText⟩, e_TasteError ▸ ⟨PySem.W.mg_of X G n_TasteError, q_TasteError⟩, e_Twice ▸ ⟨PySem.W.mg_of X G n_Twice, q_Twice⟩, by rw [e_NoBook]; exact s_NoBook_NoBook, by rw [e_NoBook, e_TasteError]; exact s_NoBook_TasteError, by rw [e_NoDay]; exact s_NoDay_NoDay, by rw [e_NoDay, e_TasteError]; exact s_NoDay_TasteError, by rw [e_NoName]; exact s_NoName_NoName, by rw [e_NoName, e_TasteError]; exact s_NoName_TasteError, by rw [e_NoRow]; exact s_NoRow_NoRow, by rw [e_NoRow, e_TasteError]; exact s_NoRow_TasteError, by rw [e_NoTaste]; exact s_NoTaste_NoTaste, by rw [e_NoTaste, e_TasteError]; exact s_NoTaste_TasteError, by rw [e_NoText]; exact s_NoText_NoText, by rw [e_NoText, e_TasteError]; exact s_NoText_TasteError, by rw [e_TasteError]; exact s_TasteError_TasteError, by rw [e_Twice]; exact s_Twice_Twice, by rw [e_Twice, e_TasteError]; exact s_Twice_TasteError, by rw [e_NoBook]; exact v_NoBook, by rw [e_NoDay]; exact v_NoDay, by rw [e_NoName]; exact v_NoName, by rw [e_NoRow]; exact v_NoRow, by rw [e_NoTaste]; exact v_NoTaste, by rw [e_NoText]; exact v_NoText, by rw [e_TasteError]; exact v_TasteError, by rw [e_Twice]; exact v_Twice, by rw [e_NoBook]; exact ⟨ga_NoBook, gn_NoBook, be_NoBook, at_NoBook, gt_NoBook, tk_NoBook, ob_NoBook, cl_NoBook⟩, by rw [e_NoBook, e_NoDay, e_NoRow, e_NoTaste, e_NoText]; exact j_NoBook_0, by rw [e_NoBook]; exact ky_NoBook_NoBook, by rw [e_NoBook, e_Twice]; exact ky_NoBook_Twice, by rw [e_NoBook, e_NoName]; exact ky_NoBook_NoName, by rw [e_NoName]; exact ⟨ga_NoName, gn_NoName, be_NoName, at_NoName, gt_NoName, tk_NoName, ob_NoName, cl_NoName⟩, by rw [e_NoName, e_NoDay, e_NoRow, e_NoTaste, e_NoText]; exact j_NoName_0, by rw [e_NoName, e_NoBook]; exact ky_NoName_NoBook, by rw [e_NoName, e_Twice]; exact ky_NoName_Twice, by rw [e_NoName]; exact ky_NoName_NoName, by rw [e_Twice]; exact ⟨ga_Twice, gn_Twice, be_Twice, at_Twice, gt_Twice, tk_Twice, ob_Twice, cl_Twice⟩, by rw [e_Twice, e_NoDay, e_NoRow, e_NoTaste, e_NoText]; exact j_Twice_0, by rw [e_Twice, e_NoBook]; exact ky_Twice_NoBook, by rw [e_Twice]; exact ky_Twice_Twice, by rw [e_Twice, e_NoName]; exact ky_Twice_NoName, by rw [e_Twice, e_NoName]; exact nm_Twice_NoName, by rw [e_NoBook, e_NoName]; exact nm_NoBook_NoName, by rw [e_NoBook, e_Twice]; exact nm_NoBook_Twice, o_Ledger, na_Ledger_kept, nc_taste_of, nc_cut_cuts, nc_fewest_leaving, nc_two_hands_leaving⟩
theorem len_list (x : Str) : x.cps.toList.length = x.length := Array.length_toList
theorem asc_iff {w : Str} : w.cps.all (· < 128) = true ↔ ∀ c ∈ w.cps.toList, c < 128 := by
  rw [← Array.all_toList, List.all_eq_true]
  exact ⟨fun h c hc => by simpa using h c hc, fun h c hc => by simpa using h c hc⟩
theorem ascT.len {w : Str} (h : ascT w) : w.length ≤ 1000 := Nat.le_trans h.2 (by decide)
theorem let_all : ∀ c, c < 128 → (!(Builtin.Str.occurrences ("abcdefghijklmnopqrstuvwxyz" : Str) ⟨#[c]⟩ 0 ("abcdefghijklmnopqrstuvwxyz" : Str).length 1).isEmpty) = (decide (97 ≤ c) && decide (c ≤ 122)) := by decide +kernel
theorem w_lenStr {K : PySem.W.Frag} {H : Hp} {Q : VK} {z : Str} (hz : z.length ≤ 1000) (q : Q (.int (z.length : Nat)) H) : rLenU K [.str z] H Q := ⟨.str z, z.length, rfl, ⟨Nat.le_trans hz (by decide), rfl⟩, q⟩
theorem rd_check {K : PySem.W.Frag} {mg : Str → Option Value} (M : Md K mg) {a : V} {H : Hp} {Q : VK} {E : XK} (h : sb_check K mg a H Q E) : tb_check K mg E (Rt Q) [some a] H := by
  obtain ⟨d, r, q1, q2⟩ := h
  unfold tb_check
  refine w_seq (w_ifS (w_not (w_tru (w_call (w_cons (w_var rfl (w_nil ⟨_, rfl, d, r, fun H1 s1 => w_trub ?_⟩)))))))
  cases e : isBookD d with
  | true => exact iteF (w_nret (w_c (q1 e H1 s1)))
  | false => exact iteT (w_raise (w_cons (w_c (w_nil ⟨by show 1 ≤ sizeLine; decide, q2 e H1 s1⟩))))
theorem rd_is_name {K : PySem.W.Frag} {a : V} {H : Hp} {Q : VK} {E : XK} (h : sb_is_name K a H Q E) : tb_is_name K (Rt Q) [some a] H := by
  obtain ⟨w, rfl, asc, q⟩ := h
  have l9 := asc.len
  have bad : ∀ H', Same H H' → ¬ (1 ≤ w.length ∧ w.length ≤ 8) → Q (.bl false) H' := fun H' s z => by
    have : nameB w = false := by
      unfold nameB
      rw [Bool.and_eq_false_iff]
      left
      rw [Bool.and_eq_false_iff]
      rcases Nat.lt_or_ge w.length 1 with y | y
      · left; exact decide_eq_false (by omega)
      · right; exact decide_eq_false (by omega)
    rw [← this]; exact q H' s
  unfold tb_is_name
  refine w_ret (w_andV (w_chain (w_c (w_cb (w_cons (w_var rfl (w_nil (w_lenStr l9 (w_leI (w_bl (iteD (fun h1 => w_c (w_leI ⟨_, rfl, iteD (fun h2 => ?_) fun h2 => ?_⟩)) fun h1 => ⟨false, rfl, iteF (bad _ (Same.refl _) (by omega))⟩)))))))))))
  · refine w_cb (w_cons (w_comp (w_istr (w_var rfl ⟨w, rfl, asc_iff.mpr asc.1, fun D hD => ?_⟩))))
    refine comp_seq D (w.cps.toList.map fun c => V.str ⟨#[c]⟩) (fun i ys σ2 H2 => ys = ((w.cps.toList.take i).map fun c => decide (97 ≤ c) && decide (c ≤ 122)).map V.bl ∧ Same H H2 ∧ ∃ r0, σ2 = [r0]) (by rw [List.length_map, len_list]; omega) (fun i ys σ H2 h => by rw [h.1, List.length_map, List.length_map, List.length_take]; omega) (fun i ys σ H2 _ _ => its_of _ H2 i) ⟨rfl, Same.laid hD, _, rfl⟩ ?_ ?_
    · rintro i x ys σ2 H2 hx ⟨rfl, s2, r0, rfl⟩ hH
      rw [List.getElem?_map] at hx
      obtain ⟨c, hc, rfl⟩ := Option.map_eq_some_iff.mp hx
      have dg := asc.1 c (List.mem_of_getElem? hc)
      refine w_name (w_yes (iteT (w_op (w_var rfl (w_c ⟨_, _, rfl, rfl, ?_⟩)))))
      rw [let_all c dg]
      refine ⟨hH, ?_, s2.put hD, _, rfl⟩
      rw [List.take_add_one, hc]
      simp
    · rintro ys σ2 H2 ⟨rfl, s2, _⟩ hH
      refine w_nil (w_allA (.inl (SqL.of hH)) ?_)
      have e : (((w.cps.toList.take (w.cps.toList.map fun c => V.str ⟨#[c]⟩).length).map fun c => decide (97 ≤ c) && decide (c ≤ 122)).all id) = nameB w := by
        rw [List.length_map, List.take_length, List.all_map]
        unfold nameB lowB
        rw [decide_eq_true (show 1 ≤ w.length by omega), decide_eq_true (show w.length ≤ 8 by omega)]
        rfl
      rw [e]
      exact q H2 s2
  · exact bad _ (Same.refl _) (by omega)
theorem rd_check_name {K : PySem.W.Frag} {mg : Str → Option Value} (M : Md K mg) {a : V} {H : Hp} {Q : VK} {E : XK} (h : sb_check_name K mg a H Q E) : tb_check_name K mg E (Rt Q) [some a] H := by
  obtain ⟨w, rfl, asc, q1, q2⟩ := h
  unfold tb_check_name
  refine w_ifS (w_not (w_tru (w_call (w_cons (w_var rfl (w_nil ⟨_, rfl, w, rfl, asc, fun H1 s1 => w_trub ?_⟩))))))
  cases e : nameB w with
  | true => exact iteF (w_next (q1 e H1 s1))
  | false => exact iteT (w_raise (w_cons (w_c (w_nil ⟨by show 1 ≤ sizeLine; decide, q2 e H1 s1⟩))))
theorem Led.mono {mg : Str → Option Value} {H H' : Hp} {v : V} {d : Addr} {kvs : Kvs} (s : Same H H') (L : Led mg H v d kvs) : Led mg H' v d kvs := by
  obtain ⟨⟨a, dx, e, h⟩, k, n, l⟩ := L
  exact ⟨⟨a, dx, e, s _ _ h⟩, s _ _ k, n, l⟩
theorem Same.sb {d : Addr} {H H' : Hp} (s : Same H H') : SameB d H H' := fun b o _ h => s b o h
theorem SameB.put {d : Addr} {H H1 : Hp} {o : HO} (s : SameB d H H1) : SameB d H (upd H1 d o) := fun c u n h => by rw [upd_ne n]; exact s c u n h
theorem SameB.tu {d : Addr} {H H' : Hp} {kvs : List (Key × V)} (s : SameB d H H') (hd : H d = some (.dK kvs)) : Tu H H' := fun b xs h => s b _ (fun z => by rw [z, hd] at h; cases h) h
theorem kv_vals (kvs : Kvs) : (dkv kvs).map (·.2) = kvs.map (·.2) := by unfold dkv; rw [List.map_map]; rfl
theorem kv_names (kvs : Kvs) : ((dkv kvs).map fun kv => kV kv.1) = (keysL kvs).map V.str := by unfold dkv; rw [List.map_map, List.map_map]; rfl
theorem kv_val : ∀ (kvs : Kvs) (nm : Str), (valV (dkv kvs) (Sum.inr nm)).isSome = decide (nm ∈ keysL kvs)
  | [], nm => by simp [dkv, valV]
  | p :: kvs, nm => by
    have ih := kv_val kvs nm
    have e : dkv (p :: kvs) = ((Sum.inr p.1 : Key), p.2) :: dkv kvs := rfl
    rw [e, ← valV_any]
    rw [← valV_any] at ih
    rw [List.any_cons, ih]
    by_cases h : p.1 = nm
    · subst h
      simp
    · have h2 : ¬ (Sum.inr p.1 : Key) = Sum.inr nm := fun z => h (Sum.inr.inj z)
      rw [decide_eq_false h2, Bool.false_or]
      have h3 : ¬ nm = p.1 := fun z => h z.symm
      simp [keysL, h3]
theorem Led.fld {mg : Str → Option Value} {H : Hp} {v : V} {d : Addr} {kvs : Kvs} {K : PySem.W.Frag} (M : Md K mg) (L : Led mg H v d kvs) {σ : St} {n : Nat} {Q : VK} (e : σ[n]? = some (some v)) (q : Q (.ref d) H) : tFld K (tVar n) "kept" σ H Q := by
  obtain ⟨⟨a, dx, rfl, h⟩, _⟩ := L
  exact w_fld (w_var e ⟨a, _, dx, _, .ref d, rfl, h, M.o_Ledger.cl, M.na_Ledger_kept, rfl, q⟩)
theorem Led.meth {mg : Str → Option Value} {H : Hp} {v : V} {d : Addr} {kvs : Kvs} (L : Led mg H v d kvs) {σ : St} {n : Nat} {Q : VK} {m : Str} {sp : Sp} {E : XK} {t : TA} (e : σ[n]? = some (some v)) (hm : (m == ("kept" : Str)) = false) (q : t σ H fun vs H2 => sp (v :: (vs ++ [])) H2 Q E) : tMeth (clsA mg "Ledger") m sp [] E (tVar n) t σ H Q := by
  obtain ⟨⟨a, dx, rfl, h⟩, _⟩ := L
  exact w_meth (w_var e ⟨a, dx, _, rfl, h, by rw [List.lookup_cons, hm]; rfl, q⟩)
theorem Led.methD {mg : Str → Option Value} {H : Hp} {v : V} {d : Addr} {kvs : Kvs} (L : Led mg H v d kvs) {σ : St} {n : Nat} {Q : VK} {m : Str} {sp : Sp} {E : XK} {t : TA} (e : σ[n]? = some (some v)) (hm : (m == ("kept" : Str)) = false) (q : t σ H fun vs H2 => sp (v :: (vs ++ [.non])) H2 Q E) : tMeth (clsA mg "Ledger") m sp [.non] E (tVar n) t σ H Q := by
  obtain ⟨⟨a, dx, rfl, h⟩, _⟩ := L
  exact ⟨_, e, a, dx, _, rfl, h, by rw [List.lookup_cons, hm]; rfl, q⟩
theorem Led.get {mg : Str → Option Value} {H : Hp} {v : V} {d : Addr} {kvs : Kvs} (L : Led mg H v d kvs) (nm : Str) : DGet H d (.str nm) (valV (dkv kvs) (Sum.inr nm)) := DGet.k (k := Sum.inr nm) L.kept
theorem rd_Ledger_init {K : PySem.W.Frag} {mg : Str → Option Value} (M : Md K mg) {a : V} {H : Hp} {Q : VK} {E : XK} (h : sb_Ledger_init K mg a H Q E) : tb_Ledger_init K mg (Rt Q) [some a] H := by
  obtain ⟨p, dx, rfl, hp, q⟩ := h
  unfold tb_Ledger_init
  exact w_sfld (w_dnew fun d hd => w_var rfl ⟨p, _, dx, [], rfl, Same.laid hd _ _ hp, M.o_Ledger.cl, M.na_Ledger_kept, by decide, q d hd⟩)
theorem rd_Ledger_check_standing {K : PySem.W.Frag} {mg : Str → Option Value} (M : Md K mg) {a b : V} {H : Hp} {Q : VK} {E : XK} (h : sb_Ledger_check_standing K mg a b H Q E) : tb_Ledger_check_standing K mg E (Rt Q) [some a, some b] H := by
  obtain ⟨d, kvs, nm, L, rfl, q1, q2⟩ := h
  unfold tb_Ledger_check_standing
  refine w_ifS (w_tB (w_dnotin (w_var rfl (L.fld M rfl ⟨d, _, rfl, L.get nm, ⟨_, rfl, ?_⟩⟩))))
  rw [kv_val]
  exact iteN (fun z => w_raise (w_cons (w_c (w_nil ⟨by show 1 ≤ sizeLine; decide, q2 z⟩)))) fun z => w_next (q1 z)
theorem drop_kv (kvs : Kvs) (nm : Str) : dropK (dkv kvs) (Sum.inr nm) = dkv (kvs.filter fun p => !decide (p.1 = nm)) := by
  unfold dropK dkv
  rw [List.filter_map]
  congr 1
  refine List.filter_congr fun p _ => ?_
  show decide ((Sum.inr p.1 : Key) ≠ Sum.inr nm) = !decide (p.1 = nm)
  rw [← key_rr, ← decide_not]
theorem w_dpop1 {td ty : TE} {σ : St} {H : Hp} {Q : VK} (h : td σ H fun x H1 => ∃ a, x = .ref a ∧ IsD H1 a ∧ ty σ H1 fun y H2 => ∃ kvs k v, H2 a = some (.dK kvs) ∧ y = kV k ∧ valV kvs k = some v ∧ Q v (upd H2 a (.dK (dropK kvs k)))) : tDPop1 td ty σ H Q := h
theorem rd_Ledger_take {K : PySem.W.Frag} {mg : Str → Option Value} (M : Md K mg) {a b : V} {H : Hp} {Q : VK} {E : XK} (h : sb_Ledger_take K mg a b H Q E) : tb_Ledger_take K mg E (Rt Q) [some a, some b] H := by
  obtain ⟨d, kvs, nm, L, rfl, q1, q2⟩ := h
  unfold tb_Ledger_take
  refine w_seq (w_drop (L.meth rfl (by decide) (w_cons (w_var rfl (w_nil ⟨_, _, rfl, d, kvs, nm, L, rfl, fun hin => ?_, q2⟩)))))
  refine w_drop (w_dpop1 (L.fld M rfl ⟨d, rfl, .inl ⟨_, .inl L.kept⟩, w_var rfl ?_⟩))
  obtain ⟨v, hv⟩ := Option.isSome_iff_exists.mp (show (valV (dkv kvs) (Sum.inr nm)).isSome = true by rw [kv_val, decide_eq_true hin])
  refine ⟨_, Sum.inr nm, v, L.kept, rfl, hv, q1 hin _ (SameB.put fun b o _ h => h) ?_⟩
  obtain ⟨⟨p, dx, rfl, hp⟩, k, n, l⟩ := L
  refine ⟨⟨p, dx, rfl, by rw [upd_ne (ne_of hp k (by simp))]; exact hp⟩, by rw [upd_same, drop_kv], ?_, Nat.le_trans (List.length_filter_le ..) l⟩
  exact n.sublist (List.filter_sublist.map _)
theorem rd_Ledger_names {K : PySem.W.Frag} {mg : Str → Option Value} (M : Md K mg) {a : V} {H : Hp} {Q : VK} {E : XK} (h : sb_Ledger_names K mg a H Q E) : tb_Ledger_names K mg (Rt Q) [some a] H := by
  obtain ⟨d, kvs, L, q⟩ := h
  unfold tb_Ledger_names
  refine w_ret (w_cb (w_cons (L.fld M rfl (w_nil (w_listD L.kept fun p hp => q p _ (Same.laid hp) hp ?_)))))
  rw [upd_same, kv_names]
theorem w_dvals {td : TE} {σ : St} {H : Hp} {Q : VK} (h : td σ H fun x H1 => ∃ a kvs, x = .ref a ∧ H1 a = some (.dK kvs) ∧ ∀ p, H1 p = none → Q (.ref p) (upd H1 p (.ext (VwP p a)))) : tDVals td σ H Q := h
theorem Led.vals {mg : Str → Option Value} {H : Hp} {v : V} {d : Addr} {kvs : Kvs} {K : PySem.W.Frag} (M : Md K mg) (L : Led mg H v d kvs) {σ : St} {n : Nat} {Q : VK} (e : σ[n]? = some (some v)) (q : ∀ p H', Same H H' → H' p = some (.tup (kvs.map (·.2))) → Q (.ref p) H') : tCB rTupV (tCons (tDVals (tFld K (tVar n) "kept")) tNil) σ H Q := by
  refine w_cb (w_cons (w_dvals (L.fld M e ⟨d, _, rfl, L.kept, fun p hp => w_nil (w_tupV upd_same (Same.laid hp _ _ L.kept) fun t ht => q t _ ((Same.laid hp).laidT ht) ?_)⟩)))
  rw [upd_same, kv_vals]
theorem rd_Ledger_book {K : PySem.W.Frag} {mg : Str → Option Value} (M : Md K mg) {a : V} {H : Hp} {Q : VK} {E : XK} (h : sb_Ledger_book K mg a H Q E) : tb_Ledger_book K mg E (Rt Q) [some a] H := by
  obtain ⟨d, kvs, L, q1, q2⟩ := h
  unfold tb_Ledger_book
  have e : (dkv kvs).length = kvs.length := by unfold dkv; rw [List.length_map]
  refine w_seq (w_ifS (w_test (w_op (w_cb (w_cons (L.fld M rfl (w_nil (w_lenD L.kept (w_c (w_eqI (w_bl (iteD (fun z => ?_) fun z => ?_))))))))))))
  · exact w_raise (w_cons (w_c (w_nil ⟨by show 1 ≤ sizeLine; decide, q1 (List.length_eq_zero_iff.mp (by omega))⟩)))
  · exact w_next (w_ret (L.vals M rfl (q2 fun y => z (by rw [e, y]; rfl))))
theorem first_at {ks : List Str} {nm : Str} (nd : ks.Nodup) {j : Nat} (h : ks[j]? = some nm) : ∀ i, i < j → ks[i]? ≠ some nm := fun i hi z => by
  have h1 := (List.getElem?_eq_some_iff.mp h)
  have h2 := (List.getElem?_eq_some_iff.mp z)
  obtain ⟨a1, b1⟩ := h1
  obtain ⟨a2, b2⟩ := h2
  have e : i = j := (List.getElem_inj nd).mp (b2.trans b1.symm)
  omega
theorem rd_Ledger_number_of {K : PySem.W.Frag} {mg : Str → Option Value} (M : Md K mg) {a b : V} {H : Hp} {Q : VK} {E : XK} (h : sb_Ledger_number_of K mg a b H Q E) : tb_Ledger_number_of K mg E (Rt Q) [some a, some b] H := by
  obtain ⟨d, kvs, nm, L, rfl, q1, q2⟩ := h
  unfold tb_Ledger_number_of
  refine w_seq (w_drop (L.meth rfl (by decide) (w_cons (w_var rfl (w_nil ⟨_, _, rfl, d, kvs, nm, L, rfl, fun hin => ?_, q2⟩)))))
  obtain ⟨j, hj⟩ := List.mem_iff_getElem?.mp hin
  refine w_ret (w_bm (L.meth rfl (by decide) (w_nil ⟨_, rfl, d, kvs, L, fun p H1 s1 _ h1 => ⟨tyV_lst h1, w_cons (w_var rfl (w_nil (w_indexS h1 hj (first_at L.nd hj) (q1 j hj H1 s1))))⟩⟩)))
theorem rd_Ledger_at_once {K : PySem.W.Frag} {mg : Str → Option Value} (M : Md K mg) {a b c : V} {H : Hp} {Q : VK} {E : XK} (h : sb_Ledger_at_once K mg a b c H Q E) : tb_Ledger_at_once K mg E (Rt Q) [some a, some b, some c, none, none] H := by
  obtain ⟨d, kvs, n1, n2, L, rfl, rfl, ho, q⟩ := h
  unfold tb_Ledger_at_once
  refine w_seq (w_asg (L.meth rfl (by decide) (w_cons (w_var rfl (w_nil ⟨_, _, rfl, d, kvs, n1, L, rfl, fun j hj H1 s1 => w_name ?_, fun _ => q H (Same.refl _)⟩)))))
  have hin : n1 ∈ keysL kvs := List.mem_of_getElem? hj
  have no : n2 ∉ keysL kvs := ho.resolve_left fun z => z hin
  try dsimp only
  exact w_seq (w_asg ((L.mono s1).meth rfl (by decide) (w_cons (w_var rfl (w_nil ⟨_, _, rfl, d, kvs, n2, L.mono s1, rfl, fun j hj => absurd (List.mem_of_getElem? hj) no, fun _ => q H1 s1⟩)))))
theorem rd_Ledger_reached {K : PySem.W.Frag} {mg : Str → Option Value} (M : Md K mg) {a b : V} {H : Hp} {Q : VK} {E : XK} (h : sb_Ledger_reached K mg a b H Q E) : tb_Ledger_reached K mg E (Rt Q) [some a, some b, none] H := by
  obtain ⟨d, kvs, nm, L, rfl, no, q⟩ := h
  unfold tb_Ledger_reached
  exact w_seq (w_asg (L.meth rfl (by decide) (w_cons (w_var rfl (w_nil ⟨_, _, rfl, d, kvs, nm, L, rfl, fun j hj => absurd (List.mem_of_getElem? hj) no, fun _ => q⟩)))))
theorem w_callNo {t : TA} {σ : St} {H : Hp} {Q : VK} (h : t σ H fun _ _ => False) : tCallNo t σ H Q := h
theorem Led.no {mg : Str → Option Value} {H : Hp} {v : V} {d : Addr} {K : PySem.W.Frag} (L : Led mg H v d []) {σ : St} {n : Nat} {Q : VK} {E : XK} (e : σ[n]? = some (some v)) (q : E (NoB mg) none H) : tMeth (clsA mg "Ledger") "book" (sp_Ledger_book K mg) [] E (tVar n) tNil σ H Q :=
  L.meth e (by decide) (w_nil ⟨_, rfl, d, [], L, fun _ => q, fun z => absurd rfl z⟩)
theorem rd_Ledger_taste {K : PySem.W.Frag} {mg : Str → Option Value} (M : Md K mg) {a b : V} {H : Hp} {Q : VK} {E : XK} (h : sb_none mg a H Q E) : tb_Ledger_taste K mg E (Rt Q) [some a, some b, none] H := by
  obtain ⟨d, L, q⟩ := h
  unfold tb_Ledger_taste
  exact w_seq (w_asg (w_callNo (w_cons (L.no rfl q))))
theorem rd_Ledger_cut {K : PySem.W.Frag} {mg : Str → Option Value} (M : Md K mg) {a : V} {H : Hp} {Q : VK} {E : XK} (h : sb_none mg a H Q E) : tb_Ledger_cut K mg E (Rt Q) [some a] H := by
  obtain ⟨d, L, q⟩ := h
  unfold tb_Ledger_cut
  exact w_ret (w_callNo (w_cons (L.no rfl q)))
theorem rd_Ledger_fewest {K : PySem.W.Frag} {mg : Str → Option Value} (M : Md K mg) {a : V} {H : Hp} {Q : VK} {E : XK} (h : sb_none mg a H Q E) : tb_Ledger_fewest K mg E (Rt Q) [some a] H := by
  obtain ⟨d, L, q⟩ := h
  unfold tb_Ledger_fewest
  exact w_ret (L.meth rfl (by decide) (w_cons (w_callNo (w_cons (L.no rfl q)))))
theorem rd_Ledger_two_hands {K : PySem.W.Frag} {mg : Str → Option Value} (M : Md K mg) {a : V} {H : Hp} {Q : VK} {E : XK} (h : sb_none mg a H Q E) : tb_Ledger_two_hands K mg E (Rt Q) [some a, none] H := by
  obtain ⟨d, L, q⟩ := h
  unfold tb_Ledger_two_hands
  exact w_seq (w_asg (w_callNo (w_cons (L.no rfl q))))
theorem put_kv {kvs : Kvs} {nm : Str} {v : V} (h : nm ∉ keysL kvs) : putK (dkv kvs) (Sum.inr nm) v = dkv (kvs ++ [(nm, v)]) := by
  have e : valV (dkv kvs) (Sum.inr nm) = none := by
    cases q : valV (dkv kvs) (Sum.inr nm) with
    | none => rfl
    | some x =>
      have := kv_val kvs nm
      rw [q, decide_eq_false h] at this
      cases this
  rw [putK_new v e]
  unfold dkv
  rw [List.map_append]; rfl
theorem rd_Ledger_put {K : PySem.W.Frag} {mg : Str → Option Value} (M : Md K mg) {a b c e : V} {H : Hp} {Q : VK} {E : XK} (h : sb_Ledger_put K mg a b c e H Q E) : tb_Ledger_put K mg E (Rt Q) [some a, some b, some c, some e, none] H := by
  obtain ⟨d, kvs, nm, Ds, d1, d2, L, rfl, asc, rs, r1, r2, q1, q2, q3, q4⟩ := h
  unfold tb_Ledger_put
  refine w_seq (w_drop (w_call (w_cons (w_var rfl (w_nil ⟨_, rfl, nm, rfl, asc, fun hn H1 s1 => ?_, fun hn H1 s1 => q1 hn H1 s1⟩)))))
  have L1 := L.mono s1
  refine w_seq (w_ifS (w_tB (w_din (w_var rfl (L1.fld M rfl ⟨d, _, rfl, L1.get nm, ⟨_, rfl, ?_⟩⟩)))))
  rw [kv_val]
  refine iteD (fun z => w_raise (w_cons (w_c (w_nil ⟨by show 1 ≤ sizeLine; decide, q2 hn z H1 s1⟩)))) fun z => w_next ?_
  try dsimp only
  refine w_seq (w_asg (w_tup (w_cons (w_var rfl (w_cons (w_var rfl (w_nil ⟨by show 2 ≤ sizeLine; decide, fun t ht => w_name ?_⟩)))))))
  try dsimp only
  have s2 := s1.laidT (o := .tup [c, e]) ht
  have e2 := upd_same (H := H1) (a := t) (o := .tup [c, e])
  generalize upd H1 t (.tup [c, e]) = H2 at s2 e2 ⊢
  have L2 := L.mono s2
  refine w_seq (w_drop (w_call (w_cons (w_op (L2.vals M rfl fun p H3 s3 h3 => w_tup (w_cons (w_var rfl (w_nil ⟨by show 1 ≤ sizeLine; decide, fun u hu => ?_⟩))))))))
  have s4 := s3.laidT (o := .tup [.ref t]) hu
  have e4 := upd_same (H := H3) (a := u) (o := .tup [.ref t])
  have e4' := Same.laid (o := .tup [.ref t]) hu _ _ h3
  generalize upd H3 u (.tup [.ref t]) = H4 at s4 e4 e4' ⊢
  refine w_cat e4' e4 (by have := L.len; simp; omega) fun w H5 s5 h5 => w_nil ?_
  have s05 : Same H H5 := (s2.trans s4).trans s5
  have rt : Rep H5 (.ref t) (.tuple [d1, d2]) := rep_tup ((s4.trans s5) _ _ e2) (reps_cons (Rep.mono s05 _ _ r1) (reps_cons (Rep.mono s05 _ _ r2) reps_nil))
  refine ⟨_, rfl, .tuple (Ds ++ [.tuple [d1, d2]]), rep_tup h5 (reps_app (Reps.mono s05 _ _ rs) (reps_cons rt reps_nil)), fun ok H6 s6 => ?_, fun bad H6 s6 => q3 hn z bad H6 (s05.trans s6)⟩
  have s06 := s05.trans s6
  have L6 := L.mono s06
  refine w_dput (w_var rfl (L6.fld M rfl (w_var rfl ⟨d, _, rfl, DPut.k (k := Sum.inr nm) L6.kept ?_, q4 hn z ok t _ (SameB.put (Same.sb s06)) ?_ ?_⟩)))
  · have := L.len
    unfold dkv
    rw [List.length_map, sizeLine_eq]; omega
  · have ht6 : H6 t = some (.tup [c, e]) := ((s4.trans s5).trans s6) _ _ e2
    rw [upd_ne (ne_of ht6 L6.kept (by simp))]
    exact ht6
  · have m8 : kvs.length + 1 ≤ 8 := by
      have r := Reps.length rs
      rw [List.length_map] at r
      have ok2 := ok
      unfold isBookD at ok2
      rw [Bool.and_eq_true, Bool.and_eq_true] at ok2
      have tb := ok2.1.1
      have tb2 : (decide (1 ≤ (Ds ++ [PyData.tuple [d1, d2]]).length) && decide ((Ds ++ [PyData.tuple [d1, d2]]).length ≤ 8)) = true := tb
      rw [Bool.and_eq_true] at tb2
      have := of_decide_eq_true tb2.2
      rw [List.length_append, List.length_singleton] at this
      omega
    obtain ⟨⟨p', dx, rfl, hp⟩, k, n, l⟩ := L6
    refine ⟨⟨p', dx, rfl, by rw [upd_ne (ne_of hp k (by simp))]; exact hp⟩, by rw [upd_same, put_kv z], ?_, by rw [List.length_append, List.length_singleton]; omega⟩
    show ((kvs ++ [(nm, V.ref t)]).map (·.1)).Nodup
    rw [List.map_append]
    have no : ∀ x ∈ keysL kvs, ∀ y ∈ [(nm, V.ref t)].map (·.1), x ≠ y := fun x hx y hy q => by
      have hy' : y = nm := by simpa using hy
      rw [q, hy'] at hx
      exact z hx
    exact List.nodup_append.mpr ⟨n, by simp, no⟩
theorem w_try3 {K : PySem.W.Frag} {D D2 D3 : Addr} {sp : Sp} {t : TA} {ts ts2 ts3 : TS} {Dn : Ends} {σ : St} {H : Hp} (h : t σ H fun vs H1 => sp vs H1 (fun _ H2 => Dn.nx σ H2) (fun cls _ H2 => ∃ C, cls = .ref C ∧ PySem.W.excIn K C bmV "ValueError.__new__" = true ∧ ((PySem.W.mroIn K C (.ref D) = some true ∧ ts Dn σ H2) ∨ (PySem.W.mroIn K C (.ref D) = some false ∧ PySem.W.mroIn K C (.ref D2) = some true ∧ ts2 Dn σ H2) ∨ (PySem.W.mroIn K C (.ref D) = some false ∧ PySem.W.mroIn K C (.ref D2) = some false ∧ PySem.W.mroIn K C (.ref D3) = some true ∧ ts3 Dn σ H2)))) : tTry3 K D D2 D3 sp t ts ts2 ts3 Dn σ H := h
theorem w_tryB {K : PySem.W.Frag} {D : Addr} {i : Nat} {sp : Sp} {t : TA} {ts : Addr → TS} {Dn : Ends} {σ : St} {H : Hp} (h : t σ H fun vs H1 => sp vs H1 (fun _ H2 => Dn.nx σ H2) (fun cls _ H2 => ∃ C, cls = .ref C ∧ PySem.W.excIn K C bmV "ValueError.__new__" = true ∧ PySem.W.mroIn K C (.ref D) = some true ∧ ∀ e, H2 e = none → ts e { nx := fun σ' H' => Dn.nx (σ'.set i none) H', rt := Dn.rt, bk := fun σ' H' => Dn.bk (σ'.set i none) H', ct := fun σ' H' => Dn.ct (σ'.set i none) H' } (σ.set i (some (.ref e))) (upd H2 e (.ext (ExPc e C))))) : tTryB K D i sp t ts Dn σ H := h
theorem w_disp2 {σ : St} {H : Hp} {Q : VK} {tk tv tk2 tv2 : TE} (h : ∀ p, H p = none → tk σ (upd H p (.dK [])) fun x H1 => tv σ H1 fun y H2 => tk2 σ H2 fun x2 H3 => tv2 σ H3 fun y2 H4 => H4 p = some (.dK []) ∧ ∃ kvs : List (Key × V), [(x, y), (x2, y2)] = kvs.map (fun kv => (kV kv.1, kv.2)) ∧ kvs.length ≤ 15 ∧ Q (.ref p) (upd H4 p (.dK (mergeK [] kvs)))) : tDisp [(tk, tv), (tk2, tv2)] σ H Q := h
theorem Refd.mono {H H' : Hp} {kvs : Kvs} {w : Str} {xs : List V} {r : Rk} (s : Same H H') (R : Refd H kvs w xs r) : Refd H' kvs w xs r := by
  rcases R with ⟨hw, nm, p, x, Ds, d1, d2, hx, asc, rs, r1, r2, hr⟩ | R | R | R
  · exact .inl ⟨hw, nm, p, x, Ds, d1, d2, hx, asc, Reps.mono s _ _ rs, Rep.mono s _ _ r1, Rep.mono s _ _ r2, hr⟩
  · exact .inr (.inl R)
  · exact .inr (.inr (.inl R))
  · exact .inr (.inr (.inr R))
section
variable {K : PySem.W.Frag} {σ : St} {H : Hp} {D : Ends} {w c : Str} {A B : TS}
theorem v_skip (e : σ[1]? = some (some (.str w))) (ne : w ≠ c) (h : B D σ H) : tSeq (tIfS (tTest (tOp (rEqU K) (tVar 1) (tC (.str c)))) A tNext) B D σ H := w_seq (w_ifS (w_test (w_op (w_var e (w_c (w_eqS (w_bl (iteDF ne (w_next h)))))))))
theorem v_take (e : σ[1]? = some (some (.str w))) (eq : w = c) (h : A { D with nx := B D } σ H) : tSeq (tIfS (tTest (tOp (rEqU K) (tVar 1) (tC (.str c)))) A tNext) B D σ H := w_seq (w_ifS (w_test (w_op (w_var e (w_c (w_eqS (w_bl (iteDT eq h))))))))
theorem v_last (e : σ[1]? = some (some (.str w))) (eq : w = c) (h : A D σ H) : tIfS (tTest (tOp (rEqU K) (tVar 1) (tC (.str c)))) A tNext D σ H := w_ifS (w_test (w_op (w_var e (w_c (w_eqS (w_bl (iteDT eq h)))))))
end
theorem rd__law_do {K : PySem.W.Frag} {mg : Str → Option Value} (M : Md K mg) {a b c : V} {H : Hp} {Q : VK} {E : XK} (h : sb__law_do K mg a b c H Q E) : tb__law_do K mg E (Rt Q) [some a, some b, some c] H := by
  obtain ⟨d, kvs, w, xs, t, r, L, rfl, rfl, ht, R, q⟩ := h
  unfold tb__law_do
  rcases R with ⟨rfl, nm, p, x, Ds, d1, d2, rfl, asc, rs, r1, r2, hr⟩ | ⟨hw, nm, rfl, no, rfl⟩ | ⟨rfl, n1, n2, rfl, no, rfl⟩ | ⟨hw, rfl, rfl⟩
  · refine v_take rfl rfl (w_drop (L.meth rfl (by decide) (w_cons (w_op (w_var rfl (w_c (w_ixL (v := .str nm) (SqL.of ht) rfl (w_cons (w_op (w_var rfl (w_c (w_ixL (v := p) (SqL.of ht) rfl (w_cons (w_op (w_var rfl (w_c (w_ixL (v := x) (SqL.of ht) rfl (w_nil ⟨_, _, _, _, rfl, d, kvs, nm, Ds, d1, d2, L, rfl, asc, rs, r1, r2, ?_, ?_, ?_, ?_⟩))))))))))))))))))
    · intro z H' s
      rcases hr with ⟨h1, rfl⟩ | ⟨h1, h2, rfl⟩ | ⟨h1, h2, h3, rfl⟩
      · exact q H' s
      · rw [h1] at z; cases z
      · rw [h1] at z; cases z
    · intro z y H' s
      rcases hr with ⟨h1, rfl⟩ | ⟨h1, h2, rfl⟩ | ⟨h1, h2, h3, rfl⟩
      · rw [h1] at z; cases z
      · exact q H' s
      · exact absurd y h2
    · intro z y bad H' s
      rcases hr with ⟨h1, rfl⟩ | ⟨h1, h2, rfl⟩ | ⟨h1, h2, h3, rfl⟩
      · rw [h1] at z; cases z
      · exact absurd h2 y
      · exact q H' s
    · intro z y ok
      rcases hr with ⟨h1, rfl⟩ | ⟨h1, h2, rfl⟩ | ⟨h1, h2, h3, rfl⟩
      · rw [h1] at z; cases z
      · exact absurd h2 y
      · rw [h3] at ok; cases ok
  · rcases hw with rfl | rfl
    · refine v_skip rfl (by decide +kernel) (v_take rfl rfl (w_drop (L.meth rfl (by decide) (w_cons (w_op (w_var rfl (w_c (w_ixL (v := .str nm) (SqL.of ht) rfl (w_nil ⟨_, _, rfl, d, kvs, nm, L, rfl, fun z => absurd z no, fun _ => q H (Same.refl _)⟩)))))))))
    · refine v_skip rfl (by decide +kernel) (v_skip rfl (by decide +kernel) (v_skip rfl (by decide +kernel) (v_take rfl rfl (w_drop (L.meth rfl (by decide) (w_cons (w_op (w_var rfl (w_c (w_ixL (v := .str nm) (SqL.of ht) rfl (w_nil ⟨_, _, rfl, d, kvs, nm, L, rfl, no, q H (Same.refl _)⟩)))))))))))
  · refine v_skip rfl (by decide +kernel) (v_skip rfl (by decide +kernel) (v_take rfl rfl (w_drop (L.meth rfl (by decide) (w_cons (w_op (w_var rfl (w_c (w_ixL (v := .str n1) (SqL.of ht) rfl (w_cons (w_op (w_var rfl (w_c (w_ixL (v := .str n2) (SqL.of ht) rfl (w_nil ⟨_, _, _, rfl, d, kvs, n1, n2, L, rfl, rfl, no, q⟩)))))))))))))))
  · have qq := q H (Same.refl _)
    rcases hw with rfl | rfl | rfl | rfl | rfl
    · exact v_skip rfl (by decide +kernel) (v_skip rfl (by decide +kernel) (v_skip rfl (by decide +kernel) (v_skip rfl (by decide +kernel) (v_take rfl rfl (w_drop (L.no rfl qq))))))
    · exact v_skip rfl (by decide +kernel) (v_skip rfl (by decide +kernel) (v_skip rfl (by decide +kernel) (v_skip rfl (by decide +kernel) (v_skip rfl (by decide +kernel) (v_take rfl rfl (w_drop (L.methD rfl (by decide) (w_nil ⟨_, _, rfl, d, L, qq⟩))))))))
    · exact v_skip rfl (by decide +kernel) (v_skip rfl (by decide +kernel) (v_skip rfl (by decide +kernel) (v_skip rfl (by decide +kernel) (v_skip rfl (by decide +kernel) (v_skip rfl (by decide +kernel) (v_take rfl rfl (w_drop (L.meth rfl (by decide) (w_nil ⟨_, rfl, d, L, qq⟩)))))))))
    · exact v_skip rfl (by decide +kernel) (v_skip rfl (by decide +kernel) (v_skip rfl (by decide +kernel) (v_skip rfl (by decide +kernel) (v_skip rfl (by decide +kernel) (v_skip rfl (by decide +kernel) (v_skip rfl (by decide +kernel) (v_take rfl rfl (w_drop (L.meth rfl (by decide) (w_nil ⟨_, rfl, d, L, qq⟩))))))))))
    · exact v_skip rfl (by decide +kernel) (v_skip rfl (by decide +kernel) (v_skip rfl (by decide +kernel) (v_skip rfl (by decide +kernel) (v_skip rfl (by decide +kernel) (v_skip rfl (by decide +kernel) (v_skip rfl (by decide +kernel) (v_skip rfl (by decide +kernel) (v_last rfl rfl (w_drop (L.meth rfl (by decide) (w_nil ⟨_, rfl, d, L, qq⟩)))))))))))
def kd3 (b1 b2 b3 : Bool) : List (Key × V) := [(Sum.inr "name", .bl b1), (Sum.inr "twice", .bl b2), (Sum.inr "book", .bl b3)]
theorem ne_nt : ¬ (Sum.inr ("name" : Str) : Key) = (Sum.inr ("twice" : Str) : Key) := by decide +kernel
theorem ne_nb : ¬ (Sum.inr ("name" : Str) : Key) = (Sum.inr ("book" : Str) : Key) := by decide +kernel
theorem ne_tb : ¬ (Sum.inr ("twice" : Str) : Key) = (Sum.inr ("book" : Str) : Key) := by decide +kernel
theorem kd_two (b1 b2 : Bool) : mergeK [] [(Sum.inr "name", V.bl b1), (Sum.inr "twice", V.bl b2)] = [((Sum.inr "name" : Key), V.bl b1), (Sum.inr "twice", .bl b2)] := by
  unfold mergeK
  rw [List.foldl_cons, List.foldl_cons, List.foldl_nil, putK_new _ valV_nil, List.nil_append, putK_new]
  · rfl
  · exact (valV_neg ne_nt).trans rfl
theorem kd_three (b1 b2 b3 : Bool) : putK [((Sum.inr "name" : Key), V.bl b1), (Sum.inr "twice", .bl b2)] (Sum.inr "book") (.bl b3) = kd3 b1 b2 b3 := by
  rw [putK_new]
  · rfl
  · exact (valV_neg ne_nb).trans ((valV_neg ne_tb).trans rfl)
theorem kd_n (b1 b2 b3 : Bool) : valV (kd3 b1 b2 b3) (Sum.inr "name") = some (.bl b1) := valV_pos rfl
theorem kd_t (b1 b2 b3 : Bool) : valV (kd3 b1 b2 b3) (Sum.inr "twice") = some (.bl b2) := (valV_neg ne_nt).trans (valV_pos rfl)
theorem kd_b (b1 b2 b3 : Bool) : valV (kd3 b1 b2 b3) (Sum.inr "book") = some (.bl b3) := (valV_neg ne_nb).trans ((valV_neg ne_tb).trans (valV_pos rfl))
structure RkF (K : PySem.W.Frag) (mg : Str → Option Value) (r : Rk) (b1 b2 b3 : Bool) : Prop where
  q : PySem.W.excIn K (r.cls mg) bmV "ValueError.__new__" = true
  st : PySem.W.mroIn K (r.cls mg) (.ref (clsA mg "TasteError")) = some true
  f : ExF K (r.cls mg)
  k1 : PySem.W.kitOne K (.ref (r.cls mg)) (.ref (clsA mg "NoName")) = some b1
  k2 : PySem.W.kitOne K (.ref (r.cls mg)) (.ref (clsA mg "Twice")) = some b2
  k3 : PySem.W.kitOne K (.ref (r.cls mg)) (.ref (clsA mg "NoBook")) = some b3
  kv : PySem.W.kitOne K (.ref (r.cls mg)) (.type "ValueError") = some true
  j : PySem.W.kitAny K (.ref (r.cls mg)) [.ref (clsA mg "NoDay"), .ref (clsA mg "NoRow"), .ref (clsA mg "NoTaste"), .ref (clsA mg "NoText")] = some false
  e1 : b1 = decide (("name" : Str) = r.txt)
  e2 : b2 = decide (("twice" : Str) = r.txt)
  e3 : b3 = decide (("book" : Str) = r.txt)
theorem rkf {K : PySem.W.Frag} {mg : Str → Option Value} (M : Md K mg) (r : Rk) : ∃ b1 b2 b3, RkF K mg r b1 b2 b3 := by
  cases r
  · exact ⟨_, _, _, M.x_NoName.q, M.s_NoName_TasteError, M.f_NoName, M.ky_NoName_NoName, M.ky_NoName_Twice, M.ky_NoName_NoBook, M.v_NoName, M.j_NoName_0, by decide +kernel, by decide +kernel, by decide +kernel⟩
  · exact ⟨_, _, _, M.x_Twice.q, M.s_Twice_TasteError, M.f_Twice, M.ky_Twice_NoName, M.ky_Twice_Twice, M.ky_Twice_NoBook, M.v_Twice, M.j_Twice_0, by decide +kernel, by decide +kernel, by decide +kernel⟩
  · exact ⟨_, _, _, M.x_NoBook.q, M.s_NoBook_TasteError, M.f_NoBook, M.ky_NoBook_NoName, M.ky_NoBook_Twice, M.ky_NoBook_NoBook, M.v_NoBook, M.j_NoBook_0, by decide +kernel, by decide +kernel, by decide +kernel⟩
theorem rd__law_refused {K : PySem.W.Frag} {mg : Str → Option Value} (M : Md K mg) {a b c : V} {H : Hp} {Q : VK} {E : XK} (h : sb__law_refused K mg a b c H Q E) : tb__law_refused K mg (Rt Q) [some a, some b, some c, none, none, none, none] H := by
  obtain ⟨d, kvs, w, xs, t, r, L, rfl, rfl, ht, R, q⟩ := h
  unfold tb__law_refused
  refine w_seq (w_asg (w_c (w_name ?_)))
  try dsimp only
  refine w_seqI (fun σ' H' => σ' = [some a, some (.str w), some (.ref t), some (.str r.txt), none, none, none] ∧ Same H H') (fun R' kk => ?_) ?_
  · refine w_try3 (w_cons (w_var rfl (w_cons (w_var rfl (w_cons (w_var rfl (w_nil ⟨_, _, _, rfl, d, kvs, w, xs, t, r, L, rfl, rfl, ht, R, fun H1 s1 => ⟨_, rfl, ?_⟩⟩)))))))
    cases r
    · exact ⟨M.x_NoName.q, .inl ⟨M.s_NoName_NoName, w_asg (w_c (w_name (kk _ _ ⟨rfl, s1⟩)))⟩⟩
    · exact ⟨M.x_Twice.q, .inr (.inl ⟨M.nm_Twice_NoName, M.s_Twice_Twice, w_asg (w_c (w_name (kk _ _ ⟨rfl, s1⟩)))⟩)⟩
    · exact ⟨M.x_NoBook.q, .inr (.inr ⟨M.nm_NoBook_NoName, M.nm_NoBook_Twice, M.s_NoBook_NoBook, w_asg (w_c (w_name (kk _ _ ⟨rfl, s1⟩)))⟩)⟩
  rintro σ' H1 ⟨rfl, s1⟩
  obtain ⟨b1, b2, b3, F⟩ := rkf M r
  refine w_seq (w_tryB (w_cons (w_var rfl (w_cons (w_var rfl (w_cons (w_var rfl (w_nil ⟨_, _, _, rfl, d, kvs, w, xs, t, r, L.mono s1, rfl, rfl, s1 _ _ ht, R.mono s1, fun H2 s2 => ⟨_, rfl, F.q, F.st, fun e he => ?_⟩⟩))))))))
  have s3 := (s1.trans s2).laidT (o := .ext (ExPc e (r.cls mg))) he
  have e3 := upd_same (H := H2) (a := e) (o := .ext (ExPc e (r.cls mg)))
  generalize upd H2 e (.ext (ExPc e (r.cls mg))) = H3 at s3 e3 ⊢
  try dsimp only
  refine w_seq (w_asg (w_disp2 fun p hp => w_c (w_cb (w_cons (w_var rfl (w_cons (w_c (w_nil ⟨e, _, b1, Same.laid hp _ _ e3, F.f, ?_, .inr (.inl ⟨_, rfl, F.k1⟩)⟩))))))))
  refine w_c (w_cb (w_cons (w_var rfl (w_cons (w_c (w_nil ⟨e, _, b2, Same.laid hp _ _ e3, F.f, ?_, .inr (.inl ⟨_, rfl, F.k2⟩)⟩))))))
  refine ⟨upd_same, [(Sum.inr "name", .bl b1), (Sum.inr "twice", .bl b2)], rfl, by show 2 ≤ 15; decide, w_name ?_⟩
  rw [kd_two, upd_upd]
  have hp0 : H p = none := by
    cases z : H p with
    | none => rfl
    | some u => rw [s3 _ _ z] at hp; cases hp
  have nep : e ≠ p := fun z => by rw [z, hp] at e3; cases e3
  try dsimp only
  refine w_seq (w_dput (w_cb (w_cons (w_var rfl (w_cons (w_c (w_nil ⟨e, _, b3, by rw [upd_ne nep]; exact e3, F.f, ?_, .inr (.inl ⟨_, rfl, F.k3⟩)⟩)))))))
  refine w_var rfl (w_c ⟨p, _, rfl, DPut.k (k := Sum.inr "book") upd_same (by show 2 < sizeLine; decide), ?_⟩)
  rw [kd_three, upd_upd]
  have s5 : Same H (upd H3 p (.dK (kd3 b1 b2 b3))) := s3.put hp0
  have e5 : upd H3 p (.dK (kd3 b1 b2 b3)) e = some (.ext (ExPc e (r.cls mg))) := by rw [upd_ne nep]; exact e3
  have d5 := upd_same (H := H3) (a := p) (o := .dK (kd3 b1 b2 b3))
  generalize upd H3 p (.dK (kd3 b1 b2 b3)) = H5 at s5 e5 d5 ⊢
  try dsimp only
  refine w_seq (w_ifS (w_or (w_not (w_tru (w_cb (w_cons (w_var rfl (w_cons (w_c (w_nil ⟨e, _, true, e5, F.f, w_trub (iteF ?_), .inl ⟨"ValueError", rfl, F.kv⟩⟩))))))))))
  refine w_tru (w_cb (w_cons (w_var rfl (w_cons (w_tup (w_cons (w_c (w_cons (w_c (w_cons (w_c (w_cons (w_c (w_nil ⟨by show 4 ≤ sizeLine; decide, fun tp htp => w_nil ?_⟩))))))))))))))
  have s6 := s5.laidT (o := .tup [.ref (clsA mg "NoDay"), .ref (clsA mg "NoRow"), .ref (clsA mg "NoTaste"), .ref (clsA mg "NoText")]) htp
  have e6 := Same.laid (o := .tup [.ref (clsA mg "NoDay"), .ref (clsA mg "NoRow"), .ref (clsA mg "NoTaste"), .ref (clsA mg "NoText")]) htp _ _ e5
  have d6 := Same.laid (o := .tup [.ref (clsA mg "NoDay"), .ref (clsA mg "NoRow"), .ref (clsA mg "NoTaste"), .ref (clsA mg "NoText")]) htp _ _ d5
  refine ⟨e, _, false, e6, F.f, w_trub (iteF (w_next ?_)), .inr (.inr ⟨tp, [clsA mg "NoDay", clsA mg "NoRow", clsA mg "NoTaste", clsA mg "NoText"], rfl, upd_same, F.j⟩)⟩
  generalize upd H5 tp (.tup [.ref (clsA mg "NoDay"), .ref (clsA mg "NoRow"), .ref (clsA mg "NoTaste"), .ref (clsA mg "NoText")]) = H6 at s6 e6 d6 ⊢
  try dsimp only
  refine w_seq (w_forH (d := p) (kvs := kd3 b1 b2 b3) (ks := ["name", "twice", "book"]) rfl d6 rfl (fun o i σ' H' => H' = upd H6 p (.frz o (.dK (kd3 b1 b2 b3))) ∧ ∃ r6, σ' = [some a, some (.str w), some (.ref t), some (.str r.txt), some (.ref e), some (.ref p), r6]) (fun o => ⟨rfl, _, rfl⟩) (fun o i σ' H' z => ?_) (fun o i x σ' H' hx z => ?_) fun o σ' H' z => ?_)
  · obtain ⟨rfl, _⟩ := z
    exact ⟨upd_same, _, by rw [upd_ne nep]; exact e6⟩
  · obtain ⟨rfl, r6, rfl⟩ := z
    have fin : ∀ bb, valV (kd3 b1 b2 b3) (Sum.inr x) = some (.bl bb) → bb = decide (x = r.txt) → gName 6 (.str x) [some a, some (.str w), some (.ref t), some (.str r.txt), some (.ref e), some (.ref p), r6] (upd H6 p (.frz o (.dK (kd3 b1 b2 b3)))) fun σ2 H2 => tIfS (tTest (tOp (rNeU K) (tDGet (tVar 5) (tVar 6)) (tOp (rEqU K) (tVar 6) (tVar 3)))) (tRet (tC (.str "other"))) tNext { (Ends.held { nx := fun σ' H' => (tRet (tVar 3)) { nx := fun σ' H' => (tRet (tC (.str ""))) (Rt Q) (σ'.set 4 none) H', rt := Q, bk := fun σ' H' => (Rt Q).bk (σ'.set 4 none) H', ct := fun σ' H' => (Rt Q).ct (σ'.set 4 none) H' } σ' H', rt := Q, bk := fun σ' H' => (Rt Q).bk (σ'.set 4 none) H', ct := fun σ' H' => (Rt Q).ct (σ'.set 4 none) H' } p o (kd3 b1 b2 b3)) with nx := fun σ' H' => H' = upd H6 p (.frz o (.dK (kd3 b1 b2 b3))) ∧ ∃ r6, σ' = [some a, some (.str w), some (.ref t), some (.str r.txt), some (.ref e), some (.ref p), r6], ct := fun σ' H' => H' = upd H6 p (.frz o (.dK (kd3 b1 b2 b3))) ∧ ∃ r6, σ' = [some a, some (.str w), some (.ref t), some (.str r.txt), some (.ref e), some (.ref p), r6], bk := (Ends.held { nx := fun σ' H' => (tRet (tVar 3)) { nx := fun σ' H' => (tRet (tC (.str ""))) (Rt Q) (σ'.set 4 none) H', rt := Q, bk := fun σ' H' => (Rt Q).bk (σ'.set 4 none) H', ct := fun σ' H' => (Rt Q).ct (σ'.set 4 none) H' } σ' H', rt := Q, bk := fun σ' H' => (Rt Q).bk (σ'.set 4 none) H', ct := fun σ' H' => (Rt Q).ct (σ'.set 4 none) H' } p o (kd3 b1 b2 b3)).nx } σ2 H2 := fun bb hv hb => w_name (w_ifS (w_test (w_op (w_dget (w_var rfl (w_var rfl ⟨p, .bl bb, rfl, hv ▸ DGet.f (k := Sum.inr x) upd_same, w_op (w_var rfl (w_var rfl (w_eqS (w_neB (w_bl (iteNF hb (w_next ⟨rfl, _, rfl⟩)))))))⟩))))))
    rcases three_of hx with rfl | rfl | rfl
    · exact fin _ (kd_n b1 b2 b3) F.e1
    · exact fin _ (kd_t b1 b2 b3) F.e2
    · exact fin _ (kd_b b1 b2 b3) F.e3
  · obtain ⟨rfl, r6, rfl⟩ := z
    exact w_ret (w_var rfl (q _ ((s6.put hp0).put hp0)))
def badW : List Str := ["", "abcdefghi", "A", "a1", "a b", " a", "a ", "aB", "a-", "1", " ", "a_"]
theorem badW_ok : (badW.all fun w => (w.cps.toList.all fun c => decide (c < 128)) && decide (w.length ≤ 900) && !nameB w) = true := by decide +kernel
theorem badW_at {w : Str} (h : w ∈ badW) : ascT w ∧ nameB w = false := by
  have z := List.all_eq_true.mp badW_ok w h
  rw [Bool.and_eq_true, Bool.and_eq_true, List.all_eq_true] at z
  exact ⟨⟨fun c hc => of_decide_eq_true (z.1.1 c hc), of_decide_eq_true z.1.2⟩, by simpa using z.2⟩
theorem rd__law_bad_name {K : PySem.W.Frag} {a : V} {H : Hp} {Q : VK} {E : XK} (h : sb__law_bad_name K a H Q E) : tb__law_bad_name K (Rt Q) [some a, none] H := by
  obtain ⟨c, rfl, q⟩ := h
  unfold tb__law_bad_name
  refine w_seq (w_asg (w_lst (w_cons (w_c (w_cons (w_c (w_cons (w_c (w_cons (w_c (w_cons (w_c (w_cons (w_c (w_cons (w_c (w_cons (w_c (w_cons (w_c (w_cons (w_c (w_cons (w_c (w_cons (w_c (w_nil ⟨by show 12 ≤ sizeLine; decide, fun t ht => w_name ?_⟩)))))))))))))))))))))))))))
  try dsimp only
  have hl : upd H t (.lst (badW.map V.str)) t = some (.lst (badW.map V.str)) := upd_same
  obtain ⟨i, ei, hi⟩ := emod_at (c := c) (n := 12) (by decide)
  have hi' : i < badW.length := hi
  refine w_ret (w_op (w_var rfl (w_op (w_var rfl (w_c (w_modI (by decide) ?_))))))
  have ei' : c % 12 = (i : Int) := ei
  rw [ei']
  obtain ⟨a1, a2⟩ := badW_at (List.getElem_mem hi')
  exact w_ixL (v := .str badW[i]) (SqL.of hl) (atI_nat (by rw [List.getElem?_map, List.getElem?_eq_getElem hi']; rfl)) (q _ _ (Same.laid ht) a1 a2)
def BadsP (P : PyData → Prop) (H : Hp) (xs : List V) : Prop := ∀ x ∈ xs, ∃ d, Rep H x d ∧ P d
theorem BadsP.mono {P : PyData → Prop} {H H' : Hp} {xs : List V} (s : Same H H') (b : BadsP P H xs) : BadsP P H' xs := fun x hx => by
  obtain ⟨d, r, z⟩ := b x hx
  exact ⟨d, Rep.mono s _ _ r, z⟩
theorem BadsP.cons {P : PyData → Prop} {H : Hp} {v : V} {xs : List V} {d : PyData} (r : Rep H v d) (z : P d) (b : BadsP P H xs) : BadsP P H (v :: xs) := fun x hx => by
  rcases List.mem_cons.mp hx with e | e
  · subst e; exact ⟨d, r, z⟩
  · exact b x e
theorem BadsP.app {P : PyData → Prop} {H : Hp} {xs ys : List V} (a : BadsP P H xs) (b : BadsP P H ys) : BadsP P H (xs ++ ys) := fun x hx => by
  rcases List.mem_append.mp hx with e | e
  · exact a x e
  · exact b x e
def DatE (te : TE) (σ : St) (H : Hp) (P : PyData → Prop) : Prop := ∀ R : VK, (∀ v H1 d, Same H H1 → Rep H1 v d → P d → R v H1) → te σ H R
def Items (P : PyData → Prop) (n : Nat) (t : TA) (σ : St) (H : Hp) : Prop := ∀ R : List V → Hp → Prop, (∀ ys H1, Same H H1 → BadsP P H1 ys → ys.length = n → R ys H1) → t σ H R
theorem it_nil {P : PyData → Prop} {σ : St} {H : Hp} : Items P 0 tNil σ H := fun R k => w_nil (k [] H (Same.refl _) (fun x hx => by simp at hx) rfl)
theorem it_cons {P : PyData → Prop} {n : Nat} {te : TE} {t : TA} {σ : St} {H : Hp} (he : DatE te σ H P) (ht : ∀ H1, Same H H1 → Items P n t σ H1) : Items P (n + 1) (tCons te t) σ H :=
  fun R k => w_cons (he _ fun v H1 d s1 r1 b1 => ht H1 s1 _ fun ys H2 s2 b2 hl => k (v :: ys) H2 (s1.trans s2) (BadsP.cons (Rep.mono s2 _ _ r1) b1 b2) (by simp; omega))
theorem isDay2 (x y : PyData) : isDayD (.tuple [x, y]) = (arePricesD x && areAmtsD y && decide ((itemsD x).length = (itemsD y).length)) := by
  first | rfl | simp [isDayD, isTupD, itemsD]
def PrB (n : Nat) (d : PyData) : Prop := ∃ d1 d2, d = .tuple [d1, d2] ∧ BadD n d
theorem bp {n : Nat} {x y : PyData} (h : arePricesD x = false) : PrB n (.tuple [x, y]) := ⟨x, y, rfl, .inl (by rw [isDay2, h]; rfl)⟩
theorem ba {n : Nat} {x y : PyData} (h : areAmtsD y = false) : PrB n (.tuple [x, y]) := ⟨x, y, rfl, .inl (by rw [isDay2, h, Bool.and_false]; rfl)⟩
theorem bl {n : Nat} {x y : PyData} (h : (itemsD x).length ≠ (itemsD y).length) : PrB n (.tuple [x, y]) := ⟨x, y, rfl, .inl (by rw [isDay2, decide_eq_false h, Bool.and_false])⟩
theorem bw {n : Nat} {x y : PyData} (h : (itemsD x).length ≠ n) : PrB n (.tuple [x, y]) := ⟨x, y, rfl, .inr h⟩
theorem all_set_false {f : PyData → Bool} {ds : List PyData} {j : Nat} {e : PyData} (hj : j < ds.length) (he : f e = false) : (ds.set j e).all f = false := by
  rw [List.all_eq_false]
  exact ⟨e, List.mem_set hj e, by rw [he]; decide⟩
theorem prices_set {ds : List PyData} {j : Nat} {e : PyData} (hj : j < ds.length) (he : isPriceD e = false) : arePricesD (.tuple (ds.set j e)) = false := by
  show (isTupD 1 6 (.tuple (ds.set j e)) && (ds.set j e).all isPriceD) = false
  rw [all_set_false hj he, Bool.and_false]
theorem amts_set {ds : List PyData} {j : Nat} {e : PyData} (hj : j < ds.length) (he : isAmtD e = false) : areAmtsD (.tuple (ds.set j e)) = false := by
  show (isTupD 1 6 (.tuple (ds.set j e)) && (ds.set j e).all isAmtD && (ds.set j e).any posD) = false
  rw [all_set_false hj he, Bool.and_false, Bool.false_and]
theorem amts_zero {ns : List Int} (h : ∀ x ∈ ns, x = 0) : areAmtsD (.tuple (ns.map .int)) = false := by
  show (isTupD 1 6 (.tuple (ns.map .int)) && (ns.map PyData.int).all isAmtD && (ns.map PyData.int).any posD) = false
  have e : (ns.map PyData.int).any posD = false := by
    rw [List.any_eq_false]
    intro x hx
    obtain ⟨i, hi, rfl⟩ := List.mem_map.mp hx
    rw [h i hi]; decide
  rw [e, Bool.and_false]
theorem pr_lo {i : Int} (h : i < 1) : isPriceD (.int i) = false := by
  show (decide (1 ≤ i) && decide (i ≤ 1000000000)) = false
  rw [decide_eq_false (by omega)]; rfl
theorem pr_hi {i : Int} (h : 1000000000 < i) : isPriceD (.int i) = false := by
  show (decide (1 ≤ i) && decide (i ≤ 1000000000)) = false
  rw [decide_eq_false (show ¬ i ≤ 1000000000 by omega), Bool.and_false]
theorem am_lo {i : Int} (h : i < 0) : isAmtD (.int i) = false := by
  show (decide (0 ≤ i) && decide (i ≤ 1000000000000000000)) = false
  rw [decide_eq_false (by omega)]; rfl
theorem am_hi {i : Int} (h : 1000000000000000000 < i) : isAmtD (.int i) = false := by
  show (decide (0 ≤ i) && decide (i ≤ 1000000000000000000)) = false
  rw [decide_eq_false (show ¬ i ≤ 1000000000000000000 by omega), Bool.and_false]
section
variable {K : PySem.W.Frag} {te te1 te2 : TE} {σ : St} {H : Hp} {P P1 P2 : PyData → Prop}
theorem dat_var {n : Nat} {v : V} {d : PyData} (e : σ[n]? = some (some v)) (r : Rep H v d) (p : P d) : DatE (tVar n) σ H P := fun R k => w_var e (k _ _ _ (Same.refl _) r p)
theorem dat_c {v : V} {d : PyData} (r : Rep H v d) (p : P d) : DatE (tC v) σ H P := fun R k => w_c (k _ _ _ (Same.refl _) r p)
theorem dat_tup0 (p : P (.tuple [])) : DatE (tTup tNil) σ H P := fun R k => w_tup (w_nil ⟨Nat.zero_le _, fun q hq => k _ _ _ (Same.laid hq) (rep_tup upd_same reps_nil) p⟩)
theorem dat_one (p : P (.tuple [.int 1])) : DatE (tTup (tCons (tC (.int 1)) tNil)) σ H P := fun R k => w_tup (w_cons (w_c (w_nil ⟨by show 1 ≤ sizeLine; decide, fun q hq => k _ _ _ (Same.laid hq) (rep_tup upd_same (reps_cons rep_int reps_nil)) p⟩)))
theorem dat_lst1 (p : P (.list [.int 1])) : DatE (tLst (tCons (tC (.int 1)) tNil)) σ H P := fun R k => w_lst (w_cons (w_c (w_nil ⟨by show 1 ≤ sizeLine; decide, fun q hq => k _ _ _ (Same.laid hq) (rep_lst upd_same (reps_cons rep_int reps_nil)) p⟩)))
theorem dat_dnew (p : P (.dict [])) : DatE tDNew σ H P := fun R k => w_dnew fun q hq => k _ _ _ (Same.laid hq) (rep_dict upd_same) p
theorem dat_tup2 (h1 : DatE te1 σ H P1) (h2 : ∀ H1, Same H H1 → DatE te2 σ H1 P2) (hP : ∀ d1 d2, P1 d1 → P2 d2 → P (.tuple [d1, d2])) : DatE (tTup (tCons te1 (tCons te2 tNil))) σ H P :=
  fun R k => w_tup (w_cons (h1 _ fun v1 H1 d1 s1 r1 p1 => w_cons (h2 H1 s1 _ fun v2 H2 d2 s2 r2 p2 => w_nil ⟨by show 2 ≤ sizeLine; decide, fun p hp => k _ _ _ ((s1.trans s2).laidT hp) (rep_tup upd_same (reps_cons (Rep.mono (s2.laidT hp) _ _ r1) (reps_cons (Rep.mono (Same.laid hp) _ _ r2) reps_nil))) (hP d1 d2 p1 p2)⟩)))
theorem dat_list {n : Nat} {p : Addr} {xs : List V} {ds : List PyData} (e : σ[n]? = some (some (.ref p))) (h : H p = some (.tup xs)) (rs : Reps H xs ds) (hP : P (.list ds)) : DatE (tCB (rTy_list K) (tCons (tVar n) tNil)) σ H P :=
  fun R k => w_cb (w_cons (w_var e (w_nil ⟨p, xs, rfl, .inr (SqT.of h), fun l hl => k _ _ _ (Same.laid hl) (rep_lst upd_same (Reps.mono (Same.laid hl) _ _ rs)) hP⟩)))
theorem dat_seven (hP : P (.tuple (List.replicate 7 (PyData.int 1)))) : DatE (tOp (rMulV K) (tTup (tCons (tC (.int 1)) tNil)) (tC (.int 7))) σ H P :=
  fun R k => w_op (w_tup (w_cons (w_c (w_nil ⟨by show 1 ≤ sizeLine; decide, fun q hq => w_c (.inr ⟨q, 7, [.int 1], rfl, rfl, upd_same, by decide, by decide, by show 1 ≤ 1; decide, by show 1 ≤ 1000; decide, fun l hl => k _ _ _ ((Same.laid hq).laidT hl) (rep_tup (ds := List.replicate 7 (PyData.int 1)) upd_same (reps_cons rep_int (reps_cons rep_int (reps_cons rep_int (reps_cons rep_int (reps_cons rep_int (reps_cons rep_int (reps_cons rep_int reps_nil)))))))) hP⟩)⟩))))
theorem dat_more {n : Nat} {p : Addr} {xs : List V} {ds : List PyData} (e : σ[n]? = some (some (.ref p))) (h : H p = some (.tup xs)) (rs : Reps H xs ds) (hz : xs.length ≤ 100) (hP : P (.tuple (ds ++ [.int 1]))) : DatE (tOp (rAddU K) (tVar n) (tTup (tCons (tC (.int 1)) tNil))) σ H P :=
  fun R k => w_op (w_var e (w_tup (w_cons (w_c (w_nil ⟨by show 1 ≤ sizeLine; decide, fun t ht => w_cat (Same.laid ht _ _ h) upd_same (by simp; omega) fun q H' s' hq => k _ _ _ ((Same.laid ht).trans s') (rep_tup hq (reps_app (Reps.mono ((Same.laid ht).trans s') _ _ rs) (reps_cons rep_int reps_nil))) hP⟩)))))
theorem w_cutLast {Q : VK} {a : Addr} {xs : List V} (h : H a = some (.tup xs)) (h1 : 1 ≤ xs.length) (k : ∀ p H', Same H H' → H' p = some (.tup (xs.take (xs.length - 1))) → Q (.ref p) H') : rSlU K (.ref a) none (some (-1)) H Q := by
  have e1 : HT.sIx xs.length xs.length (some (-1)) = xs.length - 1 := by
    show (if (-1 : Int) < 0 then ((-1 : Int) + (xs.length : Int)).toNat else min (-1 : Int).toNat xs.length) = xs.length - 1
    rw [if_pos (by decide)]
    omega
  have e0 : HT.sIx xs.length 0 none = 0 := rfl
  refine .inl ⟨a, xs, rfl, SqT.of h, fun z => by rw [e1] at z; omega, fun p hp => k p _ (Same.laid hp) ?_⟩
  rw [upd_same]
  unfold cutV
  rw [e1, e0, List.drop_zero, Nat.sub_zero]
theorem dat_cut {n : Nat} {p : Addr} {ns : List Int} (e : σ[n]? = some (some (.ref p))) (h : H p = some (.tup (ns.map V.int))) (h1 : 1 ≤ ns.length) (hP : P (.tuple ((ns.take (ns.length - 1)).map .int))) : DatE (tSl (rSlU K) (tVar n) tNoPart (tPart (tUn rNegU (tC (.int 1))))) σ H P := by
  refine fun R k => w_sl (w_var e (w_nopart (w_part (w_un (w_c (w_negI (w_int (w_cutLast h (by rw [List.length_map]; exact h1) fun q H' s' hq => k _ _ _ s' (rep_tup (ds := (ns.take (ns.length - 1)).map .int) hq ?_) hP))))))))
  rw [← List.map_take, List.length_map]
  exact Reps.ints _
theorem dat_set {m i : Nat} {p : Addr} {xs : List V} {j : Nat} {x : V} {R : VK} (e : σ[m]? = some (some (.ref p))) (ei : σ[i]? = some (some (.int (j : Nat)))) (e0 : σ[0]? = some (some x)) (hp : H p = some (.tup xs)) (hj : j < xs.length) (hz : xs.length ≤ 100) (q : ∀ t H', Same H H' → H' t = some (.tup (xs.set j x)) → R (.ref t) H') :
    tOp (rAddU K) (tOp (rAddU K) (tSl (rSlU K) (tVar m) tNoPart (tPart (tVar i))) (tTup (tCons (tVar 0) tNil))) (tSl (rSlU K) (tVar m) (tPart (tOp (rAddU K) (tVar i) (tC (.int 1)))) tNoPart) σ H R := by
  refine w_op (w_op (w_sl (w_var e (w_nopart (w_part (w_var ei (w_int (w_cutTo hp hj fun t1 H1 s1 f1 => ?_))))))))
  refine w_tup (w_cons (w_var e0 (w_nil ⟨by show 1 ≤ sizeLine; decide, fun t2 ht2 => ?_⟩)))
  have s2 := Same.laid (o := .tup [x]) ht2
  refine w_cat (s2 _ _ f1) upd_same (by simp; omega) fun t3 H3 s3 f3 => ?_
  refine w_sl (w_var e (w_part (w_op (w_var ei (w_c (w_addI (w_int (w_nopart (w_cutFrom (j := j + 1) (s3 _ _ (s2 _ _ (s1 _ _ hp))) (by simp) (by omega) (by omega) fun t4 H4 s4 f4 => ?_)))))))))
  refine w_cat (s4 _ _ f3) f4 (by simp; omega) fun t5 H5 s5 f5 => q t5 H5 ((((s1.trans s2).trans s3).trans s4).trans s5) ?_
  rw [f5, List.set_eq_take_append_cons_drop, if_pos hj]
  simp
theorem dat_i {R : VK} {i : Int} (k : ∀ v H1 d, Same H H1 → Rep H1 v d → P d → R v H1) (h : P (.int i)) : R (.int i) H := k _ _ _ (Same.refl _) rep_int h
end
structure Sd (σ : St) (H : Hp) (p1 p2 p4 : Addr) (cc : Int) (j n : Nat) (ps as zs : List Int) : Prop where
  v0 : σ[0]? = some (some (.int cc))
  v1 : σ[1]? = some (some (.ref p1))
  v2 : σ[2]? = some (some (.ref p2))
  v3 : σ[3]? = some (some (.int (j : Nat)))
  v4 : σ[4]? = some (some (.ref p4))
  h1 : H p1 = some (.tup (ps.map V.int))
  h2 : H p2 = some (.tup (as.map V.int))
  h4 : H p4 = some (.tup (zs.map V.int))
  l1 : ps.length = n
  l2 : as.length = n
  z4 : ∀ x ∈ zs, x = 0
  n1 : 1 ≤ n
  n4 : n ≤ 4
  hj : j < n
section
variable {K : PySem.W.Frag} {te : TE} {σ : St} {H : Hp} {p1 p2 p4 : Addr} {cc : Int} {j n : Nat} {ps as zs : List Int}
theorem Sd.mono {H' : Hp} (S : Sd σ H p1 p2 p4 cc j n ps as zs) (s : Same H H') : Sd σ H' p1 p2 p4 cc j n ps as zs := ⟨S.v0, S.v1, S.v2, S.v3, S.v4, s _ _ S.h1, s _ _ S.h2, s _ _ S.h4, S.l1, S.l2, S.z4, S.n1, S.n4, S.hj⟩
theorem Sd.p (S : Sd σ H p1 p2 p4 cc j n ps as zs) : DatE (tVar 1) σ H fun d => d = .tuple (ps.map .int) := dat_var S.v1 (rep_tup S.h1 (Reps.ints _)) rfl
theorem Sd.a (S : Sd σ H p1 p2 p4 cc j n ps as zs) : DatE (tVar 2) σ H fun d => d = .tuple (as.map .int) := dat_var S.v2 (rep_tup S.h2 (Reps.ints _)) rfl
theorem Sd.z (S : Sd σ H p1 p2 p4 cc j n ps as zs) : DatE (tVar 4) σ H fun d => d = .tuple (zs.map .int) := dat_var S.v4 (rep_tup S.h4 (Reps.ints _)) rfl
theorem Sd.L1 (S : Sd σ H p1 p2 p4 cc j n ps as zs) : (ps.map PyData.int).length = n := by rw [List.length_map, S.l1]
theorem Sd.L2 (S : Sd σ H p1 p2 p4 cc j n ps as zs) : (as.map PyData.int).length = n := by rw [List.length_map, S.l2]
theorem il {ds : List PyData} : (itemsD (.tuple ds)).length = ds.length := rfl
theorem topsP (S : Sd σ H p1 p2 p4 cc j n ps as zs) : Items (fun d => isPriceD d = false) 8 (tCons (tC (.int 0)) (tCons (tUn rNegU (tC (.int 1))) (tCons (tOp (rAddU K) (tC (.int 1000000000)) (tC (.int 1))) (tCons (tOp (rAddU K) (tOp (rAddU K) (tC (.int 1000000000)) (tC (.int 1))) (tOp rModU (tOp rDivU (tVar 0) (tC (.int 400))) (tC (.int 100000000000000000000)))) (tCons (tC (.bl true)) (tCons (tC .non) (tCons (tC (.str "1")) (tCons (tTup (tCons (tC (.int 1)) tNil)) tNil)))))))) σ H :=
  it_cons (dat_c rep_int (pr_lo (by decide))) fun Ha sa => it_cons (fun R k => w_un (w_c (w_negI (dat_i k (pr_lo (by decide)))))) fun Hb sb => it_cons (fun R k => w_op (w_c (w_c (w_addI (dat_i k (pr_hi (by decide))))))) fun Hc sc =>
    it_cons (fun R k => w_op (w_op (w_c (w_c (w_addI (w_op (w_op (w_var S.v0 (w_c (w_divI (by decide) (by decide) (w_c (w_modI (by decide) (w_addI (dat_i k (pr_hi (by omega)))))))))))))))) fun Hd sd => it_cons (dat_c rep_bl rfl) fun He se => it_cons (dat_c rep_non rfl) fun Hf sf => it_cons (dat_c rep_str rfl) fun Hg sg => it_cons (dat_one rfl) fun Hh sh => it_nil
theorem topsA (S : Sd σ H p1 p2 p4 cc j n ps as zs) : Items (fun d => isAmtD d = false) 7 (tCons (tUn rNegU (tC (.int 1))) (tCons (tOp (rAddU K) (tC (.int 1000000000000000000)) (tC (.int 1))) (tCons (tOp (rAddU K) (tOp (rAddU K) (tC (.int 1000000000000000000)) (tC (.int 1))) (tOp rModU (tOp rDivU (tVar 0) (tC (.int 400))) (tC (.int 100000000000000000000)))) (tCons (tC (.bl false)) (tCons (tC .non) (tCons (tC (.str "1")) (tCons (tLst (tCons (tC (.int 1)) tNil)) tNil))))))) σ H :=
  it_cons (fun R k => w_un (w_c (w_negI (dat_i k (am_lo (by decide)))))) fun Hb sb => it_cons (fun R k => w_op (w_c (w_c (w_addI (dat_i k (am_hi (by decide))))))) fun Hc sc =>
    it_cons (fun R k => w_op (w_op (w_c (w_c (w_addI (w_op (w_op (w_var S.v0 (w_c (w_divI (by decide) (by decide) (w_c (w_modI (by decide) (w_addI (dat_i k (am_hi (by omega)))))))))))))))) fun Hd sd => it_cons (dat_c rep_bl rfl) fun He se => it_cons (dat_c rep_non rfl) fun Hf sf => it_cons (dat_c rep_str rfl) fun Hg sg => it_cons (dat_lst1 rfl) fun Hh sh => it_nil
theorem itA (S : Sd σ H p1 p2 p4 cc j n ps as zs) : Items (PrB n) 4 (tCons (tTup (tCons (tVar 1) (tCons (tVar 4) tNil))) (tCons (tTup (tCons (tVar 1) (tCons (tSl (rSlU K) (tVar 2) tNoPart (tPart (tUn rNegU (tC (.int 1))))) tNil))) (tCons (tTup (tCons (tSl (rSlU K) (tVar 1) tNoPart (tPart (tUn rNegU (tC (.int 1))))) (tCons (tVar 2) tNil))) (tCons (tTup (tCons (tVar 1) (tCons (tOp (rAddU K) (tVar 2) (tTup (tCons (tC (.int 1)) tNil))) tNil))) tNil)))) σ H := by
  have l1 := S.l1; have l2 := S.l2; have n1 := S.n1; have n4 := S.n4; have L1 := S.L1; have L2 := S.L2
  refine it_cons (dat_tup2 S.p (fun Ha sa => (S.mono sa).z) fun d1 d2 _ z => ba (by rw [z]; exact amts_zero S.z4)) fun Ha sa => ?_
  refine it_cons (dat_tup2 (P2 := fun d => d = .tuple ((as.take (as.length - 1)).map .int)) (S.mono sa).p (fun Hb sb => dat_cut S.v2 (sb _ _ (sa _ _ S.h2)) (by omega) rfl) fun d1 d2 z1 z2 => bl (by rw [z1, z2, il, il, L1, List.length_map, List.length_take]; omega)) fun Hb sb => ?_
  refine it_cons (dat_tup2 (P1 := fun d => d = .tuple ((ps.take (ps.length - 1)).map .int)) (dat_cut S.v1 (sb _ _ (sa _ _ S.h1)) (by omega) rfl) (fun Hc sc => (((S.mono sa).mono sb).mono sc).a) fun d1 d2 z1 z2 => bl (by rw [z1, z2, il, il, L2, List.length_map, List.length_take]; omega)) fun Hc sc => ?_
  exact it_cons (dat_tup2 (P2 := fun d => d = .tuple (as.map .int ++ [.int 1])) (((S.mono sa).mono sb).mono sc).p (fun Hd sd => dat_more S.v2 (sd _ _ (sc _ _ (sb _ _ (sa _ _ S.h2)))) (Reps.ints as) (by rw [List.length_map]; omega) rfl) fun d1 d2 z1 z2 => bl (by rw [z1, z2, il, il, List.length_append, L1, L2, List.length_singleton]; omega)) fun Hd sd => it_nil
theorem itB (S : Sd σ H p1 p2 p4 cc j n ps as zs) : Items (PrB n) 3 (tCons (tTup (tCons (tOp (rAddU K) (tVar 1) (tTup (tCons (tC (.int 1)) tNil))) (tCons (tVar 2) tNil))) (tCons (tTup (tCons (tOp (rAddU K) (tVar 1) (tTup (tCons (tC (.int 1)) tNil))) (tCons (tOp (rAddU K) (tVar 2) (tTup (tCons (tC (.int 1)) tNil))) tNil))) (tCons (tTup (tCons (tSl (rSlU K) (tVar 1) tNoPart (tPart (tUn rNegU (tC (.int 1))))) (tCons (tSl (rSlU K) (tVar 2) tNoPart (tPart (tUn rNegU (tC (.int 1))))) tNil))) tNil))) σ H := by
  have l1 := S.l1; have l2 := S.l2; have n1 := S.n1; have n4 := S.n4; have L1 := S.L1; have L2 := S.L2
  refine it_cons (dat_tup2 (P1 := fun d => d = .tuple (ps.map .int ++ [.int 1])) (dat_more S.v1 S.h1 (Reps.ints ps) (by rw [List.length_map]; omega) rfl) (fun Ha sa => (S.mono sa).a) fun d1 d2 z1 z2 => bw (by rw [z1, il, List.length_append, L1, List.length_singleton]; omega)) fun Ha sa => ?_
  refine it_cons (dat_tup2 (P1 := fun d => d = .tuple (ps.map .int ++ [.int 1])) (P2 := fun _ => True) (dat_more S.v1 (sa _ _ S.h1) (Reps.ints ps) (by rw [List.length_map]; omega) rfl) (fun Hb sb => dat_more S.v2 (sb _ _ (sa _ _ S.h2)) (Reps.ints as) (by rw [List.length_map]; omega) True.intro) fun d1 d2 z1 z2 => bw (by rw [z1, il, List.length_append, L1, List.length_singleton]; omega)) fun Hb sb => ?_
  exact it_cons (dat_tup2 (P1 := fun d => d = .tuple ((ps.take (ps.length - 1)).map .int)) (P2 := fun _ => True) (dat_cut S.v1 (sb _ _ (sa _ _ S.h1)) (by omega) rfl) (fun Hc sc => dat_cut S.v2 (sc _ _ (sb _ _ (sa _ _ S.h2))) (by omega) True.intro) fun d1 d2 z1 z2 => bw (by rw [z1, il, List.length_map, List.length_take]; omega)) fun Hc sc => it_nil
theorem itC (S : Sd σ H p1 p2 p4 cc j n ps as zs) : Items (PrB n) 5 (tCons (tTup (tCons (tTup tNil) (tCons (tTup tNil) tNil))) (tCons (tTup (tCons (tCB (rTy_list K) (tCons (tVar 1) tNil)) (tCons (tVar 2) tNil))) (tCons (tTup (tCons (tVar 1) (tCons (tCB (rTy_list K) (tCons (tVar 2) tNil)) tNil))) (tCons (tTup (tCons (tC .non) (tCons (tVar 2) tNil))) (tCons (tTup (tCons (tVar 1) (tCons (tC .non) tNil))) tNil))))) σ H := by
  refine it_cons (dat_tup2 (P1 := fun d => d = .tuple []) (P2 := fun _ => True) (dat_tup0 rfl) (fun Ha sa => dat_tup0 True.intro) fun d1 d2 z1 _ => bp (by rw [z1]; rfl)) fun Ha sa => ?_
  refine it_cons (dat_tup2 (P1 := fun d => d = .list (ps.map .int)) (dat_list S.v1 (sa _ _ S.h1) (Reps.ints ps) rfl) (fun Hb sb => ((S.mono sa).mono sb).a) fun d1 d2 z1 _ => bp (by rw [z1]; rfl)) fun Hb sb => ?_
  refine it_cons (dat_tup2 (P2 := fun d => d = .list (as.map .int)) ((S.mono sa).mono sb).p (fun Hc sc => dat_list S.v2 (sc _ _ (sb _ _ (sa _ _ S.h2))) (Reps.ints as) rfl) fun d1 d2 _ z2 => ba (by rw [z2]; rfl)) fun Hc sc => ?_
  refine it_cons (dat_tup2 (P1 := fun d => d = .none) (dat_c rep_non rfl) (fun Hd sd => ((((S.mono sa).mono sb).mono sc).mono sd).a) fun d1 d2 z1 _ => bp (by rw [z1]; rfl)) fun Hd sd => ?_
  exact it_cons (dat_tup2 (P2 := fun d => d = .none) ((((S.mono sa).mono sb).mono sc).mono sd).p (fun He se => dat_c rep_non rfl) fun d1 d2 _ z2 => ba (by rw [z2]; rfl)) fun He se => it_nil
theorem seven_bad : arePricesD (.tuple (List.replicate 7 (PyData.int 1))) = false := by decide +kernel
theorem itD (S : Sd σ H p1 p2 p4 cc j n ps as zs) : Items (PrB n) 6 (tCons (tTup (tCons (tC (.int 1)) (tCons (tC (.int 1)) tNil))) (tCons (tTup (tCons (tC (.str "1")) (tCons (tC (.str "1")) tNil))) (tCons (tTup (tCons tDNew (tCons tDNew tNil))) (tCons (tTup (tCons (tOp (rMulV K) (tTup (tCons (tC (.int 1)) tNil)) (tC (.int 7))) (tCons (tOp (rMulV K) (tTup (tCons (tC (.int 1)) tNil)) (tC (.int 7))) tNil))) (tCons (tTup (tCons (tVar 2) (tCons (tTup tNil) tNil))) (tCons (tTup (tCons (tC (.bl true)) (tCons (tC (.bl false)) tNil))) tNil)))))) σ H := by
  refine it_cons (dat_tup2 (P1 := fun d => d = .int 1) (P2 := fun _ => True) (dat_c rep_int rfl) (fun Ha sa => dat_c rep_int True.intro) fun d1 d2 z1 _ => bp (by rw [z1]; rfl)) fun Ha sa => ?_
  refine it_cons (dat_tup2 (P1 := fun d => d = .str "1") (P2 := fun _ => True) (dat_c rep_str rfl) (fun Hb sb => dat_c rep_str True.intro) fun d1 d2 z1 _ => bp (by rw [z1]; rfl)) fun Hb sb => ?_
  refine it_cons (dat_tup2 (P1 := fun d => d = .dict []) (P2 := fun _ => True) (dat_dnew rfl) (fun Hc sc => dat_dnew True.intro) fun d1 d2 z1 _ => bp (by rw [z1]; rfl)) fun Hc sc => ?_
  refine it_cons (dat_tup2 (P1 := fun d => d = .tuple (List.replicate 7 (PyData.int 1))) (P2 := fun _ => True) (dat_seven rfl) (fun Hd sd => dat_seven True.intro) fun d1 d2 z1 _ => bp (by rw [z1]; exact seven_bad)) fun Hd sd => ?_
  refine it_cons (dat_tup2 (P2 := fun d => d = .tuple []) ((((S.mono sa).mono sb).mono sc).mono sd).a (fun He se => dat_tup0 rfl) fun d1 d2 _ z2 => ba (by rw [z2]; rfl)) fun He se => ?_
  exact it_cons (dat_tup2 (P1 := fun d => d = .bool true) (P2 := fun _ => True) (dat_c rep_bl rfl) (fun Hf sf => dat_c rep_bl True.intro) fun d1 d2 z1 _ => bp (by rw [z1]; rfl)) fun Hf sf => it_nil
end
section
variable {K : PySem.W.Frag} {σ : St} {H : Hp} {ti : TA} {Dn : Ends} {n : Nat} {P : PyData → Prop}
theorem step_new {m : Nat} (ht : Items P n ti σ H) (hn : n ≤ 100) (k : ∀ a xs H', Same H H' → H' a = some (.lst xs) → BadsP P H' xs → xs.length = n → Dn.nx (σ.set m (some (.ref a))) H') : tAsg (tLst ti) (gName m) Dn σ H :=
  w_asg (w_lst (ht _ fun ys H1 s1 b1 hl => ⟨small9 (by omega), fun p hp => w_name (k p ys _ (s1.laidT hp) upd_same (b1.mono (Same.laid hp)) hl)⟩))
theorem step_cat {a : Addr} {xs : List V} {m : Nat} (h6 : σ[6]? = some (some (.ref a))) (ha : H a = some (.lst xs)) (b : BadsP P H xs) (hm : xs.length = m) (ht : Items P n ti σ H) (hn : m + n ≤ 100) (k : ∀ a xs H', Same H H' → H' a = some (.lst xs) → BadsP P H' xs → xs.length = m + n → Dn.nx (σ.set 6 (some (.ref a))) H') : tAsg (tOp (rAddU K) (tVar 6) (tLst ti)) (gName 6) Dn σ H :=
  w_asg (w_op (w_var h6 (w_lst (ht _ fun ys H1 s1 b1 hl => ⟨small9 (by omega), fun p hp => .inr (.inr (.inr ⟨a, p, xs, ys, rfl, rfl, Same.laid hp _ _ (s1 _ _ ha), upd_same, small9 (by omega), fun q hq => w_name (k q (xs ++ ys) _ ((s1.laidT hp).laidT hq) upd_same ((b.mono ((s1.laidT hp).laidT hq)).app (b1.mono ((Same.laid hp).laidT hq))) (by rw [List.length_append]; omega))⟩))⟩))))
end
theorem rd__law_bad_day {K : PySem.W.Frag} {a b c : V} {H : Hp} {Q : VK} {E : XK} (h : sb__law_bad_day K a b c H Q E) : tb__law_bad_day K (Rt Q) [some a, some b, some c, none, none, none, none] H := by
  obtain ⟨cc, p1, p2, ⟨ps, as⟩, n, rfl, rfl, rfl, h1, h2, gd, n1, n4, q⟩ := h
  have l1 : ps.length = n := gd.l1
  have l2 : as.length = n := gd.l2
  replace h1 : H p1 = some (.tup (ps.map V.int)) := h1
  replace h2 : H p2 = some (.tup (as.map V.int)) := h2
  unfold tb__law_bad_day
  refine w_seq (w_asg (w_op (w_op (w_var rfl (w_c (w_divI (by decide) (by decide) (w_cb (w_cons (w_var rfl (w_nil (w_lenT (SqT.of h1) (w_modI (by rw [List.length_map]; omega) (w_name ?_)))))))))))))
  obtain ⟨j, ej, hj⟩ := emod_at (c := cc / 40) (n := n) (by omega)
  rw [List.length_map, l1, ej]
  try dsimp only
  refine w_seq (w_asg (w_cb (w_cons (w_comp (w_seq0 (w_var rfl ⟨p1, rfl, .inr ⟨⟨_, SqT.of h1⟩, fun D hD => ?_⟩⟩))))))
  refine comp_seqP (K := K) (a := p1) (xs := ps.map V.int) (σr := []) (.inl ⟨rfl, h1⟩) D (fun i v _ => ∃ x : Int, v = .int x ∧ x = 0) (fun _ _ _ _ _ z => z) (by rw [List.length_map]; omega) hD ⟨none, rfl⟩ (fun i x H1 R' _ s1 kk => w_c (kk _ _ (Same.refl _) ⟨0, rfl, rfl⟩)) fun ys H1 hy hall s1 hD1 => ?_
  obtain ⟨zs, rfl, hz⟩ := all_ints hall
  refine w_nil (w_tupL (SqL.of hD1) fun l hl => w_name ?_)
  have s2 := s1.laidT (o := .tup (zs.map V.int)) hl
  have e2 := upd_same (H := H1) (a := l) (o := .tup (zs.map V.int))
  generalize upd H1 l (.tup (zs.map V.int)) = H2 at s2 e2 ⊢
  try dsimp only
  have S : ∀ r5 r6 H', Same H2 H' → Sd [some (.int cc), some (.ref p1), some (.ref p2), some (.int (j : Nat)), some (.ref l), r5, r6] H' p1 p2 l cc j n ps as zs := fun r5 r6 H' s => ⟨rfl, rfl, rfl, rfl, rfl, s _ _ (s2 _ _ h1), s _ _ (s2 _ _ h2), s _ _ e2, l1, l2, all_of_get hz, n1, n4, hj⟩
  refine w_seq (step_new (m := 5) (topsP (K := K) (S none none H2 (Same.refl _))) (by decide) fun a5 xs5 H3 s3 g3 b3 m3 => ?_)
  try dsimp only
  refine w_seq (w_asg (w_comp (w_seq0 (w_var rfl ⟨a5, rfl, .inl ⟨⟨_, SqL.of g3⟩, fun D hD => ?_⟩⟩))))
  refine comp_seqP (K := K) (.inr ⟨rfl, g3⟩) D (fun i v H => ∃ t q x, xs5[i]? = some x ∧ v = .ref t ∧ H t = some (.tup [.ref q, .ref p2]) ∧ H q = some (.tup ((ps.map V.int).set j x))) (fun i v H H' tu ⟨t, q, x, a, b, c, d⟩ => ⟨t, q, x, a, b, tu _ _ c, tu _ _ d⟩) (by omega) hD ⟨_, rfl⟩ (fun i x H4 R hx s4 kk => ?_) fun ys H4 hl4 hall4 s4 hD4 => w_name ?_
  · exact w_tup (w_cons (dat_set rfl rfl rfl (s4 _ _ (s3 _ _ (s2 _ _ h1))) (by rw [List.length_map]; omega) (by rw [List.length_map]; omega) fun q H5 s5 hq => w_cons (w_var rfl (w_nil ⟨by show 2 ≤ sizeLine; decide, fun t ht => kk _ _ (s5.laidT ht) ⟨t, q, x, hx, rfl, upd_same, Same.laid ht _ _ hq⟩⟩))))
  have b4 : BadsP (PrB n) H4 ys := fun y hy => by
    obtain ⟨i, hi⟩ := List.mem_iff_getElem?.mp hy
    obtain ⟨t, q, x, hx, rfl, ht, hq⟩ := hall4 i y hi
    obtain ⟨dx, rx, px⟩ := b3 x (List.mem_of_getElem? hx)
    exact ⟨_, rep_tup ht (reps_cons (rep_tup hq (Reps.set j (Reps.ints ps) (Rep.mono s4 _ _ rx))) (reps_cons (rep_tup (s4 _ _ (s3 _ _ (s2 _ _ h2))) (Reps.ints as)) reps_nil)), bp (prices_set (by rw [List.length_map]; omega) px)⟩
  have m4 : ys.length = 8 := by omega
  have s04 := s3.trans s4
  try dsimp only
  refine w_seq (step_new (m := 5) (topsA (K := K) (S (some (.ref a5)) (some (.ref D)) H4 s04)) (by decide) fun a6 xs6 H5 s5 g5 b5 m5 => ?_)
  try dsimp only
  have s05 := s04.trans s5
  have hD5 := s5 _ _ hD4
  have b45 := b4.mono s5
  refine w_seq (w_asg (w_op (w_var rfl (w_comp (w_seq0 (w_var rfl ⟨a6, rfl, .inl ⟨⟨_, SqL.of g5⟩, fun D2 hD2 => ?_⟩⟩))))))
  refine comp_seqP (K := K) (.inr ⟨rfl, g5⟩) D2 (fun i v H => ∃ t q x, xs6[i]? = some x ∧ v = .ref t ∧ H t = some (.tup [.ref p1, .ref q]) ∧ H q = some (.tup ((as.map V.int).set j x))) (fun i v H H' tu ⟨t, q, x, a, b, c, d⟩ => ⟨t, q, x, a, b, tu _ _ c, tu _ _ d⟩) (by omega) hD2 ⟨_, rfl⟩ (fun i x H6 R hx s6 kk => ?_) fun zs2 H6 hl6 hall6 s6 hD6 => ?_
  · exact w_tup (w_cons (w_var rfl (w_cons (dat_set (m := 2) (i := 3) rfl rfl rfl (s6 _ _ (s05 _ _ (s2 _ _ h2))) (by rw [List.length_map]; omega) (by rw [List.length_map]; omega) fun q H7 s7 hq => w_nil ⟨by show 2 ≤ sizeLine; decide, fun t ht => kk _ _ (s7.laidT ht) ⟨t, q, x, hx, rfl, upd_same, Same.laid ht _ _ hq⟩⟩))))
  have b6 : BadsP (PrB n) H6 zs2 := fun y hy => by
    obtain ⟨i, hi⟩ := List.mem_iff_getElem?.mp hy
    obtain ⟨t, q, x, hx, rfl, ht, hq⟩ := hall6 i y hi
    obtain ⟨dx, rx, px⟩ := b5 x (List.mem_of_getElem? hx)
    exact ⟨_, rep_tup ht (reps_cons (rep_tup (s6 _ _ (s05 _ _ (s2 _ _ h1))) (Reps.ints ps)) (reps_cons (rep_tup hq (Reps.set j (Reps.ints as) (Rep.mono s6 _ _ rx))) reps_nil)), ba (amts_set (by rw [List.length_map]; omega) px)⟩
  have m6 : zs2.length = 7 := by omega
  refine .inr (.inr (.inr ⟨D, D2, ys, zs2, rfl, rfl, s6 _ _ hD5, hD6, small9 (by omega), fun u hu => w_name ?_⟩))
  have s7 := (s05.trans s6).laidT (o := .lst (ys ++ zs2)) hu
  have g7 := upd_same (H := H6) (a := u) (o := .lst (ys ++ zs2))
  have b7 : BadsP (PrB n) (upd H6 u (.lst (ys ++ zs2))) (ys ++ zs2) := ((b45.mono s6).app b6).mono (Same.laid hu)
  generalize upd H6 u (.lst (ys ++ zs2)) = H7 at s7 g7 b7 ⊢
  try dsimp only
  refine w_seq (step_cat (m := 15) (σ := [some (.int cc), some (.ref p1), some (.ref p2), some (.int (j : Nat)), some (.ref l), some (.ref a6), some (.ref u)]) rfl g7 b7 (by rw [List.length_append]; omega) (itA (S _ _ H7 s7)) (by decide) fun u8 xs8 H8 s8 g8 b8 m8 => ?_)
  try dsimp only
  replace s8 := s7.trans s8
  refine w_seq (step_cat (m := 19) (σ := [some (.int cc), some (.ref p1), some (.ref p2), some (.int (j : Nat)), some (.ref l), some (.ref a6), some (.ref u8)]) rfl g8 b8 m8 (itB (S _ _ H8 s8)) (by decide) fun u9 xs9 H9 s9 g9 b9 m9 => ?_)
  try dsimp only
  replace s9 := s8.trans s9
  refine w_seq (step_cat (m := 22) (σ := [some (.int cc), some (.ref p1), some (.ref p2), some (.int (j : Nat)), some (.ref l), some (.ref a6), some (.ref u9)]) rfl g9 b9 m9 (itC (S _ _ H9 s9)) (by decide) fun u10 xs10 H10 s10 g10 b10 m10 => ?_)
  try dsimp only
  replace s10 := s9.trans s10
  refine w_seq (step_cat (m := 27) (σ := [some (.int cc), some (.ref p1), some (.ref p2), some (.int (j : Nat)), some (.ref l), some (.ref a6), some (.ref u10)]) rfl g10 b10 m10 (itD (S _ _ H10 s10)) (by decide) fun u11 xs11 H11 s11 g11 b11 m11 => ?_)
  try dsimp only
  replace s11 := s10.trans s11
  obtain ⟨i, ei, hi⟩ := emod_at (c := cc) (n := 33) (by decide)
  have hi' : i < xs11.length := by omega
  refine w_ret (w_op (w_var rfl (w_op (w_var rfl (w_c (w_modI (by decide) ?_))))))
  have ei' : cc % 33 = (i : Int) := ei
  rw [ei']
  obtain ⟨dd, rr, d1, d2, rfl, bd⟩ := b11 xs11[i] (List.getElem_mem hi')
  exact w_ixL (v := xs11[i]) (SqL.of g11) (atI_nat (List.getElem?_eq_getElem hi')) (q _ d1 d2 H11 (s2.trans s11) rr bd)
section
variable {K : PySem.W.Frag} {mg : Str → Option Value} {σ : St} {H : Hp} {a : V} {d : Addr} {kvs : Kvs} {w : Str} {r : Rk} {Q : VK}
theorem w_refd {n : Nat} {tw : TE} {t : TA} (L : Led mg H a d kvs) (e : σ[n]? = some (some a)) (hw : ∀ R : VK, R (.str w) H → tw σ H R) (ht : ∀ R : List V → Hp → Prop, (∀ xs H1, Same H H1 → xs.length ≤ 10 → Refd H1 kvs w xs r → R xs H1) → t σ H R) (q : ∀ H', Same H H' → Q (.str r.txt) H') :
    tCall (sp__law_refused K mg) [] E0 (tCons (tVar n) (tCons tw (tCons (tLst t) tNil))) σ H Q :=
  w_call (w_cons (w_var e (w_cons (hw _ (w_cons (w_lst (ht _ fun xs H1 s1 hl R => ⟨small9 (by omega), fun u hu => w_nil ⟨_, _, _, rfl, d, kvs, w, xs, u, r, L.mono (s1.laidT hu), rfl, rfl, upd_same, R.mono (Same.laid hu), fun H' s' => q H' ((s1.laidT hu).trans s')⟩⟩)))))))
end
theorem rd__law_none {K : PySem.W.Frag} {mg : Str → Option Value} (M : Md K mg) {a : V} {H : Hp} {Q : VK} {E : XK} (h : sb__law_none K mg a H Q E) : tb__law_none K mg (Rt Q) [some a, none] H := by
  obtain ⟨d, L, q⟩ := h
  unfold tb__law_none
  refine w_seqI (fun σ' H' => σ' = [some a, none] ∧ Same H H') (fun R kk => ?_) ?_
  · refine w_ifS (w_or (w_test (w_op (L.meth rfl (by decide) (w_nil ⟨_, rfl, d, [], L, fun p H1 s1 _ h1 => w_lst (w_nil ⟨Nat.zero_le _, fun u hu => ?_⟩)⟩)))))
    refine w_neSelf (d := .list []) (rep_lst (Same.laid hu _ _ h1) reps_nil) (rep_lst upd_same reps_nil) (by simp [PyData.canLay0, PyData.canLayAll0]) (by simp [PyData.depth, PyData.depthAll]) (w_bl (iteF ?_))
    have s2 := s1.laidT (o := .lst []) hu
    refine w_test (w_op (w_refd (w := "at_once") (r := .name) (L.mono s2) rfl (fun R h => w_c h) ?_ ?_))
    · exact fun R k => w_cons (w_c (w_cons (w_c (w_nil (k _ _ (Same.refl _) (by show 2 ≤ 10; decide) (.inr (.inr (.inl ⟨rfl, _, _, rfl, .inl (by simp), rfl⟩))))))))
    · exact fun H' s' => w_c (w_neS (w_bl (iteNF rfl (w_next (kk _ _ ⟨rfl, s2.trans s'⟩)))))
  rintro σ' H1 ⟨rfl, s1⟩
  refine w_seq (w_for (w_seq0 (w_lst (w_cons (w_c (w_cons (w_c (w_cons (w_c (w_cons (w_c (w_cons (w_c (w_nil ⟨by show 5 ≤ sizeLine; decide, fun l hl => ⟨l, rfl, .inl ⟨⟨_, SqL.of upd_same⟩, ?_⟩⟩⟩))))))))))))))
  have s2 := s1.laidT (o := .lst [.str "book", .str "taste", .str "cut", .str "fewest", .str "two_hands"]) hl
  have e2 := upd_same (H := H1) (a := l) (o := .lst [.str "book", .str "taste", .str "cut", .str "fewest", .str "two_hands"])
  generalize upd H1 l (.lst [.str "book", .str "taste", .str "cut", .str "fewest", .str "two_hands"]) = H2 at s2 e2 ⊢
  refine for_list (K := K) (a := l) (xs := [.str "book", .str "taste", .str "cut", .str "fewest", .str "two_hands"]) (fun i σ H' => Same H2 H' ∧ ∃ r, σ = [some a, r]) ⟨Same.refl _, _, rfl⟩ (fun i σ H' _ z => SqL.of (z.1 _ _ e2)) ?_ ?_
  · rintro i x σ H' he ⟨s3, r, rfl⟩
    have hx : ∃ w : Str, x = .str w ∧ (w = "book" ∨ w = "taste" ∨ w = "cut" ∨ w = "fewest" ∨ w = "two_hands") := by
      have := List.mem_of_getElem? he
      simp only [List.mem_cons, List.not_mem_nil, or_false] at this
      rcases this with z | z | z | z | z
      · exact ⟨_, z, .inl rfl⟩
      · exact ⟨_, z, .inr (.inl rfl)⟩
      · exact ⟨_, z, .inr (.inr (.inl rfl))⟩
      · exact ⟨_, z, .inr (.inr (.inr (.inl rfl)))⟩
      · exact ⟨_, z, .inr (.inr (.inr (.inr rfl)))⟩
    obtain ⟨w, rfl, hw⟩ := hx
    refine w_name (w_ifS (w_test (w_op (w_refd (w := w) (r := .book) (L.mono (s2.trans s3)) rfl (fun R h => w_var rfl h) ?_ ?_))))
    · exact fun R k => w_nil (k [] _ (Same.refl _) (by decide) (.inr (.inr (.inr ⟨hw, rfl, rfl⟩))))
    · exact fun H4 s4 => w_c (w_neS (w_bl (iteNF rfl (w_next ⟨s3.trans s4, _, rfl⟩))))
  · rintro σ H' ⟨s3, r, rfl⟩
    have s4 := s2.trans s3
    try dsimp only
    refine w_ret (w_andV (w_op (w_refd (w := "reached") (r := .name) (L.mono s4) rfl (fun R h => w_c h) ?_ fun H5 s5 => w_c (w_eqS ⟨_, rfl, iteDT rfl ?_⟩))))
    · exact fun R k => w_cons (w_c (w_nil (k _ _ (Same.refl _) (by show 1 ≤ 10; decide) (.inr (.inl ⟨.inr rfl, _, rfl, by simp, rfl⟩)))))
    refine w_op (w_refd (w := "take") (r := .name) (L.mono (s4.trans s5)) rfl (fun R h => w_c h) ?_ ?_)
    · exact fun R k => w_cons (w_c (w_nil (k _ _ (Same.refl _) (by show 1 ≤ 10; decide) (.inr (.inl ⟨.inl rfl, _, rfl, by simp, rfl⟩)))))
    · exact fun H6 s6 => w_c (w_eqS (q H6 ((s4.trans s5).trans s6)))
theorem book_bad {n : Nat} {B : List (List Int × List Int)} {D : PyData} (g : ∀ x ∈ B, GoodDay n x) (ne : B ≠ []) (b : BadD n D) : isBookD (.tuple (B.map dayD ++ [D])) = false := by
  unfold isBookD
  have it : itemsD (.tuple (B.map dayD ++ [D])) = B.map dayD ++ [D] := rfl
  rw [it]
  rcases b with b | b
  · have : (B.map dayD ++ [D]).all isDayD = false := by
      rw [List.all_eq_false]
      exact ⟨D, by simp, by rw [b]; decide⟩
    rw [this, Bool.and_false, Bool.false_and]
  · obtain ⟨d0, r, rfl⟩ : ∃ d0 r, B = d0 :: r := by
      cases B with
      | nil => exact absurd rfl ne
      | cons x r => exact ⟨x, r, rfl⟩
    have w0 : waresD (((d0 :: r).map dayD ++ [D]).getD 0 .none) = n := by
      show (d0.1.map PyData.int).length = n
      rw [List.length_map]; exact (g d0 (by simp)).l1
    have : (((d0 :: r).map dayD ++ [D]).all fun e => decide (waresD e = waresD (((d0 :: r).map dayD ++ [D]).getD 0 .none))) = false := by
      rw [List.all_eq_false]
      exact ⟨D, by simp, by rw [w0, decide_eq_false b]; decide⟩
    rw [this, Bool.and_false]
theorem book_more {n : Nat} {B : List (List Int × List Int)} {d : List Int × List Int} (g : ∀ x ∈ B, GoodDay n x) (gd : GoodDay n d) (n1 : 1 ≤ n) (n6 : n ≤ 6) (l : B.length ≤ 7) : isBookD (.tuple (B.map dayD ++ [dayD d])) = true := by
  have e : (PyData.tuple (B.map dayD ++ [dayD d])) = bookD (B ++ [d]) := by unfold bookD; rw [List.map_append]; rfl
  have gg : ∀ x ∈ B ++ [d], GoodDay n x := fun x hx => by
    rcases List.mem_append.mp hx with h | h
    · exact g x h
    · rw [List.mem_singleton.mp h]; exact gd
  rw [e]
  exact good_book (m := 8) (n := n) ⟨n1, n6, by simp, by rw [List.length_append, List.length_singleton]; omega, gg⟩ (by decide)
theorem book_nine {Ds : List PyData} {D : PyData} (h : Ds.length = 8) : isBookD (.tuple (Ds ++ [D])) = false := by
  unfold isBookD
  have : isTupD 1 8 (.tuple (Ds ++ [D])) = false := by
    show (decide (1 ≤ (Ds ++ [D]).length) && decide ((Ds ++ [D]).length ≤ 8)) = false
    rw [decide_eq_false (show ¬ (Ds ++ [D]).length ≤ 8 by rw [List.length_append, List.length_singleton]; omega), Bool.and_false]
  rw [this]; rfl
theorem pair_rep {H : Hp} {v : V} {d1 d2 : PyData} (h : Rep H v (.tuple [d1, d2])) : ∃ t x y, v = .ref t ∧ H t = some (.tup [x, y]) ∧ Rep H x d1 ∧ Rep H y d2 := by
  obtain ⟨t, xs, rfl, ht, rs⟩ := rep_tup_inv h
  obtain ⟨x, r, rfl, r1, rs⟩ := reps_cons_inv rs
  obtain ⟨y, r, rfl, r2, rs⟩ := reps_cons_inv rs
  cases reps_nil_inv rs
  exact ⟨t, x, y, rfl, ht, r1, r2⟩
theorem new_ok : ascT ("new" : Str) ∧ nameB "new" = true := by
  refine ⟨⟨?_, by decide +kernel⟩, by decide +kernel⟩
  have : (("new" : Str).cps.toList.all fun c => decide (c < 128)) = true := by decide +kernel
  exact fun c hc => of_decide_eq_true (List.all_eq_true.mp this c hc)
theorem rd__law_puts {K : PySem.W.Frag} {mg : Str → Option Value} (M : Md K mg) {a b c e : V} {H : Hp} {Q : VK} {E : XK} (h : sb__law_puts K mg a b c e H Q E) : tb__law_puts K mg (Rt Q) [some a, some b, some c, some e, none, none, none, none, none] H := by
  obtain ⟨d, kvs, B, n, cc, g, LB, n4, ⟨ln, rfl, hn⟩, ne, nn, ok, rfl, rg, gg, q⟩ := h
  have L := LB.led
  have kl : 0 < (keysL kvs).length := by
    rw [List.length_map]
    cases kvs with
    | nil => exact absurd rfl ne
    | cons x r => simp
  have Bl : B.length = kvs.length := by
    have := Reps.length LB.reps
    simpa using this.symm
  have Bn : B ≠ [] := fun z => by
    rw [z] at Bl
    exact ne (List.length_eq_zero_iff.mp Bl.symm)
  obtain ⟨gp, q1, q2, rfl, hg, hq1, hq2⟩ := day_rep rg
  unfold tb__law_puts
  refine w_seq (w_asg (w_call (w_cons (w_op (w_var rfl (w_c (w_divI (by decide) (by decide) (w_cons (w_op (w_var rfl (w_c (w_ixT (v := .ref q1) (SqT.of hg) rfl (w_cons (w_op (w_var rfl (w_c (w_ixT (v := .ref q2) (SqT.of hg) rfl (w_nil ⟨_, _, _, rfl, cc / 16, q1, q2, g, n, rfl, rfl, rfl, hq1, hq2, gg, LB.n1, n4, fun v d1 d2 H1 s1 rv bd => w_name ?_⟩))))))))))))))))))
  try dsimp only
  obtain ⟨i, ei, hi⟩ := emod_at (c := cc / 2) (n := (keysL kvs).length) kl
  have hi' : ((keysL kvs).map V.str)[i]? = some (.str (keysL kvs)[i]) := by rw [List.getElem?_map, List.getElem?_eq_getElem hi]; rfl
  refine w_seq (w_asg (w_lst (w_cons (w_op (w_var rfl (w_op (w_op (w_var rfl (w_c (w_divI (by decide) (by decide) (w_cb (w_cons (w_var rfl (w_nil (w_lenL (SqL.of (s1 _ _ hn)) (w_modI (by rw [List.length_map]; omega) ?_))))))))))))))))
  rw [List.length_map, ei]
  refine w_ixL (v := .str (keysL kvs)[i]) (SqL.of (s1 _ _ hn)) (atI_nat hi') ?_
  refine w_cons (w_call (w_cons (w_op (w_var rfl (w_c (w_divI (by decide) (by decide) (w_nil ⟨_, rfl, cc / 2, rfl, fun bw H2 s2 asc bn => w_cons (w_c (w_nil ⟨by show 3 ≤ sizeLine; decide, fun ls hls => w_name ?_⟩))⟩)))))))
  have s3 := (s1.trans s2).laidT (o := .lst [.str (keysL kvs)[i], .str bw, .str "new"]) hls
  have e3 := upd_same (H := H2) (a := ls) (o := .lst [.str (keysL kvs)[i], .str bw, .str "new"])
  have rv3 := Rep.mono (s2.laidT (o := .lst [.str (keysL kvs)[i], .str bw, .str "new"]) hls) _ _ rv
  generalize upd H2 ls (.lst [.str (keysL kvs)[i], .str bw, .str "new"]) = H3 at s3 e3 rv3 ⊢
  try dsimp only
  refine w_seq (w_asg (w_lst (w_cons (w_c (w_cons (w_c (w_cons (w_c (w_nil ⟨by show 3 ≤ sizeLine; decide, fun ld hld => w_name ?_⟩)))))))))
  have s4 := s3.laidT (o := .lst [.str "twice", .str "name", .str "book"]) hld
  have e4 := upd_same (H := H3) (a := ld) (o := .lst [.str "twice", .str "name", .str "book"])
  have e34 := Same.laid (o := .lst [.str "twice", .str "name", .str "book"]) hld _ _ e3
  have rv4 := Rep.mono (Same.laid (o := .lst [.str "twice", .str "name", .str "book"]) hld) _ _ rv3
  generalize upd H3 ld (.lst [.str "twice", .str "name", .str "book"]) = H4 at s4 e4 e34 rv4 ⊢
  try dsimp only
  refine w_seq (w_for (w_rng1 (w_cons (w_c (w_nil ⟨3, rfl, by decide, by decide, ?_⟩)))))
  refine for_range0 (n := 3) (fun k σ H' => Same H4 H' ∧ ∃ r7 r8, σ = [some a, some (.ref ln), some (.int cc), some (.ref gp), some v, some (.ref ls), some (.ref ld), r7, r8]) ⟨Same.refl _, _, _, rfl⟩ ?_ ?_
  · rintro k σ H5 hk ⟨s5, r7, r8, rfl⟩
    have s05 := s4.trans s5
    refine w_name ?_
    try dsimp only
    refine w_seq (w_asg (w_var rfl (w_name ?_)))
    try dsimp only
    refine w_seqI (fun σ' H' => H' = H5 ∧ ∃ dv D1 D2, σ' = [some a, some (.ref ln), some (.int cc), some (.ref gp), some v, some (.ref ls), some (.ref ld), some (.int (k : Nat)), some dv] ∧ Rep H5 dv (.tuple [D1, D2]) ∧ (k = 2 → BadD n (.tuple [D1, D2]))) (fun R kk => ?_) ?_
    · have badc := kk _ _ ⟨rfl, v, d1, d2, rfl, Rep.mono s5 _ _ rv4, fun _ => bd⟩
      refine w_ifS (w_and (w_test (w_op (w_var rfl (w_c (w_ltI (w_bl (iteD (fun k2 => ?_) fun _ => iteF (w_next badc)))))))))
      refine w_test (w_op (w_op (w_var rfl (w_c (w_modI (by decide) (w_c (w_eqI (w_bl (iteD (fun _ => ?_) fun _ => w_next badc)))))))))
      exact w_asg (w_var rfl (w_name (kk _ _ ⟨rfl, .ref gp, .tuple (g.1.map .int), .tuple (g.2.map .int), rfl, Rep.mono s05 _ _ rg, fun z => by omega⟩)))
    rintro σ' H' ⟨rfl, dv, D1, D2, rfl, rdv, bdv⟩
    obtain ⟨t, x, y, rfl, ht, rx, ry⟩ := pair_rep rdv
    have rs5 := Reps.mono s05 _ _ LB.reps
    have go : ∀ (nm : Str) (rr : Rk), [V.str (keysL kvs)[i], .str bw, .str "new"][k]? = some (.str nm) → [V.str "twice", .str "name", .str "book"][k]? = some (.str rr.txt) → Refd H' kvs "put" [.str nm, x, y] rr → tIfS (tTest (tOp (rNeU K) (tCall (sp__law_refused K mg) [] E0 (tCons (tVar 0) (tCons (tC (.str "put")) (tCons (tLst (tCons (tOp (rIx K) (tVar 5) (tVar 7)) (tCons (tOp (rIx K) (tVar 8) (tC (.int 0))) (tCons (tOp (rIx K) (tVar 8) (tC (.int 1))) tNil)))) tNil)))) (tOp (rIx K) (tVar 6) (tVar 7)))) (tRet (tC (.bl false))) tNext { nx := fun σ H' => Same H4 H' ∧ ∃ r7 r8, σ = [some a, some (.ref ln), some (.int cc), some (.ref gp), some v, some (.ref ls), some (.ref ld), r7, r8], rt := Q, bk := fun σ H' => (tRet (tC (.bl true))) (Rt Q) σ H', ct := fun σ H' => Same H4 H' ∧ ∃ r7 r8, σ = [some a, some (.ref ln), some (.int cc), some (.ref gp), some v, some (.ref ls), some (.ref ld), r7, r8] } [some a, some (.ref ln), some (.int cc), some (.ref gp), some v, some (.ref ls), some (.ref ld), some (.int (k : Nat)), some (.ref t)] H' := by
      intro nm rr h5 h6 Rf
      refine w_ifS (w_test (w_op (w_refd (w := "put") (r := rr) (L.mono s05) rfl (fun R h => w_c h) ?_ ?_)))
      · intro R kq
        refine w_cons (w_op (w_var rfl (w_var rfl (w_ixL (v := .str nm) (SqL.of (s5 _ _ e34)) (atI_nat h5) ?_))))
        refine w_cons (w_op (w_var rfl (w_c (w_ixT (v := x) (SqT.of ht) rfl ?_))))
        refine w_cons (w_op (w_var rfl (w_c (w_ixT (v := y) (SqT.of ht) rfl ?_))))
        exact w_nil (kq _ _ (Same.refl _) (by show 3 ≤ 10; decide) Rf)
      · exact fun H6 s6 => w_op (w_var rfl (w_var rfl (w_ixL (v := .str rr.txt) (SqL.of (s6 _ _ (s5 _ _ e4))) (atI_nat h6) (w_neS (w_bl (iteNF rfl (w_next ⟨s5.trans s6, _, _, rfl⟩)))))))
    rcases (by omega : k = 0 ∨ k = 1 ∨ k = 2) with rfl | rfl | rfl
    · have hin := List.getElem_mem hi
      exact go _ .twice rfl rfl (.inl ⟨rfl, _, x, y, _, D1, D2, rfl, (ok _ hin).1, rs5, rx, ry, .inr (.inl ⟨(ok _ hin).2, hin, rfl⟩)⟩)
    · exact go _ .name rfl rfl (.inl ⟨rfl, _, x, y, _, D1, D2, rfl, asc, rs5, rx, ry, .inl ⟨bn, rfl⟩⟩)
    · exact go _ .book rfl rfl (.inl ⟨rfl, _, x, y, _, D1, D2, rfl, new_ok.1, rs5, rx, ry, .inr (.inr ⟨new_ok.2, nn, book_bad LB.good Bn (bdv rfl), rfl⟩)⟩)
  · rintro σ H5 ⟨s5, r7, r8, rfl⟩
    try dsimp only
    exact w_ret (w_c (q _ (s4.trans s5)))
theorem rd__law_names {K : PySem.W.Frag} {mg : Str → Option Value} (M : Md K mg) {a b c : V} {H : Hp} {Q : VK} {E : XK} (h : sb__law_names K mg a b c H Q E) : tb__law_names K mg (Rt Q) [some a, some b, some c, none, none, none] H := by
  obtain ⟨d, kvs, cc, L, ⟨ln, rfl, hn⟩, ne, nn, na, ok, rfl, q⟩ := h
  have kl : 0 < (keysL kvs).length := by
    rw [List.length_map]
    cases kvs with
    | nil => exact absurd rfl ne
    | cons x r => simp
  have h0 : ((keysL kvs).map V.str)[0]? = some (.str (keysL kvs)[0]) := by rw [List.getElem?_map, List.getElem?_eq_getElem kl]; rfl
  obtain ⟨i, ei, hi⟩ := emod_at (c := cc) (n := (keysL kvs).length) kl
  have hi' : ((keysL kvs).map V.str)[i]? = some (.str (keysL kvs)[i]) := by rw [List.getElem?_map, List.getElem?_eq_getElem hi]; rfl
  unfold tb__law_names
  refine w_seq (w_for (w_seq0 (w_lst (w_cons (w_call (w_cons (w_var rfl (w_nil ⟨_, rfl, cc, rfl, fun bw H1 s1 asc bn => w_cons (w_c (w_cons (w_c (w_nil ⟨by show 3 ≤ sizeLine; decide, fun l hl => ⟨l, rfl, .inl ⟨⟨_, SqL.of upd_same⟩, ?_⟩⟩⟩))))⟩))))))))
  have s2 := s1.laidT (o := .lst [.str bw, .str "new", .str "abcdefgh"]) hl
  have e2 := upd_same (H := H1) (a := l) (o := .lst [.str bw, .str "new", .str "abcdefgh"])
  generalize upd H1 l (.lst [.str bw, .str "new", .str "abcdefgh"]) = H2 at s2 e2 ⊢
  refine for_list (K := K) (a := l) (xs := [.str bw, .str "new", .str "abcdefgh"]) (fun i σ H' => Same H2 H' ∧ ∃ r3 r4 r5, σ = [some a, some (.ref ln), some (.int cc), r3, r4, r5]) ⟨Same.refl _, _, _, _, rfl⟩ (fun i σ H' _ z => SqL.of (z.1 _ _ e2)) ?_ ?_
  · rintro i0 x σ H3 hx ⟨s3, r3, r4, r5, rfl⟩
    obtain ⟨nm, rfl, no⟩ : ∃ nm : Str, x = .str nm ∧ nm ∉ keysL kvs := by
      rcases three_of hx with rfl | rfl | rfl
      · exact ⟨_, rfl, fun z => by rw [ok _ z] at bn; cases bn⟩
      · exact ⟨_, rfl, nn⟩
      · exact ⟨_, rfl, na⟩
    have s03 := s2.trans s3
    refine w_name ?_
    try dsimp only
    refine w_seqI (fun σ' H' => Same H3 H' ∧ ∃ r4 r5, σ' = [some a, some (.ref ln), some (.int cc), some (.str nm), r4, r5]) (fun R kk => ?_) ?_
    · refine w_for (w_seq0 (w_lst (w_cons (w_lst (w_cons (w_c (w_cons (w_lst (w_cons (w_var rfl (w_nil ⟨by show 1 ≤ sizeLine; decide, fun u1 hu1 => w_nil ⟨by show 2 ≤ sizeLine; decide, fun v1 hv1 => ?_⟩⟩)))))))))))
      refine w_cons (w_lst (w_cons (w_c (w_cons (w_lst (w_cons (w_var rfl (w_nil ⟨by show 1 ≤ sizeLine; decide, fun u2 hu2 => w_nil ⟨by show 2 ≤ sizeLine; decide, fun v2 hv2 => ?_⟩⟩))))))))
      have z1 := Same.laid (o := .lst [.str nm]) hu1
      have z2 := z1.laidT (o := .lst [.str "take", .ref u1]) hv1
      have z3 := z2.laidT (o := .lst [.str nm]) hu2
      have z4 := z3.laidT (o := .lst [.str "reached", .ref u2]) hv2
      refine w_cons (w_lst (w_cons (w_c (w_cons (w_lst (w_cons (w_var rfl (w_cons (w_op (w_var rfl (w_c (w_ixL (v := .str (keysL kvs)[0]) (SqL.of (z4 _ _ (s03 _ _ hn))) (atI_nat h0) (w_nil ⟨by show 2 ≤ sizeLine; decide, fun u3 hu3 => w_nil ⟨by show 2 ≤ sizeLine; decide, fun v3 hv3 => ?_⟩⟩)))))))))))))
      have z5 := z4.laidT (o := .lst [.str nm, .str (keysL kvs)[0]]) hu3
      have z6 := z5.laidT (o := .lst [.str "at_once", .ref u3]) hv3
      refine w_nil ⟨by show 3 ≤ sizeLine; decide, fun l2 hl2 => ⟨l2, rfl, .inl ⟨⟨_, SqL.of upd_same⟩, ?_⟩⟩⟩
      have z7 := z6.laidT (o := .lst [.ref v1, .ref v2, .ref v3]) hl2
      have f7 := upd_same (H := upd (upd (upd (upd (upd (upd H3 u1 (.lst [.str nm])) v1 (.lst [.str "take", .ref u1])) u2 (.lst [.str nm])) v2 (.lst [.str "reached", .ref u2])) u3 (.lst [.str nm, .str (keysL kvs)[0]])) v3 (.lst [.str "at_once", .ref u3])) (a := l2) (o := .lst [.ref v1, .ref v2, .ref v3])
      have c6 := Same.laid (o := .lst [.ref v1, .ref v2, .ref v3]) hl2
      have c5 := (Same.laid (o := .lst [.str "at_once", .ref u3]) hv3).trans c6
      have c4 := (Same.laid (o := .lst [.str nm, .str (keysL kvs)[0]]) hu3).trans c5
      have c3 := (Same.laid (o := .lst [.str "reached", .ref u2]) hv2).trans c4
      have c2 := (Same.laid (o := .lst [.str nm]) hu2).trans c3
      have c1 := (Same.laid (o := .lst [.str "take", .ref u1]) hv1).trans c2
      have g1 := c1 _ _ (upd_same (H := H3) (a := u1) (o := .lst [.str nm]))
      have k1 := c2 _ _ (upd_same (H := upd H3 u1 (.lst [.str nm])) (a := v1) (o := .lst [.str "take", .ref u1]))
      have g2 := c3 _ _ (upd_same (H := upd (upd H3 u1 (.lst [.str nm])) v1 (.lst [.str "take", .ref u1])) (a := u2) (o := .lst [.str nm]))
      have k2 := c4 _ _ (upd_same (H := upd (upd (upd H3 u1 (.lst [.str nm])) v1 (.lst [.str "take", .ref u1])) u2 (.lst [.str nm])) (a := v2) (o := .lst [.str "reached", .ref u2]))
      have g3 := c5 _ _ (upd_same (H := upd (upd (upd (upd H3 u1 (.lst [.str nm])) v1 (.lst [.str "take", .ref u1])) u2 (.lst [.str nm])) v2 (.lst [.str "reached", .ref u2])) (a := u3) (o := .lst [.str nm, .str (keysL kvs)[0]]))
      have k3 := c6 _ _ (upd_same (H := upd (upd (upd (upd (upd H3 u1 (.lst [.str nm])) v1 (.lst [.str "take", .ref u1])) u2 (.lst [.str nm])) v2 (.lst [.str "reached", .ref u2])) u3 (.lst [.str nm, .str (keysL kvs)[0]])) (a := v3) (o := .lst [.str "at_once", .ref u3]))
      generalize upd (upd (upd (upd (upd (upd (upd H3 u1 (.lst [.str nm])) v1 (.lst [.str "take", .ref u1])) u2 (.lst [.str nm])) v2 (.lst [.str "reached", .ref u2])) u3 (.lst [.str nm, .str (keysL kvs)[0]])) v3 (.lst [.str "at_once", .ref u3])) l2 (.lst [.ref v1, .ref v2, .ref v3]) = H7 at z7 f7 g1 k1 g2 k2 g3 k3 ⊢
      refine for_list (K := K) (a := l2) (xs := [.ref v1, .ref v2, .ref v3]) (fun i σ H' => Same H7 H' ∧ ∃ r4 r5, σ = [some a, some (.ref ln), some (.int cc), some (.str nm), r4, r5]) ⟨Same.refl _, _, _, rfl⟩ (fun i σ H' _ z => SqL.of (z.1 _ _ f7)) ?_ ?_
      · rintro i1 x σ H8 hx8 ⟨s8, r4, r5, rfl⟩
        have go : ∀ (v u : Addr) (w : Str) (ys : List V), H7 v = some (.lst [.str w, .ref u]) → H7 u = some (.lst ys) → Refd H7 kvs w ys .name → gTupL K 2 (gCons (gName 4) (gCons (gName 5) gNil)) (.ref v) [some a, some (.ref ln), some (.int cc), some (.str nm), r4, r5] H8 fun σ2 H2' => tIfS (tTest (tOp (rNeU K) (tCall (sp__law_refused K mg) [] E0 (tCons (tVar 0) (tCons (tVar 4) (tCons (tVar 5) tNil)))) (tC (.str "name")))) (tRet (tC (.bl false))) tNext { nx := fun σ H' => Same H7 H' ∧ ∃ r4 r5, σ = [some a, some (.ref ln), some (.int cc), some (.str nm), r4, r5], rt := Q, bk := fun σ' H' => R σ' H', ct := fun σ H' => Same H7 H' ∧ ∃ r4 r5, σ = [some a, some (.ref ln), some (.int cc), some (.str nm), r4, r5] } σ2 H2' := by
          intro v u w ys hv hu R'
          refine w_gtupL (SqL.of (s8 _ _ hv)) rfl (w_gcons (w_name (w_gcons (w_name (w_gnil ?_)))))
          try dsimp only
          refine w_ifS (w_test (w_op (w_call (w_cons (w_var rfl (w_cons (w_var rfl (w_cons (w_var rfl (w_nil ⟨_, _, _, rfl, d, kvs, w, ys, u, .name, L.mono ((s03.trans z7).trans s8), rfl, rfl, s8 _ _ hu, R'.mono s8, ?_⟩))))))))))
          exact fun H9 s9 => w_c (w_neS (w_bl (iteNF rfl (w_next ⟨s8.trans s9, _, _, rfl⟩))))
        rcases three_of hx8 with rfl | rfl | rfl
        · exact go _ _ _ _ k1 g1 (.inr (.inl ⟨.inl rfl, _, rfl, no, rfl⟩))
        · exact go _ _ _ _ k2 g2 (.inr (.inl ⟨.inr rfl, _, rfl, no, rfl⟩))
        · exact go _ _ _ _ k3 g3 (.inr (.inr (.inl ⟨rfl, _, _, rfl, .inl no, rfl⟩)))
      · rintro σ H8 ⟨s8, r4, r5, rfl⟩
        exact kk _ _ ⟨z7.trans s8, _, _, rfl⟩
    rintro σ' H4 ⟨s4, r4, r5, rfl⟩
    have s04 := s03.trans s4
    refine w_ifS (w_test (w_op (w_refd (w := "at_once") (r := .name) (L.mono s04) rfl (fun R h => w_c h) ?_ ?_)))
    · intro R k
      refine w_cons (w_op (w_var rfl (w_op (w_var rfl (w_cb (w_cons (w_var rfl (w_nil (w_lenL (SqL.of (s04 _ _ hn)) (w_modI (by rw [List.length_map]; omega) ?_))))))))))
      rw [List.length_map, ei]
      exact w_ixL (v := .str (keysL kvs)[i]) (SqL.of (s04 _ _ hn)) (atI_nat hi') (w_cons (w_var rfl (w_nil (k _ _ (Same.refl _) (by show 2 ≤ 10; decide) (.inr (.inr (.inl ⟨rfl, _, _, rfl, .inr no, rfl⟩)))))))
    · exact fun H5 s5 => w_c (w_neS (w_bl (iteNF rfl (w_next ⟨(s3.trans s4).trans s5, _, _, _, rfl⟩))))
  · rintro σ H3 ⟨s3, r3, r4, r5, rfl⟩
    try dsimp only
    exact w_ret (w_c (q _ (s2.trans s3)))
theorem for_zipm {K : PySem.W.Frag} {a b : Addr} {xs ys : List V} {n : Nat} {g : TG} {tb : TS} {D : Ends} {σ : St} {H : Hp} (hx : xs.length = n) (hy : ys.length = n) (Pv : Nat → St → Hp → Prop) (h0 : Pv 0 σ H) (hl : ∀ i σ H, i ≤ n → Pv i σ H → SqL K H a xs ∧ SqT K H b ys)
    (hs : ∀ i x y σ H p, xs[i]? = some x → ys[i]? = some y → Pv i σ H → H p = none → g (.ref p) σ (upd H p (.tup [x, y])) fun σ2 H2 => tb { D with nx := Pv (i + 1), ct := Pv (i + 1), bk := D.nx } σ2 H2) (hd : ∀ σ H, Pv n σ H → D.nx σ H) :
    ∃ W : Nat → Nat → St → Hp → Prop, (∃ m, W 0 m σ H) ∧ ∀ i m σ H, W i m σ H →
      ((Itzm K a b).stop i H ∧ D.nx σ H) ∨ ((Itzm K a b).go i H ∧ ∃ N : St → Hp → Prop, (∀ σ' H', N σ' H' → ∃ m', m' < m ∧ W (i + 1) m' σ' H') ∧ ∀ x H', (Itzm K a b).yld i H x H' → g x σ H' fun σ2 H2 => tb { D with nx := N, ct := N, bk := D.nx } σ2 H2) := by
  refine ⟨fun i m σ H => m = n - i ∧ i ≤ n ∧ Pv i σ H, ⟨n, by simp, Nat.zero_le _, h0⟩, ?_⟩
  rintro i m σ H ⟨rfl, hi, p⟩
  obtain ⟨q1, q2⟩ := hl i σ H hi p
  by_cases hlt : i < n
  · have e1 : xs[i]? = some (xs[i]'(by omega)) := by simp
    have e2 : ys[i]? = some (ys[i]'(by omega)) := by simp
    refine .inr ⟨⟨xs, ys, _, _, q1, q2, e1, e2⟩, Pv (i + 1), fun σ' H' p' => ⟨n - (i + 1), by omega, rfl, hlt, p'⟩, fun v H' y => ?_⟩
    obtain ⟨t, u, w, ht, rfl, g1, g2, rfl⟩ := y
    exact hs i u w σ H t (g1 xs q1) (g2 ys q2) p ht
  · have e : i = n := by omega
    subst e
    exact .inl ⟨⟨xs, ys, q1, q2, .inl (by omega)⟩, hd σ H p⟩
def nmAt (i : Nat) : Str := ⟨#[97 + i]⟩
def nwAt (i : Nat) : Str := ("new" : Str) ++ nmAt i
def ksAt (n : Nat) : List Str := (List.range n).map nmAt
def keysAt (n m : Nat) : List Str := ksAt n ++ ("new" : Str) :: (List.range' (n + 1) (m - n - 1)).map nwAt
def okN (w : Str) : Bool := (w.cps.toList.all fun c => decide (c < 128)) && decide (w.length ≤ 900) && nameB w
theorem okN_ok {w : Str} (h : okN w = true) : ascT w ∧ nameB w = true := by
  unfold okN at h
  rw [Bool.and_eq_true, Bool.and_eq_true, List.all_eq_true] at h
  exact ⟨⟨fun c hc => of_decide_eq_true (h.1.1 c hc), of_decide_eq_true h.1.2⟩, h.2⟩
theorem at6 : ∀ i, i < 6 → atI ("abcdef" : Str).cps.toList ((i : Nat) : Int) = some (97 + i) := by decide +kernel
theorem at8 : ∀ i, i < 8 → atI ("abcdefgh" : Str).cps.toList ((i : Nat) : Int) = some (97 + i) := by decide +kernel
theorem ok6 : ∀ i, i < 6 → okN (nmAt i) = true := by decide +kernel
theorem ok8 : ∀ i, i < 8 → okN (nwAt i) = true := by decide +kernel
theorem ok_ks : ∀ n, n < 7 → ((ksAt n).all okN) = true := by decide +kernel
theorem new_no : ∀ n, n < 7 → (ksAt n).contains ("new" : Str) = false := by decide +kernel
theorem abc_no : ∀ n, n < 7 → (ksAt n).contains ("abcdefgh" : Str) = false := by decide +kernel
theorem nin_no : ∀ n, n < 7 → (keysAt n 8).contains ("ninth" : Str) = false := by decide +kernel
theorem nm_no : ∀ i, i < 6 → (ksAt i).contains (nmAt i) = false := by decide +kernel
theorem nw_no : ∀ n, n < 7 → ∀ m, m < 8 → (n + 1 ≤ m → (keysAt n m).contains (nwAt m) = false) := by decide +kernel
theorem nw_more : ∀ n, n < 7 → ∀ m, m < 8 → (n + 1 ≤ m → keysAt n m ++ [nwAt m] = keysAt n (m + 1)) := by decide +kernel
theorem ks_new : ∀ n, n < 7 → ksAt n ++ [("new" : Str)] = keysAt n (n + 1) := by decide +kernel
theorem ks_more (i : Nat) : ksAt i ++ [nmAt i] = ksAt (i + 1) := by unfold ksAt; rw [List.range_succ, List.map_append]; rfl
theorem no_of {l : List Str} {w : Str} (h : l.contains w = false) : w ∉ l := fun z => by
  have : l.contains w = true := List.contains_iff_mem.mpr z
  rw [h] at this; cases this
theorem ok_new : okN ("new" : Str) = true := by decide +kernel
theorem ok_nin : okN ("ninth" : Str) = true := by decide +kernel
theorem ok_oth : okN ("other" : Str) = true := by decide +kernel
theorem ok_a : okN ("a" : Str) = true := by decide +kernel
theorem SameB.sql {K : PySem.W.Frag} {d a : Addr} {H H' : Hp} {kvs : List (Key × V)} {xs : List V} (s : SameB d H H') (hd : H d = some (.dK kvs)) (h : SqL K H a xs) : SqL K H' a xs := by
  rcases h with (h | ⟨o, h⟩) | h
  · exact .inl (.inl (s _ _ (ne_of h hd (by simp)) h))
  · exact .inl (.inr ⟨o, s _ _ (ne_of h hd (by simp)) h⟩)
  · exact .inr h
theorem SameB.lst {d a : Addr} {H H' : Hp} {kvs : List (Key × V)} {xs : List V} (s : SameB d H H') (hd : H d = some (.dK kvs)) (h : H a = some (.lst xs)) : H' a = some (.lst xs) := s _ _ (ne_of h hd (by simp)) h
structure Bes (K : PySem.W.Frag) (H : Hp) (l p ln : Addr) (sc : List Int) (xs : List V) (B : List (List Int × List Int)) : Prop where
  script : SqL K H l (sc.map V.int)
  book : H p = some (.tup xs)
  reps : Reps H xs (B.map dayD)
  names : H ln = some (.lst ((ksAt B.length).map V.str))
theorem Bes.mono {K : PySem.W.Frag} {H H' : Hp} {l p ln : Addr} {sc : List Int} {xs : List V} {B : List (List Int × List Int)} (s : Same H H') (b : Bes K H l p ln sc xs B) : Bes K H' l p ln sc xs B := ⟨s.seq b.script, s _ _ b.book, Reps.mono s _ _ b.reps, s _ _ b.names⟩
theorem Bes.sb {K : PySem.W.Frag} {H H' : Hp} {l p ln d : Addr} {sc : List Int} {xs : List V} {B : List (List Int × List Int)} {kvs : List (Key × V)} (s : SameB d H H') (hd : H d = some (.dK kvs)) (b : Bes K H l p ln sc xs B) : Bes K H' l p ln sc xs B := ⟨s.sql hd b.script, s.tu hd _ _ b.book, Reps.tu (s.tu hd) _ _ (noL_days B) b.reps, s.lst hd b.names⟩
theorem LedB.mono {mg : Str → Option Value} {H H' : Hp} {v : V} {d : Addr} {kvs : Kvs} {B : List (List Int × List Int)} {n : Nat} (s : Same H H') (L : LedB mg H v d kvs B n) : LedB mg H' v d kvs B n := ⟨L.led.mono s, Reps.mono s _ _ L.reps, L.good, L.n1, L.n4⟩
theorem put_ok {K : PySem.W.Frag} {mg : Str → Option Value} {H : Hp} {a : V} {d q1 q2 : Addr} {kvs : Kvs} {B : List (List Int × List Int)} {n : Nat} {nm : Str} {g : List Int × List Int} {Q : VK} {E : XK} (L : LedB mg H a d kvs B n) (l7 : B.length ≤ 7) (ok : okN nm = true) (no : nm ∉ keysL kvs) (h1 : H q1 = some (.tup (g.1.map V.int))) (h2 : H q2 = some (.tup (g.2.map V.int))) (gd : GoodDay n g)
    (q : ∀ t H', SameB d H H' → LedB mg H' a d (kvs ++ [(nm, .ref t)]) (B ++ [g]) n → H' t = some (.tup [.ref q1, .ref q2]) → Q .non H') : sb_Ledger_put K mg a (.str nm) (.ref q1) (.ref q2) H Q E := by
  obtain ⟨as, nb⟩ := okN_ok ok
  have w : isBookD (.tuple (B.map dayD ++ [dayD g])) = true := book_more L.good gd L.n1 L.n4 l7
  refine ⟨d, kvs, nm, B.map dayD, .tuple (g.1.map .int), .tuple (g.2.map .int), L.led, rfl, as, L.reps, rep_tup h1 (Reps.ints _), rep_tup h2 (Reps.ints _), fun z => ?_, fun _ z => absurd z no, fun _ _ z => ?_, fun _ _ _ t H' sb ht L' => q t H' sb ⟨L', ?_, fun x hx => ?_, L.n1, L.n4⟩ ht⟩
  · rw [nb] at z; cases z
  · have z' : isBookD (.tuple (B.map dayD ++ [dayD g])) = false := z
    rw [w] at z'; cases z'
  · have tu := sb.tu L.led.kept
    rw [List.map_append, List.map_append]
    exact reps_app (Reps.tu tu _ _ (noL_days B) L.reps) (reps_cons (rep_day ht (tu _ _ h1) (tu _ _ h2)) reps_nil)
  · rcases List.mem_append.mp hx with h | h
    · exact L.good x h
    · rw [List.mem_singleton.mp h]; exact gd
theorem filter_mid {A C : Kvs} {p : Str × V} (nd : (keysL (A ++ p :: C)).Nodup) : (A ++ p :: C).filter (fun q => !decide (q.1 = p.1)) = A ++ C := by
  have nd' : (keysL A ++ p.1 :: keysL C).Nodup := by
    have e : keysL (A ++ p :: C) = keysL A ++ p.1 :: keysL C := by simp [keysL]
    rw [← e]; exact nd
  obtain ⟨_, n2, n3⟩ := List.nodup_append.mp nd'
  have fa : A.filter (fun q => !decide (q.1 = p.1)) = A := List.filter_eq_self.mpr fun q hq => by
    have := n3 q.1 (List.mem_map.mpr ⟨q, hq, rfl⟩) p.1 (by simp)
    simp [this]
  have fc : C.filter (fun q => !decide (q.1 = p.1)) = C := List.filter_eq_self.mpr fun q hq => by
    have m : q.1 ∈ keysL C := List.mem_map.mpr ⟨q, hq, rfl⟩
    have := (List.nodup_cons.mp n2).1
    have ne : q.1 ≠ p.1 := fun z => this (z ▸ m)
    simp [ne]
  rw [List.filter_append, List.filter_cons_of_neg (by simp), fa, fc]
theorem lay_strs : ∀ {ks : List Str}, ks.all PyData.strOk = true → PyData.canLayAll0 (ks.map PyData.str) = true
  | [], _ => by simp [PyData.canLayAll0]
  | k :: ks, h => by
    rw [List.all_cons, Bool.and_eq_true] at h
    rw [List.map_cons]
    simp only [PyData.canLayAll0, PyData.canLay0, lay_strs h.2, h.1, Bool.and_self]
theorem so_ks : ∀ n, n < 7 → (ksAt n).all PyData.strOk = true := by decide +kernel
theorem depth_strs : ∀ ks : List Str, PyData.depthAll (ks.map PyData.str) ≤ 1
  | [] => by simp [PyData.depthAll]
  | k :: ks => by
    rw [List.map_cons]
    have := depth_strs ks
    simp only [PyData.depthAll, PyData.depth]; omega
theorem reps_strs {H : Hp} : ∀ ks : List Str, Reps H (ks.map V.str) (ks.map PyData.str)
  | [] => reps_nil
  | k :: ks => reps_cons rep_str (reps_strs ks)
theorem more_day {n : Nat} {g : List Int × List Int} (h : GoodDay n g) : GoodDay (n + 1) (g.1 ++ [3], g.2 ++ [1]) := by
  refine ⟨by simp [h.l1], by simp [h.l2], fun x hx => ?_, fun x hx => ?_, ⟨1, by simp, by decide⟩⟩
  · rcases List.mem_append.mp hx with z | z
    · exact h.pr x z
    · rw [List.mem_singleton.mp z]; decide
  · rcases List.mem_append.mp hx with z | z
    · exact h.am x z
    · rw [List.mem_singleton.mp z]; decide
theorem names_same {K : PySem.W.Frag} {mg : Str → Option Value} {H : Hp} {a : V} {d ln : Addr} {kvs : Kvs} {σ : St} {n m : Nat} {R : Bool → Hp → Prop} (L : Led mg H a d kvs) (e : σ[n]? = some (some a)) (em : σ[m]? = some (some (.ref ln))) (hn : H ln = some (.lst ((keysL kvs).map V.str))) (so : (keysL kvs).all PyData.strOk = true) (q : ∀ H', Same H H' → R false H') :
    tTest (tOp (rNeU K) (tMeth (clsA mg "Ledger") "names" (sp_Ledger_names K mg) [] E0 (tVar n) tNil) (tVar m)) σ H R := by
  refine w_test (w_op (L.meth e (by decide) (w_nil ⟨_, rfl, d, kvs, L, fun p H1 s1 _ h1 => w_var em ?_⟩)))
  exact w_neSelf (d := .list ((keysL kvs).map .str)) (rep_lst h1 (reps_strs _)) (rep_lst (s1 _ _ hn) (reps_strs _)) (by simpa only [PyData.canLay0] using lay_strs so) (by have := depth_strs (keysL kvs); simp only [PyData.depth]; omega) (w_bl (q H1 s1))
theorem book_same {K : PySem.W.Frag} {mg : Str → Option Value} {H : Hp} {a v : V} {d : Addr} {kvs : Kvs} {B : List (List Int × List Int)} {σ : St} {n m : Nat} {R : Bool → Hp → Prop} (L : Led mg H a d kvs) (rs : Reps H (kvs.map (·.2)) (B.map dayD)) (ne : kvs ≠ []) (e : σ[n]? = some (some a)) (em : σ[m]? = some (some v)) (rv : Rep H v (bookD B)) (q : ∀ H', Same H H' → R false H') :
    tTest (tOp (rNeU K) (tMeth (clsA mg "Ledger") "book" (sp_Ledger_book K mg) [] E0 (tVar n) tNil) (tVar m)) σ H R := by
  refine w_test (w_op (L.meth e (by decide) (w_nil ⟨_, rfl, d, kvs, L, fun z => absurd z ne, fun _ p H1 s1 h1 => w_var em ?_⟩)))
  exact w_neSelf (d := bookD B) (rep_tup h1 (Reps.mono s1 _ _ rs)) (Rep.mono s1 _ _ rv) (lay_days B) (Nat.le_trans (depth_days B) (by decide)) (w_bl (q H1 s1))
theorem take_ok {K : PySem.W.Frag} {mg : Str → Option Value} {H : Hp} {a : V} {d : Addr} {A C : Kvs} {p : Str × V} {Q : VK} {E : XK} (L : Led mg H a d (A ++ p :: C)) (q : ∀ H', SameB d H H' → Led mg H' a d (A ++ C) → Q .non H') : sb_Ledger_take K mg a (.str p.1) H Q E :=
  ⟨d, _, p.1, L, rfl, fun _ H' sb L' => q H' sb (by rw [filter_mid L.nd] at L'; exact L'), fun z => absurd (by simp [keysL]) z⟩
theorem no_a : ("a" : Str) ∉ [("other" : Str)] := by decide +kernel
theorem cut_keys {A C : Kvs} {m : Nat} (h : A.length = m) : cutV ((keysL (A ++ C)).map V.str) (some (m : Int)) none = (keysL C).map V.str := by
  unfold cutV
  have e : (keysL (A ++ C)).map V.str = (keysL A).map V.str ++ (keysL C).map V.str := by simp [keysL]
  have la : ((keysL A).map V.str).length = m := by simp [keysL, h]
  rw [HT.sIx_nat, HT.sIx_none, e, List.length_append, la, Nat.min_eq_left (Nat.le_add_right _ _), List.drop_append_of_le_length (by omega), List.drop_of_length_le (by omega), List.nil_append]
  exact List.take_of_length_le (by omega)
theorem reps_left {H : Hp} : ∀ {xs ys : List V} {ds es : List PyData}, Reps H (xs ++ ys) (ds ++ es) → xs.length = ds.length → Reps H xs ds
  | [], _, [], _, _, _ => reps_nil
  | [], _, _ :: _, _, _, h => by simp at h
  | _ :: _, _, [], _, _, h => by simp at h
  | x :: xs, ys, d :: ds, es, r, h => by
    obtain ⟨x', r', e, r1, r2⟩ := reps_cons_inv (show Reps H (x :: (xs ++ ys)) (d :: (ds ++ es)) from r)
    cases e
    exact reps_cons r1 (reps_left r2 (by simpa using h))
theorem rd_law {K : PySem.W.Frag} {mg : Str → Option Value} (M : Md K mg) {a : V} {H : Hp} {Q : VK} {E : XK} (h : sb_top K a H Q E) : tb_law K mg (Rt Q) [some a, none, none, none, none, none, none, none, none] H := by
  obtain ⟨l, sc, rfl, hl, hb, hlen, q⟩ := h
  unfold tb_law
  refine w_seq (w_asg (w_call (w_cons (w_var rfl (w_cons (w_c (w_cons (w_c (w_cons (w_c (w_nil ⟨_, _, _, _, rfl, l, sc, 4, 6, 4, rfl, rfl, rfl, rfl, hl, hb, by decide, by decide, by decide, by decide, by decide, fun v B k H1 s1 rB gB kn _ => w_name ?_⟩)))))))))))
  try dsimp only
  obtain ⟨p, xs, rfl, hp, rs⟩ := rep_tup_inv rB
  have m1 := gB.m1
  have m6 : B.length ≤ 6 := gB.m8
  have hx : xs.length = B.length := by have := Reps.length rs; simpa using this
  refine w_seq (w_asg (w_comp (w_rng1 (w_cons (w_cb (w_cons (w_var rfl (w_nil (w_lenT (SqT.of hp) (w_nil ⟨_, rfl, (rng_ok (by omega)).1, (rng_ok (by omega)).2, fun D hD => ?_⟩))))))))))
  refine comp_rangeF D (fun _ => true) (fun i => V.str (nmAt i)) (by omega) hD ⟨_, rfl⟩ (fun i H3 R hi s3 k => w_yes k) (fun i H3 R hi _ s3 k => ?_) fun H2 s2 h2 => w_name ?_
  · exact w_op (w_c (w_var rfl (.inr (.inr ⟨_, _, _, rfl, rfl, by show 6 ≤ sizeLine; decide, at6 i (by omega), k⟩))))
  have h2' : H2 D = some (.lst ((ksAt B.length).map V.str)) := by
    have hf : (List.range xs.length).filter (fun _ => true) = List.range xs.length := List.filter_eq_self.mpr fun _ _ => rfl
    rw [h2, Int.toNat_natCast, hf, hx]
    unfold ksAt
    rw [List.map_map]; rfl
  clear h2
  have b2 : Bes K H2 l p D sc xs B := ⟨(s1.trans s2).seq hl, s2 _ _ hp, Reps.mono s2 _ _ rs, h2'⟩
  clear h2'
  try dsimp only
  refine w_seq (w_asg (w_make (w_nil fun x dx hx0 hdx nex => ⟨_, rfl, x, dx, rfl, upd_same, fun d hd => ⟨rfl, w_name ?_⟩⟩)))
  have nd : d ≠ x := fun z => by rw [z, upd_same] at hd; cases hd
  have hd2 : H2 d = none := by
    cases z : H2 d with
    | none => rfl
    | some u =>
      rw [upd_ne nd, upd_ne (fun y => by rw [y, hdx] at z; cases z), z] at hd
      cases hd
  have s3 : Same H2 (upd (upd (upd (upd H2 dx (.own x)) x (.ins (clsA mg "Ledger") dx [])) d (.dK [])) x (.ins (clsA mg "Ledger") dx [("kept", .ref d)])) := ((((Same.refl H2).put hdx).put hx0).put hd2).put hx0
  have L3 : LedB mg (upd (upd (upd (upd H2 dx (.own x)) x (.ins (clsA mg "Ledger") dx [])) d (.dK [])) x (.ins (clsA mg "Ledger") dx [("kept", .ref d)])) (.ref x) d [] [] k := ⟨⟨⟨x, dx, rfl, upd_same⟩, by rw [upd_ne nd, upd_same]; rfl, List.nodup_nil, by decide⟩, reps_nil, fun y hy => by simp at hy, gB.n1, gB.n6⟩
  generalize upd (upd (upd (upd H2 dx (.own x)) x (.ins (clsA mg "Ledger") dx [])) d (.dK [])) x (.ins (clsA mg "Ledger") dx [("kept", .ref d)]) = H3 at s3 L3 ⊢
  have b3 := b2.mono s3
  try dsimp only
  refine w_seq (w_ifS (w_not (w_tru (w_call (w_cons (w_var rfl (w_nil ⟨_, rfl, d, L3.led, fun H4 s4 => w_trub (iteF (w_next ?_))⟩)))))))
  have b4 := b3.mono s4
  have L4 := L3.mono s4
  try dsimp only
  refine w_seq (w_for (w_zip2m (w_cons (w_var rfl (w_cons (w_var rfl (w_nil ⟨D, p, rfl, ⟨_, SqL.of b4.names⟩, ⟨_, SqT.of b4.book⟩, ?_⟩)))))))
  refine for_zipm (n := B.length) (xs := (ksAt B.length).map V.str) (ys := xs) (by unfold ksAt; simp) hx (fun i σ H' => Bes K H' l p D sc xs B ∧ ∃ kvs, LedB mg H' (.ref x) d kvs (B.take i) k ∧ keysL kvs = ksAt i ∧ ∃ r4 r5, σ = [some (.ref l), some (.ref p), some (.ref D), some (.ref x), r4, r5, none, none, none]) ⟨b4, [], L4, rfl, _, _, rfl⟩ (fun i σ H' _ z => ⟨SqL.of z.1.names, SqT.of z.1.book⟩) ?_ ?_
  · rintro i nv dv σ H5 t e1 e2 ⟨b5, kvs, L5, hk, r4, r5, rfl⟩ ht
    have hi : i < B.length := by have := (List.getElem?_eq_some_iff.mp e2).1; omega
    have en : nv = .str (nmAt i) := by
      unfold ksAt at e1
      rw [List.getElem?_map, List.getElem?_map, List.getElem?_range hi] at e1
      exact (Option.some.inj e1).symm
    subst en
    obtain ⟨dd, hdd, rd⟩ := b5.reps.get e2
    rw [List.getElem?_map, List.getElem?_eq_getElem hi] at hdd
    cases hdd
    have sT := Same.laid (o := .tup [.str (nmAt i), dv]) ht
    have b6 := b5.mono sT
    have L6 := L5.mono sT
    have rd6 := Rep.mono sT _ _ rd
    have e6 := upd_same (H := H5) (a := t) (o := .tup [.str (nmAt i), dv])
    generalize upd H5 t (.tup [.str (nmAt i), dv]) = H6 at b6 L6 rd6 e6 ⊢
    obtain ⟨gp, q1, q2, rfl, hg, hq1, hq2⟩ := day_rep rd6
    refine w_gtup (SqT.of e6) rfl (w_gcons (w_name (w_gcons (w_name (w_gnil ?_)))))
    try dsimp only
    refine w_drop (L6.led.meth rfl (by decide) (w_cons (w_var rfl (w_cons (w_op (w_var rfl (w_c (w_ixT (v := .ref q1) (SqT.of hg) rfl (w_cons (w_op (w_var rfl (w_c (w_ixT (v := .ref q2) (SqT.of hg) rfl (w_nil ⟨_, _, _, _, rfl, ?_⟩))))))))))))))
    refine put_ok L6 (by rw [List.length_take]; omega) (ok6 i (by omega)) (by rw [hk]; exact no_of (nm_no i (by omega))) hq1 hq2 (gB.dy _ (List.getElem_mem hi)) fun u H7 sb L7 _ => ⟨b6.sb sb L6.led.kept, kvs ++ [(nmAt i, .ref u)], ?_, ?_, _, _, rfl⟩
    · have e : B.take (i + 1) = B.take i ++ [B[i]] := by rw [List.take_add_one, List.getElem?_eq_getElem hi]; rfl
      rw [e]; exact L7
    · show keysL (kvs ++ [(nmAt i, V.ref u)]) = ksAt (i + 1)
      rw [← ks_more, ← hk]
      simp [keysL]
  rintro σ H5 ⟨b5, base, L5, hk, r4, r5, rfl⟩
  rw [List.take_length] at L5
  try dsimp only
  have bl : base.length = B.length := by
    have := congrArg List.length hk
    unfold ksAt at this
    simpa [keysL] using this
  have bne : base ≠ [] := fun z => by rw [z] at bl; simp at bl; omega
  have n7 : B.length < 7 := by omega
  have nml : ∀ {H' : Hp}, Bes K H' l p D sc xs B → H' D = some (.lst ((keysL base).map V.str)) := fun b => by rw [hk]; exact b.names
  refine w_seq (w_asg (w_call (w_cons (w_var rfl (w_cons (w_c (w_nil ⟨_, _, rfl, l, sc, 1, rfl, rfl, b5.script, hb, by decide, w_name ?_⟩)))))))
  generalize cellF sc 1 = cc
  try dsimp only
  obtain ⟨j, ej, hj⟩ := emod_at (c := cc) (n := B.length) m1
  refine w_seq (w_asg (w_op (w_var rfl (w_op (w_var rfl (w_cb (w_cons (w_var rfl (w_nil (w_lenT (SqT.of b5.book) (w_modI (by omega) ?_)))))))))))
  rw [hx, ej]
  have hjx : j < xs.length := by omega
  obtain ⟨dd, hdd, rg⟩ := b5.reps.get (List.getElem?_eq_getElem hjx)
  rw [List.getElem?_map, List.getElem?_eq_getElem hj] at hdd
  cases hdd
  refine w_ixT (v := xs[j]) (SqT.of b5.book) (atI_nat (List.getElem?_eq_getElem hjx)) (w_name ?_)
  obtain ⟨gp, q1, q2, ev, hg, hq1, hq2⟩ := day_rep rg
  rw [ev] at rg
  rw [ev]
  have gg : GoodDay k B[j] := gB.dy _ (List.getElem_mem hj)
  generalize B[j] = g at rg hq1 hq2 gg
  clear ev hjx
  try dsimp only
  refine w_seqI (fun σ' H' => Same H5 H' ∧ σ' = [some (.ref l), some (.ref p), some (.ref D), some (.ref x), r4, r5, some (.int cc), some (.ref gp), none]) (fun R kk => ?_) ?_
  · refine w_ifS (w_or (w_not (w_tru (w_call (w_cons (w_var rfl (w_cons (w_var rfl (w_cons (w_op (w_var rfl (w_c (w_divI (by decide) (by decide) (w_cons (w_var rfl (w_nil ⟨_, _, _, _, rfl, d, base, B, k, cc / 8, g, L5, by omega, ⟨D, rfl, nml b5⟩, bne, by rw [hk]; exact no_of (new_no _ n7), fun y hy => okN_ok (List.all_eq_true.mp (ok_ks _ n7) y (hk ▸ hy)), rfl, rg, gg, fun H6 s6 => w_trub (iteF ?_)⟩))))))))))))))))
    refine w_not (w_tru (w_call (w_cons (w_var rfl (w_cons (w_var rfl (w_cons (w_call (w_cons (w_var rfl (w_cons (w_c (w_nil ⟨_, _, rfl, l, sc, 2, rfl, rfl, s6.seq b5.script, hb, by decide, ?_⟩)))))))))))))
    exact w_nil ⟨_, _, _, rfl, d, base, cellF sc 2, L5.led.mono s6, ⟨D, rfl, nml (b5.mono s6)⟩, bne, by rw [hk]; exact no_of (new_no _ n7), by rw [hk]; exact no_of (abc_no _ n7), fun y hy => (okN_ok (List.all_eq_true.mp (ok_ks _ n7) y (hk ▸ hy))).2, rfl, fun H7 s7 => w_trub (iteF (w_next (kk _ _ ⟨s6.trans s7, rfl⟩)))⟩
  rintro σ' H6 ⟨s6, rfl⟩
  have b6 := b5.mono s6
  have L6 := L5.mono s6
  replace hg := s6 _ _ hg
  replace hq1 := s6 _ _ hq1
  replace hq2 := s6 _ _ hq2
  have so : (keysL base).all PyData.strOk = true := by rw [hk]; exact so_ks _ n7
  refine w_seq (w_ifS (w_or (names_same L6.led rfl rfl (nml b6) so fun H7 s7 => iteF (book_same (L6.led.mono s7) (Reps.mono s7 _ _ L6.reps) bne rfl rfl (rep_tup (s7 _ _ b6.book) (Reps.mono s7 _ _ b6.reps)) fun H8 s8 => iteF (w_next ?_)))))
  have s78 := s7.trans s8
  have b8 := b6.mono s78
  have L8 := L6.mono s78
  replace hg := s78 _ _ hg
  replace hq1 := s78 _ _ hq1
  replace hq2 := s78 _ _ hq2
  clear s6 s7 s8 s78 L5 L6 b5 b6 b4 L4 b3 L3 b2 rg
  try dsimp only
  refine w_seq (w_drop (L8.led.meth rfl (by decide) (w_cons (w_c (w_cons (w_op (w_var rfl (w_c (w_ixT (v := .ref q1) (SqT.of hg) rfl (w_cons (w_op (w_var rfl (w_c (w_ixT (v := .ref q2) (SqT.of hg) rfl (w_nil ⟨_, _, _, _, rfl, ?_⟩)))))))))))))))
  refine put_ok L8 (by omega) ok_new (by rw [hk]; exact no_of (new_no _ n7)) hq1 hq2 gg fun u H9 sb9 L9 _ => ?_
  have tu9 := sb9.tu L8.led.kept
  have b9 := b8.sb sb9 L8.led.kept
  replace hg := tu9 _ _ hg
  replace hq1 := tu9 _ _ hq1
  replace hq2 := tu9 _ _ hq2
  clear tu9 sb9 L8 b8
  try dsimp only
  refine w_seq (w_while (m := 8 - (base.length + 1)) (fun m σ' H' => σ' = [some (.ref l), some (.ref p), some (.ref D), some (.ref x), r4, r5, some (.int cc), some (.ref gp), none] ∧ Bes K H' l p D sc xs B ∧ H' gp = some (.tup [.ref q1, .ref q2]) ∧ H' q1 = some (.tup (g.1.map V.int)) ∧ H' q2 = some (.tup (g.2.map V.int)) ∧ ∃ ex Bx, LedB mg H' (.ref x) d (base ++ ex) (B ++ Bx) k ∧ keysL (base ++ ex) = keysAt B.length (base ++ ex).length ∧ B.length + 1 ≤ (base ++ ex).length ∧ m = 8 - (base ++ ex).length) ⟨rfl, b9, hg, hq1, hq2, [(_, .ref u)], [g], L9, ?_, by simp [bl], by simp⟩ ?_)
  · have e : (base ++ [(("new" : Str), V.ref u)]).length = B.length + 1 := by simp [bl]
    rw [e, ← ks_new _ n7, ← hk]
    simp [keysL]
  rintro m σ' H' ⟨rfl, b, hg', hq1', hq2', ex, Bx, L, hke, hle, rfl⟩
  refine w_test (w_op (w_cb (w_cons (L.led.meth rfl (by decide) (w_nil ⟨_, rfl, d, _, L.led, fun t H10 s10 _ h10 => w_nil (w_lenL (SqL.of h10) (w_c (w_ltI (w_bl (iteD (fun lt => ?_) fun ge => ?_)))))⟩)))))
  · have el : ((keysL (base ++ ex)).map V.str).length = (base ++ ex).length := by simp [keysL]
    have kl : (base ++ ex).length < 8 := by rw [el] at lt; omega
    have bx : (B ++ Bx).length = (base ++ ex).length := by have := Reps.length L.reps; simpa using this.symm
    have L10 := L.mono s10
    refine ⟨fun σ2 H2' => ∃ m', m' < 8 - (base ++ ex).length ∧ σ2 = [some (.ref l), some (.ref p), some (.ref D), some (.ref x), r4, r5, some (.int cc), some (.ref gp), none] ∧ Bes K H2' l p D sc xs B ∧ H2' gp = some (.tup [.ref q1, .ref q2]) ∧ H2' q1 = some (.tup (g.1.map V.int)) ∧ H2' q2 = some (.tup (g.2.map V.int)) ∧ ∃ ex Bx, LedB mg H2' (.ref x) d (base ++ ex) (B ++ Bx) k ∧ keysL (base ++ ex) = keysAt B.length (base ++ ex).length ∧ B.length + 1 ≤ (base ++ ex).length ∧ m' = 8 - (base ++ ex).length, fun _ _ z => z, ?_⟩
    refine w_drop (L10.led.meth rfl (by decide) (w_cons (w_op (w_c (w_op (w_c (w_cb (w_cons (L10.led.meth rfl (by decide) (w_nil ⟨_, rfl, d, _, L10.led, fun t2 H11 s11 _ h11 => w_nil (w_lenL (SqL.of h11) ?_)⟩))))))))))
    have L11 := L10.mono s11
    have s1011 := s10.trans s11
    rw [el]
    refine .inr (.inr ⟨_, _, _, rfl, rfl, by show 8 ≤ sizeLine; decide, at8 _ kl, ⟨_, _, rfl, rfl, by show 3 + 1 ≤ sizeLine; decide, ?_⟩⟩)
    refine w_cons (w_op (w_var rfl (w_c (w_ixT (v := .ref q1) (SqT.of (s1011 _ _ hg')) rfl (w_cons (w_op (w_var rfl (w_c (w_ixT (v := .ref q2) (SqT.of (s1011 _ _ hg')) rfl (w_nil ⟨_, _, _, _, rfl, ?_⟩))))))))))
    refine put_ok (nm := nwAt (base ++ ex).length) L11 (by omega) (ok8 _ kl) (by rw [hke]; exact no_of (nw_no _ n7 _ kl hle)) (s1011 _ _ hq1') (s1011 _ _ hq2') gg fun u2 H12 sb L12 _ => ?_
    have tu := sb.tu L11.led.kept
    refine ⟨8 - ((base ++ ex).length + 1), by omega, rfl, (b.mono s1011).sb sb L11.led.kept, tu _ _ (s1011 _ _ hg'), tu _ _ (s1011 _ _ hq1'), tu _ _ (s1011 _ _ hq2'), ex ++ [(nwAt (base ++ ex).length, .ref u2)], Bx ++ [g], ?_, ?_, ?_, ?_⟩
    · rw [← List.append_assoc, ← List.append_assoc]; exact L12
    · have e : (base ++ (ex ++ [(nwAt (base ++ ex).length, V.ref u2)])).length = (base ++ ex).length + 1 := by simp [Nat.add_assoc]
      rw [e, ← nw_more _ n7 _ kl hle, ← hke]
      simp [keysL]
    · simp; omega
    · simp; omega
  have L10 := L.mono s10
  have b10 := b.mono s10
  have hg10 := s10 _ _ hg'
  have hq110 := s10 _ _ hq1'
  have hq210 := s10 _ _ hq2'
  have kl : (base ++ ex).length = 8 := by
    have l8 := L.led.len
    have el : ((keysL (base ++ ex)).map V.str).length = (base ++ ex).length := by simp [keysL]
    rw [el] at ge
    omega
  clear s10 h10 hg hq1 hq2 b9 L9 L b hg' hq1' hq2' ge
  try dsimp only
  have bx : (B ++ Bx).length = 8 := by have := Reps.length L10.reps; rw [List.length_map, List.length_map, kl] at this; exact this.symm
  refine w_seq (w_ifS (w_or (w_test (w_op (w_refd (w := "put") (r := .book) L10.led rfl (fun R h => w_c h) ?_ fun H11 s11 => w_c (w_neS (w_bl (iteNF rfl ?_))))))))
  · intro R kq
    refine w_cons (w_c (w_cons (w_op (w_var rfl (w_c (w_ixT (v := .ref q1) (SqT.of hg10) rfl ?_))))))
    refine w_cons (w_op (w_var rfl (w_c (w_ixT (v := .ref q2) (SqT.of hg10) rfl ?_))))
    refine w_nil (kq _ _ (Same.refl _) (by show 3 ≤ 10; decide) (.inl ⟨rfl, _, _, _, _, _, _, rfl, (okN_ok ok_nin).1, L10.reps, rep_tup hq110 (Reps.ints _), rep_tup hq210 (Reps.ints _), .inr (.inr ⟨(okN_ok ok_nin).2, ?_, book_nine (by rw [List.length_map]; exact bx), rfl⟩)⟩))
    rw [hke, kl]; exact no_of (nin_no _ n7)
  have L11 := L10.mono s11
  refine w_test (w_op (w_cb (w_cons (L11.led.meth rfl (by decide) (w_nil ⟨_, rfl, d, _, L11.led, fun t H12 s12 _ h12 => w_nil (w_lenL (SqL.of h12) (w_c (w_neI (w_bl (iteNF ?_ (w_next ?_))))))⟩)))))
  · have el : ((keysL (base ++ ex)).map V.str).length = (base ++ ex).length := by simp [keysL]
    rw [el, kl]; rfl
  have s1112 := s11.trans s12
  have b12 := b10.mono s1112
  have L12 := L10.mono s1112
  have hg12 := s1112 _ _ hg10
  have hq112 := s1112 _ _ hq110
  have hq212 := s1112 _ _ hq210
  clear s11 s12 s1112 b10 L10 L11 hg10 hq110 hq210 h12
  try dsimp only
  refine w_seq (w_for (w_seq0 (w_sl (L12.led.meth rfl (by decide) (w_nil ⟨_, rfl, d, _, L12.led, fun t H13 s13 _ h13 => w_part (w_cb (w_cons (w_var rfl (w_nil (w_lenT (SqT.of (s13 _ _ b12.book)) (w_int (w_nopart (.inr ⟨t, _, rfl, SqL.of h13, fun v hv => ⟨v, rfl, .inl ⟨⟨_, SqL.of upd_same⟩, ?_⟩⟩⟩))))))))⟩)))))
  rw [cut_keys (m := xs.length) (by omega)]
  have s14 := s13.laidT (o := .lst ((keysL ex).map V.str)) hv
  have e14 := upd_same (H := H13) (a := v) (o := .lst ((keysL ex).map V.str))
  generalize upd H13 v (.lst ((keysL ex).map V.str)) = H14 at s14 e14 ⊢
  have L14 := L12.mono s14
  have rb14 : Reps H14 (base.map (·.2)) (B.map dayD) := by
    have r := L14.reps
    rw [List.map_append, List.map_append] at r
    exact reps_left r (by rw [List.length_map, List.length_map]; exact bl)
  refine for_list (K := K) (a := v) (xs := (keysL ex).map V.str) (fun i σ' H' => Bes K H' l p D sc xs B ∧ H' gp = some (.tup [.ref q1, .ref q2]) ∧ H' q1 = some (.tup (g.1.map V.int)) ∧ H' q2 = some (.tup (g.2.map V.int)) ∧ H' v = some (.lst ((keysL ex).map V.str)) ∧ Led mg H' (.ref x) d (base ++ ex.drop i) ∧ Reps H' (base.map (·.2)) (B.map dayD) ∧ ∃ r4, σ' = [some (.ref l), some (.ref p), some (.ref D), some (.ref x), r4, r5, some (.int cc), some (.ref gp), none]) ⟨b12.mono s14, s14 _ _ hg12, s14 _ _ hq112, s14 _ _ hq212, e14, L14.led, rb14, _, rfl⟩ (fun i σ' H' _ z => SqL.of z.2.2.2.2.1) ?_ ?_
  · rintro i y σ' H' hy ⟨b, hgg, hqq1, hqq2, hvv, L, rb, r4', rfl⟩
    rw [List.getElem?_map, List.getElem?_map] at hy
    cases he : ex[i]? with
    | none => rw [he] at hy; cases hy
    | some pr =>
      rw [he] at hy
      have ey : y = .str pr.1 := (Option.some.inj hy).symm
      subst ey
      obtain ⟨hi, epr⟩ := List.getElem?_eq_some_iff.mp he
      have ed : ex.drop i = pr :: ex.drop (i + 1) := by rw [List.drop_eq_getElem_cons hi, epr]
      rw [ed] at L
      refine w_name (w_drop (L.meth rfl (by decide) (w_cons (w_var rfl (w_nil ⟨_, _, rfl, take_ok L fun H2' sb L' => ?_⟩)))))
      have tu := sb.tu L.kept
      exact ⟨b.sb sb L.kept, tu _ _ hgg, tu _ _ hqq1, tu _ _ hqq2, sb.lst L.kept hvv, L', Reps.tu tu _ _ (noL_days B) rb, _, rfl⟩
  rintro σ' H15 ⟨b15, hg15, hq115, hq215, _, L15, rb15, r4', rfl⟩
  have ed : base ++ ex.drop ((keysL ex).map V.str).length = base := by
    rw [List.drop_of_length_le (by simp [keysL]), List.append_nil]
  rw [ed] at L15
  clear ed rb14 L14 e14 s14 hv h13 s13 hg12 hq112 hq212 L12 b12
  try dsimp only
  refine w_seq (w_ifS (w_or (names_same L15 rfl rfl (nml b15) so fun H16 s16 => iteF (w_or (book_same (L15.mono s16) (Reps.mono s16 _ _ rb15) bne rfl rfl (rep_tup (s16 _ _ b15.book) (Reps.mono s16 _ _ b15.reps)) fun H17 s17 => iteF ?_)))))
  have s1617 := s16.trans s17
  refine w_test (w_op (w_refd (w := "take") (r := .name) (L15.mono s1617) rfl (fun R h => w_c h) ?_ fun H18 s18 => w_c (w_neS (w_bl (iteNF rfl (w_next ?_))))))
  · exact fun R kq => w_cons (w_c (w_nil (kq _ _ (Same.refl _) (by show 1 ≤ 10; decide) (.inr (.inl ⟨.inl rfl, _, rfl, by rw [hk]; exact no_of (new_no _ n7), rfl⟩)))))
  have s18' := s1617.trans s18
  have b18 := b15.mono s18'
  have L18 := L15.mono s18'
  have hg18 := s18' _ _ hg15
  have hq118 := s18' _ _ hq115
  have hq218 := s18' _ _ hq215
  clear s16 s17 s1617 s18 s18' b15 L15 hg15 hq115 hq215 rb15
  try dsimp only
  refine w_seq (w_for (w_seq0 (w_var rfl ⟨D, rfl, .inl ⟨⟨_, SqL.of b18.names⟩, ?_⟩⟩)))
  refine for_list (K := K) (a := D) (xs := (ksAt B.length).map V.str) (fun i σ' H' => Bes K H' l p D sc xs B ∧ H' gp = some (.tup [.ref q1, .ref q2]) ∧ H' q1 = some (.tup (g.1.map V.int)) ∧ H' q2 = some (.tup (g.2.map V.int)) ∧ Led mg H' (.ref x) d (base.drop i) ∧ ∃ r4, σ' = [some (.ref l), some (.ref p), some (.ref D), some (.ref x), r4, r5, some (.int cc), some (.ref gp), none]) ⟨b18, hg18, hq118, hq218, L18, _, rfl⟩ (fun i σ' H' _ z => SqL.of z.1.names) ?_ ?_
  · rintro i y σ' H' hy ⟨b, hgg, hqq1, hqq2, L, r4'', rfl⟩
    rw [← hk, List.getElem?_map, List.getElem?_map] at hy
    cases he : base[i]? with
    | none => rw [he] at hy; cases hy
    | some pr =>
      rw [he] at hy
      have ey : y = .str pr.1 := (Option.some.inj hy).symm
      subst ey
      obtain ⟨hi, epr⟩ := List.getElem?_eq_some_iff.mp he
      have ed : base.drop i = [] ++ pr :: base.drop (i + 1) := by rw [List.nil_append, List.drop_eq_getElem_cons hi, epr]
      rw [ed] at L
      refine w_name (w_drop (L.meth rfl (by decide) (w_cons (w_var rfl (w_nil ⟨_, _, rfl, take_ok L fun H2' sb L' => ?_⟩)))))
      have tu := sb.tu L.kept
      exact ⟨b.sb sb L.kept, tu _ _ hgg, tu _ _ hqq1, tu _ _ hqq2, L', _, rfl⟩
  rintro σ' H19 ⟨b19, hg19, hq119, hq219, L19, r4'', rfl⟩
  have ed : base.drop ((ksAt B.length).map V.str).length = [] := List.drop_of_length_le (by unfold ksAt; simp [bl])
  rw [ed] at L19
  clear ed b18 L18 hg18 hq118 hq218
  try dsimp only
  refine w_seq (w_asg (w_tup (w_cons (w_op (w_op (w_var rfl (w_c (w_ixT (v := .ref q1) (SqT.of hg19) rfl (w_tup (w_cons (w_c (w_nil ⟨by show 1 ≤ sizeLine; decide, fun t1 ht1 => ?_⟩))))))))))))
  have z1 := Same.laid (o := .tup [.int 3]) ht1
  refine w_cat (z1 _ _ hq119) upd_same (by rw [List.length_map, gg.l1]; show k + 1 ≤ 1000; omega) fun o1 H20 s20 h20 => ?_
  have s1920 := z1.trans s20
  refine w_cons (w_op (w_op (w_var rfl (w_c (w_ixT (v := .ref q2) (SqT.of (s1920 _ _ hg19)) rfl (w_tup (w_cons (w_c (w_nil ⟨by show 1 ≤ sizeLine; decide, fun t2 ht2 => ?_⟩)))))))))
  have z2 := Same.laid (o := .tup [.int 1]) ht2
  refine w_cat (z2 _ _ (s1920 _ _ hq219)) upd_same (by rw [List.length_map, gg.l2]; show k + 1 ≤ 1000; omega) fun o2 H21 s21 h21 => ?_
  refine w_nil ⟨by show 2 ≤ sizeLine; decide, fun o3 ho3 => w_name ?_⟩
  have z3 := Same.laid (o := .tup [.ref o1, .ref o2]) ho3
  have s22 := ((s1920.trans z2).trans s21).trans z3
  have f1 := ((z2.trans s21).trans z3) _ _ h20
  have f2 := z3 _ _ h21
  have f3 := upd_same (H := H21) (a := o3) (o := .tup [.ref o1, .ref o2])
  generalize upd H21 o3 (.tup [.ref o1, .ref o2]) = H22 at s22 f1 f2 f3 ⊢
  have L22 : LedB mg H22 (.ref x) d [] [] (k + 1) := ⟨L19.mono s22, reps_nil, fun y hy => by simp at hy, by omega, by omega⟩
  have hg22 := s22 _ _ hg19
  have hq122 := s22 _ _ hq119
  have hq222 := s22 _ _ hq219
  have f1' : H22 o1 = some (.tup ((g.1 ++ [3]).map V.int)) := by rw [f1, List.map_append]; rfl
  have f2' : H22 o2 = some (.tup ((g.2 ++ [1]).map V.int)) := by rw [f2, List.map_append]; rfl
  clear z1 z2 z3 s20 s21 s1920 s22 h20 h21 f1 f2 L19 hg19 hq119 hq219 b19
  try dsimp only
  refine w_seq (w_drop (L22.led.meth rfl (by decide) (w_cons (w_c (w_cons (w_op (w_var rfl (w_c (w_ixT (v := .ref o1) (SqT.of f3) rfl (w_cons (w_op (w_var rfl (w_c (w_ixT (v := .ref o2) (SqT.of f3) rfl (w_nil ⟨_, _, _, _, rfl, ?_⟩)))))))))))))))
  refine put_ok (g := (g.1 ++ [3], g.2 ++ [1])) L22 (by decide) ok_oth (by simp) f1' f2' (more_day gg) fun u3 H23 sb L23 _ => ?_
  have tu := sb.tu L22.led.kept
  have f3' := tu _ _ f3
  have f1'' := tu _ _ f1'
  have f2'' := tu _ _ f2'
  have hg23 := tu _ _ hg22
  have hq123 := tu _ _ hq122
  have hq223 := tu _ _ hq222
  rw [List.nil_append, List.nil_append] at L23
  try dsimp only
  refine w_ret (w_andV (w_op (L23.led.meth rfl (by decide) (w_nil ⟨_, rfl, d, _, L23.led, (fun z => by cases z), fun _ t H24 s24 h24 => w_tup (w_cons (w_var rfl (w_nil ⟨by show 1 ≤ sizeLine; decide, fun t4 ht4 => ?_⟩)))⟩))))
  have s25 := s24.laidT (o := .tup [.ref o3]) ht4
  refine w_eqSelf (d := bookD [(g.1 ++ [3], g.2 ++ [1])]) (rep_tup (Same.laid ht4 _ _ h24) (Reps.mono s25 _ _ L23.reps)) (rep_tup upd_same (reps_cons (rep_day (s25 _ _ f3') (s25 _ _ f1'') (s25 _ _ f2'')) reps_nil)) (lay_days _) (Nat.le_trans (depth_days _) (by decide)) ⟨true, rfl, iteT ?_⟩
  have L25 := L23.mono s25
  refine w_op (w_refd (w := "put") (r := .book) L25.led rfl (fun R h => w_c h) ?_ fun H26 s26 => w_c (w_eqS (q H26)))
  intro R kq
  refine w_cons (w_c (w_cons (w_op (w_var rfl (w_c (w_ixT (v := .ref q1) (SqT.of (s25 _ _ hg23)) rfl ?_))))))
  refine w_cons (w_op (w_var rfl (w_c (w_ixT (v := .ref q2) (SqT.of (s25 _ _ hg23)) rfl ?_))))
  have bd : BadD (k + 1) (.tuple [.tuple (g.1.map .int), .tuple (g.2.map .int)]) := .inr (by show (g.1.map PyData.int).length ≠ k + 1; rw [List.length_map, gg.l1]; omega)
  exact w_nil (kq _ _ (Same.refl _) (by show 3 ≤ 10; decide) (.inl ⟨rfl, _, _, _, _, _, _, rfl, (okN_ok ok_a).1, L25.reps, rep_tup (s25 _ _ hq123) (Reps.ints _), rep_tup (s25 _ _ hq223) (Reps.ints _), .inr (.inr ⟨(okN_ok ok_a).2, no_a, book_bad L25.good (by simp) bd, rfl⟩)⟩))
abbrev BdP (x q : Str) (st : Stmt) (ps : List Str) : Prop := ∀ (kV doc pm : Value) (an : Option Addr) (cdv ct : Value) (us : List Value), us.length = ps.length → bindArgs (PySem.W.fnOf x q (defArgs st) (defBody st) (defScope st) .none kV doc pm an cdv ct) ⟨us, []⟩ = pure (ps.zip us)
section
variable {P : Program} {w : World} {K : PySem.W.Frag} {mg : Str → Option Value} {base : Heap}
abbrev s_is_int : Stmt := top 2
abbrev ps_is_int : List Str := ["thing"]
theorem sc_is_int : FnScope ["thing"] ps_is_int (defScope s_is_int) := ⟨rfl, rfl, rfl, by decide +kernel, rfl, by decide +kernel, by decide +kernel⟩
theorem bd_is_int : BdP "is_int" "is_int" s_is_int ps_is_int :=
  fun _ _ _ _ _ _ us hl => match us, hl with | [_], _ => rfl
theorem fn_is_int (M : Md K mg) (D : Df K mg "is_int" s_is_int)  : Fn P w K mg base CX0 "is_int" 1 ps_is_int (sp_is_int K) := D.to (fun F =>
  F.ok (k := 0) sc_is_int (fun vs _ _ _ h => sp1_len h) (fun cdv A outer s H vs Q E hr h => by
    have hu := hr.units
    obtain ⟨a0, rfl, h⟩ := h
    refine ⟨tb_is_int K, ?_, rd_is_int h⟩
    refine pss_one ?_
    exact (ps_ret (pe_and (fb_cB call_isinst (by rfl) M.b_isinstance bt_isinstance (pb_c (pv 0) (pb_c (pe_gty M.b_int bt_int) pb_nil))) (pe_one (pe_not (fb_cB call_isinst (by rfl) M.b_isinstance bt_isinstance (pb_c (pv 0) (pb_c (pe_gty M.b_bool bt_bool) pb_nil))))))))) bd_is_int
abbrev s_is_tuple : Stmt := top 21
abbrev ps_is_tuple : List Str := ["thing", "shortest", "longest"]
theorem sc_is_tuple : FnScope ["thing", "shortest", "longest"] ps_is_tuple (defScope s_is_tuple) := ⟨rfl, rfl, rfl, by decide +kernel, rfl, by decide +kernel, by decide +kernel⟩
theorem bd_is_tuple : BdP "is_tuple" "is_tuple" s_is_tuple ps_is_tuple :=
  fun _ _ _ _ _ _ us hl => match us, hl with | [_, _, _], _ => rfl
theorem fn_is_tuple (M : Md K mg) (D : Df K mg "is_tuple" s_is_tuple)  : Fn P w K mg base CX0 "is_tuple" 1 ps_is_tuple (sp_is_tuple K) := D.to (fun F =>
  F.ok (k := 0) sc_is_tuple (fun vs _ _ _ h => sp3_len h) (fun cdv A outer s H vs Q E hr h => by
    have hu := hr.units
    obtain ⟨a0, a1, a2, rfl, h⟩ := h
    refine ⟨tb_is_tuple K, ?_, rd_is_tuple h⟩
    refine pss_one ?_
    exact (ps_ret (pe_and (fb_cB call_isinst (by rfl) M.b_isinstance bt_isinstance (pb_c (pv 0) (pb_c (pe_gty M.b_tuple bt_tuple) pb_nil))) (pe_one (pe_chain op_le op_le (pv 1) (fb_cB (call_lenU) (by rfl) M.b_len bt_len (pb_c (pv 0) pb_nil)) (pv 2))))))) bd_is_tuple
abbrev s_is_price : Stmt := top 22
abbrev ps_is_price : List Str := ["thing"]
theorem sc_is_price : FnScope ["thing"] ps_is_price (defScope s_is_price) := ⟨rfl, rfl, rfl, by decide +kernel, rfl, by decide +kernel, by decide +kernel⟩
theorem bd_is_price : BdP "is_price" "is_price" s_is_price ps_is_price :=
  fun _ _ _ _ _ _ us hl => match us, hl with | [_], _ => rfl
theorem fn_is_price (M : Md K mg) (D : Df K mg "is_price" s_is_price) (G_is_int : Fn P w K mg base CX0 "is_int" 1 ps_is_int (sp_is_int K)) : Fn P w K mg base CX0 "is_price" 2 ps_is_price (sp_is_price K) := D.to (fun F =>
  F.ok (k := 1) sc_is_price (fun vs _ _ _ h => sp1_len h) (fun cdv A outer s H vs Q E hr h => by
    have hu := hr.units
    obtain ⟨a0, rfl, h⟩ := h
    refine ⟨tb_is_price K, ?_, rd_is_price h⟩
    refine pss_one ?_
    exact (ps_ret (pe_and (fb_fn G_is_int (hr.mono (by decide)) (by rfl) pass0 (pb_c (pv 0) pb_nil)) (pe_one (pe_chain op_le op_le pe_int (pv 0) (pe_gint M.c_HIGHEST_PRICE))))))) bd_is_price
abbrev s_is_amount : Stmt := top 23
abbrev ps_is_amount : List Str := ["thing"]
theorem sc_is_amount : FnScope ["thing"] ps_is_amount (defScope s_is_amount) := ⟨rfl, rfl, rfl, by decide +kernel, rfl, by decide +kernel, by decide +kernel⟩
theorem bd_is_amount : BdP "is_amount" "is_amount" s_is_amount ps_is_amount :=
  fun _ _ _ _ _ _ us hl => match us, hl with | [_], _ => rfl
theorem fn_is_amount (M : Md K mg) (D : Df K mg "is_amount" s_is_amount) (G_is_int : Fn P w K mg base CX0 "is_int" 1 ps_is_int (sp_is_int K)) : Fn P w K mg base CX0 "is_amount" 2 ps_is_amount (sp_is_amount K) := D.to (fun F =>
  F.ok (k := 1) sc_is_amount (fun vs _ _ _ h => sp1_len h) (fun cdv A outer s H vs Q E hr h => by
    have hu := hr.units
    obtain ⟨a0, rfl, h⟩ := h
    refine ⟨tb_is_amount K, ?_, rd_is_amount h⟩
    refine pss_one ?_
    exact (ps_ret (pe_and (fb_fn G_is_int (hr.mono (by decide)) (by rfl) pass0 (pb_c (pv 0) pb_nil)) (pe_one (pe_chain op_le op_le pe_int (pv 0) (pe_gint M.c_HIGHEST_AMOUNT))))))) bd_is_amount
abbrev s_are_prices : Stmt := top 24
abbrev ps_are_prices : List Str := ["thing"]
theorem sc_are_prices : FnScope ["thing"] ps_are_prices (defScope s_are_prices) := ⟨rfl, rfl, rfl, by decide +kernel, rfl, by decide +kernel, by decide +kernel⟩
theorem bd_are_prices : BdP "are_prices" "are_prices" s_are_prices ps_are_prices :=
  fun _ _ _ _ _ _ us hl => match us, hl with | [_], _ => rfl
theorem fn_are_prices (M : Md K mg) (D : Df K mg "are_prices" s_are_prices) (G_is_tuple : Fn P w K mg base CX0 "is_tuple" 1 ps_is_tuple (sp_is_tuple K)) (G_is_price : Fn P w K mg base CX0 "is_price" 2 ps_is_price (sp_is_price K)) : Fn P w K mg base CX0 "are_prices" 3 ps_are_prices (sp_are_prices K) := D.to (fun F =>
  F.ok (k := 2) sc_are_prices (fun vs _ _ _ h => sp1_len h) (fun cdv A outer s H vs Q E hr h => by
    have hu := hr.units
    obtain ⟨a0, rfl, h⟩ := h
    refine ⟨tb_are_prices K, ?_, rd_are_prices h⟩
    refine pss_one ?_
    exact (ps_ret (pe_and (fb_fn G_is_tuple (hr.mono (by decide)) (by rfl) pass0 (pb_c (pv 0) (pb_c pe_int (pb_c (pe_gint M.c_MOST_WARES) pb_nil)))) (pe_one (fb_cB (call_allU rfl) (by rfl) M.b_all bt_all (pb_c (pe_comp (N := ["price"]) (l := [none]) rfl ⟨rfl, by decide +kernel, by decide +kernel, by first | decide +kernel | rfl,  True.intro, by decide +kernel⟩ (pi_seq (pv 0)) (fun _ _ _ _ _ => (pg_name (i := 0) (show List.Nodup (["price"] : List Str) by decide +kernel) rfl (Or.inl rfl))) (fun _ _ _ _ _ => pif_nil) (fun _ _ _ _ _ => (fb_fn G_is_price (hr.mono (by decide)) (by rfl) pass0 (pb_c (pv 0) pb_nil)))) pb_nil))))))) bd_are_prices
abbrev s_are_amounts : Stmt := top 25
abbrev ps_are_amounts : List Str := ["thing"]
theorem sc_are_amounts : FnScope ["thing"] ps_are_amounts (defScope s_are_amounts) := ⟨rfl, rfl, rfl, by decide +kernel, rfl, by decide +kernel, by decide +kernel⟩
theorem bd_are_amounts : BdP "are_amounts" "are_amounts" s_are_amounts ps_are_amounts :=
  fun _ _ _ _ _ _ us hl => match us, hl with | [_], _ => rfl
theorem fn_are_amounts (M : Md K mg) (D : Df K mg "are_amounts" s_are_amounts) (G_is_tuple : Fn P w K mg base CX0 "is_tuple" 1 ps_is_tuple (sp_is_tuple K)) (G_is_amount : Fn P w K mg base CX0 "is_amount" 2 ps_is_amount (sp_is_amount K)) : Fn P w K mg base CX0 "are_amounts" 3 ps_are_amounts (sp_are_amounts K) := D.to (fun F =>
  F.ok (k := 2) sc_are_amounts (fun vs _ _ _ h => sp1_len h) (fun cdv A outer s H vs Q E hr h => by
    have hu := hr.units
    obtain ⟨a0, rfl, h⟩ := h
    refine ⟨tb_are_amounts K, ?_, rd_are_amounts h⟩
    refine pss_cons ?_ (pss_one ?_)
    · exact (ps_if (PW.pt (pw_or (pt_not (pt_tru (fb_fn G_is_tuple (hr.mono (by decide)) (by rfl) pass0 (pb_c (pv 0) (pb_c pe_int (pb_c (pe_gint M.c_MOST_WARES) pb_nil)))) (fun _ => rfl))) (pw_or1 (pt_not (pt_tru (fb_cB (call_allU rfl) (by rfl) M.b_all bt_all (pb_c (pe_comp (N := ["amount"]) (l := [none]) rfl ⟨rfl, by decide +kernel, by decide +kernel, by first | decide +kernel | rfl,  True.intro, by decide +kernel⟩ (pi_seq (pv 0)) (fun _ _ _ _ _ => (pg_name (i := 0) (show List.Nodup (["amount"] : List Str) by decide +kernel) rfl (Or.inl rfl))) (fun _ _ _ _ _ => pif_nil) (fun _ _ _ _ _ => (fb_fn G_is_amount (hr.mono (by decide)) (by rfl) pass0 (pb_c (pv 0) pb_nil)))) pb_nil)) (fun _ => rfl)))))) (pss_one (ps_ret pe_bl)) pss_nil)
    · exact (ps_ret (fb_cB (call_anyU rfl) (by rfl) M.b_any bt_any (pb_c (pe_comp (N := ["amount"]) (l := [none]) rfl ⟨rfl, by decide +kernel, by decide +kernel, by first | decide +kernel | rfl,  True.intro, by decide +kernel⟩ (pi_seq (pv 0)) (fun _ _ _ _ _ => (pg_name (i := 0) (show List.Nodup (["amount"] : List Str) by decide +kernel) rfl (Or.inl rfl))) (fun _ _ _ _ _ => pif_nil) (fun _ _ _ _ _ => (pe_cmpR op_gt (pv 0) pe_int (nomark _)))) pb_nil))))) bd_are_amounts
abbrev s_is_day : Stmt := top 26
abbrev ps_is_day : List Str := ["thing"]
theorem sc_is_day : FnScope ["thing", "prices", "amounts"] ps_is_day (defScope s_is_day) := ⟨rfl, rfl, rfl, by decide +kernel, rfl, by decide +kernel, by decide +kernel⟩
theorem bd_is_day : BdP "is_day" "is_day" s_is_day ps_is_day :=
  fun _ _ _ _ _ _ us hl => match us, hl with | [_], _ => rfl
theorem fn_is_day (M : Md K mg) (D : Df K mg "is_day" s_is_day) (G_is_tuple : Fn P w K mg base CX0 "is_tuple" 1 ps_is_tuple (sp_is_tuple K)) (G_are_prices : Fn P w K mg base CX0 "are_prices" 3 ps_are_prices (sp_are_prices K)) (G_are_amounts : Fn P w K mg base CX0 "are_amounts" 3 ps_are_amounts (sp_are_amounts K)) : Fn P w K mg base CX0 "is_day" 4 ps_is_day (sp_is_day K) := D.to (fun F =>
  F.ok (k := 3) sc_is_day (fun vs _ _ _ h => sp1_len h) (fun cdv A outer s H vs Q E hr h => by
    have hu := hr.units
    obtain ⟨a0, rfl, h⟩ := h
    refine ⟨tb_is_day K, ?_, rd_is_day h⟩
    refine pss_cons ?_ (pss_cons ?_ (pss_cons ?_ (pss_one ?_)))
    · exact (ps_if (pt_not (pt_tru (fb_fn G_is_tuple (hr.mono (by decide)) (by rfl) pass0 (pb_c (pv 0) (pb_c pe_int (pb_c pe_int pb_nil)))) (fun _ => rfl))) (pss_one (ps_ret pe_bl)) pss_nil)
    · exact (ps_set (i := 1) sc_is_day.nd rfl (Or.inl rfl) (pe_ix ix_seq (pv 0) pe_int (fun _ _ => rfl)))
    · exact (ps_set (i := 2) sc_is_day.nd rfl (Or.inl rfl) (pe_ix ix_seq (pv 0) pe_int (fun _ _ => rfl)))
    · exact (ps_ret (pe_and (fb_fn G_are_prices (hr.mono (by decide)) (by rfl) pass0 (pb_c (pv 1) pb_nil)) (pe_and (fb_fn G_are_amounts (hr.mono (by decide)) (by rfl) pass0 (pb_c (pv 2) pb_nil)) (pe_one (pe_cmpR (op_eqU hu) (fb_cB (call_lenU) (by rfl) M.b_len bt_len (pb_c (pv 1) pb_nil)) (fb_cB (call_lenU) (by rfl) M.b_len bt_len (pb_c (pv 2) pb_nil)) (nomark _)))))))) bd_is_day
abbrev s_is_book : Stmt := top 27
abbrev ps_is_book : List Str := ["thing"]
theorem sc_is_book : FnScope ["thing", "wares"] ps_is_book (defScope s_is_book) := ⟨rfl, rfl, rfl, by decide +kernel, rfl, by decide +kernel, by decide +kernel⟩
theorem bd_is_book : BdP "is_book" "is_book" s_is_book ps_is_book :=
  fun _ _ _ _ _ _ us hl => match us, hl with | [_], _ => rfl
theorem fn_is_book (M : Md K mg) (D : Df K mg "is_book" s_is_book) (G_is_tuple : Fn P w K mg base CX0 "is_tuple" 1 ps_is_tuple (sp_is_tuple K)) (G_is_day : Fn P w K mg base CX0 "is_day" 4 ps_is_day (sp_is_day K)) : Fn P w K mg base CX0 "is_book" 5 ps_is_book (sp_is_book K) := D.to (fun F =>
  F.ok (k := 4) sc_is_book (fun vs _ _ _ h => sp1_len h) (fun cdv A outer s H vs Q E hr h => by
    have hu := hr.units
    obtain ⟨a0, rfl, h⟩ := h
    refine ⟨tb_is_book K, ?_, rd_is_book h⟩
    refine pss_cons ?_ (pss_cons ?_ (pss_one ?_))
    · exact (ps_if (PW.pt (pw_or (pt_not (pt_tru (fb_fn G_is_tuple (hr.mono (by decide)) (by rfl) pass0 (pb_c (pv 0) (pb_c pe_int (pb_c (pe_gint M.c_MOST_DAYS) pb_nil)))) (fun _ => rfl))) (pw_or1 (pt_not (pt_tru (fb_cB (call_allU rfl) (by rfl) M.b_all bt_all (pb_c (pe_comp (N := ["day"]) (l := [none]) rfl ⟨rfl, by decide +kernel, by decide +kernel, by first | decide +kernel | rfl,  True.intro, by decide +kernel⟩ (pi_seq (pv 0)) (fun _ _ _ _ _ => (pg_name (i := 0) (show List.Nodup (["day"] : List Str) by decide +kernel) rfl (Or.inl rfl))) (fun _ _ _ _ _ => pif_nil) (fun _ _ _ _ _ => (fb_fn G_is_day (hr.mono (by decide)) (by rfl) pass0 (pb_c (pv 0) pb_nil)))) pb_nil)) (fun _ => rfl)))))) (pss_one (ps_ret pe_bl)) pss_nil)
    · exact (ps_set (i := 1) sc_is_book.nd rfl (Or.inr rfl) (fb_cB (call_lenU) (by rfl) M.b_len bt_len (pb_c (pe_ix ix_seq (pe_ix ix_seq (pv 0) pe_int (fun _ _ => rfl)) pe_int (fun _ _ => rfl)) pb_nil)))
    · exact (ps_ret (fb_cB (call_allU rfl) (by rfl) M.b_all bt_all (pb_c (pe_comp (N := ["day", "wares"]) (l := [none, some 1]) rfl ⟨rfl, by decide +kernel, by decide +kernel, by first | decide +kernel | rfl, ⟨⟨rfl, Or.inl rfl, rfl⟩, True.intro⟩, by decide +kernel⟩ (pi_seq (pv 0)) (fun _ _ _ _ _ => (pg_name (i := 0) (show List.Nodup (["day", "wares"] : List Str) by decide +kernel) rfl (Or.inl rfl))) (fun _ _ _ _ _ => pif_nil) (fun _ _ _ _ _ => (pe_cmpR (op_eqU hu) (fb_cB (call_lenU) (by rfl) M.b_len bt_len (pb_c (pe_ix ix_seq (pv 0) pe_int (fun _ _ => rfl)) pb_nil)) (pv 1) (nomark _)))) pb_nil))))) bd_is_book
abbrev s_check : Stmt := top 28
abbrev ps_check : List Str := ["thing"]
theorem sc_check : FnScope ["thing"] ps_check (defScope s_check) := ⟨rfl, rfl, rfl, by decide +kernel, rfl, by decide +kernel, by decide +kernel⟩
theorem bd_check : BdP "check" "check" s_check ps_check :=
  fun _ _ _ _ _ _ us hl => match us, hl with | [_], _ => rfl
theorem fn_check (M : Md K mg) (D : Df K mg "check" s_check) (G_is_book : Fn P w K mg base CX0 "is_book" 5 ps_is_book (sp_is_book K)) : Fn P w K mg base (CXr P w base) "check" 6 ps_check (sp_check K mg) := D.to (fun F =>
  F.okR (k := 5) sc_check (fun vs _ _ _ h => sp1_len h) (fun cdv A outer s H vs Q E hr h => by
    have hu := hr.units
    obtain ⟨a0, rfl, h⟩ := h
    refine ⟨tb_check K mg E, ?_, rd_check M h⟩
    refine pss_cons ?_ (pss_one ?_)
    · exact (ps_if (pt_not (pt_tru (fb_fn G_is_book (hr.mono (by decide)) (by rfl) pass0 (pb_c (pv 0) pb_nil)) (fun _ => rfl))) (pss_one (fb_raise madeR rfl M.x_NoBook (by rfl) (pb_c pe_str pb_nil))) pss_nil)
    · exact (ps_ret pe_bl))) bd_check
abbrev s_is_name : Stmt := top 78
abbrev ps_is_name : List Str := ["text"]
theorem sc_is_name : FnScope ["text"] ps_is_name (defScope s_is_name) := ⟨rfl, rfl, rfl, by decide +kernel, rfl, by decide +kernel, by decide +kernel⟩
theorem bd_is_name : BdP "is_name" "is_name" s_is_name ps_is_name :=
  fun _ _ _ _ _ _ us hl => match us, hl with | [_], _ => rfl
theorem fn_is_name (M : Md K mg) (D : Df K mg "is_name" s_is_name)  : Fn P w K mg base CX0 "is_name" 1 ps_is_name (sp_is_name K) := D.to (fun F =>
  F.ok (k := 0) sc_is_name (fun vs _ _ _ h => sp1_len h) (fun cdv A outer s H vs Q E hr h => by
    have hu := hr.units
    obtain ⟨a0, rfl, h⟩ := h
    refine ⟨tb_is_name K, ?_, rd_is_name h⟩
    refine pss_one ?_
    exact (ps_ret (pe_and (pe_chain op_le op_le pe_int (fb_cB (call_lenU) (by rfl) M.b_len bt_len (pb_c (pv 0) pb_nil)) (pe_gint M.c_LONGEST_NAME)) (pe_one (fb_cB (call_allU rfl) (by rfl) M.b_all bt_all (pb_c (pe_comp (N := ["letter"]) (l := [none]) rfl ⟨rfl, by decide +kernel, by decide +kernel, by first | decide +kernel | rfl,  True.intro, by decide +kernel⟩ (pi_str (pv 0)) (fun _ _ _ _ _ => (pg_name (i := 0) (show List.Nodup (["letter"] : List Str) by decide +kernel) rfl (Or.inl rfl))) (fun _ _ _ _ _ => pif_nil) (fun _ _ _ _ _ => (pe_cmpR op_inS (pv 0) (pe_gstr M.c_LETTERS) (by with_unfolding_all rfl)))) pb_nil))))))) bd_is_name
abbrev s_check_name : Stmt := top 79
abbrev ps_check_name : List Str := ["text"]
theorem sc_check_name : FnScope ["text"] ps_check_name (defScope s_check_name) := ⟨rfl, rfl, rfl, by decide +kernel, rfl, by decide +kernel, by decide +kernel⟩
theorem bd_check_name : BdP "check_name" "check_name" s_check_name ps_check_name :=
  fun _ _ _ _ _ _ us hl => match us, hl with | [_], _ => rfl
theorem fn_check_name (M : Md K mg) (D : Df K mg "check_name" s_check_name) (G_is_name : Fn P w K mg base CX0 "is_name" 1 ps_is_name (sp_is_name K)) : Fn P w K mg base (CXr P w base) "check_name" 2 ps_check_name (sp_check_name K mg) := D.to (fun F =>
  F.okR (k := 1) sc_check_name (fun vs _ _ _ h => sp1_len h) (fun cdv A outer s H vs Q E hr h => by
    have hu := hr.units
    obtain ⟨a0, rfl, h⟩ := h
    refine ⟨tb_check_name K mg E, ?_, rd_check_name M h⟩
    refine pss_one ?_
    exact (ps_if (pt_not (pt_tru (fb_fn G_is_name (hr.mono (by decide)) (by rfl) pass0 (pb_c (pv 0) pb_nil)) (fun _ => rfl))) (pss_one (fb_raise madeR rfl M.x_NoName (by rfl) (pb_c pe_str pb_nil))) pss_nil))) bd_check_name
abbrev s_Ledger_init : Stmt := inClass (top 80) 0
abbrev ps_Ledger_init : List Str := ["self"]
theorem sc_Ledger_init : FnScope ["self"] ps_Ledger_init (defScope s_Ledger_init) := ⟨rfl, rfl, rfl, by decide +kernel, rfl, by decide +kernel, by decide +kernel⟩
theorem bd_Ledger_init : BdP "__init__" "Ledger.__init__" s_Ledger_init ps_Ledger_init :=
  fun _ _ _ _ _ _ us hl => match us, hl with | [_], _ => rfl
theorem fn_Ledger_init (M : Md K mg) (D : DfM K (clsA mg "Ledger") "__init__" "Ledger.__init__" s_Ledger_init)  : FnM P w K mg base CX0 (clsA mg "Ledger") "__init__" 1 ps_Ledger_init (sp_Ledger_init K mg) := D.to (fun F =>
  F.ok (k := 0) sc_Ledger_init (fun vs _ _ _ h => sp1_len h) (fun cdv A outer s H vs Q E hr h => by
    have hu := hr.units
    obtain ⟨a0, rfl, h⟩ := h
    refine ⟨tb_Ledger_init K mg, ?_, rd_Ledger_init M h⟩
    refine pss_one ?_
    exact (ps_fld (pv 0) pe_dnew rfl))) bd_Ledger_init
abbrev s_Ledger_put : Stmt := inClass (top 80) 1
abbrev ps_Ledger_put : List Str := ["self", "name", "prices", "amounts"]
theorem sc_Ledger_put : FnScope ["self", "name", "prices", "amounts", "day"] ps_Ledger_put (defScope s_Ledger_put) := ⟨rfl, rfl, rfl, by decide +kernel, rfl, by decide +kernel, by decide +kernel⟩
theorem bd_Ledger_put : BdP "put" "Ledger.put" s_Ledger_put ps_Ledger_put :=
  fun _ _ _ _ _ _ us hl => match us, hl with | [_, _, _, _], _ => rfl
theorem fn_Ledger_put (M : Md K mg) (D : DfM K (clsA mg "Ledger") "put" "Ledger.put" s_Ledger_put) (G_check : Fn P w K mg base (CXr P w base) "check" 6 ps_check (sp_check K mg)) (G_check_name : Fn P w K mg base (CXr P w base) "check_name" 2 ps_check_name (sp_check_name K mg)) : FnM P w K mg base (CXr P w base) (clsA mg "Ledger") "put" 7 ps_Ledger_put (sp_Ledger_put K mg) := D.to (fun F =>
  F.okR (k := 6) sc_Ledger_put (fun vs _ _ _ h => sp4_len h) (fun cdv A outer s H vs Q E hr h => by
    have hu := hr.units
    obtain ⟨a0, a1, a2, a3, rfl, h⟩ := h
    refine ⟨tb_Ledger_put K mg E, ?_, rd_Ledger_put M h⟩
    refine pss_cons ?_ (pss_cons ?_ (pss_cons ?_ (pss_cons ?_ (pss_one ?_))))
    · exact (ps_expr (fb_fn G_check_name (hr.mono (by decide)) (by rfl) passR (pb_c (pv 1) pb_nil)))
    · exact (ps_if (pt_cmp (pc_din (hu1 hu) (pv 1) (pe_fld (pv 0) rfl)) (by with_unfolding_all rfl)) (pss_one (fb_raise madeR rfl M.x_Twice (by rfl) (pb_c pe_str pb_nil))) pss_nil)
    · exact (ps_set (i := 4) sc_Ledger_put.nd rfl (Or.inl rfl) (fb_tup (pb_c (pv 2) (pb_c (pv 3) pb_nil))))
    · exact (ps_expr (fb_fn G_check (hr.mono (by decide)) (by rfl) passR (pb_c (pe_op op_addU (fb_cTy (call_tupV rfl) (by rfl) M.b_tuple bt_tuple (pb_c (pe_dvals (pe_fld (pv 0) rfl)) pb_nil)) (fb_tup (pb_c (pv 4) pb_nil))) pb_nil)))
    · exact (ps_dput (hu1 hu) (pe_fld (pv 0) rfl) (pv 1) (pv 4) rfl))) bd_Ledger_put
abbrev s_Ledger_check_standing : Stmt := inClass (top 80) 3
abbrev ps_Ledger_check_standing : List Str := ["self", "name"]
theorem sc_Ledger_check_standing : FnScope ["self", "name"] ps_Ledger_check_standing (defScope s_Ledger_check_standing) := ⟨rfl, rfl, rfl, by decide +kernel, rfl, by decide +kernel, by decide +kernel⟩
theorem bd_Ledger_check_standing : BdP "check_standing" "Ledger.check_standing" s_Ledger_check_standing ps_Ledger_check_standing :=
  fun _ _ _ _ _ _ us hl => match us, hl with | [_, _], _ => rfl
theorem fn_Ledger_check_standing (M : Md K mg) (D : DfM K (clsA mg "Ledger") "check_standing" "Ledger.check_standing" s_Ledger_check_standing)  : FnM P w K mg base (CXr P w base) (clsA mg "Ledger") "check_standing" 1 ps_Ledger_check_standing (sp_Ledger_check_standing K mg) := D.to (fun F =>
  F.okR (k := 0) sc_Ledger_check_standing (fun vs _ _ _ h => sp2_len h) (fun cdv A outer s H vs Q E hr h => by
    have hu := hr.units
    obtain ⟨a0, a1, rfl, h⟩ := h
    refine ⟨tb_Ledger_check_standing K mg E, ?_, rd_Ledger_check_standing M h⟩
    refine pss_one ?_
    exact (ps_if (pt_cmp (pc_dnotin (hu1 hu) (pv 1) (pe_fld (pv 0) rfl)) (by with_unfolding_all rfl)) (pss_one (fb_raise madeR rfl M.x_NoName (by rfl) (pb_c pe_str pb_nil))) pss_nil))) bd_Ledger_check_standing
abbrev s_Ledger_take : Stmt := inClass (top 80) 2
abbrev ps_Ledger_take : List Str := ["self", "name"]
theorem sc_Ledger_take : FnScope ["self", "name"] ps_Ledger_take (defScope s_Ledger_take) := ⟨rfl, rfl, rfl, by decide +kernel, rfl, by decide +kernel, by decide +kernel⟩
theorem bd_Ledger_take : BdP "take" "Ledger.take" s_Ledger_take ps_Ledger_take :=
  fun _ _ _ _ _ _ us hl => match us, hl with | [_, _], _ => rfl
theorem fn_Ledger_take (M : Md K mg) (D : DfM K (clsA mg "Ledger") "take" "Ledger.take" s_Ledger_take) (G_Ledger_check_standing : FnM P w K mg base (CXr P w base) (clsA mg "Ledger") "check_standing" 1 ps_Ledger_check_standing (sp_Ledger_check_standing K mg)) : FnM P w K mg base (CXr P w base) (clsA mg "Ledger") "take" 2 ps_Ledger_take (sp_Ledger_take K mg) := D.to (fun F =>
  F.okR (k := 1) sc_Ledger_take (fun vs _ _ _ h => sp2_len h) (fun cdv A outer s H vs Q E hr h => by
    have hu := hr.units
    obtain ⟨a0, a1, rfl, h⟩ := h
    refine ⟨tb_Ledger_take K mg E, ?_, rd_Ledger_take M h⟩
    refine pss_cons ?_ (pss_one ?_)
    · exact (ps_expr (fb_meth M.o_Ledger G_Ledger_check_standing (hr.mono (by decide)) passR (pv 0) (pb_c (pv 1) pb_nil)))
    · exact (ps_expr (pe_dpop1 (pe_fld (pv 0) rfl) (pv 1) (m1_mk rfl rfl rfl))))) bd_Ledger_take
abbrev s_Ledger_names : Stmt := inClass (top 80) 4
abbrev ps_Ledger_names : List Str := ["self"]
theorem sc_Ledger_names : FnScope ["self"] ps_Ledger_names (defScope s_Ledger_names) := ⟨rfl, rfl, rfl, by decide +kernel, rfl, by decide +kernel, by decide +kernel⟩
theorem bd_Ledger_names : BdP "names" "Ledger.names" s_Ledger_names ps_Ledger_names :=
  fun _ _ _ _ _ _ us hl => match us, hl with | [_], _ => rfl
theorem fn_Ledger_names (M : Md K mg) (D : DfM K (clsA mg "Ledger") "names" "Ledger.names" s_Ledger_names)  : FnM P w K mg base CX0 (clsA mg "Ledger") "names" 1 ps_Ledger_names (sp_Ledger_names K mg) := D.to (fun F =>
  F.ok (k := 0) sc_Ledger_names (fun vs _ _ _ h => sp1_len h) (fun cdv A outer s H vs Q E hr h => by
    have hu := hr.units
    obtain ⟨a0, rfl, h⟩ := h
    refine ⟨tb_Ledger_names K mg, ?_, rd_Ledger_names M h⟩
    refine pss_one ?_
    exact (ps_ret (fb_cTy (call_listD rfl) (by rfl) M.b_list bt_list (pb_c (pe_fld (pv 0) rfl) pb_nil))))) bd_Ledger_names
abbrev s_Ledger_book : Stmt := inClass (top 80) 5
abbrev ps_Ledger_book : List Str := ["self"]
theorem sc_Ledger_book : FnScope ["self"] ps_Ledger_book (defScope s_Ledger_book) := ⟨rfl, rfl, rfl, by decide +kernel, rfl, by decide +kernel, by decide +kernel⟩
theorem bd_Ledger_book : BdP "book" "Ledger.book" s_Ledger_book ps_Ledger_book :=
  fun _ _ _ _ _ _ us hl => match us, hl with | [_], _ => rfl
theorem fn_Ledger_book (M : Md K mg) (D : DfM K (clsA mg "Ledger") "book" "Ledger.book" s_Ledger_book)  : FnM P w K mg base (CXr P w base) (clsA mg "Ledger") "book" 1 ps_Ledger_book (sp_Ledger_book K mg) := D.to (fun F =>
  F.okR (k := 0) sc_Ledger_book (fun vs _ _ _ h => sp1_len h) (fun cdv A outer s H vs Q E hr h => by
    have hu := hr.units
    obtain ⟨a0, rfl, h⟩ := h
    refine ⟨tb_Ledger_book K mg E, ?_, rd_Ledger_book M h⟩
    refine pss_cons ?_ (pss_one ?_)
    · exact (ps_if (pt_cmpR (op_eqU hu) (fb_cB call_lenD (by rfl) M.b_len bt_len (pb_c (pe_fld (pv 0) rfl) pb_nil)) pe_int (nomark _)) (pss_one (fb_raise madeR rfl M.x_NoBook (by rfl) (pb_c pe_str pb_nil))) pss_nil)
    · exact (ps_ret (fb_cTy (call_tupV rfl) (by rfl) M.b_tuple bt_tuple (pb_c (pe_dvals (pe_fld (pv 0) rfl)) pb_nil))))) bd_Ledger_book
abbrev s_Ledger_number_of : Stmt := inClass (top 80) 6
abbrev ps_Ledger_number_of : List Str := ["self", "name"]
theorem sc_Ledger_number_of : FnScope ["self", "name"] ps_Ledger_number_of (defScope s_Ledger_number_of) := ⟨rfl, rfl, rfl, by decide +kernel, rfl, by decide +kernel, by decide +kernel⟩
theorem bd_Ledger_number_of : BdP "number_of" "Ledger.number_of" s_Ledger_number_of ps_Ledger_number_of :=
  fun _ _ _ _ _ _ us hl => match us, hl with | [_, _], _ => rfl
theorem fn_Ledger_number_of (M : Md K mg) (D : DfM K (clsA mg "Ledger") "number_of" "Ledger.number_of" s_Ledger_number_of) (G_Ledger_check_standing : FnM P w K mg base (CXr P w base) (clsA mg "Ledger") "check_standing" 1 ps_Ledger_check_standing (sp_Ledger_check_standing K mg)) (G_Ledger_names : FnM P w K mg base CX0 (clsA mg "Ledger") "names" 1 ps_Ledger_names (sp_Ledger_names K mg)) : FnM P w K mg base (CXr P w base) (clsA mg "Ledger") "number_of" 2 ps_Ledger_number_of (sp_Ledger_number_of K mg) := D.to (fun F =>
  F.okR (k := 1) sc_Ledger_number_of (fun vs _ _ _ h => sp2_len h) (fun cdv A outer s H vs Q E hr h => by
    have hu := hr.units
    obtain ⟨a0, a1, rfl, h⟩ := h
    refine ⟨tb_Ledger_number_of K mg E, ?_, rd_Ledger_number_of M h⟩
    refine pss_cons ?_ (pss_one ?_)
    · exact (ps_expr (fb_meth M.o_Ledger G_Ledger_check_standing (hr.mono (by decide)) passR (pv 0) (pb_c (pv 1) pb_nil)))
    · exact (ps_ret (fb_bm1 PySem.F.plainAttrs_list PySem.F.slot_list_index PySem.F.type_list_index mt_indexS (fb_meth0 M.o_Ledger G_Ledger_names (hr.mono (by decide)) pass0 (pv 0)) (pb_c (pv 1) pb_nil))))) bd_Ledger_number_of
abbrev s_Ledger_names_of : Stmt := inClass (top 80) 7
abbrev ps_Ledger_names_of : List Str := ["self", "days"]
theorem bd_Ledger_names_of : BdP "names_of" "Ledger.names_of" s_Ledger_names_of ps_Ledger_names_of :=
  fun _ _ _ _ _ _ us hl => match us, hl with | [_, _], _ => rfl
theorem fn_Ledger_names_of (M : Md K mg) (D : DfM K (clsA mg "Ledger") "names_of" "Ledger.names_of" s_Ledger_names_of) : FnM P w K mg base CX0 (clsA mg "Ledger") "names_of" 2 ps_Ledger_names_of spNo := D.to (fun F => FnOk.no) bd_Ledger_names_of
abbrev s_Ledger_at_once : Stmt := inClass (top 80) 9
abbrev ps_Ledger_at_once : List Str := ["self", "name", "other"]
theorem sc_Ledger_at_once : FnScope ["self", "name", "other", "day", "another"] ps_Ledger_at_once (defScope s_Ledger_at_once) := ⟨rfl, rfl, rfl, by decide +kernel, rfl, by decide +kernel, by decide +kernel⟩
theorem bd_Ledger_at_once : BdP "at_once" "Ledger.at_once" s_Ledger_at_once ps_Ledger_at_once :=
  fun _ _ _ _ _ _ us hl => match us, hl with | [_, _, _], _ => rfl
theorem fn_Ledger_at_once (M : Md K mg) (D : DfM K (clsA mg "Ledger") "at_once" "Ledger.at_once" s_Ledger_at_once) (G_Ledger_number_of : FnM P w K mg base (CXr P w base) (clsA mg "Ledger") "number_of" 2 ps_Ledger_number_of (sp_Ledger_number_of K mg)) : FnM P w K mg base (CXr P w base) (clsA mg "Ledger") "at_once" 3 ps_Ledger_at_once (sp_Ledger_at_once K mg) := D.to (fun F =>
  F.okR (k := 2) sc_Ledger_at_once (fun vs _ _ _ h => sp3_len h) (fun cdv A outer s H vs Q E hr h => by
    have hu := hr.units
    obtain ⟨a0, a1, a2, rfl, h⟩ := h
    refine ⟨tb_Ledger_at_once K mg E, ?_, rd_Ledger_at_once M h⟩
    refine pss_cons ?_ (pss_cons ?_ (pss_one ?_))
    · exact (ps_set (i := 3) sc_Ledger_at_once.nd rfl (Or.inl rfl) (fb_meth M.o_Ledger G_Ledger_number_of (hr.mono (by decide)) passR (pv 0) (pb_c (pv 1) pb_nil)))
    · exact (ps_set (i := 4) sc_Ledger_at_once.nd rfl (Or.inl rfl) (fb_meth M.o_Ledger G_Ledger_number_of (hr.mono (by decide)) passR (pv 0) (pb_c (pv 2) pb_nil)))
    · exact ps_never)) bd_Ledger_at_once
abbrev s_Ledger_reached : Stmt := inClass (top 80) 10
abbrev ps_Ledger_reached : List Str := ["self", "name"]
theorem sc_Ledger_reached : FnScope ["self", "name", "day"] ps_Ledger_reached (defScope s_Ledger_reached) := ⟨rfl, rfl, rfl, by decide +kernel, rfl, by decide +kernel, by decide +kernel⟩
theorem bd_Ledger_reached : BdP "reached" "Ledger.reached" s_Ledger_reached ps_Ledger_reached :=
  fun _ _ _ _ _ _ us hl => match us, hl with | [_, _], _ => rfl
theorem fn_Ledger_reached (M : Md K mg) (D : DfM K (clsA mg "Ledger") "reached" "Ledger.reached" s_Ledger_reached) (G_Ledger_number_of : FnM P w K mg base (CXr P w base) (clsA mg "Ledger") "number_of" 2 ps_Ledger_number_of (sp_Ledger_number_of K mg)) : FnM P w K mg base (CXr P w base) (clsA mg "Ledger") "reached" 3 ps_Ledger_reached (sp_Ledger_reached K mg) := D.to (fun F =>
  F.okR (k := 2) sc_Ledger_reached (fun vs _ _ _ h => sp2_len h) (fun cdv A outer s H vs Q E hr h => by
    have hu := hr.units
    obtain ⟨a0, a1, rfl, h⟩ := h
    refine ⟨tb_Ledger_reached K mg E, ?_, rd_Ledger_reached M h⟩
    refine pss_cons ?_ (pss_one ?_)
    · exact (ps_set (i := 2) sc_Ledger_reached.nd rfl (Or.inl rfl) (fb_meth M.o_Ledger G_Ledger_number_of (hr.mono (by decide)) passR (pv 0) (pb_c (pv 1) pb_nil)))
    · exact ps_never)) bd_Ledger_reached
abbrev s_Ledger_taste : Stmt := inClass (top 80) 11
abbrev ps_Ledger_taste : List Str := ["self", "share"]
theorem sc_Ledger_taste : FnScope ["self", "share", "told"] ps_Ledger_taste (defScope s_Ledger_taste) := ⟨rfl, rfl, rfl, by decide +kernel, rfl, by decide +kernel, by decide +kernel⟩
theorem b2_Ledger_taste : ∀ (T : Addr) (kV doc pm : Value) (an : Option Addr) (cdv ct u v : Value), ∃ k, bindArgs (PySem.W.fnOf "taste" "Ledger.taste" (defArgs s_Ledger_taste) (defBody s_Ledger_taste) (defScope s_Ledger_taste) (.ref T) kV doc pm an cdv ct) ⟨[u, v], []⟩ = seqItems? (.ref T) >>= k ∧ k (some #[Value.none]) = pure [(("self" : Str), u), (("share" : Str), v)] :=
  fun _ _ _ _ _ _ _ _ _ => ⟨_, rfl, rfl⟩
theorem b1_Ledger_taste : ∀ (T : Addr) (kV doc pm : Value) (an : Option Addr) (cdv ct u : Value), ∃ k, bindArgs (PySem.W.fnOf "taste" "Ledger.taste" (defArgs s_Ledger_taste) (defBody s_Ledger_taste) (defScope s_Ledger_taste) (.ref T) kV doc pm an cdv ct) ⟨[u], []⟩ = seqItems? (.ref T) >>= k ∧ k (some #[Value.none]) = pure [(("self" : Str), u), (("share" : Str), Value.none)] :=
  fun _ _ _ _ _ _ _ _ => ⟨_, rfl, rfl⟩
theorem fn_Ledger_taste (M : Md K mg) (D : DfMD K (clsA mg "Ledger") "taste" "Ledger.taste" s_Ledger_taste) (G_Ledger_book : FnM P w K mg base (CXr P w base) (clsA mg "Ledger") "book" 1 ps_Ledger_book (sp_Ledger_book K mg)) : FnMD P w K mg base (CXr P w base) (clsA mg "Ledger") "taste" 2 ps_Ledger_taste (sp_Ledger_taste K mg) := D.to (fun F =>
  F.okR (k := 1) sc_Ledger_taste (fun vs _ _ _ h => sp2_len h) (fun cdv A outer s H vs Q E hr h => by
    have hu := hr.units
    obtain ⟨a0, a1, rfl, h⟩ := h
    refine ⟨tb_Ledger_taste K mg E, ?_, rd_Ledger_taste M h⟩
    refine pss_cons ?_ (pss_cons ?_ (pss_one ?_))
    · exact (ps_set (i := 2) sc_Ledger_taste.nd rfl (Or.inl rfl) (fb_callNo M.nc_taste_of (by rfl) (pb_c (fb_meth0 M.o_Ledger G_Ledger_book (hr.mono (by decide)) passR (pv 0)) (pb_c (pv 1) pb_nil))))
    · exact ps_never
    · exact ps_never)) b2_Ledger_taste b1_Ledger_taste
abbrev s_Ledger_cut : Stmt := inClass (top 80) 12
abbrev ps_Ledger_cut : List Str := ["self"]
theorem sc_Ledger_cut : FnScope ["self"] ps_Ledger_cut (defScope s_Ledger_cut) := ⟨rfl, rfl, rfl, by decide +kernel, rfl, by decide +kernel, by decide +kernel⟩
theorem bd_Ledger_cut : BdP "cut" "Ledger.cut" s_Ledger_cut ps_Ledger_cut :=
  fun _ _ _ _ _ _ us hl => match us, hl with | [_], _ => rfl
theorem fn_Ledger_cut (M : Md K mg) (D : DfM K (clsA mg "Ledger") "cut" "Ledger.cut" s_Ledger_cut) (G_Ledger_book : FnM P w K mg base (CXr P w base) (clsA mg "Ledger") "book" 1 ps_Ledger_book (sp_Ledger_book K mg)) : FnM P w K mg base (CXr P w base) (clsA mg "Ledger") "cut" 2 ps_Ledger_cut (sp_Ledger_cut K mg) := D.to (fun F =>
  F.okR (k := 1) sc_Ledger_cut (fun vs _ _ _ h => sp1_len h) (fun cdv A outer s H vs Q E hr h => by
    have hu := hr.units
    obtain ⟨a0, rfl, h⟩ := h
    refine ⟨tb_Ledger_cut K mg E, ?_, rd_Ledger_cut M h⟩
    refine pss_one ?_
    exact (ps_ret (fb_callNo M.nc_cut_cuts (by rfl) (pb_c (fb_meth0 M.o_Ledger G_Ledger_book (hr.mono (by decide)) passR (pv 0)) pb_nil))))) bd_Ledger_cut
abbrev s_Ledger_fewest : Stmt := inClass (top 80) 13
abbrev ps_Ledger_fewest : List Str := ["self"]
theorem sc_Ledger_fewest : FnScope ["self"] ps_Ledger_fewest (defScope s_Ledger_fewest) := ⟨rfl, rfl, rfl, by decide +kernel, rfl, by decide +kernel, by decide +kernel⟩
theorem bd_Ledger_fewest : BdP "fewest" "Ledger.fewest" s_Ledger_fewest ps_Ledger_fewest :=
  fun _ _ _ _ _ _ us hl => match us, hl with | [_], _ => rfl
theorem fn_Ledger_fewest (M : Md K mg) (D : DfM K (clsA mg "Ledger") "fewest" "Ledger.fewest" s_Ledger_fewest) (G_Ledger_book : FnM P w K mg base (CXr P w base) (clsA mg "Ledger") "book" 1 ps_Ledger_book (sp_Ledger_book K mg)) (G_Ledger_names_of : FnM P w K mg base CX0 (clsA mg "Ledger") "names_of" 2 ps_Ledger_names_of spNo) : FnM P w K mg base (CXr P w base) (clsA mg "Ledger") "fewest" 3 ps_Ledger_fewest (sp_Ledger_fewest K mg) := D.to (fun F =>
  F.okR (k := 2) sc_Ledger_fewest (fun vs _ _ _ h => sp1_len h) (fun cdv A outer s H vs Q E hr h => by
    have hu := hr.units
    obtain ⟨a0, rfl, h⟩ := h
    refine ⟨tb_Ledger_fewest K mg E, ?_, rd_Ledger_fewest M h⟩
    refine pss_one ?_
    exact (ps_ret (fb_meth M.o_Ledger G_Ledger_names_of (hr.mono (by decide)) pass0 (pv 0) (pb_c (fb_callNo M.nc_fewest_leaving (by rfl) (pb_c (fb_meth0 M.o_Ledger G_Ledger_book (hr.mono (by decide)) passR (pv 0)) pb_nil)) pb_nil))))) bd_Ledger_fewest
abbrev s_Ledger_two_hands : Stmt := inClass (top 80) 14
abbrev ps_Ledger_two_hands : List Str := ["self"]
theorem sc_Ledger_two_hands : FnScope ["self", "days"] ps_Ledger_two_hands (defScope s_Ledger_two_hands) := ⟨rfl, rfl, rfl, by decide +kernel, rfl, by decide +kernel, by decide +kernel⟩
theorem bd_Ledger_two_hands : BdP "two_hands" "Ledger.two_hands" s_Ledger_two_hands ps_Ledger_two_hands :=
  fun _ _ _ _ _ _ us hl => match us, hl with | [_], _ => rfl
theorem fn_Ledger_two_hands (M : Md K mg) (D : DfM K (clsA mg "Ledger") "two_hands" "Ledger.two_hands" s_Ledger_two_hands) (G_Ledger_book : FnM P w K mg base (CXr P w base) (clsA mg "Ledger") "book" 1 ps_Ledger_book (sp_Ledger_book K mg)) : FnM P w K mg base (CXr P w base) (clsA mg "Ledger") "two_hands" 2 ps_Ledger_two_hands (sp_Ledger_two_hands K mg) := D.to (fun F =>
  F.okR (k := 1) sc_Ledger_two_hands (fun vs _ _ _ h => sp1_len h) (fun cdv A outer s H vs Q E hr h => by
    have hu := hr.units
    obtain ⟨a0, rfl, h⟩ := h
    refine ⟨tb_Ledger_two_hands K mg E, ?_, rd_Ledger_two_hands M h⟩
    refine pss_cons ?_ (pss_cons ?_ (pss_one ?_))
    · exact (ps_set (i := 1) sc_Ledger_two_hands.nd rfl (Or.inl rfl) (fb_callNo M.nc_two_hands_leaving (by rfl) (pb_c (fb_meth0 M.o_Ledger G_Ledger_book (hr.mono (by decide)) passR (pv 0)) pb_nil)))
    · exact ps_never
    · exact ps_never)) bd_Ledger_two_hands
abbrev s__law_cell : Stmt := top 82
abbrev ps__law_cell : List Str := ["_law_script", "_law_k"]
theorem sc__law_cell : FnScope ["_law_script", "_law_k", "_law_number"] ps__law_cell (defScope s__law_cell) := ⟨rfl, rfl, rfl, by decide +kernel, rfl, by decide +kernel, by decide +kernel⟩
theorem bd__law_cell : BdP "_law_cell" "_law_cell" s__law_cell ps__law_cell :=
  fun _ _ _ _ _ _ us hl => match us, hl with | [_, _], _ => rfl
theorem fn__law_cell (M : Md K mg) (D : Df K mg "_law_cell" s__law_cell)  : Fn P w K mg base CX0 "_law_cell" 1 ps__law_cell (sp__law_cell K) := D.to (fun F =>
  F.ok (k := 0) sc__law_cell (fun vs _ _ _ h => sp2_len h) (fun cdv A outer s H vs Q E hr h => by
    have hu := hr.units
    obtain ⟨a0, a1, rfl, h⟩ := h
    refine ⟨tb__law_cell K, ?_, rd__law_cell h⟩
    refine pss_cons ?_ (pss_cons ?_ (pss_cons ?_ (pss_one ?_)))
    · exact (ps_if (pt_cmpR op_lt (pv 1) (fb_cB (call_lenU) (by rfl) M.b_len bt_len (pb_c (pv 0) pb_nil)) (nomark _)) (pss_one (ps_ret (pe_op op_modU (pe_op op_mulU (pe_op op_addU (pe_ix ix_seq (pv 0) (pv 1) (fun _ _ => rfl)) pe_int) pe_int) (pe_powC (by decide +kernel) (by decide) (by decide) (by decide))))) pss_nil)
    · exact (ps_set (i := 2) sc__law_cell.nd rfl (Or.inl rfl) (pe_op op_addU (pe_op op_mulU (pe_op op_mulU (pv 1) (pv 1)) pe_int) pe_int))
    · exact (ps_if (pt_cmpR op_gt (fb_cB (call_lenU) (by rfl) M.b_len bt_len (pb_c (pv 0) pb_nil)) pe_int (nomark _)) (pss_one (ps_set (i := 2) sc__law_cell.nd rfl (Or.inl rfl) (pe_op op_addU (pv 2) (pe_op op_mulU (pe_op op_modU (pe_ix ix_seq (pv 0) (pe_op op_modU (pe_op op_mulU (pv 1) pe_int) (fb_cB (call_lenU) (by rfl) M.b_len bt_len (pb_c (pv 0) pb_nil))) (fun _ _ => rfl)) (pe_powC (by decide +kernel) (by decide) (by decide) (by decide))) pe_int)))) pss_nil)
    · exact (ps_ret (pe_op op_modU (pe_op op_mulU (pe_op op_modU (pe_op op_mulU (pv 2) (pv 2)) pe_int) pe_int) (pe_powC (by decide +kernel) (by decide) (by decide) (by decide)))))) bd__law_cell
abbrev s__law_next : Stmt := top 84
abbrev ps__law_next : List Str := ["_law_cell_here"]
theorem sc__law_next : FnScope ["_law_cell_here"] ps__law_next (defScope s__law_next) := ⟨rfl, rfl, rfl, by decide +kernel, rfl, by decide +kernel, by decide +kernel⟩
theorem bd__law_next : BdP "_law_next" "_law_next" s__law_next ps__law_next :=
  fun _ _ _ _ _ _ us hl => match us, hl with | [_], _ => rfl
theorem fn__law_next (M : Md K mg) (D : Df K mg "_law_next" s__law_next)  : Fn P w K mg base CX0 "_law_next" 1 ps__law_next (sp__law_next K) := D.to (fun F =>
  F.ok (k := 0) sc__law_next (fun vs _ _ _ h => sp1_len h) (fun cdv A outer s H vs Q E hr h => by
    have hu := hr.units
    obtain ⟨a0, rfl, h⟩ := h
    refine ⟨tb__law_next K, ?_, rd__law_next h⟩
    refine pss_one ?_
    exact (ps_ret (pe_op op_modU (pe_op op_addU (pe_op op_mulU (pv 0) pe_int) pe_int) (pe_powC (by decide +kernel) (by decide) (by decide) (by decide)))))) bd__law_next
abbrev s__law_shape : Stmt := top 85
abbrev ps__law_shape : List Str := ["_law_cell_here", "_law_wares"]
theorem sc__law_shape : FnScope ["_law_cell_here", "_law_wares", "_law_shape_here", "_law_k"] ps__law_shape (defScope s__law_shape) := ⟨rfl, rfl, rfl, by decide +kernel, rfl, by decide +kernel, by decide +kernel⟩
theorem bd__law_shape : BdP "_law_shape" "_law_shape" s__law_shape ps__law_shape :=
  fun _ _ _ _ _ _ us hl => match us, hl with | [_, _], _ => rfl
theorem fn__law_shape (M : Md K mg) (D : Df K mg "_law_shape" s__law_shape) (G__law_next : Fn P w K mg base CX0 "_law_next" 1 ps__law_next (sp__law_next K)) : Fn P w K mg base CX0 "_law_shape" 2 ps__law_shape (sp__law_shape K) := D.to (fun F =>
  F.ok (k := 1) sc__law_shape (fun vs _ _ _ h => sp2_len h) (fun cdv A outer s H vs Q E hr h => by
    have hu := hr.units
    obtain ⟨a0, a1, rfl, h⟩ := h
    refine ⟨tb__law_shape K, ?_, rd__law_shape h⟩
    refine pss_cons ?_ (pss_cons ?_ (pss_cons ?_ (pss_one ?_)))
    · exact (ps_set (i := 2) sc__law_shape.nd rfl (Or.inl rfl) (fb_lst pb_nil))
    · exact (ps_for PassesOwn.never rfl (fb_range1 (by rfl) M.b_range (pb_c (pv 1) pb_nil)) (pg_name (i := 3) sc__law_shape.nd rfl (Or.inl rfl)) (pss_cons (ps_set (i := 0) sc__law_shape.nd rfl (Or.inl rfl) (fb_fn G__law_next (hr.mono (by decide)) (by rfl) pass0 (pb_c (pv 0) pb_nil)))
      (pss_one (ps_expr (fb_bm1 PySem.F.plainAttrs_list PySem.F.slot_list_append PySem.F.type_list_append mt_append (pv 2) (pb_c (pe_op op_modU (pe_op op_divU (pv 0) (pe_powC (by decide +kernel) (by decide) (by decide) (by decide))) pe_int) pb_nil))))))
    · exact (ps_if (pt_cmpR (op_eqU hu) (fb_cB (call_sumU rfl) (by rfl) M.b_sum bt_sum (pb_c (pv 2) pb_nil)) pe_int (nomark _)) (pss_one (ps_asg pe_int (pg_sub (pv 2) pe_int set_list))) pss_nil)
    · exact (ps_ret (pv 2)))) bd__law_shape
abbrev s__law_best : Stmt := top 86
abbrev ps__law_best : List Str := ["_law_prices", "_law_shape_here", "_law_j"]
theorem sc__law_best : FnScope ["_law_prices", "_law_shape_here", "_law_j", "_law_k"] ps__law_best (defScope s__law_best) := ⟨rfl, rfl, rfl, by decide +kernel, rfl, by decide +kernel, by decide +kernel⟩
theorem bd__law_best : BdP "_law_best" "_law_best" s__law_best ps__law_best :=
  fun _ _ _ _ _ _ us hl => match us, hl with | [_, _, _], _ => rfl
theorem fn__law_best (M : Md K mg) (D : Df K mg "_law_best" s__law_best)  : Fn P w K mg base CX0 "_law_best" 1 ps__law_best (sp__law_best K) := D.to (fun F =>
  F.ok (k := 0) sc__law_best (fun vs _ _ _ h => sp3_len h) (fun cdv A outer s H vs Q E hr h => by
    have hu := hr.units
    obtain ⟨a0, a1, a2, rfl, h⟩ := h
    refine ⟨tb__law_best K, ?_, rd__law_best h⟩
    refine pss_cons ?_ (pss_one ?_)
    · exact (ps_for PassesOwn.never rfl (fb_range1 (by rfl) M.b_range (pb_c (fb_cB (call_lenU) (by rfl) M.b_len bt_len (pb_c (pv 0) pb_nil)) pb_nil)) (pg_name (i := 3) sc__law_best.nd rfl (Or.inl rfl)) (pss_one (ps_if (pt_cmpR op_gt (pe_op op_mulU (pe_op op_addU pe_int (pe_ix ix_seq (pv 1) (pv 3) (fun _ _ => rfl))) (pe_ix ix_seq (pv 0) (pv 2) (fun _ _ => rfl))) (pe_op op_mulU (pe_op op_addU pe_int (pe_ix ix_seq (pv 1) (pv 2) (fun _ _ => rfl))) (pe_ix ix_seq (pv 0) (pv 3) (fun _ _ => rfl))) (nomark _)) (pss_one (ps_ret pe_int)) pss_nil)))
    · exact (ps_ret pe_int))) bd__law_best
abbrev s__law_bought : Stmt := top 87
abbrev ps__law_bought : List Str := ["_law_way", "_law_prices", "_law_amounts", "_law_shape_here", "_law_times"]
theorem sc__law_bought : FnScope ["_law_way", "_law_prices", "_law_amounts", "_law_shape_here", "_law_times"] ps__law_bought (defScope s__law_bought) := ⟨rfl, rfl, rfl, by decide +kernel, rfl, by decide +kernel, by decide +kernel⟩
theorem bd__law_bought : BdP "_law_bought" "_law_bought" s__law_bought ps__law_bought :=
  fun _ _ _ _ _ _ us hl => match us, hl with | [_, _, _, _, _], _ => rfl
theorem fn__law_bought (M : Md K mg) (D : Df K mg "_law_bought" s__law_bought) (G__law_best : Fn P w K mg base CX0 "_law_best" 1 ps__law_best (sp__law_best K)) : Fn P w K mg base CX0 "_law_bought" 2 ps__law_bought (sp__law_bought K) := D.to (fun F =>
  F.ok (k := 1) sc__law_bought (fun vs _ _ _ h => sp5_len h) (fun cdv A outer s H vs Q E hr h => by
    have hu := hr.units
    obtain ⟨a0, a1, a2, a3, a4, rfl, h⟩ := h
    refine ⟨tb__law_bought K, ?_, rd__law_bought h⟩
    refine pss_cons ?_ (pss_cons ?_ (pss_cons ?_ (pss_cons ?_ (pss_cons ?_ (pss_one ?_)))))
    · exact (ps_if (pt_cmpR (op_eqU hu) (pv 0) pe_int (nomark _)) (pss_one (ps_ret (pe_comp (N := ["_law_k", "_law_times", "_law_shape_here"]) (l := [none, some 4, some 3]) rfl ⟨rfl, by decide +kernel, by decide +kernel, by first | decide +kernel | rfl, ⟨⟨rfl, Or.inl rfl, rfl⟩, ⟨⟨rfl, Or.inl rfl, rfl⟩, True.intro⟩⟩, by decide +kernel⟩ (fb_range1 (by rfl) M.b_range (pb_c (fb_cB (call_lenU) (by rfl) M.b_len bt_len (pb_c (pv 1) pb_nil)) pb_nil)) (fun _ _ _ _ _ => (pg_name (i := 0) (show List.Nodup (["_law_k", "_law_times", "_law_shape_here"] : List Str) by decide +kernel) rfl (Or.inl rfl))) (fun _ _ _ _ _ => pif_nil) (fun _ _ _ _ _ => (pe_op op_mulU (pv 1) (pe_ix ix_seq (pv 2) (pv 0) (fun _ _ => rfl))))))) pss_nil)
    · exact (ps_if (pt_cmpR (op_eqU hu) (pv 0) pe_int (nomark _)) (pss_one (ps_ret (pe_comp (N := ["_law_k", "_law_times", "_law_shape_here", "_law_prices"]) (l := [none, some 4, some 3, some 1]) rfl ⟨rfl, by decide +kernel, by decide +kernel, by first | decide +kernel | rfl, ⟨⟨rfl, Or.inl rfl, rfl⟩, ⟨⟨rfl, Or.inl rfl, rfl⟩, ⟨⟨rfl, Or.inl rfl, rfl⟩, True.intro⟩⟩⟩, by decide +kernel⟩ (fb_range1 (by rfl) M.b_range (pb_c (fb_cB (call_lenU) (by rfl) M.b_len bt_len (pb_c (pv 1) pb_nil)) pb_nil)) (fun _ _ _ _ _ => (pg_name (i := 0) (show List.Nodup (["_law_k", "_law_times", "_law_shape_here", "_law_prices"] : List Str) by decide +kernel) rfl (Or.inl rfl))) (fun _ _ _ _ _ => pif_nil) (fun _ _ _ _ _ => (pe_op op_divU (pe_op op_mulU (pe_op op_mulU (pv 1) (pe_ix ix_seq (pv 2) (pv 0) (fun _ _ => rfl))) pe_int) (pe_ix ix_seq (pv 3) (pv 0) (fun _ _ => rfl))))))) pss_nil)
    · exact (ps_if (pt_cmpR (op_eqU hu) (pv 0) pe_int (nomark _)) (pss_one (ps_ret (pe_comp (N := ["_law_k", "_law_amounts", "_law_prices", "_law_shape_here"]) (l := [none, some 2, some 1, some 3]) rfl ⟨rfl, by decide +kernel, by decide +kernel, by first | decide +kernel | rfl, ⟨⟨rfl, Or.inl rfl, rfl⟩, ⟨⟨rfl, Or.inl rfl, rfl⟩, ⟨⟨rfl, Or.inl rfl, rfl⟩, True.intro⟩⟩⟩, by decide +kernel⟩ (fb_range1 (by rfl) M.b_range (pb_c (fb_cB (call_lenU) (by rfl) M.b_len bt_len (pb_c (pv 1) pb_nil)) pb_nil)) (fun _ _ _ _ _ => (pg_name (i := 0) (show List.Nodup (["_law_k", "_law_amounts", "_law_prices", "_law_shape_here"] : List Str) by decide +kernel) rfl (Or.inl rfl))) (fun _ _ _ _ _ => pif_nil) (fun _ _ _ _ _ => (pe_op op_mulU (pe_op op_addU pe_int (pe_ix ix_seq (pv 1) (pv 0) (fun _ _ => rfl))) (fb_fn G__law_best (hr.mono (by decide)) (by rfl) pass0 (pb_c (pv 2) (pb_c (pv 3) (pb_c (pv 0) pb_nil))))))))) pss_nil)
    · exact (ps_if (pt_cmpR (op_eqU hu) (pv 0) pe_int (nomark _)) (pss_one (ps_ret (pe_comp (N := ["_law_k", "_law_amounts", "_law_prices"]) (l := [none, some 2, some 1]) rfl ⟨rfl, by decide +kernel, by decide +kernel, by first | decide +kernel | rfl, ⟨⟨rfl, Or.inl rfl, rfl⟩, ⟨⟨rfl, Or.inl rfl, rfl⟩, True.intro⟩⟩, by decide +kernel⟩ (fb_range1 (by rfl) M.b_range (pb_c (fb_cB (call_lenU) (by rfl) M.b_len bt_len (pb_c (pv 1) pb_nil)) pb_nil)) (fun _ _ _ _ _ => (pg_name (i := 0) (show List.Nodup (["_law_k", "_law_amounts", "_law_prices"] : List Str) by decide +kernel) rfl (Or.inl rfl))) (fun _ _ _ _ _ => pif_nil) (fun _ _ _ _ _ => (pe_op op_mulU (pe_op op_addU pe_int (pe_ix ix_seq (pv 1) (pv 0) (fun _ _ => rfl))) (fb_cTy call_ty_int (by rfl) M.b_int bt_int (pb_c (pe_cmpR (op_eqU hu) (pe_ix ix_seq (pv 2) (pv 0) (fun _ _ => rfl)) (fb_cB (call_minU rfl) (by rfl) M.b_min bt_min (pb_c (pv 2) pb_nil)) (nomark _)) pb_nil))))))) pss_nil)
    · exact (ps_if (pt_cmpR (op_eqU hu) (pv 0) pe_int (nomark _)) (pss_one (ps_ret (pe_comp (N := ["_law_price_here"]) (l := [none]) rfl ⟨rfl, by decide +kernel, by decide +kernel, by first | decide +kernel | rfl,  True.intro, by decide +kernel⟩ (pi_seq (pv 1)) (fun _ _ _ _ _ => (pg_name (i := 0) (show List.Nodup (["_law_price_here"] : List Str) by decide +kernel) rfl (Or.inl rfl))) (fun _ _ _ _ _ => pif_nil) (fun _ _ _ _ _ => (pe_op op_subU pe_int (pv 0)))))) pss_nil)
    · exact (ps_ret (pv 2)))) bd__law_bought
abbrev s__law_price : Stmt := top 88
abbrev ps__law_price : List Str := ["_law_way", "_law_high"]
theorem sc__law_price : FnScope ["_law_way", "_law_high"] ps__law_price (defScope s__law_price) := ⟨rfl, rfl, rfl, by decide +kernel, rfl, by decide +kernel, by decide +kernel⟩
theorem bd__law_price : BdP "_law_price" "_law_price" s__law_price ps__law_price :=
  fun _ _ _ _ _ _ us hl => match us, hl with | [_, _], _ => rfl
theorem fn__law_price (M : Md K mg) (D : Df K mg "_law_price" s__law_price)  : Fn P w K mg base CX0 "_law_price" 1 ps__law_price (sp__law_price K) := D.to (fun F =>
  F.ok (k := 0) sc__law_price (fun vs _ _ _ h => sp2_len h) (fun cdv A outer s H vs Q E hr h => by
    have hu := hr.units
    obtain ⟨a0, a1, rfl, h⟩ := h
    refine ⟨tb__law_price K, ?_, rd__law_price h⟩
    refine pss_cons ?_ (pss_cons ?_ (pss_cons ?_ (pss_cons ?_ (pss_one ?_))))
    · exact (ps_if (pt_cmpR (op_eqU hu) (pv 0) pe_int (nomark _)) (pss_one (ps_ret (pe_op op_addU pe_int (pe_op op_modU (pv 1) pe_int)))) pss_nil)
    · exact (ps_if (pt_cmpR (op_eqU hu) (pv 0) pe_int (nomark _)) (pss_one (ps_ret (pe_op op_addU pe_int (pe_op op_modU (pv 1) pe_int)))) pss_nil)
    · exact (ps_if (pt_cmpR (op_eqU hu) (pv 0) pe_int (nomark _)) (pss_one (ps_ret (pe_op op_addU pe_int (pe_op op_modU (pv 1) (pe_powC (by decide +kernel) (by decide) (by decide) (by decide)))))) pss_nil)
    · exact (ps_if (pt_cmpR (op_eqU hu) (pv 0) pe_int (nomark _)) (pss_one (ps_ret (pe_ix ix_seq (fb_lst (pb_c pe_int (pb_c pe_int (pb_c pe_int (pb_c pe_int (pb_c pe_int (pb_c pe_int pb_nil))))))) (pe_op op_modU (pv 1) pe_int) (fun _ _ => rfl)))) pss_nil)
    · exact (ps_ret (pe_op op_addU pe_int (pe_op op_modU (pv 1) pe_int))))) bd__law_price
abbrev s__law_day : Stmt := top 89
abbrev ps__law_day : List Str := ["_law_cell_here", "_law_way", "_law_shape_here"]
theorem sc__law_day : FnScope ["_law_cell_here", "_law_way", "_law_shape_here", "_law_prices", "_law_amounts", "_law_k", "_law_high", "_law_at"] ps__law_day (defScope s__law_day) := ⟨rfl, rfl, rfl, by decide +kernel, rfl, by decide +kernel, by decide +kernel⟩
theorem bd__law_day : BdP "_law_day" "_law_day" s__law_day ps__law_day :=
  fun _ _ _ _ _ _ us hl => match us, hl with | [_, _, _], _ => rfl
theorem fn__law_day (M : Md K mg) (D : Df K mg "_law_day" s__law_day) (G__law_next : Fn P w K mg base CX0 "_law_next" 1 ps__law_next (sp__law_next K)) (G__law_bought : Fn P w K mg base CX0 "_law_bought" 2 ps__law_bought (sp__law_bought K)) (G__law_price : Fn P w K mg base CX0 "_law_price" 1 ps__law_price (sp__law_price K)) : Fn P w K mg base CX0 "_law_day" 3 ps__law_day (sp__law_day K) := D.to (fun F =>
  F.ok (k := 2) sc__law_day (fun vs _ _ _ h => sp3_len h) (fun cdv A outer s H vs Q E hr h => by
    have hu := hr.units
    obtain ⟨a0, a1, a2, rfl, h⟩ := h
    refine ⟨tb__law_day K, ?_, rd__law_day h⟩
    refine pss_cons ?_ (pss_cons ?_ (pss_cons ?_ (pss_cons ?_ (pss_cons ?_ (pss_cons ?_ (pss_one ?_))))))
    · exact (ps_set (i := 3) sc__law_day.nd rfl (Or.inl rfl) (fb_lst pb_nil))
    · exact (ps_set (i := 4) sc__law_day.nd rfl (Or.inl rfl) (fb_lst pb_nil))
    · exact (ps_for PassesOwn.never rfl (fb_range1 (by rfl) M.b_range (pb_c (fb_cB (call_lenU) (by rfl) M.b_len bt_len (pb_c (pv 2) pb_nil)) pb_nil)) (pg_name (i := 5) sc__law_day.nd rfl (Or.inl rfl)) (pss_cons (ps_set (i := 0) sc__law_day.nd rfl (Or.inr rfl) (fb_fn G__law_next (hr.mono (by decide)) (by rfl) pass0 (pb_c (pv 0) pb_nil)))
      (pss_cons (ps_set (i := 6) sc__law_day.nd rfl (Or.inl rfl) (pe_op op_divU (pv 0) (pe_powC (by decide +kernel) (by decide) (by decide) (by decide))))
      (pss_cons (ps_expr (fb_bm1 PySem.F.plainAttrs_list PySem.F.slot_list_append PySem.F.type_list_append mt_append (pv 3) (pb_c (fb_fn G__law_price (hr.mono (by decide)) (by rfl) pass0 (pb_c (pv 1) (pb_c (pv 6) pb_nil))) pb_nil)))
      (pss_one (ps_expr (fb_bm1 PySem.F.plainAttrs_list PySem.F.slot_list_append PySem.F.type_list_append mt_append (pv 4) (pb_c (pe_ix ix_seq (fb_lst (pb_c (pe_op op_modU (pe_op op_divU (pv 6) pe_int) pe_int) (pb_c (pe_op op_modU (pe_op op_divU (pv 6) (pe_powC (by decide +kernel) (by decide) (by decide) (by decide))) (pe_powC (by decide +kernel) (by decide) (by decide) (by decide))) pb_nil))) (fb_cTy call_ty_int (by rfl) M.b_int bt_int (pb_c (pe_cmpR (op_eqU hu) (pv 1) pe_int (nomark _)) pb_nil)) (fun _ _ => rfl)) pb_nil))))))))
    · exact (ps_if (pt_cmpR (op_eqU hu) (pv 1) pe_int (nomark _)) (pss_cons (ps_set (i := 7) sc__law_day.nd rfl (Or.inr rfl) (pe_op op_modU (pe_op op_divU (pv 0) (pe_powC (by decide +kernel) (by decide) (by decide) (by decide))) (fb_cB (call_lenU) (by rfl) M.b_len bt_len (pb_c (pv 3) pb_nil))))
      (pss_cons (ps_setComp (N := ["_law_k", "_law_cell_here", "_law_at", "_law_shape_here"]) (l := [none, some 0, some 7, some 2]) (i := 3) rfl sc__law_day.nd rfl rfl ⟨rfl, by decide +kernel, by decide +kernel, by first | decide +kernel | rfl, ⟨⟨rfl, Or.inl rfl, rfl⟩, ⟨⟨rfl, Or.inl rfl, rfl⟩, ⟨⟨rfl, Or.inl rfl, rfl⟩, True.intro⟩⟩⟩, by decide +kernel⟩ (fb_range1 (by rfl) M.b_range (pb_c (fb_cB (call_lenU) (by rfl) M.b_len bt_len (pb_c (pv 2) pb_nil)) pb_nil)) (fun _ _ _ _ _ => (pg_name (i := 0) (show List.Nodup (["_law_k", "_law_cell_here", "_law_at", "_law_shape_here"] : List Str) by decide +kernel) rfl (Or.inl rfl))) (fun _ _ _ _ _ => pif_nil) (fun _ _ _ _ _ => (pe_ix ix_seq (fb_lst (pb_c pe_int (pb_c (pe_op op_addU pe_int (pe_op op_modU (pv 1) pe_int)) pb_nil))) (fb_cTy call_ty_int (by rfl) M.b_int bt_int (pb_c (pe_cmpR (op_eqU hu) (pv 0) (pe_op op_modU (pe_op op_addU (pv 2) pe_int) (fb_cB (call_lenU) (by rfl) M.b_len bt_len (pb_c (pv 3) pb_nil))) (nomark _)) pb_nil)) (fun _ _ => rfl))))
      (pss_cons (ps_asg pe_int (pg_sub (pv 3) (pv 7) set_list))
      (pss_one (ps_setComp (N := ["_law_k", "_law_at"]) (l := [none, some 7]) (i := 4) rfl sc__law_day.nd rfl rfl ⟨rfl, by decide +kernel, by decide +kernel, by first | decide +kernel | rfl, ⟨⟨rfl, Or.inl rfl, rfl⟩, True.intro⟩, by decide +kernel⟩ (fb_range1 (by rfl) M.b_range (pb_c (fb_cB (call_lenU) (by rfl) M.b_len bt_len (pb_c (pv 2) pb_nil)) pb_nil)) (fun _ _ _ _ _ => (pg_name (i := 0) (show List.Nodup (["_law_k", "_law_at"] : List Str) by decide +kernel) rfl (Or.inl rfl))) (fun _ _ _ _ _ => pif_nil) (fun _ _ _ _ _ => (fb_cTy call_ty_int (by rfl) M.b_int bt_int (pb_c (pe_cmpR (op_eqU hu) (pv 0) (pv 1) (nomark _)) pb_nil)))))))) pss_nil)
    · exact (ps_set (i := 4) sc__law_day.nd rfl (Or.inl rfl) (fb_fn G__law_bought (hr.mono (by decide)) (by rfl) pass0 (pb_c (pv 1) (pb_c (pv 3) (pb_c (pv 4) (pb_c (pv 2) (pb_c (pe_op op_addU pe_int (pe_op op_modU (pe_op op_divU (pv 0) (pe_powC (by decide +kernel) (by decide) (by decide) (by decide))) pe_int)) pb_nil)))))))
    · exact (ps_if (pt_cmpR (op_eqU hu) (fb_cB (call_sumU rfl) (by rfl) M.b_sum bt_sum (pb_c (pv 4) pb_nil)) pe_int (nomark _)) (pss_one (ps_asg pe_int (pg_sub (pv 4) pe_int set_list))) pss_nil)
    · exact (ps_ret (fb_tup (pb_c (fb_cTy call_ty_tuple (by rfl) M.b_tuple bt_tuple (pb_c (pv 3) pb_nil)) (pb_c (fb_cTy call_ty_tuple (by rfl) M.b_tuple bt_tuple (pb_c (pv 4) pb_nil)) pb_nil)))))) bd__law_day
abbrev s__law_book : Stmt := top 90
abbrev ps__law_book : List Str := ["_law_script", "_law_start", "_law_most", "_law_wares"]
theorem sc__law_book : FnScope ["_law_script", "_law_start", "_law_most", "_law_wares", "_law_cell_here", "_law_way", "_law_shape_here", "_law_book_here", "_law_k", "_law_j", "_law_amounts"] ps__law_book (defScope s__law_book) := ⟨rfl, rfl, rfl, by decide +kernel, rfl, by decide +kernel, by decide +kernel⟩
theorem bd__law_book : BdP "_law_book" "_law_book" s__law_book ps__law_book :=
  fun _ _ _ _ _ _ us hl => match us, hl with | [_, _, _, _], _ => rfl
theorem fn__law_book (M : Md K mg) (D : Df K mg "_law_book" s__law_book) (G__law_cell : Fn P w K mg base CX0 "_law_cell" 1 ps__law_cell (sp__law_cell K)) (G__law_shape : Fn P w K mg base CX0 "_law_shape" 2 ps__law_shape (sp__law_shape K)) (G__law_day : Fn P w K mg base CX0 "_law_day" 3 ps__law_day (sp__law_day K)) : Fn P w K mg base CX0 "_law_book" 4 ps__law_book (sp__law_book K) := D.to (fun F =>
  F.ok (k := 3) sc__law_book (fun vs _ _ _ h => sp4_len h) (fun cdv A outer s H vs Q E hr h => by
    have hu := hr.units
    obtain ⟨a0, a1, a2, a3, rfl, h⟩ := h
    refine ⟨tb__law_book K, ?_, rd__law_book h⟩
    refine pss_cons ?_ (pss_cons ?_ (pss_cons ?_ (pss_cons ?_ (pss_cons ?_ (pss_one ?_)))))
    · exact (ps_set (i := 4) sc__law_book.nd rfl (Or.inl rfl) (fb_fn G__law_cell (hr.mono (by decide)) (by rfl) pass0 (pb_c (pv 0) (pb_c (pv 1) pb_nil))))
    · exact (ps_set (i := 5) sc__law_book.nd rfl (Or.inr rfl) (pe_ix ix_seq (fb_lst (pb_c pe_int (pb_c pe_int (pb_c pe_int (pb_c pe_int (pb_c pe_int (pb_c pe_int (pb_c pe_int (pb_c pe_int (pb_c pe_int (pb_c pe_int pb_nil))))))))))) (pe_op op_modU (pe_op op_divU (pv 4) pe_int) pe_int) (fun _ _ => rfl)))
    · exact (ps_set (i := 6) sc__law_book.nd rfl (Or.inr rfl) (fb_fn G__law_shape (hr.mono (by decide)) (by rfl) pass0 (pb_c (pv 4) (pb_c (pe_op op_addU pe_int (pe_op op_modU (pv 4) (pv 3))) pb_nil))))
    · exact (ps_setComp (N := ["_law_k", "_law_script", "_law_start", "_law_way", "_law_shape_here"]) (l := [none, some 0, some 1, some 5, some 6]) (i := 7) rfl sc__law_book.nd rfl rfl ⟨rfl, by decide +kernel, by decide +kernel, by first | decide +kernel | rfl, ⟨⟨rfl, Or.inl rfl, rfl⟩, ⟨⟨rfl, Or.inl rfl, rfl⟩, ⟨⟨rfl, Or.inl rfl, rfl⟩, ⟨⟨rfl, Or.inl rfl, rfl⟩, True.intro⟩⟩⟩⟩, by decide +kernel⟩ (fb_range1 (by rfl) M.b_range (pb_c (pe_op op_addU pe_int (pe_op op_modU (pe_op op_divU (pv 4) pe_int) (pv 2))) pb_nil)) (fun _ _ _ _ _ => (pg_name (i := 0) (show List.Nodup (["_law_k", "_law_script", "_law_start", "_law_way", "_law_shape_here"] : List Str) by decide +kernel) rfl (Or.inl rfl))) (fun _ _ _ _ _ => pif_nil) (fun _ _ _ _ _ => (fb_fn G__law_day (hr.mono (by decide)) (by rfl) pass0 (pb_c (fb_fn G__law_cell (hr.mono (by decide)) (by rfl) pass0 (pb_c (pv 1) (pb_c (pe_op op_addU (pe_op op_addU (pv 2) pe_int) (pv 0)) pb_nil))) (pb_c (pv 3) (pb_c (pv 4) pb_nil))))))
    · exact (ps_if (pt_cmpR (op_eqU hu) (pe_op op_modU (pe_op op_divU (pv 4) pe_int) pe_int) pe_int (nomark _)) (pss_cons (ps_set (i := 8) sc__law_book.nd rfl (Or.inl rfl) (pe_op op_modU (pe_op op_divU (pv 4) pe_int) (fb_cB (call_lenU) (by rfl) M.b_len bt_len (pb_c (pv 7) pb_nil))))
      (pss_cons (ps_set (i := 9) sc__law_book.nd rfl (Or.inl rfl) (pe_op op_modU (pe_op op_divU (pv 4) pe_int) (fb_cB (call_lenU) (by rfl) M.b_len bt_len (pb_c (pv 6) pb_nil))))
      (pss_cons (ps_set (i := 10) sc__law_book.nd rfl (Or.inl rfl) (pe_op op_addU (pe_op op_addU (pe_slice sl_U (pe_ix ix_seq (pe_ix ix_seq (pv 7) (pv 8) (fun _ _ => rfl)) pe_int (fun _ _ => rfl)) po_none (po_some (pv 9))) (fb_tup (pb_c (pe_op op_addU (pe_ix ix_seq (pe_ix ix_seq (pe_ix ix_seq (pv 7) (pv 8) (fun _ _ => rfl)) pe_int (fun _ _ => rfl)) (pv 9) (fun _ _ => rfl)) pe_int) pb_nil))) (pe_slice sl_U (pe_ix ix_seq (pe_ix ix_seq (pv 7) (pv 8) (fun _ _ => rfl)) pe_int (fun _ _ => rfl)) (po_some (pe_op op_addU (pv 9) pe_int)) po_none)))
      (pss_one (ps_asg (fb_tup (pb_c (pe_ix ix_seq (pe_ix ix_seq (pv 7) (pv 8) (fun _ _ => rfl)) pe_int (fun _ _ => rfl)) (pb_c (pv 10) pb_nil))) (pg_sub (pv 7) (pv 8) set_list)))))) pss_nil)
    · exact (ps_ret (fb_cTy call_ty_tuple (by rfl) M.b_tuple bt_tuple (pb_c (pv 7) pb_nil))))) bd__law_book
abbrev s__law_do : Stmt := top 91
abbrev ps__law_do : List Str := ["_law_ledger", "_law_verb", "_law_things"]
theorem sc__law_do : FnScope ["_law_ledger", "_law_verb", "_law_things"] ps__law_do (defScope s__law_do) := ⟨rfl, rfl, rfl, by decide +kernel, rfl, by decide +kernel, by decide +kernel⟩
theorem bd__law_do : BdP "_law_do" "_law_do" s__law_do ps__law_do :=
  fun _ _ _ _ _ _ us hl => match us, hl with | [_, _, _], _ => rfl
theorem fn__law_do (M : Md K mg) (D : Df K mg "_law_do" s__law_do) (G_Ledger_put : FnM P w K mg base (CXr P w base) (clsA mg "Ledger") "put" 7 ps_Ledger_put (sp_Ledger_put K mg)) (G_Ledger_take : FnM P w K mg base (CXr P w base) (clsA mg "Ledger") "take" 2 ps_Ledger_take (sp_Ledger_take K mg)) (G_Ledger_book : FnM P w K mg base (CXr P w base) (clsA mg "Ledger") "book" 1 ps_Ledger_book (sp_Ledger_book K mg)) (G_Ledger_at_once : FnM P w K mg base (CXr P w base) (clsA mg "Ledger") "at_once" 3 ps_Ledger_at_once (sp_Ledger_at_once K mg)) (G_Ledger_reached : FnM P w K mg base (CXr P w base) (clsA mg "Ledger") "reached" 3 ps_Ledger_reached (sp_Ledger_reached K mg)) (G_Ledger_taste : FnMD P w K mg base (CXr P w base) (clsA mg "Ledger") "taste" 2 ps_Ledger_taste (sp_Ledger_taste K mg)) (G_Ledger_cut : FnM P w K mg base (CXr P w base) (clsA mg "Ledger") "cut" 2 ps_Ledger_cut (sp_Ledger_cut K mg)) (G_Ledger_fewest : FnM P w K mg base (CXr P w base) (clsA mg "Ledger") "fewest" 3 ps_Ledger_fewest (sp_Ledger_fewest K mg)) (G_Ledger_two_hands : FnM P w K mg base (CXr P w base) (clsA mg "Ledger") "two_hands" 2 ps_Ledger_two_hands (sp_Ledger_two_hands K mg)) : Fn P w K mg base (CXr P w base) "_law_do" 8 ps__law_do (sp__law_do K mg) := D.to (fun F =>
  F.okR (k := 7) sc__law_do (fun vs _ _ _ h => sp3_len h) (fun cdv A outer s H vs Q E hr h => by
    have hu := hr.units
    obtain ⟨a0, a1, a2, rfl, h⟩ := h
    refine ⟨tb__law_do K mg E, ?_, rd__law_do M h⟩
    refine pss_cons ?_ (pss_cons ?_ (pss_cons ?_ (pss_cons ?_ (pss_cons ?_ (pss_cons ?_ (pss_cons ?_ (pss_cons ?_ (pss_one ?_))))))))
    · exact (ps_if (pt_cmpR (op_eqU hu) (pv 1) pe_str (nomark _)) (pss_one (ps_expr (fb_meth M.o_Ledger G_Ledger_put (hr.mono (by decide)) passR (pv 0) (pb_c (pe_ix ix_seq (pv 2) pe_int (fun _ _ => rfl)) (pb_c (pe_ix ix_seq (pv 2) pe_int (fun _ _ => rfl)) (pb_c (pe_ix ix_seq (pv 2) pe_int (fun _ _ => rfl)) pb_nil)))))) pss_nil)
    · exact (ps_if (pt_cmpR (op_eqU hu) (pv 1) pe_str (nomark _)) (pss_one (ps_expr (fb_meth M.o_Ledger G_Ledger_take (hr.mono (by decide)) passR (pv 0) (pb_c (pe_ix ix_seq (pv 2) pe_int (fun _ _ => rfl)) pb_nil)))) pss_nil)
    · exact (ps_if (pt_cmpR (op_eqU hu) (pv 1) pe_str (nomark _)) (pss_one (ps_expr (fb_meth M.o_Ledger G_Ledger_at_once (hr.mono (by decide)) passR (pv 0) (pb_c (pe_ix ix_seq (pv 2) pe_int (fun _ _ => rfl)) (pb_c (pe_ix ix_seq (pv 2) pe_int (fun _ _ => rfl)) pb_nil))))) pss_nil)
    · exact (ps_if (pt_cmpR (op_eqU hu) (pv 1) pe_str (nomark _)) (pss_one (ps_expr (fb_meth M.o_Ledger G_Ledger_reached (hr.mono (by decide)) passR (pv 0) (pb_c (pe_ix ix_seq (pv 2) pe_int (fun _ _ => rfl)) pb_nil)))) pss_nil)
    · exact (ps_if (pt_cmpR (op_eqU hu) (pv 1) pe_str (nomark _)) (pss_one (ps_expr (fb_meth0 M.o_Ledger G_Ledger_book (hr.mono (by decide)) passR (pv 0)))) pss_nil)
    · exact (ps_if (pt_cmpR (op_eqU hu) (pv 1) pe_str (nomark _)) (pss_one (ps_expr (fb_meth0D M.o_Ledger G_Ledger_taste (hr.mono (by decide)) passR (pv 0)))) pss_nil)
    · exact (ps_if (pt_cmpR (op_eqU hu) (pv 1) pe_str (nomark _)) (pss_one (ps_expr (fb_meth0 M.o_Ledger G_Ledger_cut (hr.mono (by decide)) passR (pv 0)))) pss_nil)
    · exact (ps_if (pt_cmpR (op_eqU hu) (pv 1) pe_str (nomark _)) (pss_one (ps_expr (fb_meth0 M.o_Ledger G_Ledger_fewest (hr.mono (by decide)) passR (pv 0)))) pss_nil)
    · exact (ps_if (pt_cmpR (op_eqU hu) (pv 1) pe_str (nomark _)) (pss_one (ps_expr (fb_meth0 M.o_Ledger G_Ledger_two_hands (hr.mono (by decide)) passR (pv 0)))) pss_nil))) bd__law_do
abbrev s__law_refused : Stmt := top 92
abbrev ps__law_refused : List Str := ["_law_ledger", "_law_verb", "_law_things"]
theorem sc__law_refused : FnScope ["_law_ledger", "_law_verb", "_law_things", "_law_found", "error", "_law_kinds", "_law_kind"] ps__law_refused (defScope s__law_refused) := ⟨rfl, rfl, rfl, by decide +kernel, rfl, by decide +kernel, by decide +kernel⟩
theorem bd__law_refused : BdP "_law_refused" "_law_refused" s__law_refused ps__law_refused :=
  fun _ _ _ _ _ _ us hl => match us, hl with | [_, _, _], _ => rfl
theorem fn__law_refused (M : Md K mg) (D : Df K mg "_law_refused" s__law_refused) (G__law_do : Fn P w K mg base (CXr P w base) "_law_do" 8 ps__law_do (sp__law_do K mg)) : Fn P w K mg base CX0 "_law_refused" 9 ps__law_refused (sp__law_refused K mg) := D.to (fun F =>
  F.ok (k := 8) sc__law_refused (fun vs _ _ _ h => sp3_len h) (fun cdv A outer s H vs Q E hr h => by
    have hu := hr.units
    obtain ⟨a0, a1, a2, rfl, h⟩ := h
    refine ⟨tb__law_refused K mg, ?_, rd__law_refused M h⟩
    refine pss_cons ?_ (pss_cons ?_ (pss_cons ?_ (pss_one ?_)))
    · exact (ps_set (i := 3) sc__law_refused.nd rfl (Or.inl rfl) pe_str)
    · exact (fb_try3 rfl rfl G__law_do (hr.mono (by decide)) (by rfl) (fun _ => (pb_c (pv 0) (pb_c (pv 1) (pb_c (pv 2) pb_nil)))) M.x_NoName (by rfl) (fun _ => (pss_one (ps_set (i := 3) sc__law_refused.nd rfl (Or.inl rfl) pe_str))) M.x_Twice (by rfl) (fun _ => (pss_one (ps_set (i := 3) sc__law_refused.nd rfl (Or.inl rfl) pe_str))) M.x_NoBook (by rfl) (fun _ => (pss_one (ps_set (i := 3) sc__law_refused.nd rfl (Or.inl rfl) pe_str))))
    · exact (fb_tryB (ts := fun e' => (tSeq (tAsg (tDisp [((tC (.str "name")), (tCB (rIsinstP K) (tCons (tVar 4) (tCons (tC (.ref (clsA mg "NoName"))) tNil)))), ((tC (.str "twice")), (tCB (rIsinstP K) (tCons (tVar 4) (tCons (tC (.ref (clsA mg "Twice"))) tNil))))]) (gName 5))
    (tSeq (sDPut (tVar 5) (tC (.str "book")) (tCB (rIsinstP K) (tCons (tVar 4) (tCons (tC (.ref (clsA mg "NoBook"))) tNil))))
    (tSeq (tIfS (tOr (tNot (tTru K (tCB (rIsinstP K) (tCons (tVar 4) (tCons (tC (.ty "ValueError")) tNil))))) (tTru K (tCB (rIsinstP K) (tCons (tVar 4) (tCons (tTup (tCons (tC (.ref (clsA mg "NoDay"))) (tCons (tC (.ref (clsA mg "NoRow"))) (tCons (tC (.ref (clsA mg "NoTaste"))) (tCons (tC (.ref (clsA mg "NoText"))) tNil))))) tNil))))) (tRet (tC (.str "other"))) tNext)
    (tSeq (tForH e' 5 (gName 6) (tIfS (tTest (tOp (rNeU K) (tDGet (tVar 5) (tVar 6)) (tOp (rEqU K) (tVar 6) (tVar 3)))) (tRet (tC (.str "other"))) tNext))
    (tRet (tVar 3))))))) (i := 4) sc__law_refused.nd rfl rfl rfl rfl G__law_do (hr.mono (by decide)) (by rfl) (fun _ => (pb_c (pv 0) (pb_c (pv 1) (pb_c (pv 2) pb_nil)))) M.x_TasteError (by rfl) (fun e' => (pss_cons (ps_set (i := 5) sc__law_refused.nd rfl (Or.inl rfl) (pe_disp (pps_cons pe_str (fb_cB call_isinstP (by rfl) M.b_isinstance bt_isinstance (pb_c (pv 4) (pb_c (pe_gcls M.x_NoName) pb_nil))) (pps_cons pe_str (fb_cB call_isinstP (by rfl) M.b_isinstance bt_isinstance (pb_c (pv 4) (pb_c (pe_gcls M.x_Twice) pb_nil))) pps_nil)) rfl rfl (by simp) (by decide)))
      (pss_cons (ps_dput (hu1 hu) (pv 5) pe_str (fb_cB call_isinstP (by rfl) M.b_isinstance bt_isinstance (pb_c (pv 4) (pb_c (pe_gcls M.x_NoBook) pb_nil))) rfl)
      (pss_cons (ps_if (PW.pt (pw_or (pt_not (pt_tru (fb_cB call_isinstP (by rfl) M.b_isinstance bt_isinstance (pb_c (pv 4) (pb_c (pe_gty M.b_ValueError bt_ValueError) pb_nil))) (fun _ => rfl))) (pw_or1 (pt_tru (fb_cB call_isinstP (by rfl) M.b_isinstance bt_isinstance (pb_c (pv 4) (pb_c (fb_tup (pb_c (pe_gcls M.x_NoDay) (pb_c (pe_gcls M.x_NoRow) (pb_c (pe_gcls M.x_NoTaste) (pb_c (pe_gcls M.x_NoText) pb_nil))))) pb_nil))) (fun _ => rfl))))) (pss_one (ps_ret pe_str)) pss_nil)
      (pss_cons (ps_forH PassesOwn.never rfl (pv 5) (pg_name (i := 6) sc__law_refused.nd rfl (Or.inl rfl)) (pss_one (ps_if (pt_cmpR (op_neU hu) (pe_dget (hu1 hu) (pv 5) (pv 6) (fun _ _ => rfl)) (pe_cmpR (op_eqU hu) (pv 6) (pv 3) (nomark _)) (nomark _)) (pss_one (ps_ret pe_str)) pss_nil)))
      (pss_one (ps_ret (pv 3)))))))))
    · exact (ps_ret pe_str))) bd__law_refused
abbrev s__law_bad_name : Stmt := top 93
abbrev ps__law_bad_name : List Str := ["_law_cell_here"]
theorem sc__law_bad_name : FnScope ["_law_cell_here", "_law_some"] ps__law_bad_name (defScope s__law_bad_name) := ⟨rfl, rfl, rfl, by decide +kernel, rfl, by decide +kernel, by decide +kernel⟩
theorem bd__law_bad_name : BdP "_law_bad_name" "_law_bad_name" s__law_bad_name ps__law_bad_name :=
  fun _ _ _ _ _ _ us hl => match us, hl with | [_], _ => rfl
theorem fn__law_bad_name (M : Md K mg) (D : Df K mg "_law_bad_name" s__law_bad_name)  : Fn P w K mg base CX0 "_law_bad_name" 1 ps__law_bad_name (sp__law_bad_name K) := D.to (fun F =>
  F.okb (k := 0) sc__law_bad_name (fun vs _ _ _ h => sp1_len h) (fun cdv A outer s H vs Q E hr h => by
    have hu := hr.units
    obtain ⟨a0, rfl, h⟩ := h
    refine ⟨tb__law_bad_name K, ?_, rd__law_bad_name h⟩
    refine sb_cons ?_ (sb_one ?_)
    · exact (sb_set (i := 1) sc__law_bad_name.nd rfl (Or.inl rfl) (eb_lst (pb_c pe_str (pb_c pe_str (pb_c pe_str (pb_c pe_str (pb_c pe_str (pb_c pe_str (pb_c pe_str (pb_c pe_str (pb_c pe_str (pb_c pe_str (pb_c pe_str (pb_c pe_str pb_nil))))))))))))))
    · exact ⟨ps_ret (pe_ix ix_seq (pv 1) (pe_op op_modU (pv 0) pe_int) (fun _ _ => rfl))⟩)) bd__law_bad_name
abbrev s__law_bad_day : Stmt := top 94
abbrev ps__law_bad_day : List Str := ["_law_cell_here", "_law_prices", "_law_amounts"]
theorem sc__law_bad_day : FnScope ["_law_cell_here", "_law_prices", "_law_amounts", "_law_at", "_law_noughts", "_law_tops", "_law_some"] ps__law_bad_day (defScope s__law_bad_day) := ⟨rfl, rfl, rfl, by decide +kernel, rfl, by decide +kernel, by decide +kernel⟩
theorem bd__law_bad_day : BdP "_law_bad_day" "_law_bad_day" s__law_bad_day ps__law_bad_day :=
  fun _ _ _ _ _ _ us hl => match us, hl with | [_, _, _], _ => rfl
theorem fn__law_bad_day (M : Md K mg) (D : Df K mg "_law_bad_day" s__law_bad_day)  : Fn P w K mg base CX0 "_law_bad_day" 1 ps__law_bad_day (sp__law_bad_day K) := D.to (fun F =>
  F.ok (k := 0) sc__law_bad_day (fun vs _ _ _ h => sp3_len h) (fun cdv A outer s H vs Q E hr h => by
    have hu := hr.units
    obtain ⟨a0, a1, a2, rfl, h⟩ := h
    refine ⟨tb__law_bad_day K, ?_, rd__law_bad_day h⟩
    refine pss_cons ?_ (pss_cons ?_ (pss_cons ?_ (pss_cons ?_ (pss_cons ?_ (pss_cons ?_ (pss_cons ?_ (pss_cons ?_ (pss_cons ?_ (pss_cons ?_ (pss_one ?_))))))))))
    · exact (ps_set (i := 3) sc__law_bad_day.nd rfl (Or.inr rfl) (pe_op op_modU (pe_op op_divU (pv 0) pe_int) (fb_cB (call_lenU) (by rfl) M.b_len bt_len (pb_c (pv 1) pb_nil))))
    · exact (ps_set (i := 4) sc__law_bad_day.nd rfl (Or.inl rfl) (fb_cTy call_ty_tuple (by rfl) M.b_tuple bt_tuple (pb_c (pe_comp (N := ["_law_one"]) (l := [none]) rfl ⟨rfl, by decide +kernel, by decide +kernel, by first | decide +kernel | rfl,  True.intro, by decide +kernel⟩ (pi_seq (pv 1)) (fun _ _ _ _ _ => (pg_name (i := 0) (show List.Nodup (["_law_one"] : List Str) by decide +kernel) rfl (Or.inl rfl))) (fun _ _ _ _ _ => pif_nil) (fun _ _ _ _ _ => pe_int)) pb_nil)))
    · exact (ps_set (i := 5) sc__law_bad_day.nd rfl (Or.inl rfl) (fb_lst (pb_c pe_int (pb_c (pe_un un_neg pe_int) (pb_c (pe_op op_addU (pe_powC (by decide +kernel) (by decide) (by decide) (by decide)) pe_int) (pb_c (pe_op op_addU (pe_op op_addU (pe_powC (by decide +kernel) (by decide) (by decide) (by decide)) pe_int) (pe_op op_modU (pe_op op_divU (pv 0) pe_int) (pe_powC (by decide +kernel) (by decide) (by decide) (by decide)))) (pb_c pe_bl (pb_c pe_non (pb_c pe_str (pb_c (fb_tup (pb_c pe_int pb_nil)) pb_nil))))))))))
    · exact (ps_setComp (N := ["_law_top", "_law_prices", "_law_at", "_law_amounts"]) (l := [none, some 1, some 3, some 2]) (i := 6) rfl sc__law_bad_day.nd rfl rfl ⟨rfl, by decide +kernel, by decide +kernel, by first | decide +kernel | rfl, ⟨⟨rfl, Or.inl rfl, rfl⟩, ⟨⟨rfl, Or.inl rfl, rfl⟩, ⟨⟨rfl, Or.inl rfl, rfl⟩, True.intro⟩⟩⟩, by decide +kernel⟩ (pi_seq (pv 5)) (fun _ _ _ _ _ => (pg_name (i := 0) (show List.Nodup (["_law_top", "_law_prices", "_law_at", "_law_amounts"] : List Str) by decide +kernel) rfl (Or.inl rfl))) (fun _ _ _ _ _ => pif_nil) (fun _ _ _ _ _ => (fb_tup (pb_c (pe_op op_addU (pe_op op_addU (pe_slice sl_U (pv 1) po_none (po_some (pv 2))) (fb_tup (pb_c (pv 0) pb_nil))) (pe_slice sl_U (pv 1) (po_some (pe_op op_addU (pv 2) pe_int)) po_none)) (pb_c (pv 3) pb_nil)))))
    · exact (ps_set (i := 5) sc__law_bad_day.nd rfl (Or.inl rfl) (fb_lst (pb_c (pe_un un_neg pe_int) (pb_c (pe_op op_addU (pe_powC (by decide +kernel) (by decide) (by decide) (by decide)) pe_int) (pb_c (pe_op op_addU (pe_op op_addU (pe_powC (by decide +kernel) (by decide) (by decide) (by decide)) pe_int) (pe_op op_modU (pe_op op_divU (pv 0) pe_int) (pe_powC (by decide +kernel) (by decide) (by decide) (by decide)))) (pb_c pe_bl (pb_c pe_non (pb_c pe_str (pb_c (fb_lst (pb_c pe_int pb_nil)) pb_nil)))))))))
    · exact (ps_set (i := 6) sc__law_bad_day.nd rfl (Or.inl rfl) (pe_op op_addU (pv 6) (pe_comp (N := ["_law_top", "_law_prices", "_law_amounts", "_law_at"]) (l := [none, some 1, some 2, some 3]) rfl ⟨rfl, by decide +kernel, by decide +kernel, by first | decide +kernel | rfl, ⟨⟨rfl, Or.inl rfl, rfl⟩, ⟨⟨rfl, Or.inl rfl, rfl⟩, ⟨⟨rfl, Or.inl rfl, rfl⟩, True.intro⟩⟩⟩, by decide +kernel⟩ (pi_seq (pv 5)) (fun _ _ _ _ _ => (pg_name (i := 0) (show List.Nodup (["_law_top", "_law_prices", "_law_amounts", "_law_at"] : List Str) by decide +kernel) rfl (Or.inl rfl))) (fun _ _ _ _ _ => pif_nil) (fun _ _ _ _ _ => (fb_tup (pb_c (pv 1) (pb_c (pe_op op_addU (pe_op op_addU (pe_slice sl_U (pv 2) po_none (po_some (pv 3))) (fb_tup (pb_c (pv 0) pb_nil))) (pe_slice sl_U (pv 2) (po_some (pe_op op_addU (pv 3) pe_int)) po_none)) pb_nil)))))))
    · exact (ps_set (i := 6) sc__law_bad_day.nd rfl (Or.inl rfl) (pe_op op_addU (pv 6) (fb_lst (pb_c (fb_tup (pb_c (pv 1) (pb_c (pv 4) pb_nil))) (pb_c (fb_tup (pb_c (pv 1) (pb_c (pe_slice sl_U (pv 2) po_none (po_some (pe_un un_neg pe_int))) pb_nil))) (pb_c (fb_tup (pb_c (pe_slice sl_U (pv 1) po_none (po_some (pe_un un_neg pe_int))) (pb_c (pv 2) pb_nil))) (pb_c (fb_tup (pb_c (pv 1) (pb_c (pe_op op_addU (pv 2) (fb_tup (pb_c pe_int pb_nil))) pb_nil))) pb_nil)))))))
    · exact (ps_set (i := 6) sc__law_bad_day.nd rfl (Or.inl rfl) (pe_op op_addU (pv 6) (fb_lst (pb_c (fb_tup (pb_c (pe_op op_addU (pv 1) (fb_tup (pb_c pe_int pb_nil))) (pb_c (pv 2) pb_nil))) (pb_c (fb_tup (pb_c (pe_op op_addU (pv 1) (fb_tup (pb_c pe_int pb_nil))) (pb_c (pe_op op_addU (pv 2) (fb_tup (pb_c pe_int pb_nil))) pb_nil))) (pb_c (fb_tup (pb_c (pe_slice sl_U (pv 1) po_none (po_some (pe_un un_neg pe_int))) (pb_c (pe_slice sl_U (pv 2) po_none (po_some (pe_un un_neg pe_int))) pb_nil))) pb_nil))))))
    · exact (ps_set (i := 6) sc__law_bad_day.nd rfl (Or.inl rfl) (pe_op op_addU (pv 6) (fb_lst (pb_c (fb_tup (pb_c (fb_tup pb_nil) (pb_c (fb_tup pb_nil) pb_nil))) (pb_c (fb_tup (pb_c (fb_cTy call_ty_list (by rfl) M.b_list bt_list (pb_c (pv 1) pb_nil)) (pb_c (pv 2) pb_nil))) (pb_c (fb_tup (pb_c (pv 1) (pb_c (fb_cTy call_ty_list (by rfl) M.b_list bt_list (pb_c (pv 2) pb_nil)) pb_nil))) (pb_c (fb_tup (pb_c pe_non (pb_c (pv 2) pb_nil))) (pb_c (fb_tup (pb_c (pv 1) (pb_c pe_non pb_nil))) pb_nil))))))))
    · exact (ps_set (i := 6) sc__law_bad_day.nd rfl (Or.inl rfl) (pe_op op_addU (pv 6) (fb_lst (pb_c (fb_tup (pb_c pe_int (pb_c pe_int pb_nil))) (pb_c (fb_tup (pb_c pe_str (pb_c pe_str pb_nil))) (pb_c (fb_tup (pb_c pe_dnew (pb_c pe_dnew pb_nil))) (pb_c (fb_tup (pb_c (pe_op op_mulV (fb_tup (pb_c pe_int pb_nil)) pe_int) (pb_c (pe_op op_mulV (fb_tup (pb_c pe_int pb_nil)) pe_int) pb_nil))) (pb_c (fb_tup (pb_c (pv 2) (pb_c (fb_tup pb_nil) pb_nil))) (pb_c (fb_tup (pb_c pe_bl (pb_c pe_bl pb_nil))) pb_nil)))))))))
    · exact (ps_ret (pe_ix ix_seq (pv 6) (pe_op op_modU (pv 0) pe_int) (fun _ _ => rfl))))) bd__law_bad_day
abbrev s__law_none : Stmt := top 95
abbrev ps__law_none : List Str := ["_law_ledger"]
theorem sc__law_none : FnScope ["_law_ledger", "_law_verb"] ps__law_none (defScope s__law_none) := ⟨rfl, rfl, rfl, by decide +kernel, rfl, by decide +kernel, by decide +kernel⟩
theorem bd__law_none : BdP "_law_none" "_law_none" s__law_none ps__law_none :=
  fun _ _ _ _ _ _ us hl => match us, hl with | [_], _ => rfl
theorem fn__law_none (M : Md K mg) (D : Df K mg "_law_none" s__law_none) (G_Ledger_names : FnM P w K mg base CX0 (clsA mg "Ledger") "names" 1 ps_Ledger_names (sp_Ledger_names K mg)) (G__law_refused : Fn P w K mg base CX0 "_law_refused" 9 ps__law_refused (sp__law_refused K mg)) : Fn P w K mg base CX0 "_law_none" 10 ps__law_none (sp__law_none K mg) := D.to (fun F =>
  F.ok (k := 9) sc__law_none (fun vs _ _ _ h => sp1_len h) (fun cdv A outer s H vs Q E hr h => by
    have hu := hr.units
    obtain ⟨a0, rfl, h⟩ := h
    refine ⟨tb__law_none K mg, ?_, rd__law_none M h⟩
    refine pss_cons ?_ (pss_cons ?_ (pss_one ?_))
    · exact (ps_if (PW.pt (pw_or (pt_cmpR (op_neU hu) (fb_meth0 M.o_Ledger G_Ledger_names (hr.mono (by decide)) pass0 (pv 0)) (fb_lst pb_nil) (nomark _)) (pw_or1 (pt_cmpR (op_neU hu) (fb_fn G__law_refused (hr.mono (by decide)) (by rfl) pass0 (pb_c (pv 0) (pb_c pe_str (pb_c (fb_lst (pb_c pe_str (pb_c pe_str pb_nil))) pb_nil)))) pe_str (nomark _))))) (pss_one (ps_ret pe_bl)) pss_nil)
    · exact (ps_for PassesOwn.never rfl (pi_seq (fb_lst (pb_c pe_str (pb_c pe_str (pb_c pe_str (pb_c pe_str (pb_c pe_str pb_nil))))))) (pg_name (i := 1) sc__law_none.nd rfl (Or.inl rfl)) (pss_one (ps_if (pt_cmpR (op_neU hu) (fb_fn G__law_refused (hr.mono (by decide)) (by rfl) pass0 (pb_c (pv 0) (pb_c (pv 1) (pb_c (fb_lst pb_nil) pb_nil)))) pe_str (nomark _)) (pss_one (ps_ret pe_bl)) pss_nil)))
    · exact (ps_ret (pe_and (pe_cmpR (op_eqU hu) (fb_fn G__law_refused (hr.mono (by decide)) (by rfl) pass0 (pb_c (pv 0) (pb_c pe_str (pb_c (fb_lst (pb_c pe_str pb_nil)) pb_nil)))) pe_str (nomark _)) (pe_one (pe_cmpR (op_eqU hu) (fb_fn G__law_refused (hr.mono (by decide)) (by rfl) pass0 (pb_c (pv 0) (pb_c pe_str (pb_c (fb_lst (pb_c pe_str pb_nil)) pb_nil)))) pe_str (nomark _))))))) bd__law_none
abbrev s__law_puts : Stmt := top 96
abbrev ps__law_puts : List Str := ["_law_ledger", "_law_names_here", "_law_cell_here", "_law_good"]
theorem sc__law_puts : FnScope ["_law_ledger", "_law_names_here", "_law_cell_here", "_law_good", "_law_wrong", "_law_some", "_law_due", "_law_k", "_law_day_here"] ps__law_puts (defScope s__law_puts) := ⟨rfl, rfl, rfl, by decide +kernel, rfl, by decide +kernel, by decide +kernel⟩
theorem bd__law_puts : BdP "_law_puts" "_law_puts" s__law_puts ps__law_puts :=
  fun _ _ _ _ _ _ us hl => match us, hl with | [_, _, _, _], _ => rfl
theorem fn__law_puts (M : Md K mg) (D : Df K mg "_law_puts" s__law_puts) (G__law_refused : Fn P w K mg base CX0 "_law_refused" 9 ps__law_refused (sp__law_refused K mg)) (G__law_bad_name : Fn P w K mg base CX0 "_law_bad_name" 1 ps__law_bad_name (sp__law_bad_name K)) (G__law_bad_day : Fn P w K mg base CX0 "_law_bad_day" 1 ps__law_bad_day (sp__law_bad_day K)) : Fn P w K mg base CX0 "_law_puts" 10 ps__law_puts (sp__law_puts K mg) := D.to (fun F =>
  F.ok (k := 9) sc__law_puts (fun vs _ _ _ h => sp4_len h) (fun cdv A outer s H vs Q E hr h => by
    have hu := hr.units
    obtain ⟨a0, a1, a2, a3, rfl, h⟩ := h
    refine ⟨tb__law_puts K mg, ?_, rd__law_puts M h⟩
    refine pss_cons ?_ (pss_cons ?_ (pss_cons ?_ (pss_cons ?_ (pss_one ?_))))
    · exact (ps_set (i := 4) sc__law_puts.nd rfl (Or.inl rfl) (fb_fn G__law_bad_day (hr.mono (by decide)) (by rfl) pass0 (pb_c (pe_op op_divU (pv 2) pe_int) (pb_c (pe_ix ix_seq (pv 3) pe_int (fun _ _ => rfl)) (pb_c (pe_ix ix_seq (pv 3) pe_int (fun _ _ => rfl)) pb_nil)))))
    · exact (ps_set (i := 5) sc__law_puts.nd rfl (Or.inl rfl) (fb_lst (pb_c (pe_ix ix_seq (pv 1) (pe_op op_modU (pe_op op_divU (pv 2) pe_int) (fb_cB (call_lenU) (by rfl) M.b_len bt_len (pb_c (pv 1) pb_nil))) (fun _ _ => rfl)) (pb_c (fb_fn G__law_bad_name (hr.mono (by decide)) (by rfl) pass0 (pb_c (pe_op op_divU (pv 2) pe_int) pb_nil)) (pb_c pe_str pb_nil)))))
    · exact (ps_set (i := 6) sc__law_puts.nd rfl (Or.inl rfl) (fb_lst (pb_c pe_str (pb_c pe_str (pb_c pe_str pb_nil)))))
    · exact (ps_for PassesOwn.never rfl (fb_range1 (by rfl) M.b_range (pb_c pe_int pb_nil)) (pg_name (i := 7) sc__law_puts.nd rfl (Or.inl rfl)) (pss_cons (ps_set (i := 8) sc__law_puts.nd rfl (Or.inl rfl) (pv 4))
      (pss_cons (ps_if (PW.pt (pw_and (pt_cmpR op_lt (pv 7) pe_int (nomark _)) (pw_and1 (pt_cmpR (op_eqU hu) (pe_op op_modU (pv 2) pe_int) pe_int (nomark _))))) (pss_one (ps_set (i := 8) sc__law_puts.nd rfl (Or.inl rfl) (pv 3))) pss_nil)
      (pss_one (ps_if (pt_cmpR (op_neU hu) (fb_fn G__law_refused (hr.mono (by decide)) (by rfl) pass0 (pb_c (pv 0) (pb_c pe_str (pb_c (fb_lst (pb_c (pe_ix ix_seq (pv 5) (pv 7) (fun _ _ => rfl)) (pb_c (pe_ix ix_seq (pv 8) pe_int (fun _ _ => rfl)) (pb_c (pe_ix ix_seq (pv 8) pe_int (fun _ _ => rfl)) pb_nil)))) pb_nil)))) (pe_ix ix_seq (pv 6) (pv 7) (fun _ _ => rfl)) (nomark _)) (pss_one (ps_ret pe_bl)) pss_nil)))))
    · exact (ps_ret pe_bl))) bd__law_puts
abbrev s__law_names : Stmt := top 97
abbrev ps__law_names : List Str := ["_law_ledger", "_law_names_here", "_law_cell_here"]
theorem sc__law_names : FnScope ["_law_ledger", "_law_names_here", "_law_cell_here", "_law_wrong", "_law_verb", "_law_things"] ps__law_names (defScope s__law_names) := ⟨rfl, rfl, rfl, by decide +kernel, rfl, by decide +kernel, by decide +kernel⟩
theorem bd__law_names : BdP "_law_names" "_law_names" s__law_names ps__law_names :=
  fun _ _ _ _ _ _ us hl => match us, hl with | [_, _, _], _ => rfl
theorem fn__law_names (M : Md K mg) (D : Df K mg "_law_names" s__law_names) (G__law_refused : Fn P w K mg base CX0 "_law_refused" 9 ps__law_refused (sp__law_refused K mg)) (G__law_bad_name : Fn P w K mg base CX0 "_law_bad_name" 1 ps__law_bad_name (sp__law_bad_name K)) : Fn P w K mg base CX0 "_law_names" 10 ps__law_names (sp__law_names K mg) := D.to (fun F =>
  F.ok (k := 9) sc__law_names (fun vs _ _ _ h => sp3_len h) (fun cdv A outer s H vs Q E hr h => by
    have hu := hr.units
    obtain ⟨a0, a1, a2, rfl, h⟩ := h
    refine ⟨tb__law_names K mg, ?_, rd__law_names M h⟩
    refine pss_cons ?_ (pss_one ?_)
    · exact (ps_for PassesOwn.never rfl (pi_seq (fb_lst (pb_c (fb_fn G__law_bad_name (hr.mono (by decide)) (by rfl) pass0 (pb_c (pv 2) pb_nil)) (pb_c pe_str (pb_c pe_str pb_nil))))) (pg_name (i := 3) sc__law_names.nd rfl (Or.inl rfl)) (pss_cons (ps_for PassesOwn.never rfl (pi_seq (fb_lst (pb_c (fb_lst (pb_c pe_str (pb_c (fb_lst (pb_c (pv 3) pb_nil)) pb_nil))) (pb_c (fb_lst (pb_c pe_str (pb_c (fb_lst (pb_c (pv 3) pb_nil)) pb_nil))) (pb_c (fb_lst (pb_c pe_str (pb_c (fb_lst (pb_c (pv 3) (pb_c (pe_ix ix_seq (pv 1) pe_int (fun _ _ => rfl)) pb_nil))) pb_nil))) pb_nil))))) (pg_tupL rfl (pgs_cons (pg_name (i := 4) sc__law_names.nd rfl (Or.inl rfl)) (pgs_cons (pg_name (i := 5) sc__law_names.nd rfl (Or.inl rfl)) pgs_nil))) (pss_one (ps_if (pt_cmpR (op_neU hu) (fb_fn G__law_refused (hr.mono (by decide)) (by rfl) pass0 (pb_c (pv 0) (pb_c (pv 4) (pb_c (pv 5) pb_nil)))) pe_str (nomark _)) (pss_one (ps_ret pe_bl)) pss_nil)))
      (pss_one (ps_if (pt_cmpR (op_neU hu) (fb_fn G__law_refused (hr.mono (by decide)) (by rfl) pass0 (pb_c (pv 0) (pb_c pe_str (pb_c (fb_lst (pb_c (pe_ix ix_seq (pv 1) (pe_op op_modU (pv 2) (fb_cB (call_lenU) (by rfl) M.b_len bt_len (pb_c (pv 1) pb_nil))) (fun _ _ => rfl)) (pb_c (pv 3) pb_nil))) pb_nil)))) pe_str (nomark _)) (pss_one (ps_ret pe_bl)) pss_nil))))
    · exact (ps_ret pe_bl))) bd__law_names
abbrev s_law : Stmt := top 98
abbrev ps_law : List Str := ["_law_script"]
theorem sc_law : FnScope ["_law_script", "_law_book_here", "_law_names_here", "_law_ledger", "_law_name", "_law_day_here", "_law_cell_here", "_law_good", "_law_other"] ps_law (defScope s_law) := ⟨rfl, rfl, rfl, by decide +kernel, rfl, by decide +kernel, by decide +kernel⟩
theorem fok_law (M : Md K mg) {f : Addr} {fd : FuncData} (F : Fun K "law" "law" s_law f fd) (G_Ledger_init : FnM P w K mg base CX0 (clsA mg "Ledger") "__init__" 1 ps_Ledger_init (sp_Ledger_init K mg)) (G_Ledger_put : FnM P w K mg base (CXr P w base) (clsA mg "Ledger") "put" 7 ps_Ledger_put (sp_Ledger_put K mg)) (G_Ledger_take : FnM P w K mg base (CXr P w base) (clsA mg "Ledger") "take" 2 ps_Ledger_take (sp_Ledger_take K mg)) (G_Ledger_names : FnM P w K mg base CX0 (clsA mg "Ledger") "names" 1 ps_Ledger_names (sp_Ledger_names K mg)) (G_Ledger_book : FnM P w K mg base (CXr P w base) (clsA mg "Ledger") "book" 1 ps_Ledger_book (sp_Ledger_book K mg)) (G__law_cell : Fn P w K mg base CX0 "_law_cell" 1 ps__law_cell (sp__law_cell K)) (G__law_book : Fn P w K mg base CX0 "_law_book" 4 ps__law_book (sp__law_book K)) (G__law_refused : Fn P w K mg base CX0 "_law_refused" 9 ps__law_refused (sp__law_refused K mg)) (G__law_none : Fn P w K mg base CX0 "_law_none" 10 ps__law_none (sp__law_none K mg)) (G__law_puts : Fn P w K mg base CX0 "_law_puts" 10 ps__law_puts (sp__law_puts K mg)) (G__law_names : Fn P w K mg base CX0 "_law_names" 10 ps__law_names (sp__law_names K mg)) : FnOk P w K mg base CX0 11 f fd ps_law (sp_law K mg) :=
  F.ok (k := 10) sc_law (fun vs _ _ _ h => sp1_len h) (fun cdv A outer s H vs Q E hr h => by
    have hu := hr.units
    obtain ⟨a0, rfl, h⟩ := h
    refine ⟨tb_law K mg, ?_, rd_law M h⟩
    refine pss_cons ?_ (pss_cons ?_ (pss_cons ?_ (pss_cons ?_ (pss_cons ?_ (pss_cons ?_ (pss_cons ?_ (pss_cons ?_ (pss_cons ?_ (pss_cons ?_ (pss_cons ?_ (pss_cons ?_ (pss_cons ?_ (pss_cons ?_ (pss_cons ?_ (pss_cons ?_ (pss_cons ?_ (pss_one ?_)))))))))))))))))
    · exact (ps_set (i := 1) sc_law.nd rfl (Or.inl rfl) (fb_fn G__law_book (hr.mono (by decide)) (by rfl) pass0 (pb_c (pv 0) (pb_c pe_int (pb_c pe_int (pb_c pe_int pb_nil))))))
    · exact (ps_setComp (N := ["_law_k"]) (l := [none]) (i := 2) rfl sc_law.nd rfl rfl ⟨rfl, by decide +kernel, by decide +kernel, by first | decide +kernel | rfl,  True.intro, by decide +kernel⟩ (fb_range1 (by rfl) M.b_range (pb_c (fb_cB (call_lenU) (by rfl) M.b_len bt_len (pb_c (pv 1) pb_nil)) pb_nil)) (fun _ _ _ _ _ => (pg_name (i := 0) (show List.Nodup (["_law_k"] : List Str) by decide +kernel) rfl (Or.inl rfl))) (fun _ _ _ _ _ => pif_nil) (fun _ _ _ _ _ => (pe_ix ix_seq pe_str (pv 0) (fun _ _ => rfl))))
    · exact (ps_set (i := 3) sc_law.nd rfl (Or.inl rfl) (fb_make0 M.o_Ledger G_Ledger_init (hr.mono (by decide)) (by rfl) pass0))
    · exact (ps_if (pt_not (pt_tru (fb_fn G__law_none (hr.mono (by decide)) (by rfl) pass0 (pb_c (pv 3) pb_nil)) (fun _ => rfl))) (pss_one (ps_ret pe_bl)) pss_nil)
    · exact (ps_for PassesOwn.never rfl (fb_zip2m (by rfl) M.b_zip (pb_c (pv 2) (pb_c (pv 1) pb_nil))) (pg_tup rfl (pgs_cons (pg_name (i := 4) sc_law.nd rfl (Or.inl rfl)) (pgs_cons (pg_name (i := 5) sc_law.nd rfl (Or.inl rfl)) pgs_nil))) (pss_one (ps_expr (fb_meth M.o_Ledger G_Ledger_put (hr.mono (by decide)) passR0 (pv 3) (pb_c (pv 4) (pb_c (pe_ix ix_seq (pv 5) pe_int (fun _ _ => rfl)) (pb_c (pe_ix ix_seq (pv 5) pe_int (fun _ _ => rfl)) pb_nil)))))))
    · exact (ps_set (i := 6) sc_law.nd rfl (Or.inl rfl) (fb_fn G__law_cell (hr.mono (by decide)) (by rfl) pass0 (pb_c (pv 0) (pb_c pe_int pb_nil))))
    · exact (ps_set (i := 7) sc_law.nd rfl (Or.inl rfl) (pe_ix ix_seq (pv 1) (pe_op op_modU (pv 6) (fb_cB (call_lenU) (by rfl) M.b_len bt_len (pb_c (pv 1) pb_nil))) (fun _ _ => rfl)))
    · exact (ps_if (PW.pt (pw_or (pt_not (pt_tru (fb_fn G__law_puts (hr.mono (by decide)) (by rfl) pass0 (pb_c (pv 3) (pb_c (pv 2) (pb_c (pe_op op_divU (pv 6) pe_int) (pb_c (pv 7) pb_nil))))) (fun _ => rfl))) (pw_or1 (pt_not (pt_tru (fb_fn G__law_names (hr.mono (by decide)) (by rfl) pass0 (pb_c (pv 3) (pb_c (pv 2) (pb_c (fb_fn G__law_cell (hr.mono (by decide)) (by rfl) pass0 (pb_c (pv 0) (pb_c pe_int pb_nil))) pb_nil)))) (fun _ => rfl)))))) (pss_one (ps_ret pe_bl)) pss_nil)
    · exact (ps_if (PW.pt (pw_or (pt_cmpR (op_neU hu) (fb_meth0 M.o_Ledger G_Ledger_names (hr.mono (by decide)) pass0 (pv 3)) (pv 2) (nomark _)) (pw_or1 (pt_cmpR (op_neU hu) (fb_meth0 M.o_Ledger G_Ledger_book (hr.mono (by decide)) passR0 (pv 3)) (pv 1) (nomark _))))) (pss_one (ps_ret pe_bl)) pss_nil)
    · exact (ps_expr (fb_meth M.o_Ledger G_Ledger_put (hr.mono (by decide)) passR0 (pv 3) (pb_c pe_str (pb_c (pe_ix ix_seq (pv 7) pe_int (fun _ _ => rfl)) (pb_c (pe_ix ix_seq (pv 7) pe_int (fun _ _ => rfl)) pb_nil)))))
    · exact (ps_while PassesOwn.never (pt_cmpR op_lt (fb_cB (call_lenU) (by rfl) M.b_len bt_len (pb_c (fb_meth0 M.o_Ledger G_Ledger_names (hr.mono (by decide)) pass0 (pv 3)) pb_nil)) pe_int (nomark _)) (pss_one (ps_expr (fb_meth M.o_Ledger G_Ledger_put (hr.mono (by decide)) passR0 (pv 3) (pb_c (pe_op op_addS pe_str (pe_ix ix_seq pe_str (fb_cB (call_lenU) (by rfl) M.b_len bt_len (pb_c (fb_meth0 M.o_Ledger G_Ledger_names (hr.mono (by decide)) pass0 (pv 3)) pb_nil)) (fun _ _ => rfl))) (pb_c (pe_ix ix_seq (pv 7) pe_int (fun _ _ => rfl)) (pb_c (pe_ix ix_seq (pv 7) pe_int (fun _ _ => rfl)) pb_nil)))))))
    · exact (ps_if (PW.pt (pw_or (pt_cmpR (op_neU hu) (fb_fn G__law_refused (hr.mono (by decide)) (by rfl) pass0 (pb_c (pv 3) (pb_c pe_str (pb_c (fb_lst (pb_c pe_str (pb_c (pe_ix ix_seq (pv 7) pe_int (fun _ _ => rfl)) (pb_c (pe_ix ix_seq (pv 7) pe_int (fun _ _ => rfl)) pb_nil)))) pb_nil)))) pe_str (nomark _)) (pw_or1 (pt_cmpR (op_neU hu) (fb_cB (call_lenU) (by rfl) M.b_len bt_len (pb_c (fb_meth0 M.o_Ledger G_Ledger_names (hr.mono (by decide)) pass0 (pv 3)) pb_nil)) pe_int (nomark _))))) (pss_one (ps_ret pe_bl)) pss_nil)
    · exact (ps_for PassesOwn.never rfl (pi_seq (pe_slice sl_U (fb_meth0 M.o_Ledger G_Ledger_names (hr.mono (by decide)) pass0 (pv 3)) (po_some (fb_cB (call_lenU) (by rfl) M.b_len bt_len (pb_c (pv 1) pb_nil))) po_none)) (pg_name (i := 4) sc_law.nd rfl (Or.inl rfl)) (pss_one (ps_expr (fb_meth M.o_Ledger G_Ledger_take (hr.mono (by decide)) passR0 (pv 3) (pb_c (pv 4) pb_nil)))))
    · exact (ps_if (PW.pt (pw_or (pt_cmpR (op_neU hu) (fb_meth0 M.o_Ledger G_Ledger_names (hr.mono (by decide)) pass0 (pv 3)) (pv 2) (nomark _)) (pw_or (pt_cmpR (op_neU hu) (fb_meth0 M.o_Ledger G_Ledger_book (hr.mono (by decide)) passR0 (pv 3)) (pv 1) (nomark _)) (pw_or1 (pt_cmpR (op_neU hu) (fb_fn G__law_refused (hr.mono (by decide)) (by rfl) pass0 (pb_c (pv 3) (pb_c pe_str (pb_c (fb_lst (pb_c pe_str pb_nil)) pb_nil)))) pe_str (nomark _)))))) (pss_one (ps_ret pe_bl)) pss_nil)
    · exact (ps_for PassesOwn.never rfl (pi_seq (pv 2)) (pg_name (i := 4) sc_law.nd rfl (Or.inl rfl)) (pss_one (ps_expr (fb_meth M.o_Ledger G_Ledger_take (hr.mono (by decide)) passR0 (pv 3) (pb_c (pv 4) pb_nil)))))
    · exact (ps_set (i := 8) sc_law.nd rfl (Or.inl rfl) (fb_tup (pb_c (pe_op op_addU (pe_ix ix_seq (pv 7) pe_int (fun _ _ => rfl)) (fb_tup (pb_c pe_int pb_nil))) (pb_c (pe_op op_addU (pe_ix ix_seq (pv 7) pe_int (fun _ _ => rfl)) (fb_tup (pb_c pe_int pb_nil))) pb_nil))))
    · exact (ps_expr (fb_meth M.o_Ledger G_Ledger_put (hr.mono (by decide)) passR0 (pv 3) (pb_c pe_str (pb_c (pe_ix ix_seq (pv 8) pe_int (fun _ _ => rfl)) (pb_c (pe_ix ix_seq (pv 8) pe_int (fun _ _ => rfl)) pb_nil)))))
    · exact (ps_ret (pe_and (pe_cmpR (op_eqU hu) (fb_meth0 M.o_Ledger G_Ledger_book (hr.mono (by decide)) passR0 (pv 3)) (fb_tup (pb_c (pv 8) pb_nil)) (nomark _)) (pe_one (pe_cmpR (op_eqU hu) (fb_fn G__law_refused (hr.mono (by decide)) (by rfl) pass0 (pb_c (pv 3) (pb_c pe_str (pb_c (fb_lst (pb_c pe_str (pb_c (pe_ix ix_seq (pv 7) pe_int (fun _ _ => rfl)) (pb_c (pe_ix ix_seq (pv 7) pe_int (fun _ _ => rfl)) pb_nil)))) pb_nil)))) pe_str (nomark _))))))
theorem bd_law : BdP "law" "law" s_law ps_law :=
  fun _ _ _ _ _ _ us hl => match us, hl with | [_], _ => rfl
end
end K82
open K82
open PySem.Challenge renaming pw_tastesbook_k82_ledger_refuses → PW9
/-! no twins of the opening's big constants: these names are taken (the compiled file would be above 64 MiB) -/
def PySem.W.Fast.tw6226015480068110254 : Unit := ()
def PySem.W.Fast.tw9972977936307090635 : Unit := ()
def PySem.W.Fast.tw16829805361186753163 : Unit := ()
def PySem.W.Fast.tw15339258225501996284 : Unit := ()
def PySem.W.Fast.tw12457964712655009860 : Unit := ()
def PySem.W.Fast.tw12979844760506642310 : Unit := ()
def PySem.W.Fast.tw2968682671055506540 : Unit := ()
def PySem.W.Fast.tw10069531092873491960 : Unit := ()
def PySem.W.Fast.tw11642126774650649063 : Unit := ()
def PySem.W.Fast.tw3532907367287527286 : Unit := ()
def PySem.W.Fast.tw8142848958324750735 : Unit := ()
def PySem.W.Fast.tw308534236227164950 : Unit := ()
def PySem.W.Fast.tw9883537332275532994 : Unit := ()
def PySem.W.Fast.tw14280210225617671473 : Unit := ()
def PySem.W.Fast.tw4714768098828439846 : Unit := ()
def PySem.W.Fast.tw16910296673968075312 : Unit := ()
def PySem.W.Fast.tw2926426717316698202 : Unit := ()
def PySem.W.Fast.tw17233200542956258761 : Unit := ()
def PySem.W.Fast.tw12509254274491546748 : Unit := ()
def PySem.W.Fast.tw18381118277766228102 : Unit := ()
def PySem.W.Fast.tw14753006194433638737 : Unit := ()
def PySem.W.Fast.tw18374514738260132486 : Unit := ()
def PySem.W.Fast.tw15677076303382045283 : Unit := ()
def PySem.W.Fast.tw3344190917982767522 : Unit := ()
def PySem.W.Fast.tw3839752004663555126 : Unit := ()
def PySem.W.Fast.tw3482109091929640060 : Unit := ()
def PySem.W.Fast.tw3637291859021858095 : Unit := ()
def PySem.W.Fast.tw13837414703060009082 : Unit := ()
def PySem.W.Fast.tw16522272145302984249 : Unit := ()
def PySem.W.Fast.tw835037807289717425 : Unit := ()
def PySem.W.Fast.tw4357977886439817372 : Unit := ()
def PySem.W.Fast.tw11865161199480219249 : Unit := ()
def PySem.W.Fast.tw4873865038692118029 : Unit := ()
def PySem.W.Fast.tw6104170119067561655 : Unit := ()
def PySem.W.Fast.tw15210516464056258462 : Unit := ()
def PySem.W.Fast.tw11848997880550138549 : Unit := ()
def PySem.W.Fast.tw2601902529219369321 : Unit := ()
def PySem.W.Fast.tw194055261097232923 : Unit := ()
def PySem.W.Fast.tw3788123175957359567 : Unit := ()
def PySem.W.Fast.tw10820887902504033486 : Unit := ()
def PySem.W.Fast.tw12517133234710645450 : Unit := ()
def PySem.W.Fast.tw1068773129287936204 : Unit := ()
def PySem.W.Fast.tw2864438635466833100 : Unit := ()
def PySem.W.Fast.tw12418764253961523985 : Unit := ()
def PySem.W.Fast.tw2830934121357127128 : Unit := ()
def PySem.W.Fast.tw10389278504729910328 : Unit := ()
def PySem.W.Fast.tw2529867003748143337 : Unit := ()
def PySem.W.Fast.tw8679241218790309346 : Unit := ()
def PySem.W.Fast.tw15094900416493293087 : Unit := ()
def PySem.W.Fast.tw12194054983513226489 : Unit := ()
def PySem.W.Fast.tw11675672415993468582 : Unit := ()
def PySem.W.Fast.tw3946006781510819642 : Unit := ()
def PySem.W.Fast.tw3377585655465284084 : Unit := ()
def PySem.W.Fast.tw13970720372722654256 : Unit := ()
def PySem.W.Fast.tw10561418949963694667 : Unit := ()
def PySem.W.Fast.tw11150445011735010385 : Unit := ()
def PySem.W.Fast.tw1646519874173332065 : Unit := ()
def PySem.W.Fast.tw2309442328291049792 : Unit := ()
def PySem.W.Fast.tw8107368787280688209 : Unit := ()
def PySem.W.Fast.tw13989164978152688756 : Unit := ()
def PySem.W.Fast.tw16725988382542182376 : Unit := ()
def PySem.W.Fast.tw17301250441105704956 : Unit := ()
def PySem.W.Fast.tw12069563239443203368 : Unit := ()
def PySem.W.Fast.tw10667529206904173932 : Unit := ()
def PySem.W.Fast.tw556207189690643931 : Unit := ()
def PySem.W.Fast.tw11640066136172982558 : Unit := ()
def PySem.W.Fast.tw927821526203240577 : Unit := ()
def PySem.W.Fast.tw3127975330144916534 : Unit := ()
def PySem.W.Fast.tw7952796333064483188 : Unit := ()
def PySem.W.Fast.tw11416746929638748327 : Unit := ()
def PySem.W.Fast.tw17420245065104241227 : Unit := ()
def PySem.W.Fast.tw315052313989048363 : Unit := ()
def PySem.W.Fast.tw1801316016803071278 : Unit := ()
def PySem.W.Fast.tw10418456035776146646 : Unit := ()
def PySem.W.Fast.tw8767780484030116749 : Unit := ()
def PySem.W.Fast.tw10477755232214707631 : Unit := ()
def PySem.W.Fast.tw5110840579986158692 : Unit := ()
def PySem.W.Fast.tw14875847579163414228 : Unit := ()
def PySem.W.Fast.tw10512107016677568517 : Unit := ()
def PySem.W.Fast.tw12337399689283620418 : Unit := ()
def PySem.W.Fast.tw4442110617528640967 : Unit := ()
def PySem.W.Fast.tw10424178413246780086 : Unit := ()
def PySem.W.Fast.tw12196533895201749223 : Unit := ()
def PySem.W.Fast.tw12067315221932115717 : Unit := ()
def PySem.W.Fast.tw8483351233227708271 : Unit := ()
def PySem.W.Fast.tw15349555040472679528 : Unit := ()
def PySem.W.Fast.tw10952932276774893019 : Unit := ()
def PySem.W.Fast.tw13715386779034543755 : Unit := ()
def PySem.W.Fast.tw15400306282643247155 : Unit := ()
def PySem.W.Fast.tw9170971984099129932 : Unit := ()
def PySem.W.Fast.tw11197431176026663180 : Unit := ()
def PySem.W.Fast.tw17974976604259142334 : Unit := ()
def PySem.W.Fast.tw14302688362154233284 : Unit := ()
def PySem.W.Fast.tw18189097919864888448 : Unit := ()
def PySem.W.Fast.tw11976873427652878759 : Unit := ()
def PySem.W.Fast.tw15104430341405784999 : Unit := ()
def PySem.W.Fast.tw14631371198296408249 : Unit := ()
def PySem.W.Fast.tw17938047823852003033 : Unit := ()
def PySem.W.Fast.tw1067628041303777348 : Unit := ()
def PySem.W.Fast.tw13547951663904682624 : Unit := ()
def PySem.W.Fast.tw13831890582903190321 : Unit := ()
def PySem.W.Fast.tw11058069899528754660 : Unit := ()
def PySem.W.Fast.tw8630775262395249054 : Unit := ()
def PySem.W.Fast.tw8477521103415101439 : Unit := ()
def PySem.W.Fast.tw3080035268252054597 : Unit := ()
def PySem.W.Fast.tw15395175386167896289 : Unit := ()
def PySem.W.Fast.tw12162848777842712381 : Unit := ()
def PySem.W.Fast.tw3581364495057662485 : Unit := ()
def PySem.W.Fast.tw2244482956797352821 : Unit := ()
def PySem.W.Fast.tw5547733470417009702 : Unit := ()
def PySem.W.Fast.tw9894021930542792564 : Unit := ()
def PySem.W.Fast.tw3327269875194419510 : Unit := ()
def PySem.W.Fast.tw9602790221708993843 : Unit := ()
def PySem.W.Fast.tw11741232304351377710 : Unit := ()
def PySem.W.Fast.tw7528360063941151630 : Unit := ()
def PySem.W.Fast.tw16342866727275004987 : Unit := ()
def PySem.W.Fast.tw11197462240019598122 : Unit := ()
def PySem.W.Fast.tw17924601801224630990 : Unit := ()
def PySem.W.Fast.tw779102572201792717 : Unit := ()
def PySem.W.Fast.tw11785594773789321181 : Unit := ()
def PySem.W.Fast.tw4706374300563342323 : Unit := ()
def PySem.W.Fast.tw17486392992331099868 : Unit := ()
def PySem.W.Fast.tw16083517108339979733 : Unit := ()
def PySem.W.Fast.tw1599917066690372880 : Unit := ()
def PySem.W.Fast.tw12205226538841328186 : Unit := ()
def PySem.W.Fast.tw11376584132551295094 : Unit := ()
def PySem.W.Fast.tw18148039469477378498 : Unit := ()
def PySem.W.Fast.tw1776655853547297149 : Unit := ()
def PySem.W.Fast.tw15654389849408063647 : Unit := ()
def PySem.W.Fast.tw2373224846256119886 : Unit := ()
def PySem.W.Fast.tw12379879333004378933 : Unit := ()
def PySem.W.Fast.tw3696652081097010873 : Unit := ()
def PySem.W.Fast.tw651296334868673250 : Unit := ()
def PySem.W.Fast.tw4457805378492682395 : Unit := ()
def PySem.W.Fast.tw15920240797970349788 : Unit := ()
def PySem.W.Fast.tw5573832080393617080 : Unit := ()
def PySem.W.Fast.tw1578937326351632566 : Unit := ()
def PySem.W.Fast.tw10904544434713768771 : Unit := ()
def PySem.W.Fast.tw9078982476888800441 : Unit := ()
open PySem PySem.W PyProof.Rows L2
set_option maxRecDepth 100000 in
set_option maxHeartbeats 0 in
theorem PySem.Challenge.cw_tastesbook_k82_ledger_refuses_holds : PySem.Challenge.rw_tastesbook_k82_ledger_refuses.Holds := by
  w_on; o_law; k_head; (case hw => w_witness2)
  k_fill
  refine L2.walk_fn (l := PySem.Challenge.rw_tastesbook_k82_ledger_refuses) (x := "_law_script") 11 rfl rfl (by decide) (fun w h Y => PySem.W.kIn_of Y) ?F
  case F =>
    intro w mg h KX G
    have W_o_Ledger : Own (KOf KX) mg "Ledger" (clsA mg "Ledger") := by
      dsimp only [KOf]
      refine' own_mk KX G ?aC ?pg ?hd ?po ?sa ?mk ?kc ?ha ?hn ?htk ?hm
      (case aC => k_is); (case pg => k_is); (case hd => k_is); (case po => k_is); (case sa => k_is); (case mk => k_is); (case kc => k_is); (case ha => k_is); (case hn => k_is); (case htk => k_is); (case hm => k_is)
    have W_na_Ledger_kept : NoAttr (KOf KX) (clsA mg "Ledger") "kept" := by
      dsimp only [KOf]
      refine' noat_mk KX G ?aC ?n
      (case aC => k_is); (case n => k_is)
    have W_nc_taste_of : NoC (KOf KX) mg "taste_of" := by
      dsimp only [KOf]
      refine' noc_mk KX G ?a ?k
      (case a => k_is); (case k => k_is)
    have W_nc_cut_cuts : NoC (KOf KX) mg "cut_cuts" := by
      dsimp only [KOf]
      refine' noc_mk KX G ?a ?k
      (case a => k_is); (case k => k_is)
    have W_nc_fewest_leaving : NoC (KOf KX) mg "fewest_leaving" := by
      dsimp only [KOf]
      refine' noc_mk KX G ?a ?k
      (case a => k_is); (case k => k_is)
    have W_nc_two_hands_leaving : NoC (KOf KX) mg "two_hands_leaving" := by
      dsimp only [KOf]
      refine' noc_mk KX G ?a ?k
      (case a => k_is); (case k => k_is)
    have D_is_int : Df (KOf KX) mg "is_int" s_is_int := by dsimp only [KOf]; refine' df_mk KX G ?a ?l ?c ?k; case a|l|c|k => k_is
    have D_is_tuple : Df (KOf KX) mg "is_tuple" s_is_tuple := by dsimp only [KOf]; refine' df_mk KX G ?a ?l ?c ?k; case a|l|c|k => k_is
    have D_is_price : Df (KOf KX) mg "is_price" s_is_price := by dsimp only [KOf]; refine' df_mk KX G ?a ?l ?c ?k; case a|l|c|k => k_is
    have D_is_amount : Df (KOf KX) mg "is_amount" s_is_amount := by dsimp only [KOf]; refine' df_mk KX G ?a ?l ?c ?k; case a|l|c|k => k_is
    have D_are_prices : Df (KOf KX) mg "are_prices" s_are_prices := by dsimp only [KOf]; refine' df_mk KX G ?a ?l ?c ?k; case a|l|c|k => k_is
    have D_are_amounts : Df (KOf KX) mg "are_amounts" s_are_amounts := by dsimp only [KOf]; refine' df_mk KX G ?a ?l ?c ?k; case a|l|c|k => k_is
    have D_is_day : Df (KOf KX) mg "is_day" s_is_day := by dsimp only [KOf]; refine' df_mk KX G ?a ?l ?c ?k; case a|l|c|k => k_is
    have D_is_book : Df (KOf KX) mg "is_book" s_is_book := by dsimp only [KOf]; refine' df_mk KX G ?a ?l ?c ?k; case a|l|c|k => k_is
    have D_check : Df (KOf KX) mg "check" s_check := by dsimp only [KOf]; refine' df_mk KX G ?a ?l ?c ?k; case a|l|c|k => k_is
    have D_is_name : Df (KOf KX) mg "is_name" s_is_name := by dsimp only [KOf]; refine' df_mk KX G ?a ?l ?c ?k; case a|l|c|k => k_is
    have D_check_name : Df (KOf KX) mg "check_name" s_check_name := by dsimp only [KOf]; refine' df_mk KX G ?a ?l ?c ?k; case a|l|c|k => k_is
    have D_Ledger_init : DfM (KOf KX) (clsA mg "Ledger") "__init__" "Ledger.__init__" s_Ledger_init := by
      dsimp only [KOf]
      refine' dfm_mk KX G ?aC ?a ?i ?l ?c ?k
      (case aC => k_is); (case a => k_is); (case i => k_is); (case l => k_is); (case c => k_is); (case k => k_is)
    have D_Ledger_put : DfM (KOf KX) (clsA mg "Ledger") "put" "Ledger.put" s_Ledger_put := by
      dsimp only [KOf]
      refine' dfm_mk KX G ?aC ?a ?i ?l ?c ?k
      (case aC => k_is); (case a => k_is); (case i => k_is); (case l => k_is); (case c => k_is); (case k => k_is)
    have D_Ledger_check_standing : DfM (KOf KX) (clsA mg "Ledger") "check_standing" "Ledger.check_standing" s_Ledger_check_standing := by
      dsimp only [KOf]
      refine' dfm_mk KX G ?aC ?a ?i ?l ?c ?k
      (case aC => k_is); (case a => k_is); (case i => k_is); (case l => k_is); (case c => k_is); (case k => k_is)
    have D_Ledger_take : DfM (KOf KX) (clsA mg "Ledger") "take" "Ledger.take" s_Ledger_take := by
      dsimp only [KOf]
      refine' dfm_mk KX G ?aC ?a ?i ?l ?c ?k
      (case aC => k_is); (case a => k_is); (case i => k_is); (case l => k_is); (case c => k_is); (case k => k_is)
    have D_Ledger_names : DfM (KOf KX) (clsA mg "Ledger") "names" "Ledger.names" s_Ledger_names := by
      dsimp only [KOf]
      refine' dfm_mk KX G ?aC ?a ?i ?l ?c ?k
      (case aC => k_is); (case a => k_is); (case i => k_is); (case l => k_is); (case c => k_is); (case k => k_is)
    have D_Ledger_book : DfM (KOf KX) (clsA mg "Ledger") "book" "Ledger.book" s_Ledger_book := by
      dsimp only [KOf]
      refine' dfm_mk KX G ?aC ?a ?i ?l ?c ?k
      (case aC => k_is); (case a => k_is); (case i => k_is); (case l => k_is); (case c => k_is); (case k => k_is)
    have D_Ledger_number_of : DfM (KOf KX) (clsA mg "Ledger") "number_of" "Ledger.number_of" s_Ledger_number_of := by
      dsimp only [KOf]
      refine' dfm_mk KX G ?aC ?a ?i ?l ?c ?k
      (case aC => k_is); (case a => k_is); (case i => k_is); (case l => k_is); (case c => k_is); (case k => k_is)
    have D_Ledger_names_of : DfM (KOf KX) (clsA mg "Ledger") "names_of" "Ledger.names_of" s_Ledger_names_of := by
      dsimp only [KOf]
      refine' dfm_mk KX G ?aC ?a ?i ?l ?c ?k
      (case aC => k_is); (case a => k_is); (case i => k_is); (case l => k_is); (case c => k_is); (case k => k_is)
    have D_Ledger_at_once : DfM (KOf KX) (clsA mg "Ledger") "at_once" "Ledger.at_once" s_Ledger_at_once := by
      dsimp only [KOf]
      refine' dfm_mk KX G ?aC ?a ?i ?l ?c ?k
      (case aC => k_is); (case a => k_is); (case i => k_is); (case l => k_is); (case c => k_is); (case k => k_is)
    have D_Ledger_reached : DfM (KOf KX) (clsA mg "Ledger") "reached" "Ledger.reached" s_Ledger_reached := by
      dsimp only [KOf]
      refine' dfm_mk KX G ?aC ?a ?i ?l ?c ?k
      (case aC => k_is); (case a => k_is); (case i => k_is); (case l => k_is); (case c => k_is); (case k => k_is)
    have D_Ledger_taste : DfMD (KOf KX) (clsA mg "Ledger") "taste" "Ledger.taste" s_Ledger_taste := by
      dsimp only [KOf]
      refine' dfmd_mk KX G ?aC ?a ?i ?l ?t ?c ?k
      (case aC => k_is); (case a => k_is); (case i => k_is); (case l => k_is); (case t => k_is); (case c => k_is); (case k => k_is)
    have D_Ledger_cut : DfM (KOf KX) (clsA mg "Ledger") "cut" "Ledger.cut" s_Ledger_cut := by
      dsimp only [KOf]
      refine' dfm_mk KX G ?aC ?a ?i ?l ?c ?k
      (case aC => k_is); (case a => k_is); (case i => k_is); (case l => k_is); (case c => k_is); (case k => k_is)
    have D_Ledger_fewest : DfM (KOf KX) (clsA mg "Ledger") "fewest" "Ledger.fewest" s_Ledger_fewest := by
      dsimp only [KOf]
      refine' dfm_mk KX G ?aC ?a ?i ?l ?c ?k
      (case aC => k_is); (case a => k_is); (case i => k_is); (case l => k_is); (case c => k_is); (case k => k_is)
    have D_Ledger_two_hands : DfM (KOf KX) (clsA mg "Ledger") "two_hands" "Ledger.two_hands" s_Ledger_two_hands := by
      dsimp only [KOf]
      refine' dfm_mk KX G ?aC ?a ?i ?l ?c ?k
      (case aC => k_is); (case a => k_is); (case i => k_is); (case l => k_is); (case c => k_is); (case k => k_is)
    have D__law_cell : Df (KOf KX) mg "_law_cell" s__law_cell := by dsimp only [KOf]; refine' df_mk KX G ?a ?l ?c ?k; case a|l|c|k => k_is
    have D__law_next : Df (KOf KX) mg "_law_next" s__law_next := by dsimp only [KOf]; refine' df_mk KX G ?a ?l ?c ?k; case a|l|c|k => k_is
    have D__law_shape : Df (KOf KX) mg "_law_shape" s__law_shape := by dsimp only [KOf]; refine' df_mk KX G ?a ?l ?c ?k; case a|l|c|k => k_is
    have D__law_best : Df (KOf KX) mg "_law_best" s__law_best := by dsimp only [KOf]; refine' df_mk KX G ?a ?l ?c ?k; case a|l|c|k => k_is
    have D__law_bought : Df (KOf KX) mg "_law_bought" s__law_bought := by dsimp only [KOf]; refine' df_mk KX G ?a ?l ?c ?k; case a|l|c|k => k_is
    have D__law_price : Df (KOf KX) mg "_law_price" s__law_price := by dsimp only [KOf]; refine' df_mk KX G ?a ?l ?c ?k; case a|l|c|k => k_is
    have D__law_day : Df (KOf KX) mg "_law_day" s__law_day := by dsimp only [KOf]; refine' df_mk KX G ?a ?l ?c ?k; case a|l|c|k => k_is
    have D__law_book : Df (KOf KX) mg "_law_book" s__law_book := by dsimp only [KOf]; refine' df_mk KX G ?a ?l ?c ?k; case a|l|c|k => k_is
    have D__law_do : Df (KOf KX) mg "_law_do" s__law_do := by dsimp only [KOf]; refine' df_mk KX G ?a ?l ?c ?k; case a|l|c|k => k_is
    have D__law_refused : Df (KOf KX) mg "_law_refused" s__law_refused := by dsimp only [KOf]; refine' df_mk KX G ?a ?l ?c ?k; case a|l|c|k => k_is
    have D__law_bad_name : Df (KOf KX) mg "_law_bad_name" s__law_bad_name := by dsimp only [KOf]; refine' df_mk KX G ?a ?l ?c ?k; case a|l|c|k => k_is
    have D__law_bad_day : Df (KOf KX) mg "_law_bad_day" s__law_bad_day := by dsimp only [KOf]; refine' df_mk KX G ?a ?l ?c ?k; case a|l|c|k => k_is
    have D__law_none : Df (KOf KX) mg "_law_none" s__law_none := by dsimp only [KOf]; refine' df_mk KX G ?a ?l ?c ?k; case a|l|c|k => k_is
    have D__law_puts : Df (KOf KX) mg "_law_puts" s__law_puts := by dsimp only [KOf]; refine' df_mk KX G ?a ?l ?c ?k; case a|l|c|k => k_is
    have D__law_names : Df (KOf KX) mg "_law_names" s__law_names := by dsimp only [KOf]; refine' df_mk KX G ?a ?l ?c ?k; case a|l|c|k => k_is
    have D_law : Df (KOf KX) mg "law" s_law := by dsimp only [KOf]; refine' df_mk KX G ?a ?l ?c ?k; case a|l|c|k => k_is
    have M : Md (KOf KX) mg := by
      dsimp only [KOf]
      apply md_mk KX G
      (case n_NoBook => k_is); (case n_NoDay => k_is); (case n_NoName => k_is); (case n_NoRow => k_is); (case n_NoTaste => k_is); (case n_NoText => k_is); (case n_TasteError => k_is); (case n_Twice => k_is); (case q_NoBook => k_exc); (case q_NoDay => k_exc); (case q_NoName => k_exc); (case q_NoRow => k_exc); (case q_NoTaste => k_exc); (case q_NoText => k_exc); (case q_TasteError => k_exc); (case q_Twice => k_exc); (case s_NoBook_NoBook => k_is); (case s_NoBook_TasteError => k_is); (case s_NoDay_NoDay => k_is); (case s_NoDay_TasteError => k_is); (case s_NoName_NoName => k_is); (case s_NoName_TasteError => k_is); (case s_NoRow_NoRow => k_is); (case s_NoRow_TasteError => k_is); (case s_NoTaste_NoTaste => k_is); (case s_NoTaste_TasteError => k_is); (case s_NoText_NoText => k_is); (case s_NoText_TasteError => k_is); (case s_TasteError_TasteError => k_is); (case s_Twice_Twice => k_is); (case s_Twice_TasteError => k_is); (case v_NoBook => kit_is); (case v_NoDay => kit_is); (case v_NoName => kit_is); (case v_NoRow => kit_is); (case v_NoTaste => kit_is); (case v_NoText => kit_is); (case v_TasteError => kit_is); (case v_Twice => kit_is); (case ga_NoBook => k_is); (case gn_NoBook => k_is); (case be_NoBook => k_is); (case at_NoBook => k_is); (case gt_NoBook => k_is); (case tk_NoBook => k_is); (case ob_NoBook => k_is); (case cl_NoBook => k_is); (case j_NoBook_0 => kit_is); (case ky_NoBook_NoBook => kit_is); (case ky_NoBook_Twice => kit_is); (case ky_NoBook_NoName => kit_is); (case ga_NoName => k_is); (case gn_NoName => k_is); (case be_NoName => k_is); (case at_NoName => k_is); (case gt_NoName => k_is); (case tk_NoName => k_is); (case ob_NoName => k_is); (case cl_NoName => k_is); (case j_NoName_0 => kit_is); (case ky_NoName_NoBook => kit_is); (case ky_NoName_Twice => kit_is); (case ky_NoName_NoName => kit_is); (case ga_Twice => k_is); (case gn_Twice => k_is); (case be_Twice => k_is); (case at_Twice => k_is); (case gt_Twice => k_is); (case tk_Twice => k_is); (case ob_Twice => k_is); (case cl_Twice => k_is); (case j_Twice_0 => kit_is); (case ky_Twice_NoBook => kit_is); (case ky_Twice_Twice => kit_is); (case ky_Twice_NoName => kit_is); (case nm_Twice_NoName => k_is); (case nm_NoBook_NoName => k_is); (case nm_NoBook_Twice => k_is); (case z_ValueError => k_is); (case z_all => k_is); (case z_any => k_is); (case z_bool => k_is); (case z_int => k_is); (case z_isinstance => k_is); (case z_len => k_is); (case z_list => k_is); (case z_min => k_is); (case z_range => k_is); (case z_sum => k_is); (case z_tuple => k_is); (case z_zip => k_is); (case y_HIGHEST_AMOUNT => k_is); (case y_HIGHEST_PRICE => k_is); (case y_LETTERS => k_is); (case y_LONGEST_NAME => k_is); (case y_MOST_DAYS => k_is); (case y_MOST_WARES => k_is); (case o_Ledger => exact W_o_Ledger); (case na_Ledger_kept => exact W_na_Ledger_kept); (case nc_taste_of => exact W_nc_taste_of); (case nc_cut_cuts => exact W_nc_cut_cuts); (case nc_fewest_leaving => exact W_nc_fewest_leaving); (case nc_two_hands_leaving => exact W_nc_two_hands_leaving)
    obtain ⟨f, fd, F, hm⟩ := D_law
    refine ⟨f, fd, hm, F.bind1 bd_law, fun base kb nb => ?_⟩
    · have G_is_int := fn_is_int (P := PW9) (w := w) (base := base) M D_is_int 
      have G_is_tuple := fn_is_tuple (P := PW9) (w := w) (base := base) M D_is_tuple 
      have G_is_price := fn_is_price (P := PW9) (w := w) (base := base) M D_is_price G_is_int
      have G_is_amount := fn_is_amount (P := PW9) (w := w) (base := base) M D_is_amount G_is_int
      have G_are_prices := fn_are_prices (P := PW9) (w := w) (base := base) M D_are_prices G_is_tuple G_is_price
      have G_are_amounts := fn_are_amounts (P := PW9) (w := w) (base := base) M D_are_amounts G_is_tuple G_is_amount
      have G_is_day := fn_is_day (P := PW9) (w := w) (base := base) M D_is_day G_is_tuple G_are_prices G_are_amounts
      have G_is_book := fn_is_book (P := PW9) (w := w) (base := base) M D_is_book G_is_tuple G_is_day
      have G_check := fn_check (P := PW9) (w := w) (base := base) M D_check G_is_book
      have G_is_name := fn_is_name (P := PW9) (w := w) (base := base) M D_is_name 
      have G_check_name := fn_check_name (P := PW9) (w := w) (base := base) M D_check_name G_is_name
      have G_Ledger_init := fn_Ledger_init (P := PW9) (w := w) (base := base) M D_Ledger_init 
      have G_Ledger_put := fn_Ledger_put (P := PW9) (w := w) (base := base) M D_Ledger_put G_check G_check_name
      have G_Ledger_check_standing := fn_Ledger_check_standing (P := PW9) (w := w) (base := base) M D_Ledger_check_standing 
      have G_Ledger_take := fn_Ledger_take (P := PW9) (w := w) (base := base) M D_Ledger_take G_Ledger_check_standing
      have G_Ledger_names := fn_Ledger_names (P := PW9) (w := w) (base := base) M D_Ledger_names 
      have G_Ledger_book := fn_Ledger_book (P := PW9) (w := w) (base := base) M D_Ledger_book 
      have G_Ledger_number_of := fn_Ledger_number_of (P := PW9) (w := w) (base := base) M D_Ledger_number_of G_Ledger_check_standing G_Ledger_names
      have G_Ledger_names_of := fn_Ledger_names_of (P := PW9) (w := w) (base := base) M D_Ledger_names_of 
      have G_Ledger_at_once := fn_Ledger_at_once (P := PW9) (w := w) (base := base) M D_Ledger_at_once G_Ledger_number_of
      have G_Ledger_reached := fn_Ledger_reached (P := PW9) (w := w) (base := base) M D_Ledger_reached G_Ledger_number_of
      have G_Ledger_taste := fn_Ledger_taste (P := PW9) (w := w) (base := base) M D_Ledger_taste G_Ledger_book
      have G_Ledger_cut := fn_Ledger_cut (P := PW9) (w := w) (base := base) M D_Ledger_cut G_Ledger_book
      have G_Ledger_fewest := fn_Ledger_fewest (P := PW9) (w := w) (base := base) M D_Ledger_fewest G_Ledger_book G_Ledger_names_of
      have G_Ledger_two_hands := fn_Ledger_two_hands (P := PW9) (w := w) (base := base) M D_Ledger_two_hands G_Ledger_book
      have G__law_cell := fn__law_cell (P := PW9) (w := w) (base := base) M D__law_cell 
      have G__law_next := fn__law_next (P := PW9) (w := w) (base := base) M D__law_next 
      have G__law_shape := fn__law_shape (P := PW9) (w := w) (base := base) M D__law_shape G__law_next
      have G__law_best := fn__law_best (P := PW9) (w := w) (base := base) M D__law_best 
      have G__law_bought := fn__law_bought (P := PW9) (w := w) (base := base) M D__law_bought G__law_best
      have G__law_price := fn__law_price (P := PW9) (w := w) (base := base) M D__law_price 
      have G__law_day := fn__law_day (P := PW9) (w := w) (base := base) M D__law_day G__law_next G__law_bought G__law_price
      have G__law_book := fn__law_book (P := PW9) (w := w) (base := base) M D__law_book G__law_cell G__law_shape G__law_day
      have G__law_do := fn__law_do (P := PW9) (w := w) (base := base) M D__law_do G_Ledger_put G_Ledger_take G_Ledger_book G_Ledger_at_once G_Ledger_reached G_Ledger_taste G_Ledger_cut G_Ledger_fewest G_Ledger_two_hands
      have G__law_refused := fn__law_refused (P := PW9) (w := w) (base := base) M D__law_refused G__law_do
      have G__law_bad_name := fn__law_bad_name (P := PW9) (w := w) (base := base) M D__law_bad_name 
      have G__law_bad_day := fn__law_bad_day (P := PW9) (w := w) (base := base) M D__law_bad_day 
      have G__law_none := fn__law_none (P := PW9) (w := w) (base := base) M D__law_none G_Ledger_names G__law_refused
      have G__law_puts := fn__law_puts (P := PW9) (w := w) (base := base) M D__law_puts G__law_refused G__law_bad_name G__law_bad_day
      have G__law_names := fn__law_names (P := PW9) (w := w) (base := base) M D__law_names G__law_refused G__law_bad_name
      exact fok_law M F G_Ledger_init G_Ledger_put G_Ledger_take G_Ledger_names G_Ledger_book G__law_cell G__law_book G__law_refused G__law_none G__law_puts G__law_names
