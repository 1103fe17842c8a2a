import PyProof.Rows.All
import Wide.All
import OpenK.AllK
import Wide.FinOn
import Lean
import PyProof.EqAt
import PyProof.EqKinds
import PyProof.TupleCall
import KE.KRevIter
import PyProof.EnumMake
import KE.KDictSum
import PyProof.Rows.SortWalk
import PyProof.Rows.SeqMore
import PyProof.Draws
import PyProof.StrBlockH
import PyProof.StrLawsTight
import PyProof.FitsReplace
import PyProof.StrReplace2
import KE.KIntText
import PyProof.Rows.FStr
import PyProof.StrBlock2
import PySem.Challenge.RW_tastesbook_k84_no_day_text
set_option Elab.async false
set_option linter.all false
set_option maxRecDepth 100000
namespace L2
open PySem PySem.Spec PyProof.Rows
abbrev Key := Sum Int Str
def keyIs : Key → Value → Bool
  | .inl k, v => Value.isInt k v
  | .inr x, v => Value.isStrOf x v
def keyH (w : World) : Key → Int
  | .inl k => hashInt k
  | .inr x => hashStr w x
theorem keyIs_shape : ∀ {k : Key} {v : Value}, keyIs k v = true → (∃ i t, k = Sum.inl i ∧ v = Value.int i t) ∨ (∃ x t, k = Sum.inr x ∧ v = Value.str x t)
  | .inl i, v, h => by
    obtain ⟨t, e⟩ := Value.isInt_shape (k := i) (v := v) h
    exact .inl ⟨i, t, rfl, e⟩
  | .inr x, v, h => by
    obtain ⟨t, e⟩ := Value.isStrOf_shape (x := x) (v := v) h
    exact .inr ⟨x, t, rfl, e⟩
theorem key_ll (a b : Int) : decide ((Sum.inl a : Key) = Sum.inl b) = (a == b) := by
  by_cases e : a = b
  · subst e; simp
  · have h : ¬ (Sum.inl a : Key) = Sum.inl b := fun q => e (Sum.inl.inj q)
    rw [decide_eq_false h]
    exact (beq_eq_false_iff_ne.mpr e).symm
theorem key_rr (a b : Str) : decide ((Sum.inr a : Key) = Sum.inr b) = decide (a = b) := by
  by_cases e : a = b
  · subst e; simp
  · have h : ¬ (Sum.inr a : Key) = Sum.inr b := fun q => e (Sum.inr.inj q)
    rw [decide_eq_false h, decide_eq_false e]
theorem key_lr (a : Int) (b : Str) : decide ((Sum.inl a : Key) = Sum.inr b) = false := decide_eq_false (fun q => nomatch q)
theorem key_rl (a : Str) (b : Int) : decide ((Sum.inr a : Key) = Sum.inl b) = false := decide_eq_false (fun q => nomatch q)
def mixKind (prog : Program) (w : World) : PySem.KeyKind prog w Key where
  is := keyIs
  hash := keyH w
  inj := fun v a b ha hb => by
    rcases keyIs_shape ha with ⟨i, t, rfl, rfl⟩ | ⟨x, t, rfl, rfl⟩
    · rcases keyIs_shape hb with ⟨j, u, rfl, e⟩ | ⟨y, u, rfl, e⟩
      · injection e with e1 _; rw [e1]
      · exact nomatch e
    · rcases keyIs_shape hb with ⟨j, u, rfl, e⟩ | ⟨y, u, rfl, e⟩
      · exact nomatch e
      · injection e with e1 _; rw [e1]
  byValue := fun k v h => by
    rcases keyIs_shape h with ⟨i, t, rfl, rfl⟩ | ⟨x, t, rfl, rfl⟩ <;> rfl
  pyHash := fun hv h => by
    rcases keyIs_shape hv with ⟨i, t, rfl, rfl⟩ | ⟨x, t, rfl, rfl⟩
    · exact wpAny_pyHash_int h
    · exact wpAny_pyHash_str h
  eqBool := fun hu hv h => by
    rcases keyIs_shape hu with ⟨i, t, rfl, rfl⟩ | ⟨x, t, rfl, rfl⟩
    · rcases keyIs_shape hv with ⟨j, u, rfl, rfl⟩ | ⟨y, u, rfl, rfl⟩
      · rw [key_ll] at h; exact wpAny_eqBool_int h
      · rw [key_lr] at h; exact SeqAt.EqAt.int_str i t y u _ _ _ _ h
    · rcases keyIs_shape hv with ⟨j, u, rfl, rfl⟩ | ⟨y, u, rfl, rfl⟩
      · rw [key_rl] at h; exact SeqAt.EqAt.str_int x t j u _ _ _ _ h
      · rw [key_rr] at h; exact wpAny_eqBool_str h
  «strs» := fun k x t v h => by
    rcases keyIs_shape h with ⟨i, u, rfl, e⟩ | ⟨y, u, rfl, e⟩
    · exact nomatch e
    · injection e with e1 _
      subst e1
      cases v <;> rfl
end L2
namespace L2
open PySem PySem.Spec PyProof.Rows
inductive V where
  | non | bl (b : Bool) | int (i : Int) | str (x : Str) | byt (b : Array UInt8) | flt (b : UInt64) | ref (a : Addr) | ty (n : String)
  deriving DecidableEq
def RelV : V → Value → Prop
  | .non, u => u = Value.none
  | .bl b, u => u = Value.bool b
  | .int i, u => ∃ t, u = Value.int i t
  | .str x, u => ∃ t, u = Value.str x t
  | .byt b, u => ∃ t, u = Value.bytes b t
  | .flt b, u => ∃ t, u = Value.float b t
  | .ref a, u => u = Value.ref a
  | .ty n, u => u = Value.type n
abbrev Vals : List V → List Value → Prop := Paired RelV
theorem Vals.length {xs : List V} {us : List Value} (r : Vals xs us) : xs.length = us.length := Paired.length r
theorem Vals.get : ∀ {xs : List V} {us : List Value} {i : Nat} {x : V}, Vals xs us → xs[i]? = some x → ∃ u, us[i]? = some u ∧ RelV x u
  | _, _, _, _, .nil, e => by simp at e
  | _, _, 0, _, .cons r _, e => by simp at e; subst e; exact ⟨_, rfl, r⟩
  | _, _, i + 1, x, .cons _ t, e => by
    obtain ⟨u, h1, h2⟩ := Vals.get (i := i) (x := x) t (by simpa using e)
    exact ⟨u, by simpa using h1, h2⟩
theorem Vals.append : ∀ {xs ys : List V} {us ws : List Value}, Vals xs us → Vals ys ws → Vals (xs ++ ys) (us ++ ws)
  | _, _, _, _, .nil, s => s
  | _, _, _, _, .cons r t, s => .cons r (Vals.append t s)
theorem Vals.take : ∀ {xs : List V} {us : List Value} (n : Nat), Vals xs us → Vals (xs.take n) (us.take n)
  | _, _, 0, _ => .nil
  | _, _, _ + 1, .nil => .nil
  | _, _, n + 1, .cons r t => .cons r (Vals.take n t)
theorem Vals.drop : ∀ {xs : List V} {us : List Value} (n : Nat), Vals xs us → Vals (xs.drop n) (us.drop n)
  | _, _, 0, r => r
  | _, _, _ + 1, .nil => .nil
  | _, _, n + 1, .cons _ t => Vals.drop n t
def RelO : Option V → Option Value → Prop
  | some v, some u => RelV v u
  | none, none => True
  | _, _ => False
def KV {κ : Type} : List (κ × V) → List (κ × Value) → Prop := Paired fun (p : κ × V) (q : κ × Value) => p.1 = q.1 ∧ RelV p.2 q.2
def kV : Key → V
  | .inl i => .int i
  | .inr x => .str x
inductive HO where
    | lst (xs : List V)
    | tup (xs : List V)
    | dK (kvs : List (Key × V)) | dT (kvs : List (List Key × V))
    | set (S : Int → Bool) (n : Nat)
    | ins (C dx : Addr) (fs : List (Str × V))
    | own (x : Addr)
    | xd (fs : List (Str × V))
    | met (f x : Addr)
    | rng (lo hi : Int)
    | frz (o : Obj) (u : HO)
    | tbl (ps : Array Value)
    | ext (φ : Heap → Prop)
abbrev Hp := Addr → Option HO
def upd (H : Hp) (a : Addr) (o : HO) : Hp := fun b => if b = a then some o else H b
theorem upd_same {H : Hp} {a : Addr} {o : HO} : upd H a o a = some o := by unfold upd; rw [if_pos rfl]
theorem upd_ne {H : Hp} {a b : Addr} {o : HO} (h : b ≠ a) : upd H a o b = H b := by unfold upd; rw [if_neg h]
theorem ne_of_none {H : Hp} {a b : Addr} {o : HO} (h : H a = some o) (h' : H b = none) : a ≠ b := by
  intro e; subst e; rw [h] at h'; cases h'
section
variable (P : Program) (w : World)
def ObjOk (H : Hp) (h : Heap) (a : Addr) : HO → Prop
  | .lst xs => xs.length ≤ sizeLine ∧ ∃ (its : List Value) (n : Nat), Vals xs its ∧ h.get? a = some { cls := .type "list", data := .seq its.toArray n }
  | .tup xs => xs.length ≤ sizeLine ∧ ∃ its : List Value, Vals xs its ∧ IsTup h a its.toArray
  | .dK kvs => kvs.length ≤ sizeLine ∧ (a == sysModules) = false ∧ ∃ vs, KV kvs vs ∧ h.DictOf (mixKind P w) a vs
  | .dT kvs => kvs.length ≤ sizeLine ∧ (a == sysModules) = false ∧ ∃ xs : List (List Key × Addr × Value),
      Paired (fun (p : List Key × V) (q : List Key × Addr × Value) => p.1 = q.1 ∧ H q.2.1 = some (.tup (p.1.map kV)) ∧ RelV p.2 q.2.2) kvs xs ∧
      ∃ o es ep, h.get? a = some o ∧ o.ExactDict ∧ o.data = .dict es ep ∧ es.toList = xs.map (entryOfKey (tupleKind (mixKind P w))) ∧ (xs.map (·.1)).Nodup
  | .set S n => h.SetOf (intKind P w) a S n
  | .ins C dx fs => H dx = some (.own a) ∧ fs.length ≤ 1000 ∧ dx ≠ a ∧ h.get? a = some (PySem.W.instObj C dx) ∧
      ∃ mA, h.Ns1 dx mA ∧ (∀ f, RelO (fs.lookup f) (mA f)) ∧ PySem.Within mA (fs.map (·.1))
  | .own _ => ∃ o, h.get? a = some o
  | .xd fs => ∃ mA, h.Ns1 a mA ∧ ∀ f, RelO (fs.lookup f) (mA f)
  | .rng lo hi => ∃ t u v, h.get? a = some { cls := .type "range", data := .fields #[.int lo t, .int hi u, .int 1 v] }
  | .frz o u => h.get? a = some o ∧ ObjOk H h a u
  | .tbl ps => h.get? a = some { cls := .none, data := .fields ps }
  | .met f x => h.get? a = some (PySem.W.methodObj (.ref f) (.ref x))
  | .ext φ => φ h ∧ (∃ o, h.get? a = some o) ∧ ∀ h1 h2 : Heap, φ h1 → (∀ o, h1.get? a = some o → h2.get? a = some o) → φ h2
def HOk (H : Hp) (h : Heap) : Prop := ∀ a o, H a = some o → ObjOk P w H h a o
end
section
variable {P : Program} {w : World} {H H' : Hp} {h h' : Heap} {a : Addr} {o : HO}
theorem ObjOk.lt (x : ObjOk P w H h a o) : a < h.objs.size := by
  cases o with
  | lst xs => obtain ⟨_, _, _, _, e⟩ := x; exact Heap.lt_size e
  | tup xs => obtain ⟨_, _, _, p⟩ := x; exact p.lt
  | dK kvs => obtain ⟨_, _, _, _, o, _, _, e, _⟩ := x; exact Heap.lt_size e
  | dT kvs => obtain ⟨_, _, _, _, o, _, _, e, _⟩ := x; exact Heap.lt_size e
  | set S n => obtain ⟨o, _, _, _, e, _⟩ := x; exact Heap.lt_size e
  | ins C dx fs => obtain ⟨_, _, _, e, _⟩ := x; exact Heap.lt_size e
  | own y => obtain ⟨_, e⟩ := x; exact Heap.lt_size e
  | xd fs => obtain ⟨_, ⟨_, _, _, e, _⟩, _⟩ := x; exact Heap.lt_size e
  | rng lo hi => obtain ⟨_, _, _, e⟩ := x; exact Heap.lt_size e
  | frz ob u => obtain ⟨e, _⟩ := x; exact Heap.lt_size e
  | tbl ps => exact Heap.lt_size (show h.get? a = some _ from x)
  | met f y => exact Heap.lt_size (show h.get? a = some _ from x)
  | ext φ => obtain ⟨_, ⟨_, e⟩, _⟩ := x; exact Heap.lt_size e
theorem Paired.mapP {α β : Type} {F G : α → β → Prop} : ∀ {l₁ : List α} {l₂ : List β}, Paired F l₁ l₂ → (∀ a b, F a b → G a b) → Paired G l₁ l₂
  | _, _, .nil, _ => .nil
  | _, _, .cons r t, f => .cons (f _ _ r) (Paired.mapP t f)
theorem ObjOk.stay (x : ObjOk P w H h a o) (k : ∀ b u, (b = a ∨ H b = some (.own a)) → h.get? b = some u → h'.get? b = some u)
    (ho : ∀ b, H b = some (.own a) → H' b = some (.own a)) (ht : ∀ b xs, H b = some (.tup xs) → H' b = some (.tup xs)) : ObjOk P w H' h' a o := by
  induction o with
  | lst xs => obtain ⟨z, its, n, r, e⟩ := x; exact ⟨z, its, n, r, k _ _ (.inl rfl) e⟩
  | tup xs => obtain ⟨z, its, r, ob, e, c⟩ := x; exact ⟨z, its, r, ob, k _ _ (.inl rfl) e, c⟩
  | dK kvs => obtain ⟨z, y, vs, r, ob, es, ep, e, c⟩ := x; exact ⟨z, y, vs, r, ob, es, ep, k _ _ (.inl rfl) e, c⟩
  | dT kvs =>
    obtain ⟨z, y, xs, r, ob, es, ep, e, c⟩ := x
    exact ⟨z, y, xs, Paired.mapP r fun p q z => ⟨z.1, ht _ _ z.2.1, z.2.2⟩, ob, es, ep, k _ _ (.inl rfl) e, c⟩
  | set S n => obtain ⟨ob, es, ep, t, e, c⟩ := x; exact ⟨ob, es, ep, t, k _ _ (.inl rfl) e, c⟩
  | ins C dx fs =>
    obtain ⟨d, z, ne, e, mA, ⟨od, es, ep, e2, c⟩, r⟩ := x
    exact ⟨ho _ d, z, ne, k _ _ (.inl rfl) e, mA, ⟨od, es, ep, k _ _ (.inr d) e2, c⟩, r⟩
  | own y => obtain ⟨ob, e⟩ := x; exact ⟨ob, k _ _ (.inl rfl) e⟩
  | xd fs => obtain ⟨mA, ⟨od, es, ep, e, c⟩, r⟩ := x; exact ⟨mA, ⟨od, es, ep, k _ _ (.inl rfl) e, c⟩, r⟩
  | rng lo hi => obtain ⟨t, u, v, e⟩ := x; exact ⟨t, u, v, k _ _ (.inl rfl) e⟩
  | frz ob u ih => obtain ⟨e, q⟩ := x; exact ⟨k _ _ (.inl rfl) e, ih q⟩
  | tbl ps =>
    have e : h.get? a = some { cls := .none, data := .fields ps } := x
    show h'.get? a = some { cls := .none, data := .fields ps }
    exact k a _ (.inl rfl) e
  | met f y =>
    have e : h.get? a = some (PySem.W.methodObj (.ref f) (.ref y)) := x
    show h'.get? a = some (PySem.W.methodObj (.ref f) (.ref y))
    exact k a _ (.inl rfl) e
  | ext φ => obtain ⟨p, ⟨o, e⟩, st⟩ := x; exact ⟨st _ _ p fun o q => k _ _ (.inl rfl) q, ⟨o, k _ _ (.inl rfl) e⟩, st⟩
theorem HOk.lt (x : HOk P w H h) (e : H a = some o) : a < h.objs.size := (x a o e).lt
theorem HOk.fresh (x : HOk P w H h) (e : h.objs.size ≤ a) : H a = none := by
  cases q : H a with
  | none => rfl
  | some u => exact absurd (Nat.lt_of_lt_of_le (x.lt q) e) (Nat.lt_irrefl _)
theorem HOk.kept (x : HOk P w H h) (k : ∀ b u, h.get? b = some u → h'.get? b = some u) : HOk P w H h' := fun a o e =>
  (x a o e).stay (fun b u _ q => k b u q) (fun _ q => q) fun _ _ q => q
theorem HOk.laid (x : HOk P w H h) (k : ∀ b u, h.get? b = some u → h'.get? b = some u) (hp : h.objs.size ≤ a) (new : ObjOk P w (upd H a o) h' a o) : HOk P w (upd H a o) h' := fun b u e => by
  have hn := x.fresh hp
  by_cases hb : b = a
  · subst hb; rw [upd_same] at e; cases e; exact new
  · rw [upd_ne hb] at e
    exact (x b u e).stay (fun c v _ q => k c v q) (fun c q => by rw [upd_ne (ne_of_none q hn)]; exact q) fun c xs q => by rw [upd_ne (ne_of_none q hn)]; exact q
end
def Rd (H : Hp) (a : Addr) (u : HO) : Prop := H a = some u ∨ ∃ o, H a = some (.frz o u)
theorem Rd.ok {P : Program} {w : World} {H : Hp} {h : Heap} {a : Addr} {u : HO} (r : Rd H a u) (x : HOk P w H h) : ObjOk P w H h a u := by
  rcases r with r | ⟨o, r⟩
  · exact x a u r
  · obtain ⟨_, q⟩ := x a _ r
    exact q
def Mut : Option HO → Prop
  | some (.lst _) => True
  | some (.dK _) => True
  | some (.dT _) => True
  | some (.set _ _) => True
  | some (.ins _ _ _) => True
  | some (.ext _) => True
  | _ => False
section
variable {P : Program} {w : World} {H : Hp} {h h' : Heap} {x e : Addr} {o' : HO}
theorem HOk.write (ok : HOk P w H h) (mu : Mut (H x)) (he : e = x ∨ H e = some (.own x)) (k : ∀ b u, b ≠ e → h.get? b = some u → h'.get? b = some u) (heo : ∃ u, h'.get? e = some u)
    (new : ObjOk P w (upd H x o') h' x o') : HOk P w (upd H x o') h' := fun b u q => by
  have nown : ∀ c y, H c = some (.own y) → c ≠ x := fun c y r z => by subst z; rw [r] at mu; exact mu
  have ntup : ∀ c xs, H c = some (.tup xs) → c ≠ x := fun c xs r z => by subst z; rw [r] at mu; exact mu
  by_cases hb : b = x
  · subst hb; rw [upd_same] at q; cases q; exact new
  · rw [upd_ne hb] at q
    by_cases hbe : b = e
    · have q' : H b = some (.own x) := by
        rcases he with z | z
        · exact absurd (hbe.trans z) hb
        · rw [hbe]; exact z
      rw [q] at q'; cases q'
      obtain ⟨v, hv⟩ := heo
      exact ⟨v, by rw [hbe]; exact hv⟩
    · refine (ok b u q).stay (fun c v hc r => k c v ?_ r) (fun c r => by rw [upd_ne (nown c b r)]; exact r) fun c xs r => by rw [upd_ne (ntup c xs r)]; exact r
      rcases hc with rfl | hc
      · exact hbe
      · rintro rfl
        rcases he with z | z
        · exact nown c b hc z
        · rw [hc] at z; cases z; exact hb rfl
end
structure Un (fs ex : List Addr) (H H' : Hp) (h h' : Heap) : Prop where
  keep : ∀ b o, h.get? b = some o → H b = none → b ∉ fs → b ∉ ex → h'.get? b = some o
  slot : ∀ b o, h.get? b = some o → H b = none → b ∈ fs → b ∉ ex → ∃ sl, h'.get? b = some { o with slots := sl }
  free : ∀ b o, h.get? b = some o → H b = none → b ∉ ex → H' b = none
  there : ∀ b o, h.get? b = some o → b ∉ ex → ∃ o', h'.get? b = some o'
  tups : ∀ b xs, H b = some (.tup xs) → H' b = some (.tup xs)
  frzs : ∀ b o u, H b = some (.frz o u) → H' b = some (.frz o u)
  tbls : ∀ b ps, H b = some (.tbl ps) → ∃ more, H' b = some (.tbl (ps ++ more))
section
variable {fs fs' ex ex' : List Addr} {H H1 H2 : Hp} {h h1 h2 h' : Heap} {a x e : Addr} {o : HO}
theorem Un.any (u : Un fs ex H H1 h h1) {b : Addr} {ob : Obj} (q : h.get? b = some ob) (n : H b = none) (hx : b ∉ ex) : ∃ sl, h1.get? b = some { ob with slots := sl } := by
  by_cases hb : b ∈ fs
  · exact u.slot b ob q n hb hx
  · exact ⟨ob.slots, u.keep b ob q n hb hx⟩
theorem Un.kept (k : ∀ b u, h.get? b = some u → h'.get? b = some u) : Un fs ex H H h h' :=
  ⟨fun b ob q _ _ _ => k b ob q, fun b ob q _ _ _ => ⟨ob.slots, k b ob q⟩, fun _ _ _ n _ => n, fun b ob q _ => ⟨ob, k b ob q⟩, fun _ _ q => q, fun _ _ _ q => q, fun _ ps q => ⟨#[], by rw [q]; simp⟩⟩
theorem Un.refl : Un fs ex H H h h := Un.kept fun _ _ q => q
theorem Un.laid (k : ∀ b u, h.get? b = some u → h'.get? b = some u) (hp : h.objs.size ≤ a) (hn : H a = none) : Un fs ex H (upd H a o) h h' where
  keep := fun b u q _ _ _ => k b u q
  slot := fun b u q _ _ _ => ⟨u.slots, k b u q⟩
  free := fun b u q n _ => by rw [upd_ne (Nat.ne_of_lt (Nat.lt_of_lt_of_le (Heap.lt_size q) hp))]; exact n
  there := fun b u q _ => ⟨u, k b u q⟩
  tups := fun b xs q => by rw [upd_ne (ne_of_none q hn)]; exact q
  frzs := fun b u xs q => by rw [upd_ne (ne_of_none q hn)]; exact q
  tbls := fun b ps q => ⟨#[], by rw [upd_ne (ne_of_none q hn), q]; simp⟩
theorem Un.write (mu : Mut (H x)) (he : e = x ∨ H e = some (.own x)) (k : ∀ b u, b ≠ e → h.get? b = some u → h'.get? b = some u) (heo : ∃ u, h'.get? e = some u) : Un fs ex H (upd H x o) h h' := by
  have hx : ∀ b, H b = none → b ≠ x := fun b n z => by subst z; rw [n] at mu; exact mu
  have hb : ∀ b, H b = none → b ≠ e := fun b n z => by
    subst z
    rcases he with r | r
    · exact hx b n r
    · rw [n] at r; cases r
  have hm : ∀ b u, H b = some u → ¬ Mut (some u) → b ≠ x := fun b u q nm z => by subst z; rw [q] at mu; exact nm mu
  refine ⟨fun b u q n _ _ => k b u (hb b n) q, fun b u q n _ _ => ⟨u.slots, k b u (hb b n) q⟩, fun b u q n _ => by rw [upd_ne (hx b n)]; exact n, fun b u q _ => ?_,
    fun b xs q => by rw [upd_ne (hm b _ q fun z => z)]; exact q, fun b u xs q => by rw [upd_ne (hm b _ q fun z => z)]; exact q, fun b ps q => ⟨#[], by rw [upd_ne (hm b _ q fun z => z), q]; simp⟩⟩
  by_cases hbe : b = e
  · subst hbe; exact heo
  · exact ⟨u, k b u hbe q⟩
end
def trk (h : Heap) (H : Hp) : List Addr := (List.range h.objs.size).filter fun a => (H a).isSome
def hidT (h : Heap) (H : Hp) : Heap := PySem.W.hideAll h (trk h H)
theorem hidT_size (h : Heap) (H : Hp) : (hidT h H).objs.size = h.objs.size := PySem.W.hideAll_size _ _
theorem hidT_get {h : Heap} {H : Hp} {b : Addr} {o : Obj} (e : h.get? b = some o) (n : H b = none) : (hidT h H).get? b = some o :=
  PySem.W.hideAll_get _ e fun hm => by
    have q : (H b).isSome = true := (List.mem_filter.mp hm).2
    rw [n] at q; simp at q
theorem of_hidT {h : Heap} {H : Hp} {b : Addr} {o : Obj} (e : (hidT h H).get? b = some o) : h.get? b = some o ∧ H b = none := by
  have e' : h.get? b = some o := PySem.W.of_hideAll (trk h H) e
  refine ⟨e', ?_⟩
  cases q : H b with
  | none => rfl
  | some x =>
    have hm : b ∈ trk h H := List.mem_filter.mpr ⟨List.mem_range.mpr (Heap.lt_size e'), by simp [q]⟩
    have z : (hidT h H).get? b = none := PySem.W.hideAll_none (trk h H) hm
    rw [z] at e; cases e
def allNews (g h : Heap) (L : Addr) : List (Addr × Obj) := (List.range h.objs.size).filterMap fun a => if a = L ∨ (g.get? a).isSome = true then none else (h.get? a).map fun o => (a, o)
def rest (g h : Heap) (L d : Addr) : List (Addr × Obj) := (allNews g h L).filter fun p => decide (p.1 ≠ d)
end L2
namespace L2
open PySem PySem.Spec PyProof.Rows
structure Mod (K : PySem.W.Frag) (mg : Str → Option Value) (base : Heap) : Prop where
  kin : K.In base
  glob : base.Ns mainGlobals mg
  blt : ∃ mb, base.Ns builtinsNs mb ∧ ∀ x : Str, x ≠ "__name__" → mb x = bootBuiltins x
  nolimit : base.NoLimit
structure Cx where
  prog : Program
  w : World
  K : PySem.W.Frag
  mg : Str → Option Value
  base : Heap
  A : Around
  N : List Str
  s₀ : Shared
  H₀ : Hp
  env : Env
  outer : List Env
  stack : List Env
  ex : List Addr
  fn : Str → Bool
  calm : Bool
  pn : List (Addr × Obj)
  xe : Value → Shared → Prop
def frs (l : List Env) : List Addr := l.filterMap (·.frame)
abbrev Cx.fs (X : Cx) : List Addr := frs X.outer
def Vis (sc : Scope) (x : Str) : Prop := sc.names.lookup x = some .local ∨ sc.names.lookup x = some .cell ∨ sc.names.lookup x = some .free
def Loc (sc : Scope) (x : Str) : Prop := sc.names.lookup x = some .local ∨ sc.names.lookup x = some .cell
def Look (env : Env) (h : Heap) (m : Str → Option Value) (x : Str) (u : Value) : Prop :=
  (env.kindOf x = some .local ∧ m x = some u) ∨ ((env.kindOf x = some .cell ∨ env.kindOf x = some .free) ∧ ∃ c, env.cells.lookup x = some c ∧ h.IsCell c (some u))
structure Cx.Ok (X : Cx) : Prop where
  mod : Mod X.K X.mg X.base
  kind : X.env.scope.kind = .function
  glob : X.env.globals = mainGlobals
  blt : X.env.builtins = builtinsNs
  above : X.s₀.heap.objs.size ≤ X.env.locals
  inj : ∀ x y c, X.env.cells.lookup x = some c → X.env.cells.lookup y = some c → x = y
  has : ∀ x, (X.env.kindOf x = some .cell ∨ X.env.kindOf x = some .free) → ∃ c, X.env.cells.lookup x = some c
  cab : ∀ x c, X.fn x = true → X.env.cells.lookup x = some c → X.s₀.heap.objs.size ≤ c
  hd : X.calm = true → X.A.handled = none
  frames : X.A.frames = some X.stack
  stk : X.stack = X.outer ∨ (X.stack = X.env :: X.outer ∧ X.env.frame = some X.env.locals)
  exf : ∀ b ∈ X.ex, b ≠ X.env.locals ∧ ∀ x c, X.env.cells.lookup x = some c → c ≠ b
  bs : ∀ b o, X.base.get? b = some o → X.s₀.heap.get? b = some o ∧ X.H₀ b = none
  bsz : X.base.objs.size ≤ X.s₀.heap.objs.size
  noex : ∀ b o, X.base.get? b = some o → b ∉ X.ex
  exfs : ∀ b ∈ X.ex, b ∉ X.fs
  funs : X.s₀.heap.FunFrames X.base X.outer
  frf : ∀ b ∈ X.fs, X.H₀ b = none
structure Inv (X : Cx) (pins : List (Addr × Obj)) (σ : List (Option V)) (H : Hp) (s : Shared) : Prop where
  ok : X.Ok
  os : s.os = X.s₀.os
  bare : AllBare s.gens
  base : Un X.fs X.ex X.H₀ H X.s₀.heap s.heap
  loc : ∃ m, s.heap.Ns X.env.locals m ∧ ∀ (i : Nat) (x : Str) (v : V), X.N[i]? = some x → σ[i]? = some (some v) → Vis X.env.scope x → ∃ u, RelV v u ∧ Look X.env s.heap m x u
  cell : ∀ x c, X.env.cells.lookup x = some c → ∃ v, s.heap.IsCell c v
  free : H X.env.locals = none
  freeC : ∀ x c, X.env.cells.lookup x = some c → H c = none
  pin : ∀ p ∈ X.pn ++ pins, s.heap.get? p.1 = some p.2 ∧ H p.1 = none ∧ p.1 ≠ X.env.locals ∧ p.1 ∉ X.fs ∧ ∀ v, p.2.data ≠ .cell v
  hok : HOk X.prog X.w H s.heap
  len : σ.length = X.N.length
section
variable {X : Cx} {pins : List (Addr × Obj)} {σ : List (Option V)} {H H' : Hp} {s : Shared} {h' : Heap}
theorem Cx.Ok.nofr (ok : X.Ok) {b : Addr} {o : Obj} (e : X.base.get? b = some o) : b ∉ X.fs := fun hb => by
  have := (ok.funs.mem hb).1
  rw [e] at this; cases this
theorem Inv.bs (I : Inv X pins σ H s) : ∀ b o, X.base.get? b = some o → s.heap.get? b = some o ∧ H b = none := fun b o e =>
  ⟨I.base.keep b o (I.ok.bs b o e).1 (I.ok.bs b o e).2 (I.ok.nofr e) (I.ok.noex b o e), I.base.free b o (I.ok.bs b o e).1 (I.ok.bs b o e).2 (I.ok.noex b o e)⟩
theorem Inv.bk (I : Inv X pins σ H s) : ∀ b o, X.base.get? b = some o → s.heap.get? b = some o := fun b o e => (I.bs b o e).1
theorem Inv.mod (I : Inv X pins σ H s) : Mod X.K X.mg X.base := I.ok.mod
theorem Inv.kIn (I : Inv X pins σ H s) : X.K.In s.heap := I.ok.mod.kin.keeps I.bk
theorem Inv.lt (I : Inv X pins σ H s) : X.env.locals < s.heap.objs.size := let ⟨_, hn, _⟩ := I.loc; hn.lt
theorem Inv.sz (I : Inv X pins σ H s) : X.s₀.heap.objs.size ≤ s.heap.objs.size := Nat.le_trans I.ok.above (Nat.le_of_lt I.lt)
theorem Inv.nofs (I : Inv X pins σ H s) {a : Addr} (h : s.heap.objs.size ≤ a) : a ∉ X.fs := fun hb => by
  obtain ⟨_, o, ho, _⟩ := I.ok.funs.mem hb
  exact absurd (Nat.lt_of_lt_of_le (Heap.lt_size ho) (Nat.le_trans I.sz h)) (Nat.lt_irrefl _)
theorem Inv.cne (I : Inv X pins σ H s) : ∀ x c, X.env.cells.lookup x = some c → c ≠ X.env.locals := fun x c e z => by
  obtain ⟨v, o, ho, hd⟩ := I.cell x c e
  obtain ⟨m, ⟨o', es, ep, ho', hd', _⟩, _⟩ := I.loc
  rw [z, ho'] at ho; cases ho; rw [hd'] at hd; cases hd
theorem Inv.funs (I : Inv X pins σ H s) : s.heap.FunFrames X.base X.outer := by
  have all : ∀ (l : List Env), (∀ b ∈ frs l, b ∈ X.fs) → X.s₀.heap.FunFrames X.base l → s.heap.FunFrames X.base l := by
    intro l
    induction l with
    | nil => intro _ _; trivial
    | cons env r ih =>
      intro hs hl
      obtain ⟨hk, ⟨L, o, hf, hn, ho, hd⟩, hr⟩ := hl
      have hL : L ∈ X.fs := hs L (by unfold frs; rw [List.filterMap_cons, hf]; exact List.mem_cons_self)
      obtain ⟨sl, e⟩ := I.base.slot L o ho (I.ok.frf L hL) hL fun z => I.ok.exfs L z hL
      exact ⟨hk, ⟨L, _, hf, hn, e, hd⟩, ih (fun b hb => hs b (by unfold frs; rw [List.filterMap_cons, hf]; exact List.mem_cons_of_mem _ hb)) hr⟩
  exact all X.outer (fun _ hb => hb) I.ok.funs
theorem Inv.stack (I : Inv X pins σ H s) : s.heap.FunFrames X.base X.stack := by
  rcases I.ok.stk with e | ⟨e, hf⟩
  · rw [e]; exact I.funs
  · rw [e]
    obtain ⟨m, hn, _⟩ := I.loc
    refine .cons (by rw [I.ok.kind]; decide) hf hn ?_ I.funs
    exact Heap.get?_none_of_le (Nat.le_trans I.ok.bsz I.ok.above)
theorem Inv.stkSub (I : Inv X pins σ H s) : ∀ b ∈ frs X.stack, b ∈ X.env.locals :: X.fs := fun b hb => by
  rcases I.ok.stk with e | ⟨e, hf⟩
  · rw [e] at hb; exact List.mem_cons_of_mem _ hb
  · rw [e] at hb
    unfold frs at hb
    rw [List.filterMap_cons, hf] at hb
    exact hb
theorem Inv.stkFree (I : Inv X pins σ H s) : ∀ b ∈ frs X.stack, H b = none := fun b hb => by
  rcases List.mem_cons.mp (I.stkSub b hb) with e | hb
  · rw [e]; exact I.free
  · obtain ⟨_, o, ho, _⟩ := I.ok.funs.mem hb
    exact I.base.free b o ho (I.ok.frf b hb) fun z => I.ok.exfs b z hb
theorem Inv.step {g' : Array GenState} {t' : Nat} {d' : Drawn} {ch : List Addr} (I : Inv X pins σ H s)
    (hch : ∀ b ∈ ch, (b ∈ X.ex ∨ X.s₀.heap.objs.size ≤ b) ∧ b ≠ X.env.locals ∧ (∀ x c, X.env.cells.lookup x = some c → c ≠ b) ∧ ∀ p ∈ X.pn ++ pins, p.1 ≠ b)
    (keep : ∀ b o, b ≠ X.env.locals → b ∉ X.fs → b ∉ ch → s.heap.get? b = some o → H b = none → h'.get? b = some o)
    (slot : ∀ b o, b ≠ X.env.locals → b ∈ X.fs → b ∉ ch → s.heap.get? b = some o → H b = none → ∃ sl, h'.get? b = some { o with slots := sl }) (free : ∀ b o, b ∉ ch → s.heap.get? b = some o → H b = none → H' b = none)
    (there : ∀ b o, b ∉ ch → s.heap.get? b = some o → ∃ o', h'.get? b = some o')
    (tups : ∀ b xs, H b = some (.tup xs) → H' b = some (.tup xs)) (frzs : ∀ b o u, H b = some (.frz o u) → H' b = some (.frz o u)) (tbls : ∀ b ps, H b = some (.tbl ps) → ∃ more, H' b = some (.tbl (ps ++ more)))
    (ns : ∀ m, s.heap.Ns X.env.locals m → h'.Ns X.env.locals m) (hok : HOk X.prog X.w H' h') (hg : AllBare g') :
    Inv X pins σ H' { s with heap := h', gens := g', drawn := d', toks := t' } := by
  have neL : ∀ b o, X.s₀.heap.get? b = some o → b ≠ X.env.locals := fun b o e => Nat.ne_of_lt (Nat.lt_of_lt_of_le (Heap.lt_size e) I.ok.above)
  have neC : ∀ b o, X.s₀.heap.get? b = some o → b ∉ X.ex → b ∉ ch := fun b o e hx hb => by
    rcases (hch b hb).1 with z | z
    · exact hx z
    · exact absurd (Nat.lt_of_lt_of_le (Heap.lt_size e) z) (Nat.lt_irrefl _)
  have cellK : ∀ x c, X.env.cells.lookup x = some c → ∀ v, s.heap.IsCell c v → h'.IsCell c v := fun x c e v ⟨o, ho, hd⟩ => by
    have nch : c ∉ ch := fun z => (hch c z).2.2.1 x c e rfl
    by_cases hc : c ∈ X.fs
    · obtain ⟨sl, q⟩ := slot c o (I.cne x c e) hc nch ho (I.freeC x c e)
      exact ⟨_, q, hd⟩
    · exact ⟨o, keep c o (I.cne x c e) hc nch ho (I.freeC x c e), hd⟩
  refine ⟨I.ok, I.os, hg, ⟨fun b o e n hb hx => ?_, fun b o e n hb hx => ?_, fun b o e n hx => ?_, fun b o e hx => ?_, fun b xs e => tups b xs (I.base.tups b xs e), fun b o xs e => frzs b o xs (I.base.frzs b o xs e), fun b ps e => ?_⟩, ?_, fun x c e => ?_, ?_, fun x c e => ?_, fun p hp => ?_, hok, I.len⟩
  · exact keep b o (neL b o e) hb (neC b o e hx) (I.base.keep b o e n hb hx) (I.base.free b o e n hx)
  · obtain ⟨sl, e1⟩ := I.base.slot b o e n hb hx
    obtain ⟨sl', e2⟩ := slot b _ (neL b o e) hb (neC b o e hx) e1 (I.base.free b o e n hx)
    exact ⟨sl', e2⟩
  · obtain ⟨o', e1⟩ := I.base.there b o e hx
    exact free b o' (neC b o e hx) e1 (I.base.free b o e n hx)
  · obtain ⟨o', e1⟩ := I.base.there b o e hx
    exact there b o' (neC b o e hx) e1
  · obtain ⟨m1, e1⟩ := I.base.tbls b ps e
    obtain ⟨m2, e2⟩ := tbls b _ e1
    exact ⟨m1 ++ m2, by rw [e2, Array.append_assoc]⟩
  · obtain ⟨m, hn, hl⟩ := I.loc
    refine ⟨m, ns m hn, fun i x v e1 e2 e3 => ?_⟩
    obtain ⟨u, r, l⟩ := hl i x v e1 e2 e3
    refine ⟨u, r, ?_⟩
    rcases l with l | ⟨k, c, e, z⟩
    · exact .inl l
    · exact .inr ⟨k, c, e, cellK x c e _ z⟩
  · obtain ⟨v, z⟩ := I.cell x c e
    exact ⟨v, cellK x c e v z⟩
  · obtain ⟨m, ⟨o, _, _, ho, _⟩, _⟩ := I.loc
    exact free _ o (fun z => (hch _ z).2.1 rfl) ho I.free
  · obtain ⟨v, o, ho, hd⟩ := I.cell x c e
    exact free c o (fun z => (hch c z).2.2.1 x c e rfl) ho (I.freeC x c e)
  · obtain ⟨e, n, ne, nf, d⟩ := I.pin p hp
    have nch : p.1 ∉ ch := fun z => (hch p.1 z).2.2.2 p hp rfl
    exact ⟨keep p.1 p.2 ne nf nch e n, free p.1 p.2 nch e n, ne, nf, d⟩
theorem Inv.un {t' : Nat} (I : Inv X pins σ H s) (u : Un X.fs [] H H' s.heap h') (hok : HOk X.prog X.w H' h') : Inv X pins σ H' { s with heap := h', toks := t' } := by
  obtain ⟨m, ⟨o, es, ep, ho, r⟩, _⟩ := id I.loc
  obtain ⟨sl, hL⟩ := u.any ho I.free (by simp)
  exact I.step (g' := s.gens) (d' := s.drawn) (ch := []) (fun _ z => nomatch z) (fun b o _ hb _ e n => u.keep b o e n hb (by simp)) (fun b o _ hb _ e n => u.slot b o e n hb (by simp)) (fun b o _ e n => u.free b o e n (by simp)) (fun b o _ e => u.there b o e (by simp)) u.tups u.frzs u.tbls (fun m' hm => by
    obtain ⟨o', es', ep', ho', r'⟩ := hm
    rw [ho] at ho'; cases ho'
    exact ⟨_, es', ep', hL, r'⟩) hok I.bare
theorem Inv.call {g' : Array GenState} {t' : Nat} {d' : Drawn} {ch : List Addr} (I : Inv X pins σ H s) (u : Un (frs X.stack) ch H H' s.heap h') (hok : HOk X.prog X.w H' h') (hg : AllBare g')
    (hch : ∀ b ∈ ch, (b ∈ X.ex ∨ X.s₀.heap.objs.size ≤ b) ∧ b ≠ X.env.locals ∧ (∀ x c, X.env.cells.lookup x = some c → c ≠ b) ∧ ∀ p ∈ X.pn ++ pins, p.1 ≠ b) :
    Inv X pins σ H' { s with heap := h', gens := g', drawn := d', toks := t' } := by
  obtain ⟨m, ⟨o, es, ep, ho, r⟩, _⟩ := id I.loc
  obtain ⟨sl, hL⟩ := u.any ho I.free fun z => (hch _ z).2.1 rfl
  exact I.step (ch := ch) hch (fun b o hL hb hc e n => u.keep b o e n (fun z => (List.mem_cons.mp (I.stkSub b z)).elim hL hb) hc) (fun b o _ _ hc e n => u.any e n hc) (fun b o hc e n => u.free b o e n hc) (fun b o hc e => u.there b o e hc) u.tups u.frzs u.tbls (fun m' hm => by
    obtain ⟨o', es', ep', ho', r'⟩ := hm
    rw [ho] at ho'; cases ho'
    exact ⟨_, es', ep', hL, r'⟩) hok hg
theorem Inv.turned {t' : Nat} {it : Addr} (I : Inv X pins σ H s) (k : ∀ b o, b ≠ it → s.heap.get? b = some o → h'.get? b = some o) (hn : H it = none) (hL : it ≠ X.env.locals)
    (h1 : it ∈ X.ex ∨ X.s₀.heap.objs.size ≤ it) (h2 : ∀ x c, X.env.cells.lookup x = some c → c ≠ it) (h3 : ∀ p ∈ X.pn ++ pins, p.1 ≠ it) : Inv X pins σ H { s with heap := h', toks := t' } := by
  have nit : ∀ b u, H b = some u → b ≠ it := fun b u e z => by rw [z, hn] at e; cases e
  refine I.step (g' := s.gens) (d' := s.drawn) (ch := [it]) (fun b hb => ?_) (fun b o _ _ hc e _ => k b o (fun z => hc (by simp [z])) e) (fun b o _ _ hc e _ => ⟨o.slots, k b o (fun z => hc (by simp [z])) e⟩) (fun _ _ _ _ n => n)
    (fun b o hc e => ⟨o, k b o (fun z => hc (by simp [z])) e⟩) (fun _ _ e => e) (fun _ _ _ e => e) (fun b ps e => ⟨#[], by rw [e]; simp⟩) (fun m hm => ?_) (fun b u e => ?_) I.bare
  · have e : b = it := by simpa using hb
    subst e
    exact ⟨h1, hL, h2, h3⟩
  · obtain ⟨o, es, ep, ho, r⟩ := hm
    exact ⟨o, es, ep, k _ o (Ne.symm hL) ho, r⟩
  · refine (I.hok b u e).stay (fun c v hc q => k c v ?_ q) (fun _ q => q) fun _ _ q => q
    rcases hc with z | z
    · rw [z]; exact nit b u e
    · exact nit c _ z
theorem Inv.tok (I : Inv X pins σ H s) (t : Nat) : Inv X pins σ H { s with toks := t } := I.un (h' := s.heap) (t' := t) Un.refl I.hok
theorem Inv.kept {t' : Nat} (I : Inv X pins σ H s) (k : ∀ b u, s.heap.get? b = some u → h'.get? b = some u) : Inv X pins σ H { s with heap := h', toks := t' } := I.un (Un.kept k) (I.hok.kept k)
theorem Inv.laid {a : Addr} {o : HO} {t' : Nat} (I : Inv X pins σ H s) (k : ∀ b u, s.heap.get? b = some u → h'.get? b = some u) (hp : s.heap.objs.size ≤ a) (new : ObjOk X.prog X.w (upd H a o) h' a o) :
    Inv X pins σ (upd H a o) { s with heap := h', toks := t' } := I.un (Un.laid k hp (I.hok.fresh hp)) (I.hok.laid k hp new)
theorem Inv.write {x e : Addr} {o : HO} {t' : Nat} (I : Inv X pins σ H s) (mu : Mut (H x)) (he : e = x ∨ H e = some (.own x)) (k : ∀ b u, b ≠ e → s.heap.get? b = some u → h'.get? b = some u) (heo : ∃ u, h'.get? e = some u)
    (new : ObjOk X.prog X.w (upd H x o) h' x o) : Inv X pins σ (upd H x o) { s with heap := h', toks := t' } := I.un (Un.write mu he k heo) (I.hok.write mu he k heo new)
theorem Inv.pins_of {pins' : List (Addr × Obj)} (I : Inv X pins σ H s) (h : ∀ p ∈ pins', s.heap.get? p.1 = some p.2 ∧ H p.1 = none ∧ p.1 ≠ X.env.locals ∧ p.1 ∉ X.fs ∧ ∀ v, p.2.data ≠ .cell v) : Inv X pins' σ H s :=
  ⟨I.ok, I.os, I.bare, I.base, I.loc, I.cell, I.free, I.freeC, fun p hp => (List.mem_append.mp hp).elim (fun z => I.pin p (List.mem_append_left _ z)) (h p), I.hok, I.len⟩
theorem nodup_ix {N : List Str} (hN : N.Nodup) {i j : Nat} {x : Str} (a : N[i]? = some x) (b : N[j]? = some x) : i = j := by
  obtain ⟨h1, e1⟩ := List.getElem?_eq_some_iff.mp a
  obtain ⟨h2, e2⟩ := List.getElem?_eq_some_iff.mp b
  exact (List.getElem_inj hN).mp (e1.trans e2.symm)
theorem store_ok2 {M : Model} {A : Around} {E : Value → Shared → Prop} {i : Nat} {x : Str} {v : V} {u : Value} {Q : Unit → Shared → Prop} (I : Inv X pins σ H s) (hN : X.N.Nodup) (hi : X.N[i]? = some x) (hx : Loc X.env.scope x) (r : RelV v u)
    (h : ∀ s', Inv X pins (σ.set i (some v)) H s' → (∃ a, Heap.SameBut a s.heap s'.heap ∧ (a = X.env.locals ∨ X.env.cells.lookup x = some a)) → Q () s') (hf : X.fn x = true ∨ X.env.scope.names.lookup x = some .local := by first | exact .inl rfl | exact .inr rfl | assumption) : wpAny M A (storeName X.env x u) Q E s := by
  obtain ⟨m, hn, hl⟩ := id I.loc
  have hcls : (X.env.scope.kind == .class || (X.env.scope.kind == .module && X.env.locals != X.env.globals)) = false := by rw [I.ok.kind]; rfl
  have hiσ : i < σ.length := by rw [I.len]; exact (List.getElem?_eq_some_iff.mp hi).1
  have cne := I.cne
  have tracked : ∀ {a : Addr} {h' : Heap}, (∃ o, s.heap.get? a = some o ∧ H a = none) → Heap.SameBut a s.heap h' → HOk X.prog X.w H h' := fun {a h'} ha hs b ob e => by
    obtain ⟨_, _, hfree⟩ := ha
    refine (I.hok b ob e).stay (fun c w' hc q => (hs.2 c ?_).trans q) (fun _ q => q) fun _ _ q => q
    rintro rfl
    rcases hc with rfl | hc
    · rw [hfree] at e; cases e
    · rw [hfree] at hc; cases hc
  rcases hx with hk | hk
  · refine wpAny_storeName_local hk hn (fun h' hn' hs => ?_) hcls
    obtain ⟨oL, _, _, hoL, _⟩ := id hn
    refine h _ ⟨I.ok, I.os, I.bare, ⟨fun b o e n hb hx => ?_, fun b o e n hb hx => ?_, I.base.free, fun b o e hx => ?_, I.base.tups, I.base.frzs, I.base.tbls⟩, ⟨_, hn', fun j y v' e1 e2 e3 => ?_⟩, fun y c e => ?_, I.free, I.freeC, fun p hp => ?_, tracked ⟨oL, hoL, I.free⟩ hs, by simpa using I.len⟩ ⟨_, hs, .inl rfl⟩
    · exact (hs.2 b (Nat.ne_of_lt (Nat.lt_of_lt_of_le (Heap.lt_size e) I.ok.above))).trans (I.base.keep b o e n hb hx)
    · obtain ⟨sl, e1⟩ := I.base.slot b o e n hb hx
      exact ⟨sl, (hs.2 b (Nat.ne_of_lt (Nat.lt_of_lt_of_le (Heap.lt_size e) I.ok.above))).trans e1⟩
    · obtain ⟨o', e1⟩ := I.base.there b o e hx
      exact ⟨o', (hs.2 b (Nat.ne_of_lt (Nat.lt_of_lt_of_le (Heap.lt_size e) I.ok.above))).trans e1⟩
    · by_cases hj : j = i
      · subst hj
        rw [hi] at e1; cases e1
        rw [List.getElem?_set_self hiσ] at e2
        cases e2
        exact ⟨u, r, .inl ⟨hk, by simp⟩⟩
      · rw [List.getElem?_set_ne (Ne.symm hj)] at e2
        obtain ⟨u', r', q⟩ := hl j y v' e1 e2 e3
        refine ⟨u', r', ?_⟩
        rcases q with ⟨k, e⟩ | ⟨k, c, e, z⟩
        · refine .inl ⟨k, ?_⟩
          have : y ≠ x := fun e => hj (nodup_ix hN e1 (e ▸ hi))
          simp [this, e]
        · exact .inr ⟨k, c, e, z.sameBut hs (cne y c e)⟩
    · obtain ⟨w', z⟩ := I.cell y c e
      exact ⟨w', z.sameBut hs (cne y c e)⟩
    · obtain ⟨e, n, ne, nf, d⟩ := I.pin p hp
      exact ⟨(hs.2 p.1 ne).trans e, n, ne, nf, d⟩
  · have hfn : X.fn x = true := by
      rcases hf with z | z
      · exact z
      · rw [z] at hk; cases hk
    obtain ⟨c, hc⟩ := I.ok.has x (.inl hk)
    obtain ⟨w', z⟩ := I.cell x c hc
    refine wpAny_storeName_cell I.ok.kind hk hc z (fun h' hc' hs => ?_)
    obtain ⟨oc, hoc, hocd⟩ := id z
    refine h { s with heap := h' } ⟨I.ok, I.os, I.bare, ⟨fun b o e n hb hx => ?_, fun b o e n hb hx => ?_, I.base.free, fun b o e hx => ?_, I.base.tups, I.base.frzs, I.base.tbls⟩, ⟨m, hn.sameBut hs (Ne.symm (cne x c hc)), fun j y v' e1 e2 e3 => ?_⟩, fun y c' e => ?_, I.free, I.freeC, fun p hp => ?_, tracked ⟨oc, hoc, I.freeC x c hc⟩ hs, by simpa using I.len⟩ ⟨c, hs, .inr hc⟩
    · exact (hs.2 b (Nat.ne_of_lt (Nat.lt_of_lt_of_le (Heap.lt_size e) (I.ok.cab x c hfn hc)))).trans (I.base.keep b o e n hb hx)
    · obtain ⟨sl, e1⟩ := I.base.slot b o e n hb hx
      exact ⟨sl, (hs.2 b (Nat.ne_of_lt (Nat.lt_of_lt_of_le (Heap.lt_size e) (I.ok.cab x c hfn hc)))).trans e1⟩
    · obtain ⟨o', e1⟩ := I.base.there b o e hx
      exact ⟨o', (hs.2 b (Nat.ne_of_lt (Nat.lt_of_lt_of_le (Heap.lt_size e) (I.ok.cab x c hfn hc)))).trans e1⟩
    · by_cases hj : j = i
      · subst hj
        rw [hi] at e1; cases e1
        rw [List.getElem?_set_self hiσ] at e2
        cases e2
        exact ⟨u, r, .inr ⟨.inl hk, c, hc, hc'⟩⟩
      · rw [List.getElem?_set_ne (Ne.symm hj)] at e2
        obtain ⟨u', r', q⟩ := hl j y v' e1 e2 e3
        refine ⟨u', r', ?_⟩
        rcases q with q | ⟨k, c', e, z'⟩
        · exact .inl q
        · refine .inr ⟨k, c', e, z'.sameBut hs ?_⟩
          rintro rfl
          exact hj (nodup_ix hN e1 (I.ok.inj _ _ _ e hc ▸ hi))
    · by_cases hcc : c' = c
      · subst hcc; exact ⟨_, hc'⟩
      · obtain ⟨w2, z2⟩ := I.cell y c' e
        exact ⟨w2, z2.sameBut hs hcc⟩
    · obtain ⟨e, n, ne, nf, d⟩ := I.pin p hp
      refine ⟨(hs.2 p.1 ?_).trans e, n, ne, nf, d⟩
      intro q
      rw [q, hoc] at e
      have q' : oc = p.2 := Option.some.inj e
      exact d w' (by rw [← q']; exact hocd)
theorem store_ok {M : Model} {A : Around} {E : Value → Shared → Prop} {i : Nat} {x : Str} {v : V} {u : Value} {Q : Unit → Shared → Prop} (I : Inv X pins σ H s) (hN : X.N.Nodup) (hi : X.N[i]? = some x) (hx : Loc X.env.scope x) (r : RelV v u)
    (h : ∀ s', Inv X pins (σ.set i (some v)) H s' → Q () s') (hf : X.fn x = true ∨ X.env.scope.names.lookup x = some .local := by first | exact .inl rfl | exact .inr rfl | assumption) : wpAny M A (storeName X.env x u) Q E s :=
  store_ok2 I hN hi hx r (fun s' I' _ => h s' I') hf
theorem Inv.call' {s' : Shared} {ch : List Addr} (I : Inv X pins σ H s) (ho : s'.os = s.os) (u : Un (frs X.stack) ch H H' s.heap s'.heap) (hok : HOk X.prog X.w H' s'.heap) (hg : AllBare s'.gens)
    (hch : ∀ b ∈ ch, (b ∈ X.ex ∨ X.s₀.heap.objs.size ≤ b) ∧ b ≠ X.env.locals ∧ (∀ x c, X.env.cells.lookup x = some c → c ≠ b) ∧ ∀ p ∈ X.pn ++ pins, p.1 ≠ b) : Inv X pins σ H' s' := by
  obtain ⟨h', g', d', t', o'⟩ := s'
  have e : o' = s.os := ho
  subst e
  exact I.call (g' := g') (t' := t') (d' := d') u hok hg hch
end
abbrev XK := Value → Option Addr → Hp → Prop
abbrev St := List (Option V)
abbrev VK := V → Hp → Prop
abbrev TE := St → Hp → VK → Prop
abbrev TT := St → Hp → (Bool → Hp → Prop) → Prop
abbrev TA := St → Hp → (List V → Hp → Prop) → Prop
structure Ends where
  nx : St → Hp → Prop
  rt : VK
  bk : St → Hp → Prop := fun _ _ => False
  ct : St → Hp → Prop := fun _ _ => False
abbrev TS := Ends → St → Hp → Prop
def EP (X : Cx) (pins : List (Addr × Obj)) (σ : St) (Q : VK) (u : Value) (s' : Shared) : Prop := ∃ v H', Inv X pins σ H' s' ∧ RelV v u ∧ Q v H'
def TP (X : Cx) (pins : List (Addr × Obj)) (σ : St) (Q : Bool → Hp → Prop) (b : Bool) (s' : Shared) : Prop := ∃ H', Inv X pins σ H' s' ∧ Q b H'
def AP (X : Cx) (pins : List (Addr × Obj)) (σ : St) (Q : List V → Hp → Prop) (us : List Value) (s' : Shared) : Prop := ∃ vs H', Inv X pins σ H' s' ∧ Vals vs us ∧ Q vs H'
def SP (X : Cx) (pins : List (Addr × Obj)) (D : Ends) (f : Flow) (s' : Shared) : Prop :=
  match f with
  | .next => ∃ σ' H', Inv X pins σ' H' s' ∧ D.nx σ' H'
  | .brk => ∃ σ' H', Inv X pins σ' H' s' ∧ D.bk σ' H'
  | .cont => ∃ σ' H', Inv X pins σ' H' s' ∧ D.ct σ' H'
  | .ret u => ∃ v σ' H', Inv X pins σ' H' s' ∧ RelV v u ∧ D.rt v H'
def PE (X : Cx) (e : Expr) (t : TE) : Prop :=
  ∀ (pins : List (Addr × Obj)) (s : Shared) (σ : St) (H : Hp) (Q : VK), Inv X pins σ H s → t σ H Q → wpAny (model X.prog X.w) X.A (eval e X.env) (EP X pins σ Q) X.xe s
def PT (X : Cx) (e : Expr) (t : TT) : Prop :=
  ∀ (pins : List (Addr × Obj)) (s : Shared) (σ : St) (H : Hp) (Q : Bool → Hp → Prop), Inv X pins σ H s → t σ H Q → wpAny (model X.prog X.w) X.A (isTrue e X.env (eval e X.env)) (TP X pins σ Q) X.xe s
def PW (X : Cx) (e : Expr) (t : TT) : Prop :=
  ∀ (whole : Sem Value) (pins : List (Addr × Obj)) (s : Shared) (σ : St) (H : Hp) (Q : Bool → Hp → Prop), Inv X pins σ H s → t σ H Q → wpAny (model X.prog X.w) X.A (isTrue e X.env whole) (TP X pins σ Q) X.xe s
theorem PW.pt {X : Cx} {e : Expr} {t : TT} (h : PW X e t) : PT X e t := h _
def PA (X : Cx) (es : List Expr) (t : TA) : Prop :=
  ∀ (pos : Pos) (pins : List (Addr × Obj)) (s : Shared) (σ : St) (H : Hp) (Q : List V → Hp → Prop), Inv X pins σ H s → t σ H Q → wpAny (model X.prog X.w) X.A (spliced (backTo pos (starEach es X.env))) (AP X pins σ Q) X.xe s
def PS (X : Cx) (st : Stmt) (t : TS) : Prop :=
  ∀ (pins : List (Addr × Obj)) (s : Shared) (σ : St) (H : Hp) (D : Ends), Inv X pins σ H s → t D σ H → wpAny (model X.prog X.w) X.A (exec st X.env) (SP X pins D) X.xe s
def PSs (X : Cx) (st : List Stmt) (t : TS) : Prop :=
  ∀ (pins : List (Addr × Obj)) (s : Shared) (σ : St) (H : Hp) (D : Ends), Inv X pins σ H s → t D σ H → wpAny (model X.prog X.w) X.A (execs st X.env) (SP X pins D) X.xe s
theorem thn {α : Type} {t : Sem α} {Q Q' : α → Shared → Prop} {M : Model} {A : Around} {E : Value → Shared → Prop} {s : Shared} (h : wpAny M A t Q E s) (hQ : ∀ a s, Q a s → Q' a s) : wpAny M A t Q' E s := wpAny_mono h hQ fun _ _ x => x
end L2
namespace L2
open PySem PySem.Spec PyProof.Rows
section
variable {X : Cx}
theorem bin {a b : Expr} {ta tb : TE} (ha : PE X a ta) (hb : PE X b tb) {pins : List (Addr × Obj)} {s : Shared} {σ : St} {H : Hp} {R : V → V → Hp → Prop} (I : Inv X pins σ H s) (h : ta σ H fun x H1 => tb σ H1 fun y H2 => R x y H2)
    {α : Type} {Q : α → Shared → Prop} {f : Value → Value → Sem α}
    (hf : ∀ v u s2 x y H2, Inv X pins σ H2 s2 → RelV x v → RelV y u → R x y H2 → wpAny (model X.prog X.w) X.A (f v u) Q X.xe s2) :
    wpAny (model X.prog X.w) X.A (eval a X.env) (fun v s₁ => wpAny (model X.prog X.w) X.A (eval b X.env) (fun u s₂ => wpAny (model X.prog X.w) X.A (f v u) Q X.xe s₂) X.xe s₁) X.xe s := by
  refine thn (ha pins s σ H _ I h) fun v s1 ⟨x, H1, I1, r1, q1⟩ => ?_
  refine thn (hb pins s1 σ H1 _ I1 q1) fun u s2 ⟨y, H2, I2, r2, q2⟩ => ?_
  exact hf v u s2 x y H2 I2 r1 r2 q2
def tVar (i : Nat) : TE := fun σ H Q => ∃ v, σ[i]? = some (some v) ∧ Q v H
def tC (v : V) : TE := fun _ H Q => Q v H
theorem pe_var {i : Nat} {x : Str} {pos : Pos} (hN : X.N[i]? = some x) (hv : Vis X.env.scope x) (hd : (x == ("__debug__" : Str)) = false := by decide) (hcd : (x == ("__classdict__" : Str)) = false := by decide) : PE X (.Name x pos) (tVar i) := by
  intro pins s σ H Q I h
  obtain ⟨v, e, h⟩ := h
  obtain ⟨m, hn, hl⟩ := I.loc
  obtain ⟨u, r, l⟩ := hl i x v hN e hv
  have fin : EP X pins σ Q u s := ⟨v, H, I, r, h⟩
  rcases l with ⟨hk, hm⟩ | ⟨hk, c, hc, hcell⟩
  · exact wpAny_Name (wpAny_loadName_local I.ok.kind hk hn hm fin) hd
  · rcases hk with hk | hk
    · exact wpAny_Name (wpAny_loadName_cell I.ok.kind hk hc hcell fin) hd
    · exact wpAny_Name (wpAny_loadName_free I.ok.kind hk hc hcell fin hcd) hd
theorem pe_int {i j pos} : PE X (.Constant (.int i) j pos) (tC (.int i)) := fun _ _ _ H _ I h => wpAny_Constant_int ⟨.int i, H, I.tok _, ⟨_, rfl⟩, h⟩
theorem pe_bl {b j pos} : PE X (.Constant (.bool b) j pos) (tC (.bl b)) := fun _ _ _ H _ I h => Constant_bool ⟨.bl b, H, I, rfl, h⟩
theorem pe_non {j pos} : PE X (.Constant .none j pos) (tC .non) := fun _ _ _ H _ I h => Constant_none ⟨.non, H, I, rfl, h⟩
theorem pe_str {x j pos} : PE X (.Constant (.str x) j pos) (tC (.str x)) := fun _ _ _ H _ I h => Calls.Constant_str ⟨.str x, H, I.tok _, ⟨_, rfl⟩, h⟩
def Gl (X : Cx) (x : Str) : Prop := X.env.kindOf x = some .globalImplicit
theorem ld_glob {E : Value → Shared → Prop} {pins : List (Addr × Obj)} {s : Shared} {σ : St} {H : Hp} {x : Str} {u : Value} {pos : Pos} {Q : Value → Shared → Prop} (I : Inv X pins σ H s) (hg : Gl X x) (hm : X.mg x = some u) (h : Q u s)
    (hd : (x == ("__debug__" : Str)) = false := by decide) : wpAny (model X.prog X.w) X.A (eval (.Name x pos) X.env) Q E s :=
  Calls.Name_function_global I.ok.kind hg (Calls.loadGlobal_global (by rw [I.ok.glob]; exact I.mod.glob.keeps I.bk) hm h) hd
theorem ld_blt {E : Value → Shared → Prop} {pins : List (Addr × Obj)} {s : Shared} {σ : St} {H : Hp} {x : Str} {u : Value} {pos : Pos} {Q : Value → Shared → Prop} (I : Inv X pins σ H s) (hg : Gl X x) (hm : X.mg x = none) (hv : bootBuiltins x = some u) (h : Q u s)
    (hn : x ≠ "__name__" := by decide) (hd : (x == ("__debug__" : Str)) = false := by decide) : wpAny (model X.prog X.w) X.A (eval (.Name x pos) X.env) Q E s := by
  obtain ⟨mb, h1, h2⟩ := I.mod.blt
  exact Calls.Name_function_global I.ok.kind hg (Calls.loadGlobal_builtin (by rw [I.ok.glob]; exact I.mod.glob.keeps I.bk) hm (by rw [I.ok.blt]; exact h1.keeps I.bk) ((h2 x hn).trans hv) h) hd
theorem pe_glob {x : Str} {v : V} {u : Value} {pos : Pos} (hg : Gl X x) (hm : X.mg x = some u) (r : RelV v u) (hd : (x == ("__debug__" : Str)) = false := by decide) : PE X (.Name x pos) (tC v) :=
  fun _ _ _ H _ I h => ld_glob I hg hm ⟨v, H, I, r, h⟩ hd
theorem pe_bltn {x : Str} {v : V} {u : Value} {pos : Pos} (hg : Gl X x) (hm : X.mg x = none) (hv : bootBuiltins x = some u) (r : RelV v u) (hn : x ≠ "__name__" := by decide) (hd : (x == ("__debug__" : Str)) = false := by decide) : PE X (.Name x pos) (tC v) :=
  fun _ _ _ H _ I h => ld_blt I hg hm hv ⟨v, H, I, r, h⟩ hn hd
variable {a b : Expr} {ta tb : TE} {pos : Pos}
variable {tA tB' : TT} {rest : List Expr}
def tAnd (t u : TT) : TT := fun σ H Q => t σ H fun c H1 => if c = true then u σ H1 Q else Q false H1
def tOr (t u : TT) : TT := fun σ H Q => t σ H fun c H1 => if c = true then Q true H1 else u σ H1 Q
def tNot (t : TT) : TT := fun σ H Q => t σ H fun c H1 => Q (!c) H1
theorem pw_and1 (ha : PT X a tA) : PW X (.BoolOp .And [a] pos) tA := by
  intro wh pins s σ H Q I h
  refine isTrue_and (thn (ha pins s σ H Q I h) fun c s1 e => ?_)
  cases c with
  | true => exact isTrue_and_nil e
  | false => exact e
theorem pw_or1 (ha : PT X a tA) : PW X (.BoolOp .Or [a] pos) tA := by
  intro wh pins s σ H Q I h
  refine isTrue_or (thn (ha pins s σ H Q I h) fun c s1 e => ?_)
  cases c with
  | false => exact isTrue_or_nil e
  | true => exact e
theorem pw_and (ha : PT X a tA) (hb : PW X (.BoolOp .And (b :: rest) pos) tB') : PW X (.BoolOp .And (a :: b :: rest) pos) (tAnd tA tB') := by
  intro wh pins s σ H Q I h
  refine isTrue_and (thn (ha pins s σ H _ I h) fun c s1 ⟨H1, I1, q1⟩ => ?_)
  cases c with
  | true => exact hb wh pins s1 σ H1 Q I1 q1
  | false => exact ⟨H1, I1, q1⟩
theorem pw_or (ha : PT X a tA) (hb : PW X (.BoolOp .Or (b :: rest) pos) tB') : PW X (.BoolOp .Or (a :: b :: rest) pos) (tOr tA tB') := by
  intro wh pins s σ H Q I h
  refine isTrue_or (thn (ha pins s σ H _ I h) fun c s1 ⟨H1, I1, q1⟩ => ?_)
  cases c with
  | true => exact ⟨H1, I1, q1⟩
  | false => exact hb wh pins s1 σ H1 Q I1 q1
theorem pt_not (ha : PT X a tA) : PT X (.UnaryOp .Not a pos) (tNot tA) := by
  intro pins s σ H Q I h
  exact isTrue_not (ha pins s σ H (fun c H1 => Q (!c) H1) I h)
def tAndV (ta tb : TE) : TE := fun σ H Q => ta σ H fun x H1 => ∃ c, x = .bl c ∧ if c = true then tb σ H1 Q else Q (.bl false) H1
def tOrV (ta tb : TE) : TE := fun σ H Q => ta σ H fun x H1 => ∃ c, x = .bl c ∧ if c = true then Q (.bl true) H1 else tb σ H1 Q
def tNotV (ta : TE) : TE := fun σ H Q => ta σ H fun x H1 => ∃ c, x = .bl c ∧ Q (.bl (!c)) H1
theorem pe_one {op} {t : TE} (h : PE X a t) : PE X (.BoolOp op [a] pos) t := fun pins s σ H Q I hw => BoolOp_one (h pins s σ H Q I hw)
theorem pe_and (ha : PE X a ta) (hb : PE X (.BoolOp .And (b :: rest) pos) tb) : PE X (.BoolOp .And (a :: b :: rest) pos) (tAndV ta tb) := by
  intro pins s σ H Q I h
  refine BoolOp_and (thn (ha pins s σ H _ I h) fun v s1 ⟨x, H1, I1, r1, q1⟩ => ?_)
  obtain ⟨c, rfl, q1⟩ := q1
  cases r1
  refine wpAny_truthy_bool ?_
  cases c with
  | true => exact hb pins s1 σ H1 Q I1 q1
  | false => exact ⟨.bl false, H1, I1, rfl, q1⟩
theorem pe_or (ha : PE X a ta) (hb : PE X (.BoolOp .Or (b :: rest) pos) tb) : PE X (.BoolOp .Or (a :: b :: rest) pos) (tOrV ta tb) := by
  intro pins s σ H Q I h
  refine BoolOp_or (thn (ha pins s σ H _ I h) fun v s1 ⟨x, H1, I1, r1, q1⟩ => ?_)
  obtain ⟨c, rfl, q1⟩ := q1
  cases r1
  refine wpAny_truthy_bool ?_
  cases c with
  | false => exact hb pins s1 σ H1 Q I1 q1
  | true => exact ⟨.bl true, H1, I1, rfl, q1⟩
theorem pe_not (ha : PE X a ta) : PE X (.UnaryOp .Not a pos) (tNotV ta) := by
  intro pins s σ H Q I h
  refine UnaryOp_ (thn (ha pins s σ H _ I h) fun v s1 ⟨x, H1, I1, r1, q1⟩ => ?_)
  obtain ⟨c, rfl, q1⟩ := q1
  cases r1
  exact not_of (wpAny_truthy_bool ⟨.bl (!c), H1, I1, rfl, q1⟩)
end
end L2
namespace L2
open PySem PySem.Spec PyProof.Rows
def SqL (K : PySem.W.Frag) (H : Hp) (a : Addr) (xs : List V) : Prop :=
  Rd H a (.lst xs) ∨
    ∃ (o : Obj) (its : Array Value) (n : Nat), K.lookup a = some o ∧ o.cls = .type "list" ∧ o.dict = none ∧ o.data = .seq its n ∧ its.size ≤ sizeLine ∧ Vals xs its.toList
def SqT (K : PySem.W.Frag) (H : Hp) (a : Addr) (xs : List V) : Prop :=
  Rd H a (.tup xs) ∨
    ∃ (o : Obj) (its : Array Value) (n : Nat), K.lookup a = some o ∧ o.cls = .type "tuple" ∧ o.data = .seq its n ∧ its.size ≤ sizeLine ∧ Vals xs its.toList
def absV : Value → Option V
  | .none => some .non
  | .bool b => some (.bl b)
  | .int i _ => some (.int i)
  | .str x _ => some (.str x)
  | .bytes b _ => some (.byt b)
  | .float b _ => some (.flt b)
  | .ref a => some (.ref a)
  | .type n => some (.ty n)
  | _ => none
theorem RelV.abs {x : V} {u : Value} (r : RelV x u) : absV u = some x := by
  cases x with
  | non => cases r; rfl
  | bl _ => cases r; rfl
  | int _ => obtain ⟨t, rfl⟩ := r; rfl
  | str _ => obtain ⟨t, rfl⟩ := r; rfl
  | byt _ => obtain ⟨t, rfl⟩ := r; rfl
  | flt _ => obtain ⟨t, rfl⟩ := r; rfl
  | ref _ => cases r; rfl
  | ty _ => cases r; rfl
theorem RelV.inj {x y : V} {u : Value} (r : RelV x u) (q : RelV y u) : x = y := Option.some.inj (r.abs.symm.trans q.abs)
theorem Vals.inj : ∀ {xs ys : List V} {us : List Value}, Vals xs us → Vals ys us → xs = ys
  | _, _, _, .nil, .nil => rfl
  | _, _, _, .cons r t, .cons r' t' => by rw [r.inj r', Vals.inj t t']
section
variable {X : Cx} {pins : List (Addr × Obj)} {σ : St} {H : Hp} {s : Shared} {a : Addr} {xs ys : List V}
theorem SqL.of {K : PySem.W.Frag} (h : H a = some (.lst xs)) : SqL K H a xs := .inl (.inl h)
theorem SqT.of {K : PySem.W.Frag} (h : H a = some (.tup xs)) : SqT K H a xs := .inl (.inl h)
theorem Inv.list (I : Inv X pins σ H s) (h : SqL X.K H a xs) : ∃ its : List Value, Vals xs its ∧ PlainL s.heap a its.toArray ∧ xs.length ≤ sizeLine := by
  rcases h with h | ⟨o, its, n, hk, hc, hd, hs, hz, r⟩
  · obtain ⟨z, its, n, r, e⟩ := h.ok I.hok
    exact ⟨its, r, ⟨_, n, e, rfl, rfl, rfl⟩, z⟩
  · refine ⟨its.toList, r, ⟨o, n, I.kIn a o hk, hc, hd, by simpa using hs⟩, ?_⟩
    have e := r.length
    simp only [Array.length_toList] at e
    omega
theorem Inv.tuple (I : Inv X pins σ H s) (h : SqT X.K H a xs) : ∃ its : List Value, Vals xs its ∧ IsTup s.heap a its.toArray ∧ xs.length ≤ sizeLine := by
  rcases h with h | ⟨o, its, n, hk, hc, hs, hz, r⟩
  · obtain ⟨z, its, r, p⟩ := h.ok I.hok
    exact ⟨its, r, p, z⟩
  · refine ⟨its.toList, r, ⟨o, I.kIn a o hk, hc, n, by simpa using hs⟩, ?_⟩
    have e := r.length
    simp only [Array.length_toList] at e
    omega
theorem Inv.list_inj (I : Inv X pins σ H s) (h : SqL X.K H a xs) (h' : SqL X.K H a ys) : xs = ys := by
  obtain ⟨its, r, ⟨o, n, e, _, _, d⟩, _⟩ := I.list h
  obtain ⟨its', r', ⟨o', n', e', _, _, d'⟩, _⟩ := I.list h'
  rw [e] at e'; cases e'
  rw [d] at d'
  injection d' with d1 _
  have : its = its' := by simpa using congrArg Array.toList d1
  subst this
  exact r.inj r'
theorem Inv.tuple_inj (I : Inv X pins σ H s) (h : SqT X.K H a xs) (h' : SqT X.K H a ys) : xs = ys := by
  obtain ⟨its, r, ⟨o, e, _, n, d⟩, _⟩ := I.tuple h
  obtain ⟨its', r', ⟨o', e', _, n', d'⟩, _⟩ := I.tuple h'
  rw [e] at e'; cases e'
  rw [d] at d'
  injection d' with d1 _
  have : its = its' := by simpa using congrArg Array.toList d1
  subst this
  exact r.inj r'
end
abbrev Cx.wish (X : Cx) (E : Value → Shared → Prop) : Cx := { X with xe := E }
abbrev Cx.nox (X : Cx) : Cx := X.wish fun _ _ => False
theorem Cx.Ok.wish {X : Cx} (ok : X.Ok) (E : Value → Shared → Prop) : (X.wish E).Ok :=
  ⟨ok.mod, ok.kind, ok.glob, ok.blt, ok.above, ok.inj, ok.has, ok.cab, ok.hd, ok.frames, ok.stk, ok.exf, ok.bs, ok.bsz, ok.noex, ok.exfs, ok.funs, ok.frf⟩
theorem Cx.Ok.unwish {X : Cx} {E : Value → Shared → Prop} (ok : (X.wish E).Ok) : X.Ok :=
  ⟨ok.mod, ok.kind, ok.glob, ok.blt, ok.above, ok.inj, ok.has, ok.cab, ok.hd, ok.frames, ok.stk, ok.exf, ok.bs, ok.bsz, ok.noex, ok.exfs, ok.funs, ok.frf⟩
section
variable {X : Cx} {pins : List (Addr × Obj)} {σ : St} {H : Hp} {s : Shared} {E : Value → Shared → Prop}
theorem Inv.wish (I : Inv X pins σ H s) (E : Value → Shared → Prop) : Inv (X.wish E) pins σ H s := ⟨I.ok.wish E, I.os, I.bare, I.base, I.loc, I.cell, I.free, I.freeC, I.pin, I.hok, I.len⟩
theorem Inv.unwish (I : Inv (X.wish E) pins σ H s) : Inv X pins σ H s := ⟨I.ok.unwish, I.os, I.bare, I.base, I.loc, I.cell, I.free, I.freeC, I.pin, I.hok, I.len⟩
theorem SP.unwish {D : Ends} {f : Flow} {s' : Shared} (h : SP (X.wish E) pins D f s') : SP X pins D f s' := by
  cases f with
  | next => obtain ⟨σ', H', I, q⟩ := h; exact ⟨σ', H', I.unwish, q⟩
  | brk => obtain ⟨σ', H', I, q⟩ := h; exact ⟨σ', H', I.unwish, q⟩
  | cont => obtain ⟨σ', H', I, q⟩ := h; exact ⟨σ', H', I.unwish, q⟩
  | ret u => obtain ⟨v, σ', H', I, r, q⟩ := h; exact ⟨v, σ', H', I.unwish, r, q⟩
theorem PSs.nox {st : List Stmt} {t : TS} (h : PSs X.nox st t) : PSs X st t := fun pins s σ H D I hw =>
  wpAny_mono (h pins s σ H D (I.wish _) hw) (fun _ _ q => q.unwish) fun _ _ z => False.elim z
end
section
variable {X : Cx} {st : Stmt} {rest : List Stmt} {t u : TS} {e : Expr} {te : TE} {pos : Pos}
def tNext : TS := fun D σ H => D.nx σ H
def tSeq (t u : TS) : TS := fun D σ H => t { D with nx := u D } σ H
theorem pss_nil : PSs X [] tNext := fun _ _ σ H _ I h => wpAny_execs_nil ⟨σ, H, I, h⟩
theorem pss_cons (h1 : PS X st t) (h2 : PSs X rest u) : PSs X (st :: rest) (tSeq t u) := by
  intro pins s σ H D I h
  refine wpAny_execs_cons (thn (h1 pins s σ H { D with nx := u D } I h) fun f s1 q => ?_)
  cases f with
  | next =>
    obtain ⟨σ', H', I', q⟩ := q
    exact h2 pins s1 σ' H' D I' q
  | ret v => exact q
  | brk => exact q
  | cont => exact q
theorem pss_one (h1 : PS X st t) : PSs X [st] t := by
  intro pins s σ H D I h
  refine wpAny_execs_cons (thn (h1 pins s σ H D I h) fun f s1 q => ?_)
  cases f with
  | next => exact wpAny_execs_nil q
  | ret v => exact q
  | brk => exact q
  | cont => exact q
theorem Inv.quiet {pins : List (Addr × Obj)} {σ : St} {H : Hp} {s : Shared} (I : Inv X pins σ H s) : interactive X.env = false := by simp [interactive, I.ok.kind]
def tDrop (te : TE) : TS := fun D σ H => te σ H fun _ H1 => D.nx σ H1
theorem ps_expr (he : PE X e te) (hs : swapsWith e none pos.line X.env = pure false := by rfl) : PS X (.Expr e pos) (tDrop te) := by
  intro pins s σ H D I h
  exact wpAny_Expr_any (thn (he pins s σ H _ I h) fun v s1 ⟨x, H1, I1, r1, q1⟩ => ⟨σ, H1, I1, q1⟩) I.quiet hs
def tRet (te : TE) : TS := fun D σ H => te σ H D.rt
theorem ps_ret (he : PE X e te) : PS X (.Return (some e) pos) (tRet te) := by
  intro pins s σ H D I h
  exact wpAny_Return_some (thn (he pins s σ H _ I h) fun v s1 ⟨x, H1, I1, r1, q1⟩ => ⟨x, σ, H1, I1, r1, q1⟩)
def tIfS (c : TT) (t u : TS) : TS := fun D σ H => c σ H fun b H1 => if b = true then t D σ H1 else u D σ H1
theorem ps_if {c : Expr} {a b : List Stmt} {tc : TT} (hc : PT X c tc) (ha : PSs X a t) (hb : PSs X b u) : PS X (.If c a b pos) (tIfS tc t u) := by
  intro pins s σ H D I h
  refine wpAny_If (thn (hc pins s σ H _ I h) fun d s1 ⟨H1, I1, q1⟩ => ?_)
  cases d with
  | true => exact ha pins s1 σ H1 D I1 q1
  | false => exact hb pins s1 σ H1 D I1 q1
end
abbrev TG := V → St → Hp → (St → Hp → Prop) → Prop
def PG (X : Cx) (target : Expr) (t : TG) : Prop :=
  ∀ (pins : List (Addr × Obj)) (s : Shared) (σ : St) (H : Hp) (v : V) (u : Value) (Q : St → Hp → Prop), Inv X pins σ H s → RelV v u → t v σ H Q →
    wpAny (model X.prog X.w) X.A (assign target X.env u) (fun _ s' => ∃ σ' H', Inv X pins σ' H' s' ∧ Q σ' H') X.xe s
section
variable {X : Cx} {pos : Pos}
def gName (i : Nat) : TG := fun v σ H Q => Q (σ.set i (some v)) H
theorem pg_name {i : Nat} {x : Str} (hN : X.N.Nodup) (hi : X.N[i]? = some x) (hx : Loc X.env.scope x) (hf : X.fn x = true ∨ X.env.scope.names.lookup x = some .local := by first | exact .inl rfl | exact .inr rfl | assumption) : PG X (.Name x pos) (gName i) := by
  intro pins s σ H v u Q I r h
  exact wpAny_assign_Name (store_ok I hN hi hx r (fun s' I' => ⟨_, H, I', h⟩) hf)
def tAsg (te : TE) (g : TG) : TS := fun D σ H => te σ H fun x H1 => g x σ H1 D.nx
theorem ps_set {i : Nat} {x : Str} {e : Expr} {te : TE} {pos' : Pos} (hN : X.N.Nodup) (hi : X.N[i]? = some x) (hx : Loc X.env.scope x) (he : PE X e te) (hs : swapsWith e (some (.Name x pos')) pos.line X.env = pure false := by rfl) (hf : X.fn x = true ∨ X.env.scope.names.lookup x = some .local := by first | exact .inl rfl | exact .inr rfl | assumption) :
    PS X (.Assign [.Name x pos'] e pos) (tAsg te (gName i)) := by
  intro pins s σ H D I h
  refine wpAny_Assign_Name (thn (he pins s σ H _ I h) fun v s1 ⟨y, H1, I1, r1, q1⟩ => ?_) hs
  exact store_ok I1 hN hi hx r1 (fun s2 I2 => ⟨_, H1, I2, q1⟩) hf
end
section
variable {X : Cx} {pos : Pos}
end
structure It where
  go : Nat → Hp → Prop
  yld : Nat → Hp → V → Hp → Prop
  stop : Nat → Hp → Prop
def FpOk (X : Cx) (pins : List (Addr × Obj)) (H : Hp) (b : Addr) : Prop :=
  H b = none ∧ b ≠ X.env.locals ∧ b ∉ X.fs ∧ (b ∈ X.ex ∨ X.s₀.heap.objs.size ≤ b) ∧ (∀ x c, X.env.cells.lookup x = some c → c ≠ b) ∧ ∀ p ∈ X.pn ++ pins, p.1 ≠ b
theorem Inv.fpOk {X : Cx} {pins : List (Addr × Obj)} {σ : St} {H H' : Hp} {s : Shared} {b : Addr} (I : Inv X pins σ H s) (hb : s.heap.objs.size ≤ b) (hn : H' b = none) : FpOk X pins H' b := by
  refine ⟨hn, Nat.ne_of_gt (Nat.lt_of_lt_of_le I.lt hb), I.nofs hb, .inr (Nat.le_trans I.sz hb), fun x c e z => ?_, fun p hp z => ?_⟩
  · obtain ⟨v, q⟩ := I.cell x c e
    exact absurd (Nat.lt_of_lt_of_le q.lt (by rw [z]; exact hb)) (Nat.lt_irrefl _)
  · exact absurd (Nat.lt_of_lt_of_le (Heap.lt_size (I.pin p hp).1) (by rw [z]; exact hb)) (Nat.lt_irrefl _)
structure Turn (P : Program) (w : World) (K : PySem.W.Frag) (tg : Expr) (J : It) (fp : List Addr) (it : Addr) (tn : Nat → Heap → Prop) : Prop where
  mem : it ∈ fp
  obj : ∀ i h, tn i h → ∀ b ∈ fp, ∃ o, h.get? b = some o ∧ ∀ v, o.data ≠ .cell v
  keep : ∀ i h h', tn i h → (∀ b ∈ fp, ∀ o, h.get? b = some o → h'.get? b = some o) → tn i h'
  item : ∀ (X : Cx), X.prog = P → X.w = w → X.K = K → X.calm = true → ∀ (i : Nat) (pins : List (Addr × Obj)) (s : Shared) (σ : St) (H : Hp) (E : Value → Shared → Prop), Inv X pins σ H s → (∀ b ∈ fp, FpOk X pins H b) → tn i s.heap → J.go i H →
    wpAny (model P w) X.A (pyNext (.ref it)) (fun r s1 => ∃ u, r = some u ∧
      wpAny (model P w) X.A (letOwnedTupleGo tg (.ref it) u) (fun _ s2 => ∃ x H', Inv X pins σ H' s2 ∧ RelV x u ∧ J.yld i H x H' ∧ tn (i + 1) s2.heap ∧ ∀ b ∈ fp, H' b = none) E s1) E s
  done : ∀ (X : Cx), X.prog = P → X.w = w → X.K = K → X.calm = true → ∀ (i : Nat) (pins : List (Addr × Obj)) (s : Shared) (σ : St) (H : Hp) (E : Value → Shared → Prop), Inv X pins σ H s → (∀ b ∈ fp, FpOk X pins H b) → tn i s.heap → J.stop i H →
    wpAny (model P w) X.A (pyNext (.ref it)) (fun r s1 => r = none ∧ Inv X pins σ H s1) E s
  self : ∀ (A : Around) (i : Nat) (s : Shared) (Q : Value → Shared → Prop) (E : Value → Shared → Prop), tn i s.heap → Q (.ref it) s → wpAny (model P w) A (pyIter (.ref it)) Q E s
abbrev TI := St → Hp → (It → Hp → Prop) → Prop
def PIE (X : Cx) (pins : List (Addr × Obj)) (σ : St) (tg : Expr) (R : It → Hp → Prop) (itv : Value) (s2 : Shared) : Prop :=
  ∃ (it : Addr) (fp : List Addr) (tn : Nat → Heap → Prop) (J : It) (H' : Hp), itv = .ref it ∧ Inv X pins σ H' s2 ∧ Turn X.prog X.w X.K tg J fp it tn ∧ tn 0 s2.heap ∧ (∀ b ∈ fp, FpOk X pins H' b) ∧ R J H'
def PI (X : Cx) (tg iter : Expr) (wi : TI) : Prop :=
  ∀ (pins : List (Addr × Obj)) (s : Shared) (σ : St) (H : Hp) (R : It → Hp → Prop), Inv X pins σ H s → wi σ H R →
    wpAny (model X.prog X.w) X.A (eval iter X.env) (fun v s1 => wpAny (model X.prog X.w) X.A (pyIter v) (PIE X pins σ tg R) X.xe s1) X.xe s
theorem go_of {M : Model} {A : Around} {E : Value → Shared → Prop} {s : Shared} {tg : Expr} {it : Addr} {u : Value} {o : Obj} {n : String} {vs : Array Value} {Q : Unit → Shared → Prop} (ho : s.heap.get? it = some o) (hc : o.cls = .type n) (hd : o.data = .fields vs)
    (hn : ["enumerate", "zip", "dict_itemiterator", "dict_reverseitemiterator", "odict_iterator", "itertools.zip_longest", "itertools.pairwise"].contains n = false) (hQ : Q () s) : wpAny M A (letOwnedTupleGo tg (.ref it) u) Q E s := by
  unfold letOwnedTupleGo
  cases tg <;> first
    | exact wpAny_pure hQ
    | (cases u <;> first
        | exact wpAny_pure hQ
        | (refine wpAny_bind (wpAny_load ho ?_)
           rw [hc, hd]
           show wpAny M A (if (["enumerate", "zip", "dict_itemiterator", "dict_reverseitemiterator", "odict_iterator", "itertools.zip_longest", "itertools.pairwise"].contains n && vs[0]? == some (rawInt _)) = true then _ else _) Q E s
           rw [if_neg (by intro h; rw [hn, Bool.false_and] at h; cases h)]
           exact wpAny_pure hQ))
def Itl (K : PySem.W.Frag) (a : Addr) : It :=
  ⟨fun i H => ∃ xs x, SqL K H a xs ∧ xs[i]? = some x, fun i H x H' => H' = H ∧ ∀ xs, SqL K H a xs → xs[i]? = some x, fun i H => ∃ xs, SqL K H a xs ∧ xs.length ≤ i⟩
def Itt (K : PySem.W.Frag) (a : Addr) : It :=
  ⟨fun i H => ∃ xs x, SqT K H a xs ∧ xs[i]? = some x, fun i H x H' => H' = H ∧ ∀ xs, SqT K H a xs → xs[i]? = some x, fun i H => ∃ xs, SqT K H a xs ∧ xs.length ≤ i⟩
def Itr (lo : Int) (n : Nat) : It := ⟨fun i _ => i < n, fun i H x H' => H' = H ∧ x = .int (lo + i), fun i _ => n ≤ i⟩
theorem turn_list {P : Program} {w : World} {K : PySem.W.Frag} {tg : Expr} (a it : Addr) : Turn P w K tg (Itl K a) [it] it (fun i h => h.IsListIter it a i) where
  mem := by simp
  obj := fun i h st b hb => by
    have e : b = it := by simpa using hb
    subst e
    obtain ⟨o, e, c, d⟩ := st
    exact ⟨o, e, fun v z => by rw [d] at z; cases z⟩
  keep := fun i h h' st k => st.at fun o e => k it (by simp) o e
  item := by
    intro X hP hw hK hc i pins s σ H E I hf st hg
    subst hP hw hK
    obtain ⟨xs, x, hq, hx⟩ := hg
    obtain ⟨its, rv, p, hz⟩ := I.list hq
    obtain ⟨u, hu, ru⟩ := rv.get hx
    obtain ⟨f0, f1, f2, f3, f4, f5⟩ := hf it (by simp)
    refine wpAny_pyNext_list_item st p.isList (x := u) (by simpa using hu) fun h' st' sb => ?_
    have I1 : Inv X pins σ H { s with heap := h' } := I.turned (t' := s.toks) (fun b o hb e => (sb.2 b hb).trans e) f0 f1 f3 f4 f5
    obtain ⟨o, e, c, d⟩ := id st'
    exact ⟨u, rfl, go_of (s := { s with heap := h' }) e c d (by decide) ⟨x, H, I1, ru, ⟨rfl, fun ys hy => by rw [I.list_inj hy hq]; exact hx⟩, st', fun b hb => (hf b hb).1⟩⟩
  done := by
    intro X hP hw hK hc i pins s σ H E I hf st hg
    subst hP hw hK
    obtain ⟨xs, hq, hx⟩ := hg
    obtain ⟨its, rv, p, hz⟩ := I.list hq
    obtain ⟨f0, f1, f2, f3, f4, f5⟩ := hf it (by simp)
    have hl := rv.length
    exact wpAny_pyNext_list_end (I.ok.hd hc) st p.isList (by simp; omega) fun h' eb => ⟨rfl, I.turned (t' := s.toks) (fun b o hb e => eb b o hb e) f0 f1 f3 f4 f5⟩
  self := fun _ _ _ _ _ st h => wpAny_pyIter_listiter st h
theorem turn_tuple {P : Program} {w : World} {K : PySem.W.Frag} {tg : Expr} (a it : Addr) : Turn P w K tg (Itt K a) [it] it (fun i h => h.IsTupleIter it a i) where
  mem := by simp
  obj := fun i h st b hb => by
    have e : b = it := by simpa using hb
    subst e
    obtain ⟨o, e, c, d⟩ := st
    exact ⟨o, e, fun v z => by rw [d] at z; cases z⟩
  keep := fun i h h' st k => st.at fun o e => k it (by simp) o e
  item := by
    intro X hP hw hK hc i pins s σ H E I hf st hg
    subst hP hw hK
    obtain ⟨xs, x, hq, hx⟩ := hg
    obtain ⟨its, rv, p, hz⟩ := I.tuple hq
    obtain ⟨u, hu, ru⟩ := rv.get hx
    obtain ⟨f0, f1, f2, f3, f4, f5⟩ := hf it (by simp)
    refine wpAny_pyNext_tuple_item st (show s.heap.IsTuple a its.toArray from p) (x := u) (by simpa using hu) fun h' st' sb => ?_
    have I1 : Inv X pins σ H { s with heap := h' } := I.turned (t' := s.toks) (fun b o hb e => (sb.2 b hb).trans e) f0 f1 f3 f4 f5
    obtain ⟨o, e, c, d⟩ := id st'
    exact ⟨u, rfl, go_of (s := { s with heap := h' }) e c d (by decide) ⟨x, H, I1, ru, ⟨rfl, fun ys hy => by rw [I.tuple_inj hy hq]; exact hx⟩, st', fun b hb => (hf b hb).1⟩⟩
  done := by
    intro X hP hw hK hc i pins s σ H E I hf st hg
    subst hP hw hK
    obtain ⟨xs, hq, hx⟩ := hg
    obtain ⟨its, rv, p, hz⟩ := I.tuple hq
    obtain ⟨f0, f1, f2, f3, f4, f5⟩ := hf it (by simp)
    have hl := rv.length
    exact wpAny_pyNext_tuple_end (I.ok.hd hc) st (show s.heap.IsTuple a its.toArray from p) (by simp; omega) fun h' eb => ⟨rfl, I.turned (t' := s.toks) (fun b o hb e => eb b o hb e) f0 f1 f3 f4 f5⟩
  self := fun _ _ _ _ _ st h => wpAny_pyIter_tupleiter st h
theorem turn_range {P : Program} {w : World} {K : PySem.W.Frag} {tg : Expr} (it : Addr) (lo : Int) (n : Nat) : Turn P w K tg (Itr lo n) [it] it (fun i h => IsRangeIter h it (lo + (i : Nat) * 1) ((n : Int) - (i : Nat)) 1) where
  mem := by simp
  obj := fun i h st b hb => by
    have e : b = it := by simpa using hb
    subst e
    exact ⟨_, st, fun v z => by
      have z' : Data.fields _ = Data.cell v := z
      cases z'⟩
  keep := fun i h h' st k => k it (by simp) _ st
  item := by
    intro X hP hw hK hc i pins s σ H E I hf st hg
    subst hP hw hK
    obtain ⟨f0, f1, f2, f3, f4, f5⟩ := hf it (by simp)
    have W := Walks.range (prog := X.prog) (w := X.w) (I.ok.hd hc) it lo 1 n
    refine W.item i s _ _ hg st fun v h' tk hv st' kk => ?_
    obtain ⟨t, rfl⟩ := hv
    have I1 : Inv X pins σ H { s with heap := h', toks := tk } := I.turned (fun b o hb e => kk b o (by simpa using hb) e) f0 f1 f3 f4 f5
    refine ⟨_, rfl, go_of (s := { s with heap := h', toks := tk }) (n := "range_iterator") st' rfl rfl (by decide) ⟨.int (lo + i), H, I1, ⟨t, ?_⟩, ⟨rfl, rfl⟩, st', fun b hb => (hf b hb).1⟩⟩
    rw [Int.mul_one]
  done := by
    intro X hP hw hK hc i pins s σ H E I hf st hg
    subst hP hw hK
    obtain ⟨f0, f1, f2, f3, f4, f5⟩ := hf it (by simp)
    exact wpAny_pyNext_range_end (I.ok.hd hc) st (by have : n ≤ i := hg; omega) fun h' eb => ⟨rfl, I.turned (t' := s.toks) (fun b o hb e => eb b o hb e) f0 f1 f3 f4 f5⟩
  self := fun _ _ _ _ _ st h => wpAny_pyIter_rangeiter st h
end L2
namespace L2
open PySem PySem.Spec PyProof.Rows
section
variable {X : Cx} {tg : Expr}
theorem range_it {pins : List (Addr × Obj)} {σ : St} {H : Hp} {s : Shared} {R : It → Hp → Prop} {E : Value → Shared → Prop} {lo hi : Int} {t u v : Tok} {tk : Nat} (I : Inv X pins σ H s) (h1 : -(2 ^ 62) ≤ lo) (h2 : lo < 2 ^ 62) (h3 : -(2 ^ 62) ≤ hi) (h4 : hi < 2 ^ 62)
    (q : R (Itr lo (hi - lo).toNat) H) : wpAny (model X.prog X.w) X.A (pyIter (.ref s.heap.objs.size)) (PIE X pins σ tg R) E { s with heap := s.heap.push { cls := .type "range", data := .fields #[.int lo t, .int hi u, .int 1 v] }, toks := tk } := by
  refine wpAny_pyIter_range (IsRange.new ..) (small_one h1 h2 h3 h4) ?_
  have I1 : Inv X pins σ H { s with heap := s.heap.push { cls := .type "range", data := .fields #[.int lo t, .int hi u, .int 1 v] }, toks := tk } := I.kept fun b o e => Heap.get?_push_of_some _ e
  refine ⟨(s.heap.push { cls := .type "range", data := .fields #[.int lo t, .int hi u, .int 1 v] }).objs.size, [(s.heap.push { cls := .type "range", data := .fields #[.int lo t, .int hi u, .int 1 v] }).objs.size], _, _, H, rfl,
    I1.kept (t' := tk) fun b o e => Heap.get?_push_of_some _ e, turn_range _ lo (hi - lo).toNat, ?_, fun b hb => ?_, q⟩
  · have e1 : lo + ((0 : Nat) : Int) * 1 = lo := by simp
    have e2 : (((hi - lo).toNat : Nat) : Int) - ((0 : Nat) : Int) = Builtin.Range.rangeSize lo hi 1 := by rw [rangeSize_one]; split <;> omega
    show IsRangeIter _ _ (lo + ((0 : Nat) : Int) * 1) ((((hi - lo).toNat : Nat) : Int) - ((0 : Nat) : Int)) 1
    rw [e1, e2]
    exact Heap.get?_push_size _ rfl
  · have e : b = (s.heap.push { cls := .type "range", data := .fields #[.int lo t, .int hi u, .int 1 v] }).objs.size := by simpa using hb
    subst e
    exact I1.fpOk (Nat.le_refl _) (I1.hok.fresh (Nat.le_refl _))
def iRng1 (ta : TA) : TI := fun σ H R => ta σ H fun vs H1 => ∃ j : Int, vs = [.int j] ∧ -(2 ^ 62) ≤ j ∧ j < 2 ^ 62 ∧ R (Itr 0 j.toNat) H1
def iRng2 (ta : TA) : TI := fun σ H R => ta σ H fun vs H1 => ∃ i j : Int, vs = [.int i, .int j] ∧ (-(2 ^ 62) ≤ i ∧ i < 2 ^ 62 ∧ -(2 ^ 62) ≤ j ∧ j < 2 ^ 62) ∧ R (Itr i (j - i).toNat) H1
theorem pi_range1 {a : Expr} {ta : TA} {p pos : Pos} (hg : Gl X "range") (hm : X.mg "range" = none) (ha : PA X [a] ta) (hs : starEach [a] X.env = [(false, eval a X.env)] := by rfl) : PI X tg (.Call (.Name "range" p) [a] [] pos) (iRng1 ta) := by
  intro pins s σ H R I h
  refine Call_ (ld_blt I hg hm boot_range (PyProof.Rows.callWith_type1 (thn (ha pos pins s σ H _ I h) fun us s1 ⟨vs, H1, I1, r1, q1⟩ => ?_) hs rfl))
  obtain ⟨j, e, q1, q2, q⟩ := q1
  subst e
  cases r1 with
  | cons r rr =>
    cases rr
    obtain ⟨t, rfl⟩ := r
    exact call_range_1 (range_it I1 (by omega) (by omega) q1 q2 (by simpa using q))
theorem pi_range2 {a b : Expr} {ta : TA} {p pos : Pos} (hg : Gl X "range") (hm : X.mg "range" = none) (ha : PA X [a, b] ta) (hs : starEach [a, b] X.env = [(false, eval a X.env), (false, eval b X.env)] := by rfl) (hs2 : starEach [b] X.env = [(false, eval b X.env)] := by rfl) :
    PI X tg (.Call (.Name "range" p) [a, b] [] pos) (iRng2 ta) := by
  intro pins s σ H R I h
  refine Call_ (ld_blt I hg hm boot_range (PyProof.Rows.callWith_type1 (thn (ha pos pins s σ H _ I h) fun us s1 ⟨vs, H1, I1, r1, q1⟩ => ?_) (by rw [hs, hs2]) (by rw [hs2]; rfl)))
  obtain ⟨i, j, e, ⟨q1, q2, q3, q4⟩, q⟩ := q1
  subst e
  cases r1 with
  | cons r rr =>
    cases rr with
    | cons r' rr =>
      cases rr
      obtain ⟨t, rfl⟩ := r
      obtain ⟨t', rfl⟩ := r'
      exact call_range_2 (range_it I1 q1 q2 q3 q4 q)
def tFor (wi : TI) (g : TG) (tb : TS) : TS := fun D σ H => wi σ H fun J H1 => ∃ W : Nat → Nat → St → Hp → Prop, (∃ m, W 0 m σ H1) ∧ ∀ i m σ H, W i m σ H →
  (J.stop i H ∧ D.nx σ H) ∨ (J.go i H ∧ ∃ N : St → Hp → Prop, (∀ σ' H', N σ' H' → ∃ m', m' < m ∧ W (i + 1) m' σ' H') ∧ ∀ x H', J.yld i H x H' → g x σ H' fun σ2 H2 => tb { D with nx := N, ct := N, bk := D.nx } σ2 H2)
def pinsAt (fp : List Addr) (h : Heap) : List (Addr × Obj) := fp.filterMap fun b => (h.get? b).map fun o => (b, o)
theorem mem_pinsAt {fp : List Addr} {h : Heap} {b : Addr} {o : Obj} (hb : b ∈ fp) (e : h.get? b = some o) : (b, o) ∈ pinsAt fp h := List.mem_filterMap.mpr ⟨b, hb, by rw [e]; rfl⟩
theorem of_pinsAt {fp : List Addr} {h : Heap} {p : Addr × Obj} (hp : p ∈ pinsAt fp h) : p.1 ∈ fp ∧ h.get? p.1 = some p.2 := by
  obtain ⟨b, hb, e⟩ := List.mem_filterMap.mp hp
  cases q : h.get? b with
  | none => rw [q] at e; cases e
  | some o =>
    rw [q] at e
    have e' : (b, o) = p := Option.some.inj e
    subst e'
    exact ⟨hb, q⟩
theorem Inv.pinned {pins : List (Addr × Obj)} {σ : St} {H : Hp} {s : Shared} {fp : List Addr} (I : Inv X pins σ H s) (hf : ∀ b ∈ fp, FpOk X pins H b) (ho : ∀ b ∈ fp, ∃ o, s.heap.get? b = some o ∧ ∀ v, o.data ≠ .cell v) : Inv X (pins ++ pinsAt fp s.heap) σ H s :=
  I.pins_of fun p hp => (List.mem_append.mp hp).elim (fun z => I.pin p (List.mem_append_right _ z)) fun z => by
    obtain ⟨hb, e⟩ := of_pinsAt z
    obtain ⟨f0, f1, f2, _⟩ := hf p.1 hb
    obtain ⟨o, e', d⟩ := ho p.1 hb
    rw [e] at e'; cases e'
    exact ⟨e, f0, f1, f2, d⟩
theorem Inv.unpinned {pins pl : List (Addr × Obj)} {σ : St} {H : Hp} {s : Shared} (I : Inv X (pins ++ pl) σ H s) : Inv X pins σ H s := I.pins_of fun p hp => I.pin p (List.mem_append_right _ (List.mem_append_left _ hp))
theorem ps_for {iter : Expr} {body : List Stmt} {wi : TI} {g : TG} {tb : TS} {pos : Pos} (hp : PassesOwn (model X.prog X.w) X.A X.env X.xe) (hc : X.calm = true) (hi : PI X tg iter wi) (hg : PG X tg g) (hb : PSs X body tb)
    (hs : ∀ x, foldedSetIterable iter X.env x = pure x := by intro _; rfl) : PS X (.For tg iter body [] pos) (tFor wi g tb) := by
  intro pins s σ H D I h
  refine wpAny_For (thn (hi pins s σ H _ I h) fun v s1 h1 => thn h1 fun itv s2 h2 => ?_) hs
  obtain ⟨it, fp, tn, J, H2, e, I2, T, st2, f2, W, ⟨m0, w0⟩, turn⟩ := h2
  subst e
  have stat : ∀ {H' : Hp}, (∀ b ∈ fp, H' b = none) → ∀ b ∈ fp, FpOk X pins H' b := fun hn b hb => ⟨hn b hb, (f2 b hb).2⟩
  refine codeAny_forLoop_any (fun n s' => ∃ i σ' H', Inv X pins σ' H' s' ∧ tn i s'.heap ∧ (∀ b ∈ fp, H' b = none) ∧ W i n σ' H') ?_ m0 ⟨0, σ, H2, I2, st2, fun b hb => (f2 b hb).1, w0⟩
  rintro n s3 ⟨i, σ3, H3, I3, st3, fr3, w3⟩
  rcases turn i n σ3 H3 w3 with ⟨stop, qn⟩ | ⟨go, N, hN, step⟩
  · refine wpAny_passesOwn hp (thn (T.done X rfl rfl rfl hc i pins s3 σ3 H3 X.xe I3 (stat fr3) st3 stop) fun r s4 ⟨hr, I4⟩ => ?_)
    subst hr
    exact wpAny_execs_nil ⟨σ3, H3, I4, qn⟩
  · refine wpAny_passesOwn hp (thn (T.item X rfl rfl rfl hc i pins s3 σ3 H3 X.xe I3 (stat fr3) st3 go) fun r s4 ⟨u, hr, h4⟩ => ?_)
    subst hr
    refine wpAny_passesOwn hp (thn h4 fun _ s5 ⟨x, H5, I5, r5, y5, st5, fr5⟩ => ?_)
    have I5' := I5.pinned (stat fr5) (T.obj _ _ st5)
    refine wpAny_passesOwn hp (thn (hg _ s5 σ3 H5 x u _ I5' r5 (step x H5 y5)) fun _ s6 ⟨σ6, H6, I6, q6⟩ => ?_)
    refine wpAny_passesOwn hp (thn (hb _ s6 σ6 H6 _ I6 q6) fun f s7 q7 => ?_)
    have again : ∀ {σ7 : St} {H7 : Hp}, Inv X (pins ++ pinsAt fp s5.heap) σ7 H7 s7 → N σ7 H7 → ∃ m, m < n ∧ ∃ i σ' H', Inv X pins σ' H' s7 ∧ tn i s7.heap ∧ (∀ b ∈ fp, H' b = none) ∧ W i m σ' H' := fun {σ7 H7} I7 n7 => by
      obtain ⟨m', hm, w7⟩ := hN σ7 H7 n7
      refine ⟨m', hm, i + 1, σ7, H7, I7.unpinned, T.keep _ _ _ st5 fun b hb o e => (I7.pin (b, o) (List.mem_append_right _ (List.mem_append_right _ (mem_pinsAt hb e)))).1, fun b hb => ?_, w7⟩
      obtain ⟨o, e, d⟩ := T.obj _ _ st5 b hb
      exact (I7.pin (b, o) (List.mem_append_right _ (List.mem_append_right _ (mem_pinsAt hb e)))).2.1
    cases f with
    | next => obtain ⟨σ7, H7, I7, n7⟩ := q7; exact again I7 n7
    | cont => obtain ⟨σ7, H7, I7, n7⟩ := q7; exact again I7 n7
    | brk => obtain ⟨σ7, H7, I7, q7⟩ := q7; exact ⟨σ7, H7, I7.unpinned, q7⟩
    | ret v => obtain ⟨x7, σ7, H7, I7, r7, q7⟩ := q7; exact ⟨x7, σ7, H7, I7.unpinned, r7, q7⟩
end
theorem for_list {K : PySem.W.Frag} {a : Addr} {xs : List V} {g : TG} {tb : TS} {D : Ends} {σ : St} {H : Hp} (Pv : Nat → St → Hp → Prop) (h0 : Pv 0 σ H) (hl : ∀ i σ H, i ≤ xs.length → Pv i σ H → SqL K H a xs)
    (hs : ∀ i x σ H, xs[i]? = some x → Pv i σ H → g x σ H fun σ2 H2 => tb { D with nx := Pv (i + 1), ct := Pv (i + 1), bk := D.nx } σ2 H2) (hd : ∀ σ H, Pv xs.length σ H → D.nx σ H) :
    ∃ W : Nat → Nat → St → Hp → Prop, (∃ m, W 0 m σ H) ∧ ∀ i m σ H, W i m σ H →
      ((Itl K a).stop i H ∧ D.nx σ H) ∨ ((Itl K a).go i H ∧ ∃ N : St → Hp → Prop, (∀ σ' H', N σ' H' → ∃ m', m' < m ∧ W (i + 1) m' σ' H') ∧ ∀ x H', (Itl K a).yld i H x H' → g x σ H' fun σ2 H2 => tb { D with nx := N, ct := N, bk := D.nx } σ2 H2) := by
  refine ⟨fun i m σ H => m = xs.length - i ∧ i ≤ xs.length ∧ Pv i σ H, ⟨xs.length, by simp, Nat.zero_le _, h0⟩, ?_⟩
  rintro i m σ H ⟨rfl, hi, p⟩
  have q := hl i σ H hi p
  by_cases hlt : i < xs.length
  · refine .inr ⟨⟨xs, xs[i], q, by simp [hlt]⟩, Pv (i + 1), fun σ' H' p' => ⟨xs.length - (i + 1), by omega, rfl, hlt, p'⟩, fun x H' y => ?_⟩
    obtain ⟨e, y⟩ := y
    subst e
    exact hs i x σ _ (y xs q) p
  · have e : i = xs.length := by omega
    subst e
    exact .inl ⟨⟨xs, q, Nat.le_refl _⟩, hd σ H p⟩
theorem for_range {lo : Int} {n : Nat} {g : TG} {tb : TS} {D : Ends} {σ : St} {H : Hp} (Pv : Nat → St → Hp → Prop) (h0 : Pv 0 σ H)
    (hs : ∀ i σ H, i < n → Pv i σ H → g (.int (lo + i)) σ H fun σ2 H2 => tb { D with nx := Pv (i + 1), ct := Pv (i + 1), bk := D.nx } σ2 H2) (hd : ∀ σ H, Pv n σ H → D.nx σ H) :
    ∃ W : Nat → Nat → St → Hp → Prop, (∃ m, W 0 m σ H) ∧ ∀ i m σ H, W i m σ H →
      ((Itr lo n).stop i H ∧ D.nx σ H) ∨ ((Itr lo n).go i H ∧ ∃ N : St → Hp → Prop, (∀ σ' H', N σ' H' → ∃ m', m' < m ∧ W (i + 1) m' σ' H') ∧ ∀ x H', (Itr lo n).yld i H x H' → g x σ H' fun σ2 H2 => tb { D with nx := N, ct := N, bk := D.nx } σ2 H2) := by
  refine ⟨fun i m σ H => m = n - i ∧ i ≤ n ∧ Pv i σ H, ⟨n, by simp, Nat.zero_le _, h0⟩, ?_⟩
  rintro i m σ H ⟨rfl, hi, p⟩
  by_cases hlt : i < n
  · refine .inr ⟨hlt, Pv (i + 1), fun σ' H' p' => ⟨n - (i + 1), by omega, rfl, hlt, p'⟩, fun x H' y => ?_⟩
    obtain ⟨e, y⟩ := y
    subst e y
    exact hs i σ _ hlt p
  · have e : i = n := by omega
    subst e
    exact .inl ⟨Nat.le_refl _, hd σ H p⟩
end L2
namespace L2
open PySem PySem.Spec PyProof.Rows
abbrev R2 := V → V → Hp → VK → Prop
def OpR (X : Cx) (f : Value → Value → Sem Value) (r : R2) : Prop :=
  ∀ (pins : List (Addr × Obj)) (s : Shared) (σ : St) (H : Hp) (x y : V) (v u : Value) (Q : VK), Inv X pins σ H s → RelV x v → RelV y u → r x y H Q →
    wpAny (model X.prog X.w) X.A (f v u) (EP X pins σ Q) X.xe s
def CallR (X : Cx) (f : Value) (r : List V → Hp → VK → Prop) : Prop :=
  ∀ (pins : List (Addr × Obj)) (s : Shared) (σ : St) (H : Hp) (xs : List V) (us : List Value) (Q : VK), Inv X pins σ H s → Vals xs us → r xs H Q →
    wpAny (model X.prog X.w) X.A (call f us) (EP X pins σ Q) X.xe s
def TruR (X : Cx) (r : V → Hp → (Bool → Hp → Prop) → Prop) : Prop :=
  ∀ (pins : List (Addr × Obj)) (s : Shared) (σ : St) (H : Hp) (x : V) (v : Value) (Q : Bool → Hp → Prop), Inv X pins σ H s → RelV x v → r x H Q →
    wpAny (model X.prog X.w) X.A (truthy v) (TP X pins σ Q) X.xe s
def tOp (r : R2) (ta tb : TE) : TE := fun σ H Q => ta σ H fun x H1 => tb σ H1 fun y H2 => r x y H2 Q
def rI (C : Int → Int → Prop) (g : Int → Int → V) : R2 := fun x y H Q => ∃ i j, x = .int i ∧ y = .int j ∧ C i j ∧ Q (g i j) H
def rI0 (g : Int → Int → V) : R2 := fun x y H Q => ∃ i j, x = .int i ∧ y = .int j ∧ Q (g i j) H
section
variable {X : Cx} {a b c : Expr} {ta tb tc : TE} {pos : Pos}
theorem binT (ha : PE X a ta) (hb : PE X b tb) {pins : List (Addr × Obj)} {s : Shared} {σ : St} {H : Hp} {R : V → V → Hp → Prop} (I : Inv X pins σ H s)
    (h : ta σ H fun x H1 => tb σ H1 fun y H2 => R x y H2) {Q : Value → Shared → Prop} {f : Value → Value → Sem Value}
    (hf : ∀ v u s2 x y H2, Inv X pins σ H2 s2 → RelV x v → RelV y u → R x y H2 → wpAny (model X.prog X.w) X.A (f v u) Q X.xe s2) :
    wpAny (model X.prog X.w) X.A (eval a X.env) (fun v s₁ => wpAny (model X.prog X.w) X.A (eval b X.env) (fun u s₂ => wpAny (model X.prog X.w) X.A (f v u) Q X.xe s₂) X.xe s₁) X.xe s := by
  refine thn (ha pins s σ H _ I h) fun v s1 ⟨x, H1, I1, r1, q1⟩ => ?_
  refine thn (hb pins s1 σ H1 _ I1 q1) fun u s2 ⟨y, H2, I2, r2, q2⟩ => ?_
  exact hf v u s2 x y H2 I2 r1 r2 q2
theorem pe_op {op : Operator} {r : R2} (ho : OpR X (binaryOp op) r) (ha : PE X a ta) (hb : PE X b tb) : PE X (.BinOp a op b pos) (tOp r ta tb) := by
  intro pins s σ H Q I h
  exact wpAny_BinOp (binT ha hb I h fun v u s2 x y H2 I2 rx ry q => ho pins s2 σ H2 x y v u Q I2 rx ry q)
theorem opI {f : Value → Value → Sem Value} {C : Int → Int → Prop} {g : Int → Int → Int}
    (rule : ∀ (i j : Int) (t u : Tok) (s : Shared) (Q : Value → Shared → Prop) (E : Value → Shared → Prop), C i j → Q (.int (g i j) s.toks) { s with toks := s.toks + 1 } → wpAny (model X.prog X.w) X.A (f (.int i t) (.int j u)) Q E s) :
    OpR X f (rI C fun i j => .int (g i j)) := by
  intro pins s σ H x y v u Q I rx ry h
  obtain ⟨i, j, rfl, rfl, hc, q⟩ := h
  obtain ⟨t, rfl⟩ := rx
  obtain ⟨t', rfl⟩ := ry
  exact rule i j t t' s _ _ hc ⟨.int (g i j), H, I.tok _, ⟨_, rfl⟩, q⟩
theorem opI0 {f : Value → Value → Sem Value} {g : Int → Int → Int}
    (rule : ∀ (i j : Int) (t u : Tok) (s : Shared) (Q : Value → Shared → Prop) (E : Value → Shared → Prop), Q (.int (g i j) s.toks) { s with toks := s.toks + 1 } → wpAny (model X.prog X.w) X.A (f (.int i t) (.int j u)) Q E s) :
    OpR X f (rI0 fun i j => .int (g i j)) := by
  intro pins s σ H x y v u Q I rx ry h
  obtain ⟨i, j, rfl, rfl, q⟩ := h
  obtain ⟨t, rfl⟩ := rx
  obtain ⟨t', rfl⟩ := ry
  exact rule i j t t' s _ _ ⟨.int (g i j), H, I.tok _, ⟨_, rfl⟩, q⟩
theorem opB0 {f : Value → Value → Sem Value} {g : Int → Int → Bool}
    (rule : ∀ (i j : Int) (t u : Tok) (s : Shared) (Q : Value → Shared → Prop) (E : Value → Shared → Prop), Q (.bool (g i j)) s → wpAny (model X.prog X.w) X.A (f (.int i t) (.int j u)) Q E s) :
    OpR X f (rI0 fun i j => .bl (g i j)) := by
  intro pins s σ H x y v u Q I rx ry h
  obtain ⟨i, j, rfl, rfl, q⟩ := h
  obtain ⟨t, rfl⟩ := rx
  obtain ⟨t', rfl⟩ := ry
  exact rule i j t t' s _ _ ⟨.bl (g i j), H, I, rfl, q⟩
def CPow (i j : Int) : Prop := 0 ≤ j ∧ j ≤ 1000000 ∧ i.natAbs < 2 ^ 64
theorem op_add : OpR X (binaryOp .Add) (rI0 fun i j => .int (i + j)) := opI0 fun _ _ _ _ _ _ _ q => add_int q
theorem op_mod : OpR X (binaryOp .Mod) (rI (fun _ j => 0 < j) fun i j => .int (i % j)) := opI fun i j _ _ _ _ _ hc q => by
  have h1 : (0 : Int) < j := hc
  exact mod_int' (by omega) (by rw [Int.fmod_eq_emod_of_nonneg i (by omega)]; exact q)
theorem op_pow : OpR X (binaryOp .Pow) (rI CPow fun i j => .int (i ^ j.toNat)) := opI fun _ _ _ _ _ _ _ hc q => pow_int_small hc.1 hc.2.1 hc.2.2 q
end
def scal : V → V → Bool
  | .non, .non => true | .non, .int _ => true | .int _, .non => true | .non, .bl _ => true | .bl _, .non => true | .non, .str _ => true | .str _, .non => true
  | .int _, .int _ => true | .bl _, .bl _ => true | .str _, .str _ => true | .byt _, .byt _ => true
  | .int _, .str _ => true | .str _, .int _ => true | .bl _, .str _ => true | .str _, .bl _ => true
  | _, _ => false
def rEq : R2 := fun x y H Q => scal x y = true ∧ Q (.bl (decide (x = y))) H
def rNe : R2 := fun x y H Q => scal x y = true ∧ Q (.bl (!decide (x = y))) H
theorem dec_int {i j : Int} : decide (V.int i = V.int j) = (i == j) := by
  rw [Bool.eq_iff_iff]
  simp
theorem dec_bl {i j : Bool} : decide (V.bl i = V.bl j) = (i == j) := by
  rw [Bool.eq_iff_iff]
  simp
theorem dec_str {i j : Str} : decide (V.str i = V.str j) = (i == j) := by
  rw [Bool.eq_iff_iff]
  simp
theorem dec_byt {i j : Array UInt8} : decide (V.byt i = V.byt j) = (i.toList == j.toList) := by
  rw [Bool.eq_iff_iff]
  cases i
  cases j
  simp
section
variable {X : Cx} {a b c : Expr} {ta tb tc : TE} {pos : Pos}
theorem fin_bl {pins : List (Addr × Obj)} {σ : St} {H : Hp} {s : Shared} {Q : VK} {k k' : Bool} (I : Inv X pins σ H s) (q : Q (.bl k) H) (e : k = k') : EP X pins σ Q (.bool k') s := by
  subst e
  exact ⟨.bl k, H, I, rfl, q⟩
theorem op_eq : OpR X (compareOp .Eq) rEq := by
  intro pins s σ H x y v u Q I rx ry h
  obtain ⟨hs, q⟩ := h
  cases x with
  | non =>
    cases rx
    cases y with
    | non => cases ry; exact PySem.EqNone.eq_none_none (fin_bl I q (by simp))
    | bl j => cases ry; exact PySem.EqNone.eq_none_bool (fin_bl I q (by simp))
    | int j => obtain ⟨t', rfl⟩ := ry; exact PySem.EqNone.eq_none_int (fin_bl I q (by simp))
    | str j => obtain ⟨t', rfl⟩ := ry; exact PySem.EqNone.eq_none_str (fin_bl I q (by simp))
    | _ => exact absurd (show false = true from hs) Bool.false_ne_true
  | bl i =>
    cases rx
    cases y with
    | non => cases ry; exact PySem.EqNone.eq_bool_none (fin_bl I q (by simp))
    | bl j => cases ry; exact eq_bool (fin_bl I q dec_bl)
    | str j => obtain ⟨t', rfl⟩ := ry; exact PySem.EqMixed.eq_bool_str (fin_bl I q (by simp))
    | _ => exact absurd (show false = true from hs) Bool.false_ne_true
  | int i =>
    obtain ⟨t, rfl⟩ := rx
    cases y with
    | non => cases ry; exact PySem.EqNone.eq_int_none (fin_bl I q (by simp))
    | int j => obtain ⟨t', rfl⟩ := ry; exact eq_int (fin_bl I q dec_int)
    | str j => obtain ⟨t', rfl⟩ := ry; exact PySem.EqMixed.eq_int_str (fin_bl I q (by simp))
    | _ => exact absurd (show false = true from hs) Bool.false_ne_true
  | str i =>
    obtain ⟨t, rfl⟩ := rx
    cases y with
    | non => cases ry; exact PySem.EqNone.eq_str_none (fin_bl I q (by simp))
    | bl j => cases ry; exact PySem.EqMixed.eq_str_bool (fin_bl I q (by simp))
    | int j => obtain ⟨t', rfl⟩ := ry; exact PySem.EqMixed.eq_str_int (fin_bl I q (by simp))
    | str j => obtain ⟨t', rfl⟩ := ry; exact eq_str (fin_bl I q dec_str)
    | _ => exact absurd (show false = true from hs) Bool.false_ne_true
  | byt i =>
    obtain ⟨t, rfl⟩ := rx
    cases y with
    | byt j => obtain ⟨t', rfl⟩ := ry; exact PySem.W.eq_bytes (fin_bl I q dec_byt)
    | _ => exact absurd (show false = true from hs) Bool.false_ne_true
  | _ => cases y <;> exact absurd (show false = true from hs) Bool.false_ne_true
theorem op_ne : OpR X (compareOp .NotEq) rNe := by
  intro pins s σ H x y v u Q I rx ry h
  obtain ⟨hs, q⟩ := h
  cases x with
  | non =>
    cases rx
    cases y with
    | non => cases ry; exact PySem.EqNone.ne_none_none (fin_bl I q (by simp))
    | bl j => cases ry; exact PySem.EqNone.ne_none_bool (fin_bl I q (by simp))
    | int j => obtain ⟨t', rfl⟩ := ry; exact PySem.EqNone.ne_none_int (fin_bl I q (by simp))
    | str j => obtain ⟨t', rfl⟩ := ry; exact PySem.EqNone.ne_none_str (fin_bl I q (by simp))
    | _ => exact absurd (show false = true from hs) Bool.false_ne_true
  | bl i =>
    cases rx
    cases y with
    | non => cases ry; exact PySem.EqNone.ne_bool_none (fin_bl I q (by simp))
    | bl j => cases ry; exact ne_bool (fin_bl I q (congrArg not dec_bl))
    | str j => obtain ⟨t', rfl⟩ := ry; exact PySem.EqMixed.ne_bool_str (fin_bl I q (by simp))
    | _ => exact absurd (show false = true from hs) Bool.false_ne_true
  | int i =>
    obtain ⟨t, rfl⟩ := rx
    cases y with
    | non => cases ry; exact PySem.EqNone.ne_int_none (fin_bl I q (by simp))
    | int j => obtain ⟨t', rfl⟩ := ry; exact ne_int (fin_bl I q (congrArg not dec_int))
    | str j => obtain ⟨t', rfl⟩ := ry; exact PySem.EqMixed.ne_int_str (fin_bl I q (by simp))
    | _ => exact absurd (show false = true from hs) Bool.false_ne_true
  | str i =>
    obtain ⟨t, rfl⟩ := rx
    cases y with
    | non => cases ry; exact PySem.EqNone.ne_str_none (fin_bl I q (by simp))
    | bl j => cases ry; exact PySem.EqMixed.ne_str_bool (fin_bl I q (by simp))
    | int j => obtain ⟨t', rfl⟩ := ry; exact PySem.EqMixed.ne_str_int (fin_bl I q (by simp))
    | str j => obtain ⟨t', rfl⟩ := ry; exact ne_str (fin_bl I q (congrArg not dec_str))
    | _ => exact absurd (show false = true from hs) Bool.false_ne_true
  | byt i =>
    obtain ⟨t, rfl⟩ := rx
    cases y with
    | byt j => obtain ⟨t', rfl⟩ := ry; exact PySem.W.ne_bytes (fin_bl I q (congrArg not dec_byt))
    | _ => exact absurd (show false = true from hs) Bool.false_ne_true
  | _ => cases y <;> exact absurd (show false = true from hs) Bool.false_ne_true
theorem op_lt : OpR X (compareOp .Lt) (rI0 fun i j => .bl (decide (i < j))) := opB0 fun _ _ _ _ _ _ _ q => lt_int q
theorem op_le : OpR X (compareOp .LtE) (rI0 fun i j => .bl (decide (i ≤ j))) := opB0 fun _ _ _ _ _ _ _ q => le_int q
theorem op_gt : OpR X (compareOp .Gt) (rI0 fun i j => .bl (decide (j < i))) := opB0 fun _ _ _ _ _ _ _ q => gt_int q
theorem op_in_str : OpR X (compareOp .In) (fun x y H Q => ∃ i j, x = .str i ∧ y = .str j ∧ Q (.bl (!(Builtin.Str.occurrences j i 0 j.length 1).isEmpty)) H) := by
  intro pins s σ H x y v u Q I rx ry h
  obtain ⟨i, j, rfl, rfl, q⟩ := h
  obtain ⟨t, rfl⟩ := rx
  obtain ⟨t', rfl⟩ := ry
  exact in_str (fin_bl I q rfl)
theorem op_isN : OpR X (compareOp .Is) (fun x y H Q => y = .non ∧ Q (.bl (decide (x = .non))) H) := by
  intro pins s σ H x y v u Q I rx ry h
  obtain ⟨rfl, q⟩ := h
  cases ry
  refine is_none_gen (fin_bl I q ?_)
  cases x <;> first
    | (cases rx; rfl)
    | (obtain ⟨t, rfl⟩ := rx; rfl)
theorem op_notin_str : OpR X (compareOp .NotIn) (fun x y H Q => ∃ i j, x = .str i ∧ y = .str j ∧ Q (.bl (!(!(Builtin.Str.occurrences j i 0 j.length 1).isEmpty))) H) := by
  intro pins s σ H x y v u Q I rx ry h
  obtain ⟨i, j, rfl, rfl, q⟩ := h
  obtain ⟨t, rfl⟩ := rx
  obtain ⟨t', rfl⟩ := ry
  exact notIn_str (fin_bl I q rfl)
theorem OpR.or {f : Value → Value → Sem Value} {r r' : R2} (h : OpR X f r) (h' : OpR X f r') : OpR X f (fun x y H Q => r x y H Q ∨ r' x y H Q) := by
  intro pins s σ H x y v u Q I rx ry q
  rcases q with q | q
  · exact h pins s σ H x y v u Q I rx ry q
  · exact h' pins s σ H x y v u Q I rx ry q
theorem nomark (b : Expr) {op : CmpOp} (h : op ≠ .In := by decide) (h2 : op ≠ .NotIn := by decide) : behindInMarks op b = false := by
  have e1 : (op == CmpOp.In) = false := by cases op <;> first | rfl | exact absurd rfl h
  have e2 : (op == CmpOp.NotIn) = false := by cases op <;> first | rfl | exact absurd rfl h2
  cases b <;> simp [behindInMarks, e1, e2]
theorem pe_cmpR {op : CmpOp} {r : R2} (ho : OpR X (compareOp op) r) (ha : PE X a ta) (hb : PE X b tb) (hm : behindInMarks op b = false) : PE X (.Compare a [op] [b] pos) (tOp r ta tb) := by
  intro pins s σ H Q I h
  exact wpAny_Compare1 (binT ha hb I h fun v u s2 x y H2 I2 rx ry q => ho pins s2 σ H2 x y v u Q I2 rx ry q) hm
def tTest (t : TE) : TT := fun σ H Q => t σ H fun x H' => ∃ k, x = .bl k ∧ Q k H'
theorem pt_cmpR {op : CmpOp} {r : R2} (ho : OpR X (compareOp op) r) (ha : PE X a ta) (hb : PE X b tb) (hm : behindInMarks op b = false) : PT X (.Compare a [op] [b] pos) (tTest (tOp r ta tb)) := by
  intro pins s σ H Q I h
  refine wpAny_isTrue_Compare1 (thn (ha pins s σ H _ I h) fun v s1 ⟨x, H1, I1, r1, q1⟩ => thn (hb pins s1 σ H1 _ I1 q1) fun u s2 ⟨y, H2, I2, r2, q2⟩ =>
    thn (ho pins s2 σ H2 x y v u _ I2 r1 r2 q2) fun c s3 ⟨z, H3, I3, r3, k, e, q3⟩ => ?_) hm
  subst e
  cases r3
  exact wpAny_truthy_bool ⟨H3, I3, q3⟩
def tChain (r r' : R2) (ta tb tc : TE) : TE := fun σ H Q => ta σ H fun x H1 => tb σ H1 fun y H2 => r x y H2 fun z H3 => ∃ k, z = .bl k ∧
  (if k = true then tc σ H3 fun w' H4 => r' y w' H4 Q else Q (.bl false) H3)
theorem pe_chain {op op' : CmpOp} {r r' : R2} (ho : OpR X (compareOp op) r) (ho' : OpR X (compareOp op') r') (ha : PE X a ta) (hb : PE X b tb) (hc : PE X c tc)
    (hm : lastMarks [op, op'] [b, c] = false := by with_unfolding_all rfl) : PE X (.Compare a [op, op'] [b, c] pos) (tChain r r' ta tb tc) := by
  intro pins s σ H Q I h
  refine Compare_chain (thn (ha pins s σ H _ I h) fun v s1 ⟨x, H1, I1, r1, q1⟩ => chain_link (thn (hb pins s1 σ H1 _ I1 q1) fun u s2 ⟨y, H2, I2, r2, q2⟩ =>
    thn (ho pins s2 σ H2 x y v u _ I2 r1 r2 q2) fun d s3 ⟨z, H3, I3, r3, k, e, q3⟩ => ?_)) hm
  subst e
  cases r3
  refine wpAny_truthy_bool ?_
  cases k with
  | false => exact ite_ff ⟨.bl false, H3, I3, rfl, q3⟩
  | true => exact ite_tt (chain_last (thn (hc pins s3 σ H3 _ I3 q3) fun w' s4 ⟨z', H4, I4, r4, q4⟩ => ho' pins s4 σ H4 y z' u w' Q I4 r2 r4 q4))
theorem pt_chain {op op' : CmpOp} {r r' : R2} (ho : OpR X (compareOp op) r) (ho' : OpR X (compareOp op') r') (ha : PE X a ta) (hb : PE X b tb) (hc : PE X c tc)
    (hm : lastMarks [op, op'] [b, c] = false := by with_unfolding_all rfl) : PT X (.Compare a [op, op'] [b, c] pos) (tTest (tChain r r' ta tb tc)) := by
  intro pins s σ H Q I h
  refine isTrue_chain (thn (ha pins s σ H _ I h) fun v s1 ⟨x, H1, I1, r1, q1⟩ => test_link (thn (hb pins s1 σ H1 _ I1 q1) fun u s2 ⟨y, H2, I2, r2, q2⟩ =>
    thn (ho pins s2 σ H2 x y v u _ I2 r1 r2 q2) fun d s3 ⟨z, H3, I3, r3, k, e, q3⟩ => ?_)) hm
  subst e
  cases r3
  refine wpAny_truthy_bool ?_
  cases k with
  | false =>
    obtain ⟨k', e', q'⟩ := q3
    cases e'
    exact ite_ff ⟨H3, I3, q'⟩
  | true =>
    refine ite_tt (test_last (thn (hc pins s3 σ H3 _ I3 q3) fun w' s4 ⟨z', H4, I4, r4, q4⟩ => thn (ho' pins s4 σ H4 y z' u w' _ I4 r2 r4 q4) fun d' s5 ⟨z2, H5, I5, r5, k2, e2, q5⟩ => ?_))
    subst e2
    cases r5
    exact wpAny_truthy_bool ⟨H5, I5, q5⟩
def TruV (K : PySem.W.Frag) (x : V) (H : Hp) (k : Bool) : Prop :=
  match x with
  | .non => k = false
  | .bl b => k = b
  | .int i => k = (i != 0)
  | .str y => y.length ≤ sizeLine ∧ k = ((y.length : Int) != 0)
  | .byt y => y.size ≤ sizeLine ∧ k = ((y.size : Int) != 0)
  | .ref p => (∃ xs, SqL K H p xs ∧ k = !xs.isEmpty) ∨ (∃ xs, SqT K H p xs ∧ k = !xs.isEmpty) ∨ ∃ kvs, H p = some (.dK kvs) ∧ k = !kvs.isEmpty
  | _ => False
theorem isEmpty_kv {κ : Type} {kvs : List (κ × V)} {vs : List (κ × Value)} (r : KV kvs vs) : (!vs.isEmpty) = !kvs.isEmpty := by
  cases r <;> rfl
theorem isEmpty_of {xs : List V} {its : List Value} (r : Vals xs its) : (!its.toArray.isEmpty) = !xs.isEmpty := by
  cases r <;> simp
theorem line63 : (sizeLine : Nat) < 2 ^ 63 := by rw [sizeLine_eq]; decide
theorem tru_ok : TruR X (fun x H Q => ∃ k, TruV X.K x H k ∧ Q k H) := by
  intro pins s σ H x v Q I rx h
  obtain ⟨k, e, q⟩ := h
  have hl := line63
  have hs : sizeLine = 16777216 := sizeLine_eq
  cases x with
  | non =>
    cases rx
    have e' : k = false := e
    subst e'
    exact truthy_none ⟨H, I, q⟩
  | bl b =>
    cases rx
    have e' : k = b := e
    subst e'
    exact wpAny_truthy_bool ⟨H, I, q⟩
  | int i =>
    obtain ⟨t, rfl⟩ := rx
    have e' : k = (i != 0) := e
    subst e'
    exact PySem.P.truthy_int ⟨H, I, q⟩
  | str y =>
    obtain ⟨t, rfl⟩ := rx
    obtain ⟨hy, e'⟩ : y.length ≤ sizeLine ∧ k = ((y.length : Int) != 0) := e
    subst e'
    exact PySem.P.truthy_str (by omega) ⟨H, I.tok _, q⟩
  | byt y =>
    obtain ⟨t, rfl⟩ := rx
    obtain ⟨hy, e'⟩ : y.size ≤ sizeLine ∧ k = ((y.size : Int) != 0) := e
    subst e'
    exact PySem.W.truthy_bytes (by omega) ⟨H, I.tok _, q⟩
  | ref p =>
    cases rx
    have e' : (∃ xs, SqL X.K H p xs ∧ k = !xs.isEmpty) ∨ (∃ xs, SqT X.K H p xs ∧ k = !xs.isEmpty) ∨ ∃ kvs, H p = some (.dK kvs) ∧ k = !kvs.isEmpty := e
    rcases e' with ⟨xs, hx, e'⟩ | ⟨xs, hx, e'⟩ | ⟨kvs, hx, e'⟩
    · subst e'
      obtain ⟨its, r, pl, hz⟩ := I.list hx
      have hlen := r.length
      exact wpAny_truthy_list pl.isList (by simp only [List.size_toArray]; omega) ⟨H, I.tok _, by rw [isEmpty_of r]; exact q⟩
    · subst e'
      obtain ⟨its, r, pl, hz⟩ := I.tuple hx
      have hlen := r.length
      exact truthy_tuple pl (by simp only [List.size_toArray]; omega) ⟨H, I.tok _, by rw [isEmpty_of r]; exact q⟩
    · subst e'
      obtain ⟨hz, hS, vs, r, m⟩ : kvs.length ≤ sizeLine ∧ (p == sysModules) = false ∧ ∃ vs, KV kvs vs ∧ s.heap.DictOf (mixKind X.prog X.w) p vs := I.hok p _ hx
      have hlen : kvs.length = vs.length := Paired.length r
      exact wpAny_truthy_dict hS m (by omega) ⟨H, I.tok _, by rw [isEmpty_kv r]; exact q⟩
  | _ => exact (show False from e).elim
theorem pt_truth (ha : PE X a ta) (he : ∀ whole, isTrue a X.env whole = (do let v ← whole; standAt a.pos; holding [v] (truthy v))) :
    PT X a (fun σ H Q => ta σ H fun x H' => ∃ k, TruV X.K x H' k ∧ Q k H') := by
  intro pins s σ H Q I h
  exact isTrue_plain (thn (ha pins s σ H _ I h) fun v s1 ⟨x, H1, I1, r1, q1⟩ => tru_ok pins s1 σ H1 x v Q I1 r1 q1) (he _)
theorem op_add_str : OpR X (binaryOp .Add) (fun x y H Q => ∃ i j, x = .str i ∧ y = .str j ∧ i.length + j.length ≤ sizeLine ∧ Q (.str (i ++ j)) H) := by
  intro pins s σ H x y v u Q I rx ry h
  obtain ⟨i, j, rfl, rfl, hz, q⟩ := h
  obtain ⟨t, rfl⟩ := rx
  obtain ⟨t', rfl⟩ := ry
  exact add_str (fun t' tk => ⟨.str (i ++ j), H, I.tok _, ⟨_, rfl⟩, q⟩) hz
theorem vals1 {x : V} {us : List Value} (r : Vals [x] us) : ∃ u, us = [u] ∧ RelV x u := by
  cases r with
  | cons r1 r2 => cases r2; exact ⟨_, rfl, r1⟩
theorem vals2 {x y : V} {us : List Value} (r : Vals [x, y] us) : ∃ u w', us = [u, w'] ∧ RelV x u ∧ RelV y w' := by
  cases r with
  | cons r1 r2 =>
    cases r2 with
    | cons r3 r4 => cases r4; exact ⟨_, _, rfl, r1, r3⟩
theorem call_max2 (hc : X.calm = true) : CallR X (.builtin "max") (fun xs H Q => ∃ i j, xs = [.int i, .int j] ∧ Q (.int (if j > i then j else i)) H) := by
  intro pins s σ H xs us Q I r h
  obtain ⟨i, j, rfl, q⟩ := h
  obtain ⟨u, w', rfl, ⟨t, rfl⟩, ⟨t', rfl⟩⟩ := vals2 r
  refine max_two_ints (I.ok.hd hc) fun h' tk k => ⟨_, H, I.kept k, ?_, q⟩
  by_cases hj : j > i
  · rw [if_pos hj, if_pos hj]; exact ⟨_, rfl⟩
  · rw [if_neg hj, if_neg hj]; exact ⟨_, rfl⟩
theorem call_min2 (hc : X.calm = true) : CallR X (.builtin "min") (fun xs H Q => ∃ i j, xs = [.int i, .int j] ∧ Q (.int (if j < i then j else i)) H) := by
  intro pins s σ H xs us Q I r h
  obtain ⟨i, j, rfl, q⟩ := h
  obtain ⟨u, w', rfl, ⟨t, rfl⟩, ⟨t', rfl⟩⟩ := vals2 r
  refine min_two_ints (I.ok.hd hc) fun h' tk k => ⟨_, H, I.kept k, ?_, q⟩
  by_cases hj : j < i
  · rw [if_pos hj, if_pos hj]; exact ⟨_, rfl⟩
  · rw [if_neg hj, if_neg hj]; exact ⟨_, rfl⟩
theorem call_str_int : CallR X (.type "str") (fun xs H Q => ∃ i, xs = [.int i] ∧ i.natAbs.log2 < 1920 ∧ Q (.str (toString i)) H) := by
  intro pins s σ H xs us Q I r h
  obtain ⟨i, rfl, hz, q⟩ := h
  obtain ⟨u, rfl, t, rfl⟩ := vals1 r
  exact PySem.P.str_of_int hz ⟨.str _, H, I.tok _, ⟨_, rfl⟩, q⟩
def LenV (K : PySem.W.Frag) (x : V) (H : Hp) (n : Nat) : Prop :=
  match x with
  | .str y => y.length ≤ sizeLine ∧ n = y.length
  | .byt y => y.size ≤ sizeLine ∧ n = y.size
  | .ref p => (∃ xs, SqL K H p xs ∧ n = xs.length) ∨ ∃ xs, SqT K H p xs ∧ n = xs.length
  | _ => False
theorem call_len : CallR X (.builtin "len") (fun xs H Q => ∃ x n, xs = [x] ∧ LenV X.K x H n ∧ Q (.int n) H) := by
  intro pins s σ H xs us Q I r h
  obtain ⟨x, n, rfl, e, q⟩ := h
  obtain ⟨u, rfl, rx⟩ := vals1 r
  have hl := line63
  have hs : sizeLine = 16777216 := sizeLine_eq
  cases x with
  | str y =>
    obtain ⟨t, rfl⟩ := rx
    obtain ⟨hy, e'⟩ : y.length ≤ sizeLine ∧ n = y.length := e
    subst e'
    exact len_str (by omega) ⟨.int _, H, I.tok _, ⟨_, rfl⟩, q⟩
  | byt y =>
    obtain ⟨t, rfl⟩ := rx
    obtain ⟨hy, e'⟩ : y.size ≤ sizeLine ∧ n = y.size := e
    subst e'
    exact PySem.W.len_bytes (by omega) ⟨.int _, H, I.tok _, ⟨_, rfl⟩, q⟩
  | ref p =>
    cases rx
    have e' : (∃ xs, SqL X.K H p xs ∧ n = xs.length) ∨ ∃ xs, SqT X.K H p xs ∧ n = xs.length := e
    rcases e' with ⟨xs, hx, e'⟩ | ⟨xs, hx, e'⟩
    · subst e'
      obtain ⟨its, r', pl, hz⟩ := I.list hx
      have hlen := r'.length
      exact Calls.call_len_list pl.isList (by simp only [List.size_toArray]; omega) ⟨.int xs.length, H, I.tok _, ⟨_, by simp only [List.size_toArray]; rw [hlen]⟩, q⟩
    · subst e'
      obtain ⟨its, r', pl, hz⟩ := I.tuple hx
      have hlen := r'.length
      exact len_tuple pl (by simp only [List.size_toArray]; omega) ⟨.int xs.length, H, I.tok _, ⟨_, by simp only [List.size_toArray]; rw [hlen]⟩, q⟩
  | _ => exact (show False from e).elim
end
end L2
namespace L2
open PySem PySem.Spec PyProof.Rows
structure ObjM (h : Heap) (x dx C : Addr) (mA : Str → Option Value) : Prop where
  obj : h.get? x = some (PySem.W.instObj C dx)
  ns : h.Ns1 dx mA
  ne : dx ≠ x
theorem lookIn_ns {h : Heap} {dx : Addr} {mA : Str → Option Value} (n : h.Ns1 dx mA) : ∃ od, h.get? dx = some od ∧ ∀ name, PySem.W.lookIn name od = some (mA name) := by
  obtain ⟨o, es, ep, ho, hd, hk, _, hm⟩ := n
  refine ⟨o, ho, fun name => ?_⟩
  have e := hm name
  unfold nsFind findBy at e
  rw [← Array.find?_toList] at e
  unfold PySem.W.lookIn
  rw [hd]
  dsimp only
  split
  · rename_i y q
    rw [q] at e
    exact congrArg some e
  · rename_i q
    rw [q] at e
    have a : es.toList.any (·.refKey) = false := by
      rw [List.any_eq_false]
      intro y hy
      obtain ⟨z, t, hkey⟩ := hk y (Array.mem_toList_iff.mp hy)
      simp [DictEntry.refKey, hkey]
    have a' : ¬ es.toList.any (·.refKey) = true := by rw [a]; exact Bool.false_ne_true
    rw [if_neg a']
    exact congrArg some e
theorem ObjM.look {h : Heap} {x dx C : Addr} {mA : Str → Option Value} (I : ObjM h x dx C mA) : ∃ od, PySem.W.InstAt h x (PySem.W.instObj C dx) C (some od) ∧ ∀ name, PySem.W.lookIn name od = some (mA name) :=
  let ⟨od, ho, hl⟩ := lookIn_ns I.ns
  ⟨od, ⟨I.obj, rfl, rfl, ho⟩, hl⟩
section
variable {prog : Program} {w : World} {A : Around} {E : Value → Shared → Prop} {s : Shared} {K : PySem.W.Frag} {x dx C f : Addr} {mA : Str → Option Value} {name : Str} {v : Value}
end
section
variable {P : Program} {w : World} {H H' : Hp} {h h' : Heap} {a C dx : Addr} {fs fs' : List (Str × V)}
theorem ins_get (hok : HOk P w H h) (e : H a = some (.ins C dx fs)) : ∃ mA, ObjM h a dx C mA ∧ (∀ f, RelO (fs.lookup f) (mA f)) ∧ PySem.Within mA (fs.map (·.1)) ∧ fs.length ≤ 1000 ∧ H dx = some (.own a) := by
  obtain ⟨d, z, ne, ob, mA, n, r, q⟩ := (show ObjOk P w H h a (.ins C dx fs) from hok a _ e)
  exact ⟨mA, ⟨ob, n, ne⟩, r, q, z, d⟩
end
structure Cls (K : PySem.W.Frag) (C : Addr) : Prop where
  pg : PySem.W.plainGet K C Str.empty = true
  hd : PySem.W.hasDictIn K C = true
  po : PySem.W.plainOver K C = true
  sa : PySem.W.findIn K (.ref C) "__setattr__" = some (some (.builtin "object.__setattr__"))
theorem Cls.get {K : PySem.W.Frag} {C : Addr} (c : Cls K C) (f : Str) : PySem.W.plainGet K C f = true := c.pg
section
variable {X : Cx} {pins : List (Addr × Obj)} {σ : St} {H : Hp} {s : Shared} {a C dx : Addr} {fs : List (Str × V)} {f : Str} {v : V} {A : Around} {E : Value → Shared → Prop}
end
section
variable {X : Cx} {o e value : Expr} {f : Str} {pos pos' tpos : Pos} {ta tv : TE}
end
section
variable {X : Cx} {pins : List (Addr × Obj)} {σ : St} {H : Hp} {s : Shared} {A : Around} {E : Value → Shared → Prop} {Q : Value → Shared → Prop} {c : Value} {b : Bool}
inductive TyOf (K : PySem.W.Frag) (H : Hp) : V → Value → Prop where
  | non : TyOf K H .non (.type "NoneType")
  | bl (x : Bool) : TyOf K H (.bl x) (.type "bool")
  | int (i : Int) : TyOf K H (.int i) (.type "int")
  | str (x : Str) : TyOf K H (.str x) (.type "str")
  | flt (x : UInt64) : TyOf K H (.flt x) (.type "float")
  | lst {a : Addr} {xs : List V} (e : H a = some (.lst xs)) : TyOf K H (.ref a) (.type "list")
  | frz {a : Addr} {o : Obj} {xs : List V} (e : H a = some (.frz o (.lst xs))) : TyOf K H (.ref a) (.type "list")
  | tup {a : Addr} {xs : List V} (e : H a = some (.tup xs)) : TyOf K H (.ref a) (.type "tuple")
  | dK {a : Addr} {kvs : List (Key × V)} (e : H a = some (.dK kvs)) : TyOf K H (.ref a) (.type "dict")
  | dT {a : Addr} {kvs : List (List Key × V)} (e : H a = some (.dT kvs)) : TyOf K H (.ref a) (.type "dict")
  | ins {a C dx : Addr} {fs : List (Str × V)} (e : H a = some (.ins C dx fs)) (cl : Cls K C) (ha : PySem.W.findIn K (.ref C) "__class__" = some (some (.builtin "object.__class__")))
      (hn : PySem.W.specialIn K (.builtin "object.__class__") "__get__" = some (some (.builtin "getset_descriptor.__get__"))) (htk : PySem.W.takesIn K (.builtin "object.__class__") = some true)
      (hm : PySem.W.mroIn K C (.type "object") = some true) : TyOf K H (.ref a) (.ref C)
theorem isinst_ok {x : V} {u t : Value} (I : Inv X pins σ H s) (rx : RelV x u) (ty : TyOf X.K H x t) (e : PySem.W.kitOne X.K t c = some b) (h : ∀ tk, Q (.bool b) { s with toks := tk }) :
    wpAny (model X.prog X.w) A (call (.builtin "isinstance") [u, c]) Q E s := by
  cases ty with
  | non => cases (show u = Value.none from rx); exact PySem.W.kia_one PySem.W.kitx_none I.kIn True.intro e (fun z => nomatch z) h
  | bl y => cases (show u = Value.bool y from rx); exact PySem.W.kia_one PySem.W.kitx_bool I.kIn True.intro e (fun z => nomatch z) h
  | int i => obtain ⟨t, q⟩ := (show ∃ t, u = Value.int i t from rx); cases q; exact PySem.W.kia_one PySem.W.kitx_int I.kIn True.intro e (fun z => nomatch z) h
  | str y => obtain ⟨t, q⟩ := (show ∃ t, u = Value.str y t from rx); cases q; exact PySem.W.kia_one PySem.W.kitx_str I.kIn True.intro e (fun z => nomatch z) h
  | flt y => obtain ⟨t, q⟩ := (show ∃ t, u = Value.float y t from rx); cases q; exact PySem.W.kia_one PySem.W.kitx_float I.kIn True.intro e (fun z => nomatch z) h
  | @lst a xs ea =>
    cases (show u = Value.ref a from rx)
    obtain ⟨_, _, n, _, h1⟩ := (show ObjOk X.prog X.w H s.heap a (.lst xs) from I.hok a _ ea)
    exact PySem.W.kia_one PySem.W.kitx_list I.kIn ⟨_, h1, rfl⟩ e (fun z => nomatch z) h
  | @frz a ob xs ea =>
    cases (show u = Value.ref a from rx)
    obtain ⟨_, _, _, n, _, h1⟩ := (show ObjOk X.prog X.w H s.heap a (.frz ob (.lst xs)) from I.hok a _ ea)
    exact PySem.W.kia_one PySem.W.kitx_list I.kIn ⟨_, h1, rfl⟩ e (fun z => nomatch z) h
  | @tup a xs ea =>
    cases (show u = Value.ref a from rx)
    obtain ⟨_, _, _, p⟩ := (show ObjOk X.prog X.w H s.heap a (.tup xs) from I.hok a _ ea)
    obtain ⟨o, h1, h2, _⟩ := p
    exact PySem.W.kia_one PySem.W.kitx_tuple I.kIn ⟨o, h1, h2⟩ e (fun z => nomatch z) h
  | @dK a kvs ea =>
    cases (show u = Value.ref a from rx)
    obtain ⟨_, _, vs, _, p⟩ := (show ObjOk X.prog X.w H s.heap a (.dK kvs) from I.hok a _ ea)
    obtain ⟨o, es, ep, h1, h2, _⟩ := p
    exact PySem.W.kia_one PySem.W.kitx_dict I.kIn ⟨o, h1, h2.1⟩ e (fun z => nomatch z) h
  | @dT a kvs ea =>
    cases (show u = Value.ref a from rx)
    obtain ⟨_, _, xs, _, o, es, ep, h1, h2, _⟩ := (show ObjOk X.prog X.w H s.heap a (.dT kvs) from I.hok a _ ea)
    exact PySem.W.kia_one PySem.W.kitx_dict I.kIn ⟨o, h1, h2.1⟩ e (fun z => nomatch z) h
  | @ins a C dx fs ea cl ha hn htk hm =>
    cases (show u = Value.ref a from rx)
    obtain ⟨mA, O, _⟩ := ins_get I.hok ea
    obtain ⟨od, J, _⟩ := O.look
    exact PySem.W.kia_one (PySem.W.kitx_own (cl.get _) cl.hd ha hn htk hm) I.kIn J e (fun z => nomatch z) h
end
end L2
namespace L2
open PySem PySem.Spec PyProof.Rows
structure Room (k : Nat) (A : Around) : Prop where
  hd : A.handled = none
  dp : A.depth + 3 * k + 5 < recursionLimit
  un : A.units + 16 * k + 200 < cLine
theorem Room.mono {j k : Nat} {A : Around} (r : Room k A) (h : j ≤ k) : Room j A := ⟨r.hd, by have := r.dp; omega, by have := r.un; omega⟩
theorem Room.deeper {k : Nat} {A : Around} (r : Room (k + 1) A) (env : Env) : Room k (A.deeper env) :=
  ⟨r.hd, by have := r.dp; show A.depth + 1 + 3 * k + 5 < _; omega, by have := r.un; show A.units + 3 + 16 * k + 200 < _; omega⟩
theorem Room.depth {k : Nat} {A : Around} (r : Room k A) : A.depth < recursionLimit := by have := r.dp; omega
theorem Room.units {k : Nat} {A : Around} (r : Room k A) : A.units + 64 < cLine := by have := r.un; omega
def tNil : TA := fun _ H Q => Q [] H
def tCons (ta : TE) (tr : TA) : TA := fun σ H Q => ta σ H fun x H1 => tr σ H1 fun xs H2 => Q (x :: xs) H2
section
variable {X : Cx} {e : Expr} {es : List Expr} {te : TE} {t : TA} {pos : Pos}
theorem pa_nil : PA X [] tNil := fun _ _ _ _ H Q I h => Calls.spliced_nil ⟨[], H, I, .nil, h⟩
theorem pa_cons (ha : PE X e te) (hr : PA X es t) (hs : starEach (e :: es) X.env = (false, eval e X.env) :: starEach es X.env := by rfl) : PA X (e :: es) (tCons te t) := by
  intro pos pins s σ H Q I h
  rw [hs]
  show wpAny _ _ (spliced ((false, eval e X.env) :: backTo pos (starEach es X.env))) _ _ s
  refine Calls.spliced_cons (thn (ha pins s σ H _ I h) fun u s1 ⟨x, H1, I1, r1, q1⟩ => ?_)
  exact thn (hr pos pins s1 σ H1 _ I1 q1) fun us s2 ⟨xs, H2, I2, r2, q2⟩ => ⟨x :: xs, H2, I2, .cons r1 r2, q2⟩
def tTup (t : TA) : TE := fun σ H Q => t σ H fun xs H1 => xs.length ≤ sizeLine ∧ ∀ p, H1 p = none → Q (.ref p) (upd H1 p (.tup xs))
def tLst (t : TA) : TE := fun σ H Q => t σ H fun xs H1 => xs.length ≤ sizeLine ∧ ∀ p, H1 p = none → Q (.ref p) (upd H1 p (.lst xs))
theorem pe_tup {x1} (h : PA X es t) : PE X (.Tuple es x1 pos) (tTup t) := by
  intro pins s σ H Q I hq
  refine wpAny_Tuple_spliced (thn (h pos pins s σ H _ I hq) fun us s1 ⟨xs, H1, I1, r, z, q⟩ => ⟨by rw [← r.length]; exact z, ?_⟩)
  have hf : H1 s1.heap.objs.size = none := I1.hok.fresh (Nat.le_refl _)
  refine ⟨.ref s1.heap.objs.size, upd H1 s1.heap.objs.size (.tup xs), I1.laid (t' := s1.toks) (fun b u e => Heap.get?_push_of_some _ e) (Nat.le_refl _) ?_, rfl, q _ hf⟩
  exact ⟨z, us, r, ⟨_, Heap.get?_push_size _ rfl, rfl, _, rfl⟩⟩
theorem pe_lst (h : PA X es t) : PE X (.List es pos) (tLst t) := by
  intro pins s σ H Q I hq
  refine wpAny_List_spliced (thn (h pos pins s σ H _ I hq) fun us s1 ⟨xs, H1, I1, r, z, q⟩ => ⟨by rw [← r.length]; exact z, ?_⟩)
  have hf : H1 s1.heap.objs.size = none := I1.hok.fresh (Nat.le_refl _)
  refine ⟨.ref s1.heap.objs.size, upd H1 s1.heap.objs.size (.lst xs), I1.laid (t' := s1.toks) (fun b u e => Heap.get?_push_of_some _ e) (Nat.le_refl _) ?_, rfl, q _ hf⟩
  exact ⟨z, us, 0, r, Heap.get?_push_size _ rfl⟩
end
abbrev Sp := List V → Hp → VK → XK → Prop
abbrev CXT := List Env → Hp → Shared → XK → Value → Shared → Prop
structure Env0 (P : Program) (w : World) (K : PySem.W.Frag) (mg : Str → Option Value) (base : Heap) (A : Around) (outer : List Env) (s : Shared) (H : Hp) : Prop where
  frames : A.frames = some outer
  mod : Mod K mg base
  bs : ∀ b o, base.get? b = some o → s.heap.get? b = some o ∧ H b = none
  bsz : base.objs.size ≤ s.heap.objs.size
  funs : s.heap.FunFrames base outer
  frf : ∀ b ∈ frs outer, H b = none
  hok : HOk P w H s.heap
  bare : AllBare s.gens
def CE (outer : List Env) (P : Program) (w : World) (H : Hp) (s : Shared) (Q : VK) (u : Value) (s' : Shared) : Prop :=
  ∃ v H', s'.os = s.os ∧ AllBare s'.gens ∧ Un (frs outer) [] H H' s.heap s'.heap ∧ HOk P w H' s'.heap ∧ RelV v u ∧ Q v H'
def CR (CX : CXT) (outer : List Env) (P : Program) (w : World) (H : Hp) (s : Shared) (Q : VK) (E : XK) (r : Result) (s' : Shared) : Prop :=
  match r with
  | .ok (.ret u) => CE outer P w H s Q u s'
  | .ok _ => False
  | .error e => CX outer H s E e s'
structure FnOk (P : Program) (w : World) (K : PySem.W.Frag) (mg : Str → Option Value) (base : Heap) (CX : CXT) (k : Nat) (f : Addr) (fd : FuncData) (ps : List Str) (sp : Sp) : Prop where
  len : ∀ vs H Q E, sp vs H Q E → vs.length = ps.length
  run : ∀ (A : Around) (outer : List Env) (s : Shared) (H : Hp) (args : Args) (us : List Value) (vs : List V) (Q : VK) (E : XK), Room k A → Env0 P w K mg base A outer s H → BindsTo s fd args (ps.zip us) → Vals vs us → sp vs H Q E →
    codeAny (model P w) A (.call (.ref f) args) (CR CX outer P w H s Q E) s
section
variable {X : Cx} {pins : List (Addr × Obj)} {σ : St} {H : Hp} {s s' : Shared}
theorem Inv.env0 (I : Inv X pins σ H s) : Env0 X.prog X.w X.K X.mg X.base X.A X.stack s H :=
  ⟨I.ok.frames, I.ok.mod, I.bs, Nat.le_trans I.ok.bsz I.sz, I.stack, I.stkFree, I.hok, I.bare⟩
theorem Inv.after {Q : VK} {u : Value} (I : Inv X pins σ H s) (h : CE X.stack X.prog X.w H s Q u s') : EP X pins σ Q u s' := by
  obtain ⟨v, H', os, bare, un, hok, r, q⟩ := h
  obtain ⟨hh, g, d, t, os'⟩ := s'
  obtain rfl : os' = s.os := os
  exact ⟨v, H', I.call (h' := hh) (g' := g) (d' := d) (t' := t) (ch := []) un hok bare (fun b z => absurd z (by simp)), r, q⟩
end
def tCall (sp : Sp) (dvs : List V) (E : XK) (t : TA) : TE := fun σ H Q => t σ H fun vs H1 => sp (vs ++ dvs) H1 Q E
def Binds (K : PySem.W.Frag) (fd : FuncData) (ps : List Str) (ds : List Value) : Prop :=
  ∀ (s : Shared) (us : List Value), K.In s.heap → (us ++ ds).length = ps.length → BindsTo s fd ⟨us, []⟩ (ps.zip (us ++ ds))
theorem Binds.all {K : PySem.W.Frag} {fd : FuncData} {ps : List Str} (h : ∀ us : List Value, us.length = ps.length → bindArgs fd ⟨us, []⟩ = pure (ps.zip us)) : Binds K fd ps [] := fun s us _ hl => by
  rw [List.append_nil] at hl ⊢
  exact .of_eq (h us hl)
def Passes (CX : CXT) (X : Cx) (E : XK) : Prop := ∀ (pins : List (Addr × Obj)) (σ : St) (H : Hp) (s : Shared) (e : Value) (s' : Shared), Inv X pins σ H s → CX X.stack H s E e s' → X.xe e s'
section
variable {X : Cx} {CX : CXT} {k : Nat} {f C : Addr} {fd : FuncData} {ps : List Str} {sp : Sp} {dvs : List V} {ds : List Value} {E : XK} {x m : Str} {p pos apos : Pos} {e o : Expr} {es : List Expr} {ta : TE} {t : TA}
theorem run_fn {pins : List (Addr × Obj)} {σ : St} {H : Hp} {s : Shared} {Q : VK} {us : List Value} {vs : List V} (F : FnOk X.prog X.w X.K X.mg X.base CX k f fd ps sp) (hr : Room k X.A) (hb : Binds X.K fd ps ds) (hd : Vals dvs ds) (hx : Passes CX X E)
    (I : Inv X pins σ H s) (r : Vals vs us) (h : sp (vs ++ dvs) H Q E) : wpAny (model X.prog X.w) X.A (call (.ref f) us) (EP X pins σ Q) X.xe s := by
  have r2 : Vals (vs ++ dvs) (us ++ ds) := r.append hd
  have hl : (us ++ ds).length = ps.length := by rw [← r2.length]; exact F.len _ _ _ _ h
  refine wpAny_call (codeAny_mono (F.run X.A X.stack s H ⟨us, []⟩ (us ++ ds) (vs ++ dvs) Q E hr I.env0 (hb s us I.kIn hl) r2 h) fun r s' hq => ?_)
  cases r with
  | error e => exact hx pins σ H s e s' I hq
  | ok fl =>
    cases fl with
    | ret u => exact I.after hq
    | next => exact False.elim hq
    | brk => exact False.elim hq
    | cont => exact False.elim hq
theorem pe_call (F : FnOk X.prog X.w X.K X.mg X.base CX k f fd ps sp) (hr : Room k X.A) (hg : Gl X x) (hm : X.mg x = some (.ref f)) (hk : PySem.W.keepIn X.K (.ref f) = true) (hb : Binds X.K fd ps ds) (hd : Vals dvs ds) (hx : Passes CX X E)
    (ha : PA X (e :: es) t) (hdb : (x == ("__debug__" : Str)) = false := by decide) (he : starEach (e :: es) X.env = (false, eval e X.env) :: starEach es X.env := by rfl) (hpl : (backTo pos (starEach es X.env)).any (·.1) = false := by rfl) :
    PE X (.Call (.Name x p) (e :: es) [] pos) (tCall sp dvs E t) := by
  intro pins s σ H Q I h
  refine wpAny_Call_Name_kw (ld_glob I hg hm ?_ hdb)
  refine PySem.W.callWith_K (h₀ := X.base) I.ok.mod.kin hk (thn (ha pos pins s σ H _ I h) fun us s1 ⟨vs, H1, I1, r, q⟩ => ⟨I1.kIn, ?_⟩) he hpl
  exact run_fn F hr hb hd hx I1 r q
end
section
variable {X : Cx} {CX : CXT} {k : Nat} {f C : Addr} {fd : FuncData} {ps ks : List Str} {sp : Sp} {E : XK} {x m : Str} {p pos apos kpos : Pos} {e o : Expr} {es : List Expr} {kws : List Keyword} {te ta : TE} {t tk : TA} {nm : Option Str}
variable {g : List Value → List Value → List Value} {gV : List V → List V → List V}
end
structure FnScope (N P : List Str) (sc : Scope) : Prop where
  kind : sc.kind = .function
  co : sc.isCoroutine = false
  gen : sc.isGenerator = false
  nd : N.Nodup
  pre : N.take P.length = P
  par : ∀ x ∈ P, sc.names.lookup x = some .local ∨ sc.names.lookup x = some .cell
  nofree : ∀ y ∈ sc.names, y.2 ≠ .free
theorem bindL_out {kindOf : Str → Option NameKind} {x : Str} : ∀ {binds : List (Str × Value)} {m : Str → Option Value}, (∀ v, (x, v) ∉ binds) → bindL kindOf binds m x = m x
  | [], _, _ => rfl
  | (n, v) :: r, m, h => by
    unfold bindL
    rw [bindL_out fun w hw => h w (List.mem_cons_of_mem _ hw)]
    split
    · have : x ≠ n := by rintro rfl; exact h v List.mem_cons_self
      simp [this]
    · rfl
theorem bindC_out {kindOf : Str → Option NameKind} {x : Str} : ∀ {binds : List (Str × Value)} {m : Str → Option Value}, (∀ v, (x, v) ∉ binds) → bindC kindOf binds m x = m x
  | [], _, _ => rfl
  | (n, v) :: r, m, h => by
    unfold bindC
    rw [bindC_out fun w hw => h w (List.mem_cons_of_mem _ hw)]
    split
    · rfl
    · have : x ≠ n := by rintro rfl; exact h v List.mem_cons_self
      simp [this]
theorem bindL_get {kindOf : Str → Option NameKind} {x : Str} {v : Value} : ∀ {P : List Str} {vs : List Value} {i : Nat} {m : Str → Option Value}, P.Nodup → P[i]? = some x → vs[i]? = some v → kindOf x = some .local →
    bindL kindOf (P.zip vs) m x = some v
  | [], _, _, _, _, h, _, _ => by simp at h
  | _ :: _, [], _, _, _, _, h, _ => by simp at h
  | p :: P, w :: vs, 0, m, nd, h1, h2, hk => by
    simp at h1 h2; subst h1; subst h2
    show bindL kindOf ((p, w) :: P.zip vs) m p = _
    unfold bindL
    rw [bindL_out fun v hv => (List.nodup_cons.mp nd).1 (List.of_mem_zip hv).1, if_pos hk]
    simp
  | p :: P, w :: vs, i + 1, m, nd, h1, h2, hk => by
    show bindL kindOf ((p, w) :: P.zip vs) m x = _
    unfold bindL
    exact bindL_get (i := i) (List.nodup_cons.mp nd).2 (by simpa using h1) (by simpa using h2) hk
theorem bindC_get {kindOf : Str → Option NameKind} {x : Str} {v : Value} : ∀ {P : List Str} {vs : List Value} {i : Nat} {m : Str → Option Value}, P.Nodup → P[i]? = some x → vs[i]? = some v → kindOf x ≠ some .local →
    bindC kindOf (P.zip vs) m x = some v
  | [], _, _, _, _, h, _, _ => by simp at h
  | _ :: _, [], _, _, _, _, h, _ => by simp at h
  | p :: P, w :: vs, 0, m, nd, h1, h2, hk => by
    simp at h1 h2; subst h1; subst h2
    show bindC kindOf ((p, w) :: P.zip vs) m p = _
    unfold bindC
    rw [bindC_out fun v hv => (List.nodup_cons.mp nd).1 (List.of_mem_zip hv).1, if_neg hk]
    simp
  | p :: P, w :: vs, i + 1, m, nd, h1, h2, hk => by
    show bindC kindOf ((p, w) :: P.zip vs) m x = _
    unfold bindC
    exact bindC_get (i := i) (List.nodup_cons.mp nd).2 (by simpa using h1) (by simpa using h2) hk
def start (N : List Str) (vs : List V) : St := vs.map some ++ List.replicate (N.length - vs.length) none
def cxOf (CX : CXT) (P : Program) (w : World) (K : PySem.W.Frag) (mg : Str → Option Value) (base : Heap) (N : List Str) (qual : Str) (scope : Scope) (f : Addr) (cd : Value) (A : Around) (outer : List Env) (s : Shared) (H : Hp) (E : XK) : Cx where
  prog := P
  w := w
  K := K
  mg := mg
  base := base
  A := A.deeper (envOfC qual scope s.heap.objs.size f cd)
  N := N
  s₀ := s
  H₀ := H
  env := envOfC qual scope s.heap.objs.size f cd
  outer := outer
  stack := envOfC qual scope s.heap.objs.size f cd :: outer
  ex := []
  calm := true
  fn := fun _ => true
  pn := []
  xe := fun e s' => wpAny (model P w) (A.deeper (envOfC qual scope s.heap.objs.size f cd)) (leaving (envOfC qual scope s.heap.objs.size f cd) e) (fun _ s'' => CX outer H s E e s'') (fun e' s'' => CX outer H s E e' s'') s'
theorem cell_has {sc : Scope} {n : Nat} {x : Str} (h : sc.names.lookup x = some .cell) : ∃ c, (cellsFrom n sc.names []).lookup x = some c := by
  have q := PySem.W.cellsFrom_some sc.names n [] (.inl h)
  exact Option.isSome_iff_exists.mp q
theorem inv_start {CX : CXT} {P : Program} {w : World} {K : PySem.W.Frag} {mg : Str → Option Value} {base : Heap} {N ps : List Str} {qual : Str} {scope : Scope} {f : Addr} {cd : Value} {A : Around} {outer : List Env} {s s1 : Shared} {H : Hp} {E : XK} {us : List Value} {vs : List V}
    (S : FnScope N ps scope) (hd : A.handled = none) (e0 : Env0 P w K mg base A outer s H) (hl : vs.length = ps.length) (r : Vals vs us)
    (x : InCallC s s.heap.objs.size (bindL (envOfC qual scope s.heap.objs.size f cd).kindOf (ps.zip us) fun _ => none) (cellsFrom (s.heap.objs.size + 1) scope.names []) (bindC (envOfC qual scope s.heap.objs.size f cd).kindOf (ps.zip us) fun _ => none) s1) :
    Inv (cxOf CX P w K mg base N qual scope f cd A outer s H E) [] (start N vs) H s1 := by
  have hpl : ps.length ≤ N.length := by have := congrArg List.length S.pre; rw [List.length_take] at this; omega
  obtain ⟨h1, tk, rfl, hk⟩ := x.done
  have noA : ∀ b : Addr, b ∉ (cxOf CX P w K mg base N qual scope f cd A outer s H E).ex := fun b z => absurd (show b ∈ ([] : List Addr) from z) (by simp)
  refine ⟨⟨e0.mod, S.kind, rfl, rfl, Nat.le_refl _, fun y z c h1 h2 => ?_, fun y hy => ?_, fun y c _ h => ?_, fun _ => hd, Around.frames_deeper e0.frames, .inr ⟨rfl, rfl⟩, fun b z => absurd z (noA b), e0.bs, e0.bsz, fun b _ _ => noA b, fun b z => absurd z (noA b), e0.funs, e0.frf⟩,
    rfl, e0.bare, Un.kept hk, ⟨_, x.toInCall.ns, fun i y v h1 h2 h3 => ?_⟩, fun y c h => ⟨_, x.cell y c h⟩, e0.hok.fresh (Nat.le_refl _), fun y c h => ?_, fun p hp => absurd (show p ∈ ([] : List (Addr × Obj)) from hp) (by simp), e0.hok.kept hk, ?_⟩
  · exact name_of_addr x.apart (PySem.mem_of_lookup h1) (PySem.mem_of_lookup h2)
  · have hy : scope.names.lookup y = some .cell ∨ scope.names.lookup y = some .free := hy
    rcases hy with hy | hy
    · exact cell_has hy
    · exact absurd rfl (S.nofree _ (PySem.mem_of_lookup hy))
  · exact Nat.le_of_lt (x.above y c (PySem.mem_of_lookup h))
  · have hi : i < vs.length := by
      unfold start at h2
      by_cases hi : i < vs.length
      · exact hi
      · rw [List.getElem?_append_right (by simpa using hi)] at h2
        rw [List.getElem?_replicate] at h2
        split at h2 <;> cases h2
    have ha : vs[i]? = some v := by
      unfold start at h2
      rw [List.getElem?_append_left (by simpa using hi), List.getElem?_map] at h2
      cases e : vs[i]? with
      | none => rw [e] at h2; cases h2
      | some a => rw [e] at h2; cases h2; rfl
    obtain ⟨u, hu, rv⟩ := r.get ha
    have hp : ps[i]? = some y := by
      rw [← S.pre, List.getElem?_take_of_lt (by omega)]; exact h1
    have ndP : ps.Nodup := by rw [← S.pre]; exact S.nd.sublist (List.take_sublist _ _)
    refine ⟨u, rv, ?_⟩
    rcases S.par y (List.mem_of_getElem? hp) with k | k
    · exact .inl ⟨k, bindL_get ndP hp hu k⟩
    · obtain ⟨c, e⟩ := cell_has (n := s.heap.objs.size + 1) k
      refine .inr ⟨.inl k, c, e, ?_⟩
      have q := x.cell y c e
      rw [bindC_get ndP hp hu (by show scope.names.lookup y ≠ _; rw [k]; decide)] at q
      exact q
  · exact e0.hok.fresh (Nat.le_of_lt (x.above y c (PySem.mem_of_lookup h)))
  · unfold start
    show _ = N.length
    rw [List.length_append, List.length_map, List.length_replicate]
    omega
theorem fn_of {CX : CXT} {P : Program} {w : World} {K : PySem.W.Frag} {mg : Str → Option Value} {base : Heap} {k : Nat} {f : Addr} {name qual : Str} {params : Arguments} {body : List Stmt} {scope : Scope} {dV kV doc pm cdv ct oc : Value} {an od : Option Addr}
    {osl : Array (Option Value)} {N ps : List Str} {sp : Sp} (lk : K.lookup f = some ⟨oc, od, .func (PySem.W.fnOf name qual params body scope dV kV doc pm an cdv ct), osl⟩) (hcd : PySem.W.codeIn K cdv qual = true) (S : FnScope N ps scope)
    (len : ∀ vs H Q E, sp vs H Q E → vs.length = ps.length)
    (hbody : ∀ (A : Around) (outer : List Env) (s : Shared) (H : Hp) (vs : List V) (Q : VK) (E : XK), Room k (A.deeper (envOfC qual scope s.heap.objs.size f cdv)) → sp vs H Q E →
      ∃ t, PSs (cxOf CX P w K mg base N qual scope f cdv A outer s H E) body t ∧ t { nx := fun _ H' => Q .non H', rt := Q } (start N vs) H) :
    FnOk P w K mg base CX (k + 1) f (PySem.W.fnOf name qual params body scope dV kV doc pm an cdv ct) ps sp := by
  refine ⟨len, fun A outer s H args us vs Q E hr e0 hb r hsp => ?_⟩
  have hl := len _ _ _ _ hsp
  have KX : K.In s.heap := e0.mod.kin.keeps fun b o e => (e0.bs b o e).1
  have lim : s.heap.NoLimit := e0.mod.nolimit.keeps fun b o e => (e0.bs b o e).1
  have hkind : ∀ y ∈ ps.zip us, scope.names.lookup y.1 = some .local ∨ (scope.names.lookup y.1 = some .cell ∧ ((cellsFrom (s.heap.objs.size + 1) scope.names []).lookup y.1).isSome = true) := fun ⟨n, v⟩ hy => by
    rcases S.par n (List.of_mem_zip hy).1 with q | q
    · exact .inl q
    · exact .inr ⟨q, PySem.W.cellsFrom_some _ _ _ (.inl q)⟩
  refine codeAny_call_function hr.depth (KX _ _ lk) rfl S.co S.gen rfl (PySem.W.codeRec_of KX hcd) (hb _ _ _ _ ?_)
  refine wpAny_newFunctionEnv_cells S.kind hkind fun env he s1 x => ?_
  subst he
  refine ⟨lim.keeps x.toInCall.keep, codeAny_func ?_⟩
  obtain ⟨t, ht, hq⟩ := hbody A outer s H vs Q E (hr.deeper _) hsp
  have I : Inv (cxOf CX P w K mg base N qual scope f cdv A outer s H E) [] (start N vs) H s1 := inv_start S hr.hd e0 hl r x
  refine wpAny_mono (ht [] s1 (start N vs) H _ I hq) (fun fl s' hs => ?_) fun e s' hs => hs
  have fin : ∀ {σ' : St} {H' : Hp} {v : V} {u : Value}, Inv (cxOf CX P w K mg base N qual scope f cdv A outer s H E) [] σ' H' s' → RelV v u → Q v H' → CE outer P w H s Q u s' :=
    fun {σ' H' v u} J rv q => ⟨v, H', J.os, J.bare, J.base, J.hok, rv, q⟩
  cases fl with
  | ret u =>
    obtain ⟨v, σ', H', J, rv, q⟩ := hs
    exact fin J rv q
  | next =>
    obtain ⟨σ', H', J, q⟩ := hs
    exact fin (v := V.non) (u := Value.none) J rfl q
  | brk =>
    obtain ⟨_, _, _, q⟩ := hs
    exact False.elim q
  | cont =>
    obtain ⟨_, _, _, q⟩ := hs
    exact False.elim q
end L2
namespace L2
open PySem PySem.Spec PyProof.Rows
section
variable {X : Cx} {x : Str} {p pos : Pos} {e : Expr} {es : List Expr} {t : TA} {id T : String} {r : List V → Hp → VK → Prop}
def tCB (r : List V → Hp → VK → Prop) (t : TA) : TE := fun σ H Q => t σ H fun vs H1 => r vs H1 Q
theorem pe_callB (hc : CallR X (.builtin id) r) (hg : Gl X x) (hm : X.mg x = none) (hv : bootBuiltins x = some (.builtin id)) (ha : PA X (e :: es) t) (hn : x ≠ "__name__" := by decide) (hdb : (x == ("__debug__" : Str)) = false := by decide)
    (he : starEach (e :: es) X.env = (false, eval e X.env) :: starEach es X.env := by rfl) (hpl : (backTo pos (starEach es X.env)).any (·.1) = false := by rfl) : PE X (.Call (.Name x p) (e :: es) [] pos) (tCB r t) := by
  intro pins s σ H Q I h
  refine wpAny_Call_Name_kw (ld_blt I hg hm hv ?_ hn hdb)
  exact PyProof.Rows.callWith_builtin1 (thn (ha pos pins s σ H _ I h) fun us s1 ⟨vs, H1, I1, r1, q1⟩ => hc pins s1 σ H1 vs us Q I1 r1 q1) he hpl
theorem pe_callTy (hc : CallR X (.type T) r) (hg : Gl X x) (hm : X.mg x = none) (hv : bootBuiltins x = some (.type T)) (ha : PA X (e :: es) t) (hn : x ≠ "__name__" := by decide) (hdb : (x == ("__debug__" : Str)) = false := by decide)
    (he : starEach (e :: es) X.env = (false, eval e X.env) :: starEach es X.env := by rfl) (hpl : (backTo pos (starEach es X.env)).any (·.1) = false := by rfl) : PE X (.Call (.Name x p) (e :: es) [] pos) (tCB r t) := by
  intro pins s σ H Q I h
  refine wpAny_Call_Name_kw (ld_blt I hg hm hv ?_ hn hdb)
  exact PyProof.Rows.callWith_type1 (thn (ha pos pins s σ H _ I h) fun us s1 ⟨vs, H1, I1, r1, q1⟩ => hc pins s1 σ H1 vs us Q I1 r1 q1) he hpl
end
end L2
namespace HT
open PySem PyProof.Rows
section
open PySem.SeqAt
open PySem.AutoSeq1 (wpAny_loadPart')
open PySem.MeetsSeq PySem.MeetsSeq2 PySem.MeetsSeq3
end
section
variable {prog : Program} {w : World} {A : Around} {E : Value → Shared → Prop} {s : Shared}
theorem cat_tup {t b : Addr} {vs ws : List Value} {Q : Value → Shared → Prop} (ht : IsTup s.heap t vs.toArray) (hb : IsTup s.heap b ws.toArray) (hv : vs ≠ [])
    (h1 : ws = [] → Q (.ref t) s) (h2 : ws ≠ [] → Q (.ref s.heap.objs.size) { s with heap := s.heap.push { cls := .type "tuple", data := .seq (vs ++ ws).toArray } })
    (hsz : vs.length + ws.length ≤ sizeLine) : wpAny (model prog w) A (binaryOp .Add (.ref t) (.ref b)) Q E s := by
  obtain ⟨⟨cls, dd, data, sl⟩, ho, hc, n, hd⟩ := id ht
  obtain ⟨⟨cls2, dd2, data2, sl2⟩, ho2, hc2, n2, hd2⟩ := id hb
  simp only at hc hd hc2 hd2
  subst hc hd hc2 hd2
  have e : vs.toArray ++ ws.toArray = (vs ++ ws).toArray := by simp
  by_cases hw : ws = []
  · exact concat_meets ⟨_, ho, rfl⟩ ⟨_, ho2, rfl⟩ noFill_tuple_add seq_tuple_add PySem.F.slot_tuple_add PySem.F.entry_tuple_add (PySem.F.args_tuple_add_2 _ _)
      (tuple_addW1 t b vs.toArray ws.toArray n n2 dd dd2 sl sl2 (by simpa using hv) (by simp [hw])) ⟨ho, ho2, h1 hw⟩
  · refine concat_meets ⟨_, ho, rfl⟩ ⟨_, ho2, rfl⟩ noFill_tuple_add seq_tuple_add PySem.F.slot_tuple_add PySem.F.entry_tuple_add (PySem.F.args_tuple_add_2 _ _)
      (tuple_addW2 t b vs.toArray ws.toArray n n2 dd dd2 sl sl2 (by simpa using hv) (by simpa using hw) (by rw [List.size_toArray, List.size_toArray]; exact hsz)) ⟨ho, ho2, ?_⟩
    rw [e]
    exact h2 hw
def sIx (n d : Nat) : Option Int → Nat
  | none => d
  | some v => if v < 0 then (v + (n : Int)).toNat else min v.toNat n
theorem sIx_nat (n d k : Nat) : sIx n d (some (k : Int)) = min k n := by
  show (if (k : Int) < 0 then ((k : Int) + (n : Int)).toNat else min (k : Int).toNat n) = min k n
  rw [if_neg (by omega), Int.toNat_natCast]
theorem sIx_le (n d : Nat) (hd : d ≤ n) (o : Option Int) : sIx n d o ≤ n := by
  cases o with
  | none => exact hd
  | some v =>
    show (if v < 0 then (v + (n : Int)).toNat else min v.toNat n) ≤ n
    by_cases hv : v < 0
    · rw [if_pos hv]; omega
    · rw [if_neg hv]; exact Nat.min_le_right _ _
theorem clip_eq (v : Int) (n d : Nat) : (if v < 0 then max (v + (n : Int)) 0 else min v (n : Int)) = ((sIx n d (some v) : Nat) : Int) := by
  show (if v < 0 then max (v + (n : Int)) 0 else min v (n : Int)) = (((if v < 0 then (v + (n : Int)).toNat else min v.toNat n) : Nat) : Int)
  by_cases hv : v < 0
  · simp only [if_pos hv]; omega
  · simp only [if_neg hv]; omega
theorem adjust_gen (lo hi : Option Int) (n : Nat) : Builtin.Slice.sliceAdjust lo hi 1 (n : Int) = (((sIx n 0 lo : Nat) : Int), ((sIx n n hi : Nat) : Int)) := by
  have h1 : ¬ ((1 : Int) < 0) := by omega
  unfold Builtin.Slice.sliceAdjust
  simp only [h1, if_false]
  refine Prod.ext ?_ ?_
  · cases lo with
    | none => rfl
    | some v => exact clip_eq v n 0
  · cases hi with
    | none => rfl
    | some v => exact clip_eq v n n
theorem places_gen (i j : Nat) : Builtin.Slice.slicePlaces (i : Int) (j : Int) 1 = j - i := by
  unfold Builtin.Slice.slicePlaces
  have h1 : (1 : Int) > 0 := by omega
  simp only [h1, if_true, Int.ediv_one]
  split <;> omega
theorem slicePart_ {v : Value} {o : Option Int} {Q : Option Int → Shared → Prop} (p : IsPart v o) (h : Q o s) : wpAny (model prog w) A (Builtin.Slice.slicePartIndex v) Q E s := by
  cases p with
  | none => exact slicePart_none h
  | int i t => exact slicePart_int h
theorem sliceApplied_gen {sl : Addr} {vl vu : Value} {lo hi : Option Int} {n : Nat} {Q : Int × Int × Nat → Shared → Prop} (hs : s.heap.IsSliceOf sl vl vu .none) (pl : IsPart vl lo) (pu : IsPart vu hi)
    (h : Q (((sIx n 0 lo : Nat) : Int), 1, sIx n n hi - sIx n 0 lo) s) : wpAny (model prog w) A (Builtin.Slice.sliceApplied (.ref sl) (pure (n : Int))) Q E s := by
  obtain ⟨os, hos, hcs, hds⟩ := id hs
  unfold Builtin.Slice.sliceApplied Builtin.Slice.sliceFields
  refine wpAny_bind (wpAny_bind (wpAny_field hos hds (x := vl) rfl (wpAny_bind (wpAny_field hos hds (x := vu) rfl (wpAny_bind (wpAny_field hos hds (x := .none) rfl (wpAny_pure ?_)))))))
  refine wpAny_bind (slicePart_none ?_)
  show wpAny _ _ (if ((1 : Int) == 0) = true then _ else _) _ _ s
  rw [if_neg (by decide)]
  refine wpAny_bind (slicePart_ pl (wpAny_bind (slicePart_ pu (wpAny_bind (wpAny_pure ?_)))))
  show wpAny _ _ (match Builtin.Slice.sliceAdjust lo hi 1 (n : Int) with | (lo, hi) => pure (lo, (1 : Int), Builtin.Slice.slicePlaces lo hi 1)) _ _ s
  rw [adjust_gen lo hi n]
  show wpAny _ _ (pure (((sIx n 0 lo : Nat) : Int), (1 : Int), Builtin.Slice.slicePlaces ((sIx n 0 lo : Nat) : Int) ((sIx n n hi : Nat) : Int) 1)) _ _ s
  rw [places_gen]
  exact wpAny_pure h
theorem pick_gen (xs : Array Value) (i k : Nat) : ((List.range k).filterMap fun (m : Nat) => xs[((i : Int) + (m : Int) * 1).toNat]?).toArray = ((xs.toList.drop i).take k).toArray := by
  have e : (fun (m : Nat) => xs[((i : Int) + (m : Int) * 1).toNat]?) = fun m => xs[i + m]? := by
    funext m
    have : ((i : Int) + (m : Int) * 1).toNat = i + m := by omega
    rw [this]
  rw [e]
  have := pick_run xs i k
  rw [List.filterMap_map] at this
  have e2 : ((fun x => xs[x]?) ∘ fun x => i + x) = fun m => xs[i + m]? := rfl
  rw [e2] at this
  rw [this]
theorem getItem_tuple_cut {t sl : Addr} {items : Array Value} {vl vu : Value} {lo hi : Option Int} {Q : Value → Shared → Prop} (ht : IsTup s.heap t items) (hs : s.heap.IsSliceOf sl vl vu .none) (pl : IsPart vl lo) (pu : IsPart vu hi)
    (hw : ¬ (sIx items.size 0 lo = 0 ∧ sIx items.size items.size hi = items.size))
    (h : Q (.ref s.heap.objs.size) { s with heap := s.heap.push { cls := .type "tuple", data := .seq ((items.toList.drop (sIx items.size 0 lo)).take (sIx items.size items.size hi - sIx items.size 0 lo)).toArray } })
    (hsz : items.size ≤ sizeLine) : wpAny (model prog w) A (getItem (.ref t) (.ref sl)) Q E s := by
  have htake : sizeOk (.seq ((items.toList.drop (sIx items.size 0 lo)).take (sIx items.size items.size hi - sIx items.size 0 lo)).toArray) := by
    show ((items.toList.drop (sIx items.size 0 lo)).take (sIx items.size items.size hi - sIx items.size 0 lo)).toArray.size ≤ sizeLine
    rw [List.size_toArray, List.length_take, List.length_drop, Array.length_toList]
    omega
  have hj : sIx items.size items.size hi ≤ items.size := sIx_le _ _ (Nat.le_refl _) hi
  obtain ⟨os, hos, hcs, hds⟩ := id hs
  have hTs : s.TypeIs (.ref sl) "slice" := ⟨os, hos, hcs⟩
  unfold getItem
  try with_reducible refine wpAny_holding ?_
  first | refine wpAny_bind (wpAny_pure ?_) | skip
  refine wpAny_bind (wpAny_sequenceKey ht.typeIs (by decide) ?_)
  refine wpAny_bind (wpAny_callSpecial?_slot (name := Str.ofString "__getitem__") ht.typeIs PyProof.Rows.slot_tuple_getitem
    (wpAny_call_entry PyProof.Rows.slot_tuple_getitem ht.typeIs entry_tuple_getitem ?_ (args_tuple_getitem _ _)))
  show wpAny _ _ (Builtin.Tuple.tupleItemsOf (.ref t) >>= _) _ _ s
  refine wpAny_bind (tupleItemsOf_ ht ?_)
  refine wpAny_bind (wpAny_typeOf hTs ?_)
  rw [if_pos (by decide)]
  refine wpAny_bind (sliceApplied_gen hs pl pu ?_)
  have hno : ¬ ((((sIx items.size 0 lo : Nat) : Int) == 0 && (1 : Int) == 1 && (sIx items.size items.size hi - sIx items.size 0 lo) == items.size) = true) := by
    intro q
    rw [Bool.and_eq_true, Bool.and_eq_true] at q
    have q1 : ((sIx items.size 0 lo : Nat) : Int) = 0 := eq_of_beq q.1.1
    have q2 : sIx items.size items.size hi - sIx items.size 0 lo = items.size := eq_of_beq q.2
    exact hw ⟨by omega, by omega⟩
  show wpAny _ _ (if (((sIx items.size 0 lo : Nat) : Int) == 0 && (1 : Int) == 1 && (sIx items.size items.size hi - sIx items.size 0 lo) == items.size) = true then _ else _) _ _ s
  rw [if_neg hno, pick_gen]
  first
    | exact wpAny_bind (m := Builtin.Tuple.tupleExact _) (wpAny_newObj_type (wpAny_pure ⟨_, rfl, wpAny_pure h⟩) htake)
    | exact wpAny_bind (m := Builtin.Tuple.tupleExact _) (wpAny_newObj_type (wpAny_bind (wpAny_pure (wpAny_pure ⟨_, rfl, wpAny_pure h⟩))) htake)
    | exact wpAny_bind (wpAny_bind (m := Builtin.Tuple.tupleExact _) (wpAny_newObj_type (wpAny_pure (wpAny_pure ⟨_, rfl, wpAny_pure h⟩)) htake))
    | exact wpAny_bind (wpAny_bind (m := Builtin.Tuple.tupleExact _) (wpAny_newObj_type (wpAny_pure ⟨_, rfl, wpAny_pure h⟩) htake))
end
end HT
namespace L2
open PySem PySem.Spec PyProof.Rows
abbrev TO := St → Hp → (Option Int → Hp → Prop) → Prop
def PO (X : Cx) (e : Option Expr) (t : TO) : Prop :=
  ∀ (pins : List (Addr × Obj)) (s : Shared) (σ : St) (H : Hp) (Q : Option Int → Hp → Prop), Inv X pins σ H s → t σ H Q →
    wpAny (model X.prog X.w) X.A (evalPart e X.env) (fun u s' => ∃ o H', Inv X pins σ H' s' ∧ IsPart u o ∧ Q o H') X.xe s
def tNoPart : TO := fun _ H Q => Q none H
def tPart (t : TE) : TO := fun σ H Q => t σ H fun x H1 => ∃ i, x = .int i ∧ Q (some i) H1
section
variable {X : Cx} {e : Expr} {te : TE} {lo hi : Option Expr} {tl th : TO} {pos p2 : Pos}
theorem po_none : PO X none tNoPart := by
  intro pins s σ H Q I h
  rw [evalPart_none]
  exact wpAny_pure ⟨none, H, I, .none, h⟩
theorem po_some (h : PE X e te) : PO X (some e) (tPart te) := by
  intro pins s σ H Q I hw
  rw [evalPart_some]
  refine thn (h pins s σ H _ I hw) fun u s1 ⟨x, H1, I1, r1, q1⟩ => ?_
  obtain ⟨i, rfl, q⟩ := q1
  obtain ⟨t, rfl⟩ := r1
  exact ⟨some i, H1, I1, .int i t, q⟩
def SlR (X : Cx) (r : V → Option Int → Option Int → Hp → VK → Prop) : Prop :=
  ∀ (pins : List (Addr × Obj)) (s : Shared) (σ : St) (H : Hp) (x : V) (v vl vu : Value) (lo hi : Option Int) (sl : Addr) (Q : VK), Inv X pins σ H s → RelV x v → s.heap.IsSliceOf sl vl vu .none → IsPart vl lo → IsPart vu hi → r x lo hi H Q →
    ∃ T id, typeLookup (.type T) "__getitem__" = pure (some (.builtin id)) ∧ s.TypeIs v T ∧ wpAny (model X.prog X.w) X.A (getItem v (.ref sl)) (EP X pins σ Q) X.xe s
theorem SlR.or {r r' : V → Option Int → Option Int → Hp → VK → Prop} (h : SlR X r) (h' : SlR X r') : SlR X (fun x lo hi H Q => r x lo hi H Q ∨ r' x lo hi H Q) := by
  intro pins s σ H x v vl vu lo hi sl Q I rx hs pl pu q
  rcases q with q | q
  · exact h pins s σ H x v vl vu lo hi sl Q I rx hs pl pu q
  · exact h' pins s σ H x v vl vu lo hi sl Q I rx hs pl pu q
def tSl (r : V → Option Int → Option Int → Hp → VK → Prop) (te : TE) (tl th : TO) : TE := fun σ H Q => te σ H fun x H1 => tl σ H1 fun l H2 => th σ H2 fun u H3 => r x l u H3 Q
theorem pe_slice {r : V → Option Int → Option Int → Hp → VK → Prop} (hr : SlR X r) (he : PE X e te) (hl : PO X lo tl) (hu : PO X hi th) : PE X (.Subscript e (.Slice lo hi none p2) pos) (tSl r te tl th) := by
  intro pins s σ H Q I h
  refine Subscript_ (thn (he pins s σ H _ I h) fun v s1 ⟨x, H1, I1, r1, q1⟩ => ?_)
  refine wpAny_Slice (thn (hl pins s1 σ H1 _ I1 q1) fun vl s2 ⟨l, H2, I2, pl, q2⟩ => thn (hu pins s2 σ H2 _ I2 q2) fun vu s3 ⟨u, H3, I3, pu, q3⟩ => ?_)
  rw [evalPart_none]
  refine wpAny_pure ?_
  have I4 : Inv X pins σ H3 { s3 with heap := s3.heap.push { cls := .type "slice", data := .fields #[vl, vu, .none] } } := I3.kept (t' := s3.toks) fun b ob q => Heap.get?_push_of_some _ q
  obtain ⟨T, id, hT, ht, hg⟩ := hr pins { s3 with heap := s3.heap.push { cls := .type "slice", data := .fields #[vl, vu, .none] } } σ H3 x v vl vu l u s3.heap.objs.size Q I4 r1 (Heap.IsSliceOf.new ..) pl pu q3
  show wpAny (model X.prog X.w) X.A (subscriptTail e (.Slice lo hi none p2) v (.ref s3.heap.objs.size)) (EP X pins σ Q) X.xe { s3 with heap := s3.heap.push { cls := .type "slice", data := .fields #[vl, vu, .none] } }
  exact tail_any (ops := [.ref s3.heap.objs.size, v]) ht hT hg (by with_unfolding_all rfl)
def cutV (xs : List V) (lo hi : Option Int) : List V := (xs.drop (HT.sIx xs.length 0 lo)).take (HT.sIx xs.length xs.length hi - HT.sIx xs.length 0 lo)
theorem cutV_length (xs : List V) (lo hi : Option Int) : (cutV xs lo hi).length ≤ xs.length := by
  unfold cutV
  rw [List.length_take, List.length_drop]
  omega
def rSlT (K : PySem.W.Frag) : V → Option Int → Option Int → Hp → VK → Prop := fun x lo hi H Q => ∃ a xs, x = .ref a ∧ SqT K H a xs ∧
  ¬ (HT.sIx xs.length 0 lo = 0 ∧ HT.sIx xs.length xs.length hi = xs.length) ∧ ∀ p, H p = none → Q (.ref p) (upd H p (.tup (cutV xs lo hi)))
theorem sl_tup : SlR X (rSlT X.K) := by
  intro pins s σ H x v vl vu lo hi sl Q I rx hs pl pu h
  obtain ⟨a, xs, rfl, hx, hw, q⟩ := h
  cases rx
  obtain ⟨its, r, ht, hz⟩ := I.tuple hx
  have hlen : its.toArray.size = xs.length := by rw [List.size_toArray]; exact r.length.symm
  refine ⟨"tuple", _, PyProof.Rows.slot_tuple_getitem.lookup, ht.typeIs, ?_⟩
  refine HT.getItem_tuple_cut ht hs pl pu (by rw [hlen]; exact hw) ?_ (by rw [hlen]; exact hz)
  rw [hlen]
  refine ⟨.ref s.heap.objs.size, _, I.laid (t' := s.toks) (o := .tup (cutV xs lo hi)) (fun b ob q => Heap.get?_push_of_some _ q) (Nat.le_refl _) ?_, rfl, q _ (I.hok.fresh (Nat.le_refl _))⟩
  exact ⟨Nat.le_trans (cutV_length xs lo hi) hz, _, (r.drop (HT.sIx xs.length 0 lo)).take (HT.sIx xs.length xs.length hi - HT.sIx xs.length 0 lo), IsTup.new _ _⟩
def rCatT (K : PySem.W.Frag) : R2 := fun x y H Q => ∃ a b xs ys, x = .ref a ∧ y = .ref b ∧ SqT K H a xs ∧ SqT K H b ys ∧ xs ≠ [] ∧ xs.length + ys.length ≤ sizeLine ∧
  (ys = [] → Q (.ref a) H) ∧ (ys ≠ [] → ∀ p, H p = none → Q (.ref p) (upd H p (.tup (xs ++ ys))))
theorem Vals.nil_iff {xs : List V} {us : List Value} (r : Vals xs us) : us = [] ↔ xs = [] := by
  cases r with
  | nil => simp
  | cons _ _ => simp
theorem op_catT : OpR X (binaryOp .Add) (rCatT X.K) := by
  intro pins s σ H x y v u Q I rx ry h
  obtain ⟨a, b, xs, ys, rfl, rfl, ha, hb, hx, hz, q1, q2⟩ := h
  cases rx
  cases ry
  obtain ⟨its, r1, p1, _⟩ := I.tuple ha
  obtain ⟨its2, r2, p2, _⟩ := I.tuple hb
  refine HT.cat_tup p1 p2 (fun z => hx (r1.nil_iff.mp z)) (fun z => ⟨.ref a, H, I, rfl, q1 (r2.nil_iff.mp z)⟩) (fun z => ?_) (by rw [← r1.length, ← r2.length]; exact hz)
  refine ⟨.ref s.heap.objs.size, _, I.laid (t' := s.toks) (o := .tup (xs ++ ys)) (fun b ob q => Heap.get?_push_of_some _ q) (Nat.le_refl _) ?_, rfl, q2 (fun w => z (r2.nil_iff.mpr w)) _ (I.hok.fresh (Nat.le_refl _))⟩
  exact ⟨by rw [List.length_append]; exact hz, _, r1.append r2, IsTup.new _ _⟩
end
end L2
namespace L2
open PySem PySem.Spec PyProof.Rows
def ixN (n : Nat) (i : Int) : Option Nat := if 0 ≤ i then (if i < n then some i.toNat else none) else if -(n : Int) ≤ i then some (i + n).toNat else none
def atI {α : Type} (xs : List α) (i : Int) : Option α := (ixN xs.length i).bind fun j => xs[j]?
theorem ixN_seq {n : Nat} {i : Int} {j : Nat} (h : ixN n i = some j) : seqIndex? i n = some j ∧ j < n ∧ -(n : Int) ≤ i ∧ i < n := by
  unfold ixN at h
  by_cases h0 : 0 ≤ i
  · rw [if_pos h0] at h
    by_cases h1 : i < n
    · rw [if_pos h1] at h
      have e : i.toNat = j := Option.some.inj h
      exact ⟨by rw [seqIndex_of h0 h1, e], by omega, by omega, h1⟩
    · rw [if_neg h1] at h; cases h
  · rw [if_neg h0] at h
    by_cases h1 : -(n : Int) ≤ i
    · rw [if_pos h1] at h
      have e : (i + n).toNat = j := Option.some.inj h
      exact ⟨by rw [seqIndex_neg (by omega) h1, e], by omega, h1, by omega⟩
    · rw [if_neg h1] at h; cases h
theorem atI_get {α : Type} {xs : List α} {i : Int} {v : α} (h : atI xs i = some v) : ∃ j, seqIndex? i xs.length = some j ∧ xs[j]? = some v ∧ j < xs.length ∧ -(xs.length : Int) ≤ i ∧ i < xs.length := by
  unfold atI at h
  cases e : ixN xs.length i with
  | none => rw [e] at h; cases h
  | some j =>
    rw [e] at h
    obtain ⟨h1, h2, h3, h4⟩ := ixN_seq e
    exact ⟨j, h1, h, h2, h3, h4⟩
theorem atI_nat {α : Type} {xs : List α} {j : Nat} {v : α} (h : xs[j]? = some v) : atI xs (j : Int) = some v := by
  have hj : j < xs.length := (List.getElem?_eq_some_iff.mp h).1
  have e : ixN xs.length (j : Int) = some j := by
    unfold ixN
    rw [if_pos (by omega), if_pos (by omega)]; simp
  unfold atI; rw [e]; exact h
def PlainIx (b : Expr) : Prop := ∀ o i, subscripted b false o i = operate [o, i] (getItem o i)
def IxR (X : Cx) (r : R2) : Prop :=
  ∀ (value slice : Expr) (pins : List (Addr × Obj)) (s : Shared) (σ : St) (H : Hp) (x y : V) (v u : Value) (Q : VK), Inv X pins σ H s → RelV x v → RelV y u → r x y H Q →
    subscripted slice false v u = operate [v, u] (getItem v u) → wpAny (model X.prog X.w) X.A (subscriptTail value slice v u) (EP X pins σ Q) X.xe s
def MtR (X : Cx) (id : String) (r : V → List V → Hp → VK → Prop) : Prop :=
  ∀ (pins : List (Addr × Obj)) (s : Shared) (σ : St) (H : Hp) (x : V) (xs : List V) (v : Value) (us : List Value) (Q : VK), Inv X pins σ H s → RelV x v → Vals xs us → r x xs H Q →
    wpAny (model X.prog X.w) X.A (call (.builtin id) (v :: us)) (EP X pins σ Q) X.xe s
section
variable {X : Cx} {a b : Expr} {ta tb : TE} {pos : Pos}
theorem IxR.or {r r' : R2} (h : IxR X r) (h' : IxR X r') : IxR X (fun x y H Q => r x y H Q ∨ r' x y H Q) := by
  intro value slice pins s σ H x y v u Q I rx ry q hs
  rcases q with q | q
  · exact h value slice pins s σ H x y v u Q I rx ry q hs
  · exact h' value slice pins s σ H x y v u Q I rx ry q hs
theorem pe_ix {r : R2} (hr : IxR X r) (ha : PE X a ta) (hb : PE X b tb) (hs : PlainIx b) : PE X (.Subscript a b pos) (tOp r ta tb) := by
  intro pins s σ H Q I h
  exact Subscript_ (binT ha hb I h fun v u s2 x y H2 I2 rx ry q => hr a b pins s2 σ H2 x y v u Q I2 rx ry q (hs _ _))
def rIxL (K : PySem.W.Frag) : R2 := fun x y H Q => ∃ p xs i v, x = .ref p ∧ y = .int i ∧ SqL K H p xs ∧ atI xs i = some v ∧ Q v H
def rIxT (K : PySem.W.Frag) : R2 := fun x y H Q => ∃ p xs i v, x = .ref p ∧ y = .int i ∧ SqT K H p xs ∧ atI xs i = some v ∧ Q v H
def rIxS : R2 := fun x y H Q => ∃ z i c, x = .str z ∧ y = .int i ∧ z.length ≤ sizeLine ∧ atI z.cps.toList i = some c ∧ Q (.str ⟨#[c]⟩) H
theorem ix_list : IxR X (rIxL X.K) := by
  intro value slice pins s σ H x y v u Q I rx ry h hs
  obtain ⟨p, xs, i, z, rfl, rfl, hq, he, q⟩ := h
  cases rx
  obtain ⟨t, rfl⟩ := ry
  obtain ⟨its, r, pl, hz⟩ := I.list hq
  obtain ⟨j, h1, h2, h3, h4, h5⟩ := atI_get he
  obtain ⟨w, ew, rw'⟩ := r.get h2
  have hl := r.length
  have hn := line63
  have fin : EP X pins σ Q w s := ⟨z, H, I, rw', q⟩
  by_cases h0 : 0 ≤ i
  · have hj : i.toNat = j := by
      rw [seqIndex_of h0 h5] at h1
      exact Option.some.inj h1
    exact item_listR pl.isList h0 (by omega) (by rw [hj]; simpa using ew) fin hs
  · have hj : (i + (its.toArray.size : Int)).toNat = j := by
      rw [seqIndex_neg (by omega) h4] at h1
      rw [List.size_toArray, ← hl]
      exact Option.some.inj h1
    exact subscriptTail_builtinR (x := w) pl.isList.typeIs slot_list_getitem.lookup
      (wpAny_getItem_list_neg (Q := fun r s' => r = w ∧ EP X pins σ Q r s') pl.isList (by omega) (by rw [List.size_toArray] <;> omega) (by omega) (by rw [hj]; simpa using ew) ⟨rfl, fin⟩) hs
theorem ix_tup : IxR X (rIxT X.K) := by
  intro value slice pins s σ H x y v u Q I rx ry h hs
  obtain ⟨p, xs, i, z, rfl, rfl, hq, he, q⟩ := h
  cases rx
  obtain ⟨t, rfl⟩ := ry
  obtain ⟨its, r, pl, hz⟩ := I.tuple hq
  obtain ⟨j, h1, h2, h3, h4, h5⟩ := atI_get he
  obtain ⟨w, ew, rw'⟩ := r.get h2
  have hl := r.length
  have hn := line63
  have fin : EP X pins σ Q w s := ⟨z, H, I, rw', q⟩
  exact subscriptTail_builtinR (x := w) pl.typeIs slot_tuple_getitem.lookup
    (getItem_tuple (j := j) (Q := fun r s' => r = w ∧ EP X pins σ Q r s') pl (by omega) (by omega) (by rw [List.size_toArray, ← hl]; exact h1) (by simpa using ew) ⟨rfl, fin⟩) hs
theorem ix_str : IxR X rIxS := by
  intro value slice pins s σ H x y v u Q I rx ry h hs
  obtain ⟨z, i, c, rfl, rfl, hz, he, q⟩ := h
  obtain ⟨t, rfl⟩ := rx
  obtain ⟨t', rfl⟩ := ry
  obtain ⟨j, h1, h2, h3, h4, h5⟩ := atI_get he
  have hl : z.cps.toList.length = z.length := by simp [Str.length]
  rw [hl] at h1 h4 h5
  have hn := line63
  exact tail_any (typeIs_str s z t) slot_str_getitem.lookup (getItem_str (c := c) (by
    have e1 : decide (i < -(2 ^ 63 : Int)) = false := decide_eq_false (by omega)
    have e2 : decide (i ≥ 2 ^ 63) = false := decide_eq_false (by omega)
    rw [e1, e2, Bool.or_false]) (by rw [h1]; simpa using h2) ⟨.str ⟨#[c]⟩, H, I.tok _, ⟨_, rfl⟩, q⟩) hs
def rIx (K : PySem.W.Frag) : R2 := fun x y H Q => rIxL K x y H Q ∨ rIxT K x y H Q ∨ rIxS x y H Q
theorem ix_seq : IxR X (rIx X.K) := ix_list.or (ix_tup.or ix_str)
theorem slice_bounds (lo hi : Option Int) (n : Nat) : (sliceBounds lo hi none n).1 = ((HT.sIx n 0 lo : Nat) : Int) ∧ (sliceBounds lo hi none n).2.1 = ((HT.sIx n n hi : Nat) : Int) ∧ (sliceBounds lo hi none n).2.2 = 1 := by
  refine ⟨?_, ?_, rfl⟩
  · cases lo with
    | none => simp [sliceBounds, HT.sIx]
    | some i =>
      simp only [sliceBounds, HT.sIx, Option.getD_none, show (1 : Int) > 0 by decide, if_true]
      by_cases h : i < 0
      · simp only [h, if_true] <;> omega
      · simp only [h, if_false] <;> omega
  · cases hi with
    | none => simp [sliceBounds, HT.sIx]
    | some i =>
      simp only [sliceBounds, HT.sIx, Option.getD_none, show (1 : Int) > 0 by decide, if_true]
      by_cases h : i < 0
      · simp only [h, if_true] <;> omega
      · simp only [h, if_false] <;> omega
theorem slicePick_cut (its : List Value) (lo hi : Option Int) : slicePick its.toArray lo hi none = ((its.drop (HT.sIx its.length 0 lo)).take (HT.sIx its.length its.length hi - HT.sIx its.length 0 lo)).toArray := by
  obtain ⟨h1, h2, h3⟩ := slice_bounds lo hi its.toArray.size
  unfold slicePick
  rw [h1, h2, h3]
  simp only [sliceRange_one, pick_run, List.size_toArray] <;> rfl
def rSlL (K : PySem.W.Frag) : V → Option Int → Option Int → Hp → VK → Prop := fun x lo hi H Q => ∃ a xs, x = .ref a ∧ SqL K H a xs ∧ ∀ p, H p = none → Q (.ref p) (upd H p (.lst (cutV xs lo hi)))
theorem sl_list : SlR X (rSlL X.K) := by
  intro pins s σ H x v vl vu lo hi sl Q I rx hs pl pu h
  obtain ⟨a, xs, rfl, hx, q⟩ := h
  cases rx
  obtain ⟨its, r, ht, hz⟩ := I.list hx
  have hlen := r.length
  refine ⟨"list", _, slot_list_getitem.lookup, ht.isList.typeIs, ?_⟩
  refine wpAny_getItem_list_slice ht.isList hs pl pu .none (by simp) ?_ (by rw [List.size_toArray] <;> omega)
  rw [slicePick_cut, ← hlen]
  refine ⟨.ref s.heap.objs.size, _, I.laid (t' := s.toks) (o := .lst (cutV xs lo hi)) (fun b ob q => Heap.get?_push_of_some _ q) (Nat.le_refl _) ?_, rfl, q _ (I.hok.fresh (Nat.le_refl _))⟩
  exact ⟨Nat.le_trans (cutV_length xs lo hi) hz, _, 0, (r.drop (HT.sIx xs.length 0 lo)).take (HT.sIx xs.length xs.length hi - HT.sIx xs.length 0 lo), Heap.get?_push_size _ rfl⟩
def flatV : V → Bool
  | .non => true
  | .bl _ => true
  | .int _ => true
  | .str _ => true
  | _ => false
def eqV : V → V → Bool
  | .non, .non => true
  | .bl a, .bl b => a == b
  | .bl a, .int b => (if a then 1 else 0) == b
  | .int a, .bl b => a == (if b then 1 else 0)
  | .int a, .int b => a == b
  | .str a, .str b => a == b
  | _, _ => false
theorem eqAt_V {A : Around} {s : Shared} {y x : V} {u v : Value} (ry : RelV y u) (rx : RelV x v) (fy : flatV y = true) (fx : flatV x = true) : SeqAt.EqAt A s u v (eqV y x) := by
  cases y with
  | non =>
    cases ry
    cases x with
    | non => cases rx; exact SeqAt.EqAt.same _
    | bl b => cases rx; exact SeqAt.EqAt.none_bool b
    | int b => obtain ⟨t, rfl⟩ := rx; exact SeqAt.EqAt.none_int b t
    | str b => obtain ⟨t, rfl⟩ := rx; exact SeqAt.EqAt.none_str b t
    | _ => exact absurd (show false = true from fx) Bool.false_ne_true
  | bl a =>
    cases ry
    cases x with
    | non => cases rx; exact SeqAt.EqAt.bool_none a
    | bl b => cases rx; exact SeqAt.EqAt.bool_bool a b
    | int b => obtain ⟨t, rfl⟩ := rx; exact SeqAt.EqAt.bool_int a b t
    | str b => obtain ⟨t, rfl⟩ := rx; exact SeqAt.EqAt.bool_str a b t
    | _ => exact absurd (show false = true from fx) Bool.false_ne_true
  | int a =>
    obtain ⟨t', rfl⟩ := ry
    cases x with
    | non => cases rx; exact SeqAt.EqAt.int_none a t'
    | bl b => cases rx; exact SeqAt.EqAt.int_bool a t' b
    | int b => obtain ⟨t, rfl⟩ := rx; exact SeqAt.EqAt.int_int a t' b t
    | str b => obtain ⟨t, rfl⟩ := rx; exact SeqAt.EqAt.int_str a t' b t
    | _ => exact absurd (show false = true from fx) Bool.false_ne_true
  | str a =>
    obtain ⟨t', rfl⟩ := ry
    cases x with
    | non => cases rx; exact SeqAt.EqAt.str_none a t'
    | bl b => cases rx; exact SeqAt.EqAt.str_bool a t' b
    | int b => obtain ⟨t, rfl⟩ := rx; exact SeqAt.EqAt.str_int a t' b t
    | str b => obtain ⟨t, rfl⟩ := rx; exact SeqAt.EqAt.str_str a t' b t
    | _ => exact absurd (show false = true from fx) Bool.false_ne_true
  | _ => exact absurd (show false = true from fy) Bool.false_ne_true
def eqU (x : V) (u : Value) : Bool := match u with
  | .none => eqV .non x
  | .bool b => eqV (.bl b) x
  | .int i _ => eqV (.int i) x
  | .str z _ => eqV (.str z) x
  | _ => false
theorem eqU_of {x y : V} {u : Value} (r : RelV y u) (f : flatV y = true) : eqU x u = eqV y x := by
  cases y with
  | non => cases r; rfl
  | bl b => cases r; rfl
  | int i => obtain ⟨t, rfl⟩ := r; rfl
  | str z => obtain ⟨t, rfl⟩ := r; rfl
  | _ => exact absurd (show false = true from f) Bool.false_ne_true
theorem any_eqU {x : V} : ∀ {xs : List V} {us : List Value}, Vals xs us → xs.all flatV = true → us.any (eqU x) = xs.any fun y => eqV y x
  | _, _, .nil, _ => rfl
  | y :: xs, u :: us, .cons r t, f => by
    rw [List.all_cons, Bool.and_eq_true] at f
    rw [List.any_cons, List.any_cons, eqU_of r f.1, any_eqU t f.2]
theorem mem_eqAt {A : Around} {s : Shared} {x : V} {v : Value} (rx : RelV x v) (fx : flatV x = true) : ∀ {xs : List V} {us : List Value}, Vals xs us → xs.all flatV = true → ∀ u ∈ us, SeqAt.EqAt A s u v (eqU x u)
  | _, _, .nil, _ => fun u hu => by cases hu
  | y :: xs, u :: us, .cons r t, f => fun u' hu => by
    rw [List.all_cons, Bool.and_eq_true] at f
    rcases List.mem_cons.mp hu with rfl | hu
    · rw [eqU_of r f.1]; exact eqAt_V r rx f.1 fx
    · exact mem_eqAt rx fx t f.2 u' hu
def inV (x : V) (xs : List V) : Bool := xs.any fun y => eqV y x
def rIn (K : PySem.W.Frag) (neg : Bool) : R2 := fun x y H Q => ∃ p xs, y = .ref p ∧ (SqL K H p xs ∨ SqT K H p xs) ∧ flatV x = true ∧ xs.all flatV = true ∧ Q (.bl (if neg then !inV x xs else inV x xs)) H
theorem op_in_seq : OpR X (compareOp .In) (rIn X.K false) := by
  intro pins s σ H x y v u Q I rx ry h
  obtain ⟨p, xs, rfl, hq, fx, fs, q⟩ := h
  cases ry
  rcases hq with hq | hq
  · obtain ⟨its, r, pl, hz⟩ := I.list hq
    refine SeqAt.in_listAt (eqU x) pl.isList (fun w hw => mem_eqAt rx fx r fs w (by simpa using hw)) ⟨.bl _, H, I, rfl, ?_⟩
    rw [show its.toArray.any (eqU x) = its.any (eqU x) by simp, any_eqU r fs]
    exact q
  · obtain ⟨its, r, pl, hz⟩ := I.tuple hq
    refine SeqAt.in_tupleAt (eqU x) pl (fun w hw => mem_eqAt rx fx r fs w (by simpa using hw)) ⟨.bl _, H, I, rfl, ?_⟩
    rw [show its.toArray.any (eqU x) = its.any (eqU x) by simp, any_eqU r fs]
    exact q
theorem call_tuple_of : CallR X (.type "tuple") (fun xs H Q => ∃ p ys, xs = [.ref p] ∧ ((SqL X.K H p ys ∧ ∀ l, H l = none → Q (.ref l) (upd H l (.tup ys))) ∨ (SqT X.K H p ys ∧ Q (.ref p) H))) := by
  intro pins s σ H xs us Q I r h
  obtain ⟨p, ys, rfl, h⟩ := h
  obtain ⟨u, rfl, rx⟩ := vals1 r
  cases rx
  rcases h with ⟨hq, q⟩ | ⟨hq, q⟩
  · obtain ⟨its, r', pl, hz⟩ := I.list hq
    have hlen := r'.length
    refine call_tuple_list pl.isList (fun h' kp => ?_) (by simp only [List.size_toArray] <;> omega)
    have I1 : Inv X pins σ H { s with heap := h' } := I.kept (t' := s.toks) kp
    have I2 : Inv X pins σ (upd H h'.objs.size (.tup ys)) { s with heap := h'.push { cls := .type "tuple", data := .seq its.toArray } } :=
      I1.laid (t' := s.toks) (fun b o e => Heap.get?_push_of_some _ e) (Nat.le_refl _) (show ObjOk X.prog X.w _ _ _ (.tup ys) from ⟨hz, its, r', IsTup.new _ _⟩)
    exact ⟨.ref h'.objs.size, _, I2, rfl, q _ (I1.hok.fresh (Nat.le_refl _))⟩
  · obtain ⟨its, r', pl, hz⟩ := I.tuple hq
    exact call_tuple_same pl ⟨.ref p, H, I, rfl, q⟩
def tyV (K : PySem.W.Frag) (T : String) (x : V) (H : Hp) : Prop := match x with
  | .str _ => T = "str"
  | .int _ => T = "int"
  | .ref p => (T = "list" ∧ ∃ xs, SqL K H p xs) ∨ (T = "tuple" ∧ ∃ o, K.lookup p = some o ∧ o.cls = .type "tuple" ∧ o.dict = none) ∨
      (T = "dict" ∧ ((∃ kvs, H p = some (.dK kvs)) ∨ ∃ kvs, H p = some (.dT kvs))) ∨ (T = "set" ∧ ∃ S n, H p = some (.set S n))
  | _ => False
theorem tyV_is {pins : List (Addr × Obj)} {σ : St} {H : Hp} {s : Shared} {T : String} {x : V} {v : Value} (I : Inv X pins σ H s) (r : RelV x v) (ty : tyV X.K T x H) :
    s.TypeIs v T ∧ ∀ a, v = .ref a → ∃ ob, s.heap.get? a = some ob ∧ ob.dict = none := by
  cases x with
  | str z =>
    obtain ⟨t, rfl⟩ := r
    cases (show T = "str" from ty)
    exact ⟨typeIs_str s z t, fun _ e => nomatch e⟩
  | int i =>
    obtain ⟨t, rfl⟩ := r
    cases (show T = "int" from ty)
    exact ⟨typeIs_int s i t, fun _ e => nomatch e⟩
  | ref p =>
    cases r
    rcases ty with ⟨rfl, xs, hq⟩ | ⟨rfl, o, hk, hc, hd⟩ | ⟨rfl, hk⟩ | ⟨rfl, S, n, hk⟩
    · obtain ⟨its, _, pl, _⟩ := I.list hq
      refine ⟨pl.isList.typeIs, fun a e => ?_⟩
      cases e
      obtain ⟨o, n, e, c, hd, _⟩ := pl
      exact ⟨o, e, hd⟩
    · refine ⟨⟨o, I.kIn p o hk, hc⟩, fun a e => ?_⟩
      cases e
      exact ⟨o, I.kIn _ o hk, hd⟩
    · have z : ∃ o, s.heap.get? p = some o ∧ o.ExactDict := by
        rcases hk with ⟨kvs, hk⟩ | ⟨kvs, hk⟩
        · obtain ⟨_, _, _, _, o, _, _, e, ex, _⟩ := I.hok p _ hk
          exact ⟨o, e, ex⟩
        · obtain ⟨_, _, _, _, o, _, _, e, ex, _⟩ := I.hok p _ hk
          exact ⟨o, e, ex⟩
      obtain ⟨o, e, ex⟩ := z
      refine ⟨⟨o, e, ex.1⟩, fun a e2 => ?_⟩
      cases e2
      exact ⟨o, e, ex.2.1⟩
    · obtain ⟨o, _, _, _, e, ex, _⟩ := I.hok p _ hk
      refine ⟨⟨o, e, ex.1⟩, fun a e2 => ?_⟩
      cases e2
      exact ⟨o, e, ex.2.1⟩
  | _ => exact False.elim ty
def tBM (K : PySem.W.Frag) (T : String) (r : V → List V → Hp → VK → Prop) (to : TE) (t : TA) : TE := fun σ H Q => to σ H fun x H1 => tyV K T x H1 ∧ t σ H1 fun xs H2 => r x xs H2 Q
variable {o e : Expr} {es : List Expr} {to : TE} {t : TA} {name : Str} {apos cpos : Pos} {T id : String} {r : V → List V → Hp → VK → Prop}
theorem pe_bm (pa : PlainAttrs T) (slot : Slot T name id) (hty : typeOf (.builtin id) = pure (.type "method_descriptor")) (hm : MtR X id r) (ho : PE X o to) (ha : PA X (e :: es) t)
    (hbase : attributeBase o name X.env (eval o X.env) = eval o X.env := by rfl)
    (hfew : ((backTo cpos (starEach (e :: es) X.env)).all (fun x => !x.1) && (backToKw cpos (keywordEach [] X.env)).all (fun x => x.1.isSome)
      && decide ((e :: es).length + ([] : List Keyword).length + (if ([] : List Keyword).isEmpty then 0 else 1) < 30)) = true := by rfl)
    (hline : (apos.endLine == cpos.line) = true := by rfl) (hs : starEach (e :: es) X.env = (false, eval e X.env) :: starEach es X.env := by rfl) (hplain : (backTo cpos (starEach es X.env)).any (·.1) = false := by rfl) :
    PE X (.Call (.Attribute o name apos) (e :: es) [] cpos) (tBM X.K T r to t) := by
  intro pins s σ H Q I h
  refine wpAny_Call_method_late hbase hfew hline rfl (thn (ho pins s σ H _ I h) fun v s1 ⟨x, H1, I1, r1, ty, q1⟩ => ?_)
  obtain ⟨h1, h2⟩ := tyV_is I1 r1 ty
  refine ⟨T, id, pa, slot, hty, h1, h2, ?_⟩
  have hA := ha cpos pins s1 σ H1 _ I1 q1
  rw [hs] at hA ⊢
  refine Calls.callWith_builtin (by show (false || (backTo cpos (starEach es X.env)).any (·.1)) = false; rw [hplain] <;> rfl) (Calls.evalArgs_plain ?_)
  exact thn hA fun us s2 ⟨vs, H2, I2, r2, q2⟩ => hm pins s2 σ H2 x vs v us Q I2 r1 r2 q2
/- xs.append(e), list.index on a module's tuple .. are MtR facts of 06m -/
end
end L2
namespace L2
open PySem PySem.Spec PyProof.Rows
def MtM (X : Cx) (id : String) (r : V → List V → Hp → VK → Prop) : Prop :=
  ∀ (pins : List (Addr × Obj)) (s : Shared) (σ : St) (H : Hp) (x : V) (xs : List V) (v : Value) (us : List Value) (Q : VK), Inv X pins σ H s → RelV x v → Vals xs us → r x xs H Q →
    wpAny (model X.prog X.w) X.A (call (.builtin id) (v :: us)) (EP X pins σ Q) X.xe s
theorem Vals.one : ∀ {x : V} {us : List Value}, Vals [x] us → ∃ u, us = [u] ∧ RelV x u
  | _, _, .cons r .nil => ⟨_, rfl, r⟩
theorem Vals.rep {xs : List V} {us : List Value} (h : Vals xs us) : ∀ k : Nat, Vals (List.replicate k xs).flatten (List.replicate k us).flatten
  | 0 => .nil
  | k + 1 => by
    rw [List.replicate_succ, List.replicate_succ, List.flatten_cons, List.flatten_cons]
    exact Vals.append h (Vals.rep h k)
theorem foldl_rep (its : List Value) : ∀ (k : Nat) (acc : List Value),
    List.foldl (fun x1 x2 => x1 ++ x2) acc.toArray (List.replicate k its.toArray) = (acc ++ (List.replicate k its).flatten).toArray
  | 0, acc => by simp
  | k + 1, acc => by
    have e : acc.toArray ++ its.toArray = (acc ++ its).toArray := by simp
    have e2 : (acc ++ its) ++ (List.replicate k its).flatten = acc ++ (List.replicate (k + 1) its).flatten := by
      rw [List.replicate_succ, List.flatten_cons, List.append_assoc]
    rw [← e2, ← foldl_rep its k (acc ++ its), ← e, List.replicate_succ, List.foldl_cons]
section
variable {X : Cx} {pins : List (Addr × Obj)} {σ : St} {H : Hp} {s : Shared} {l b : Addr} {xs ys zs : List V}
theorem Inv.lset {its its' : List Value} {n : Nat} {f : Array Value → Array Value} {t' : Nat} (I : Inv X pins σ H s) (hH : H l = some (.lst xs))
    (e : s.heap.get? l = some { cls := .type "list", data := .seq its.toArray n }) (hf : f its.toArray = its'.toArray) (hv : Vals ys its') (hz : ys.length ≤ sizeLine) :
    Inv X pins σ (upd H l (.lst ys)) { s with heap := s.heap.update l (Obj.mapSeq f), toks := t' } := by
  have q := PySem.IsL.update e f
  rw [hf] at q
  refine I.write (x := l) (e := l) (by rw [hH]; exact trivial) (.inl rfl) (fun b' u hb hu => (Heap.get?_update_other s.heap (Obj.mapSeq f) (Ne.symm hb)).trans hu) ⟨_, q⟩ ?_
  exact ⟨hz, its', _, hv, q⟩
theorem Inv.lnew {its : List Value} {t' : Nat} (I : Inv X pins σ H s) (hv : Vals ys its) (hz : ys.length ≤ sizeLine) :
    Inv X pins σ (upd H s.heap.objs.size (.lst ys)) { s with heap := s.heap.push { cls := .type "list", data := .seq its.toArray }, toks := t' } :=
  I.laid (fun _ _ q => Heap.get?_push_of_some _ q) (Nat.le_refl _) ⟨hz, its, 0, hv, Heap.get?_push_size _ rfl⟩
theorem Inv.fresh (I : Inv X pins σ H s) : H s.heap.objs.size = none := I.hok.fresh (Nat.le_refl _)
theorem Inv.lstM (I : Inv X pins σ H s) (hH : H l = some (.lst xs)) : xs.length ≤ sizeLine ∧ ∃ (its : List Value) (n : Nat), Vals xs its ∧ xs.length = its.length ∧ s.heap.get? l = some { cls := .type "list", data := .seq its.toArray n } := by
  obtain ⟨z, its, n, r, e⟩ := I.hok l _ hH
  exact ⟨z, its, n, r, r.length, e⟩
theorem notLongL {n : Nat} (h : n ≤ sizeLine) : Builtin.List.listTooLong n = false := by
  unfold Builtin.List.listTooLong
  exact decide_eq_false (by omega)
end
section
variable {X : Cx}
def rAppend : V → List V → Hp → VK → Prop := fun x vs H Q => ∃ l xs y, x = .ref l ∧ vs = [y] ∧ H l = some (.lst xs) ∧ xs.length < sizeLine ∧ Q .non (upd H l (.lst (xs ++ [y])))
theorem mt_append : MtM X "list.append" rAppend := by
  intro pins s σ H x vs v us Q I rx rv h
  obtain ⟨l, xs, y, rfl, rfl, hH, hz, q⟩ := h
  cases rx
  obtain ⟨u, rfl, ru⟩ := rv.one
  obtain ⟨z, its, n, r, hl, e⟩ := I.lstM hH
  refine call_meets F.slot_list_append ⟨_, e, rfl⟩ F.entry_list_append (F.args_list_append_2 _ _) (PySem.list_append l its.toArray n u (by rw [List.size_toArray]; omega)) ⟨e, ?_⟩
  refine ⟨.non, _, I.lset (its' := its ++ [u]) hH e (by simp) (r.append (.cons ru .nil)) ?_, rfl, q⟩
  rw [List.length_append, List.length_singleton]
  omega
def rExtend : V → List V → Hp → VK → Prop := fun x vs H Q => ∃ l b xs zs, x = .ref l ∧ vs = [.ref b] ∧ H l = some (.lst xs) ∧ H b = some (.lst zs) ∧ xs.length + zs.length ≤ sizeLine ∧ Q .non (upd H l (.lst (xs ++ zs)))
theorem mt_extend : MtM X "list.extend" rExtend := by
  intro pins s σ H x vs v us Q I rx rv h
  obtain ⟨l, b, xs, zs, rfl, rfl, hH, hB, hz, q⟩ := h
  cases rx
  obtain ⟨u, rfl, ru⟩ := rv.one
  cases ru
  obtain ⟨z, its, n, r, hl, e⟩ := I.lstM hH
  obtain ⟨z2, its2, n2, r2, hl2, e2⟩ := I.lstM hB
  have hsz : its.toArray.size + its2.toArray.size ≤ sizeLine := by rw [List.size_toArray, List.size_toArray]; omega
  have hlong : ¬ (!its.toArray.isEmpty && Builtin.List.listTooLong (its.toArray.size + its2.toArray.size)) = true := by
    rw [notLongL hsz, Bool.and_false]
    exact Bool.false_ne_true
  refine call_meets F.slot_list_extend ⟨_, e, rfl⟩ F.entry_list_extend (F.args_list_extend_2 _ _)
    (AutoSeq1.list_extend_list_list_0 l its.toArray n b its2.toArray n2 hlong (by rw [List.size_toArray]; omega) (by omega)) ⟨e, e2, ?_⟩
  refine ⟨.non, _, I.lset (its' := its ++ its2) hH e (by simp) (r.append r2) ?_, rfl, q⟩
  rw [List.length_append]
  omega
def rCat : R2 := fun x y H Q => ∃ l b xs zs, x = .ref l ∧ y = .ref b ∧ H l = some (.lst xs) ∧ H b = some (.lst zs) ∧ xs.length + zs.length ≤ sizeLine ∧ ∀ p, H p = none → Q (.ref p) (upd H p (.lst (xs ++ zs)))
theorem op_cat : OpR X (binaryOp .Add) rCat := by
  intro pins s σ H x y v u Q I rx ry h
  obtain ⟨l, b, xs, zs, rfl, rfl, hH, hB, hz, q⟩ := h
  cases rx
  cases ry
  obtain ⟨z, its, n, r, hl, e⟩ := I.lstM hH
  obtain ⟨z2, its2, n2, r2, hl2, e2⟩ := I.lstM hB
  refine PySem.P.add_list e e2 ?_ (by rw [List.size_toArray, List.size_toArray]; omega)
  have ea : its.toArray ++ its2.toArray = (its ++ its2).toArray := by simp
  rw [ea]
  exact ⟨.ref _, _, I.lnew (t' := s.toks) (r.append r2) (by rw [List.length_append]; omega), rfl, q _ I.fresh⟩
def rRep : R2 := fun x y H Q => ∃ l k xs, x = .ref l ∧ y = .int k ∧ H l = some (.lst xs) ∧ -(2 ^ 63) ≤ k ∧ k < 2 ^ 63 ∧ xs.length * k.toNat ≤ sizeLine ∧
  ∀ p, H p = none → Q (.ref p) (upd H p (.lst (List.replicate k.toNat xs).flatten))
theorem len_rep {α : Type} (xs : List α) (k : Nat) : (List.replicate k xs).flatten.length = k * xs.length := by
  induction k with
  | zero => simp
  | succ k ih => rw [List.replicate_succ, List.flatten_cons, List.length_append, ih, Nat.succ_mul, Nat.add_comm]
theorem op_rep : OpR X (binaryOp .Mult) rRep := by
  intro pins s σ H x y v u Q I rx ry h
  obtain ⟨l, k, xs, rfl, rfl, hH, h1, h2, hz, q⟩ := h
  cases rx
  obtain ⟨t, rfl⟩ := ry
  obtain ⟨z, its, n, r, hl, e⟩ := I.lstM hH
  have hlen : its.toArray.size * k.toNat ≤ sizeLine := by rw [List.size_toArray, ← hl]; exact hz
  have hcap : ¬ its.toArray.size * k.toNat > (2 ^ 63 - 1) / 8 := by
    have : (sizeLine : Nat) ≤ (2 ^ 63 - 1) / 8 := by decide
    omega
  have hfit : ¬ (!Builtin.List.listFitsIndex k) = true := by
    rw [fitsIndex_both h1 h2]
    exact Bool.false_ne_true
  have hlong : ¬ Builtin.List.listTooLong (its.toArray.size * k.toNat) = true := by
    rw [notLongL hlen]
    exact Bool.false_ne_true
  have hnew : List.foldl (fun x1 x2 => x1 ++ x2) #[] (List.replicate (if its.toArray.isEmpty = true then 0 else k.toNat) its.toArray) = (List.replicate k.toNat its).flatten.toArray := by
    have f0 : ∀ m : Nat, List.foldl (fun x1 x2 => x1 ++ x2) #[] (List.replicate m its.toArray) = (List.replicate m its).flatten.toArray := fun m => by
      have := foldl_rep its m []
      rw [List.nil_append] at this
      exact this
    rw [f0]
    cases its with
    | nil => simp
    | cons a r' => rw [if_neg (by simp)]
  refine wpAny_binaryOp_repeat_ref (T := "list") (U := "int") (by decide) ⟨_, e, rfl⟩ (fun s' => typeIs_int s' k t) noFill_list_mul F.fills_int_mul F.slot_int_rmul repeat_list F.slot_int_index.lookup
    (call_meets F.slot_int_rmul (typeIs_int s k t) F.entry_int_rmul (F.args_int_rmul_2 _ _) (int___rmul___int_list k t l its.toArray n)
      ⟨e, rfl, ⟨_, e, rfl⟩, call_meets F.slot_list_mul ⟨_, e, rfl⟩ F.entry_list_mul (F.args_list_mul_2 _ _) (AutoListH.list___mul___list_int_3 l its.toArray n k t hfit hcap hlong) ⟨e, ?_⟩⟩)
  rw [hnew]
  exact ⟨.ref _, _, I.lnew (t' := s.toks) (r.rep k.toNat) (by rw [len_rep, Nat.mul_comm]; exact hz), rfl, q _ I.fresh⟩
end
section
variable {prog : Program} {w : World} {A : Around} {E : Value → Shared → Prop} {s : Shared}
end
section
variable {X : Cx}
end
end L2
namespace Att
open PySem PySem.W PySem.Calls PyProof.Rows
theorem ints_of_wellAll {P : Params} {h : Heap} : ∀ (ns : List Int) (vs : List Value), WellAll P h vs (ns.map WData.int) → IntsAre vs ns := by
  intro ns
  induction ns with
  | nil =>
    intro vs w
    rw [List.map_nil] at w
    cases w
    exact .nil
  | cons n ns ih =>
    intro vs w
    rw [List.map_cons] at w
    cases w with
    | cons a b =>
      cases a
      exact .cons _ _ (ih _ b)
theorem script_of {l : OpenLaw} {n : Nat} (hn : l.most = some n) {P : Params} {h : Heap} {args : List WData} {vals : List Value}
    (hpre : l.row.toRowW.claim.pre args = true) (hwl : WellAll P h vals args) :
    ∃ a vs ns, vals = [Value.ref a] ∧ args = [WData.list (ns.map WData.int)] ∧ h.get? a = some { cls := .type "list", data := .seq vs.toArray } ∧ IntsAre vs ns ∧ ns.length ≤ n := by
  have hsh : WShape.hasAll [] args [.list .int] = true := (pre_splitW hpre).1
  have hc : l.pre.holds [] { args := args } = true := (pre_splitW hpre).2
  obtain ⟨d, r, rfl, h1, h2⟩ := hasAllW_cons hsh
  obtain rfl := hasAllW_nil h2
  obtain ⟨xs, rfl, h3⟩ := hasW_list h1
  obtain ⟨ns, rfl⟩ := items_int h3
  have hlen : ns.length ≤ n := by
    unfold OpenLaw.pre at hc
    have h4 : (WTm.not (.lt (.lit (.int (n : Int))) (.len (.arg 0)))).holds [] { args := [.list (ns.map .int)] } = true := by
      have h4 := (holds_andW hc).1
      rw [hn] at h4
      exact h4
    have h5 := condW_of h4 (w_not (w_lt w_lit (w_len_list (w_arg rfl))))
    rw [List.length_map] at h5
    refine Nat.le_of_not_lt fun q => ?_
    have q' : (n : Int) < ((ns.length : Nat) : Int) := by omega
    first
      | (rw [decide_eq_true q'] at h5; exact absurd h5 (by decide))
      | (simp at h5; omega)
  cases hwl with
  | cons w1 w2 =>
    cases w2
    cases w1 with
    | list ho hall => exact ⟨_, _, ns, rfl, rfl, ho, ints_of_wellAll ns _ hall, hlen⟩
theorem post_true (l : OpenLaw) (args : List WData) : l.row.toRowW.claim.post args (.bool true) args = true :=
  postW_of (r := l.row.toRowW) (X := (true == true))
    (show WShape.has [] (.bool true) .bool = true by first | rfl | decide | simp [WShape.has, WShape.arms, WShape.armsAll])
    (show (WTm.eq .res (.lit (.bool true))).value [] { args := args, res := some (.bool true), after := args } = some (.bool (true == true)) from w_eq_bool (w_res rfl) w_lit) rfl
section
variable {prog : Program} {w : World} {A : Around} {E : Value → Shared → Prop} {s : Shared} {K : Frag}
def ledger (h : Heap) (L d : Addr) : List (Addr × Obj) := (List.range h.objs.size).filterMap fun a => if a = L ∨ a = d then none else (h.get? a).map fun o => (a, o)
end
end Att
namespace L2
open PySem PySem.Spec PyProof.Rows
theorem vals_ints : ∀ {vs : List Value} {ns : List Int}, IntsAre vs ns → Vals (ns.map V.int) vs
  | _, _, .nil => .nil
  | _, _, .cons n t h => .cons ⟨t, rfl⟩ (vals_ints h)
def Only (H : Hp) : Prop := ∀ b, H b = none ∨ ∃ o xs, H b = some (.frz o (.lst xs))
theorem law_call {P : Program} {w : World} {K : PySem.W.Frag} {mg mb : Str → Option Value} {CX : CXT} {k : Nat} {fa a : Addr} {fd : FuncData} {x : Str} {sp : Sp} {s₁ : Shared} {vs : List Value} {ns : List Int}
    (KX : K.In s₁.heap) (hns : s₁.heap.Ns mainGlobals mg) (hb : s₁.heap.Ns builtinsNs mb) (hbb : ∀ x : Str, x ≠ "__name__" → mb x = bootBuiltins x) (hlim : s₁.heap.NoLimit) (hg : s₁.gens = #[])
    (ha : s₁.heap.get? a = some { cls := .type "list", data := .seq vs.toArray }) (hi : IntsAre vs ns) (hl : ns.length ≤ sizeLine) (hr : Room k callerA)
    (F : ∀ base : Heap, K.In base → base.Ns mainGlobals mg → FnOk P w K mg base CX k fa fd [x] sp) (hbind : ∀ (s : Shared) (u : Value), BindsTo s fd ⟨[u], []⟩ [(x, u)])
    (hsp : ∀ H : Hp, Only H → SqL K H a (ns.map V.int) → sp [.ref a] H (fun v _ => v = .bl true) fun _ _ _ => False)
    (hCX : ∀ H e s', CX [] H s₁ (fun _ _ _ => False) e s' → False) :
    codeAny (model P w) callerA (.call (.ref fa) ⟨[.ref a], []⟩) (fun r s' => r = .ok (.ret (.bool true)) ∧ OldK s₁.heap s'.heap ∧ s'.os = s₁.os ∧ AllBare s'.gens) s₁ := by
  have rv := vals_ints hi
  have lenV := hi.length
  have core : ∀ H : Hp, Only H → SqL K H a (ns.map V.int) → HOk P w H s₁.heap → (∀ b, H b ≠ none → b = a) → (H a ≠ none → K.lookup a = none) →
      codeAny (model P w) callerA (.call (.ref fa) ⟨[.ref a], []⟩) (fun r s' => r = .ok (.ret (.bool true)) ∧ OldK s₁.heap s'.heap ∧ s'.os = s₁.os ∧ AllBare s'.gens) s₁ := by
    intro H hO hS hok hA hK
    have base_of : ∀ {b : Addr} {o : Obj}, s₁.heap.get? b = some o → H b = none → (hidT s₁.heap H).get? b = some o := fun e n => hidT_get e n
    have noA : ∀ {b : Addr} {o : Obj} {es : Array DictEntry} {ep : Nat}, s₁.heap.get? b = some o → o.data = .dict es ep → H b = none := fun {b o es ep} e d => by
      cases q : H b with
      | none => rfl
      | some u =>
        have e' : b = a := hA b (by rw [q]; simp)
        subst e'
        rw [ha] at e; cases e
        have d' : Data.seq vs.toArray _ = Data.dict es ep := d
        cases d'
    have nsK : ∀ {b : Addr} {m : Str → Option Value}, s₁.heap.Ns b m → (hidT s₁.heap H).Ns b m := fun {b m} ⟨o, es, ep, e, d, r⟩ => ⟨o, es, ep, base_of e (noA e d), d, r⟩
    have hKb : K.In (hidT s₁.heap H) := fun b o e => base_of (KX b o e) (by
      cases q : H b with
      | none => rfl
      | some u =>
        have e' : b = a := hA b (by rw [q]; simp)
        subst e'
        rw [hK (by rw [q]; simp)] at e; cases e)
    have hM : Mod K mg (hidT s₁.heap H) := ⟨hKb, nsK hns, ⟨mb, nsK hb, hbb⟩, let ⟨mc, h1, h2⟩ := hlim; ⟨mc, nsK h1, h2⟩⟩
    have e0 : Env0 P w K mg (hidT s₁.heap H) callerA [] s₁ H := ⟨rfl, hM, fun b o e => of_hidT e, Nat.le_of_eq (hidT_size _ _), trivial, fun b hb => absurd (show b ∈ ([] : List Addr) from hb) (by simp), hok, .of_eq hg⟩
    refine codeAny_mono ((F _ hKb (nsK hns)).run callerA [] s₁ H ⟨[.ref a], []⟩ [.ref a] [.ref a] _ _ hr e0 (hbind s₁ (.ref a)) (.cons rfl .nil) (hsp H hO hS)) fun r s' h => ?_
    cases r with
    | error e => exact (hCX H e s' h).elim
    | ok fl =>
      cases fl with
      | next => exact False.elim h
      | brk => exact False.elim h
      | cont => exact False.elim h
      | ret u =>
        obtain ⟨v, H', os, bare, un, hok', r', q⟩ := h
        have q' : v = .bl true := q
        subst q'
        obtain rfl : u = Value.bool true := r'
        refine ⟨rfl, OldK.of_keep fun b o e => ?_, os, bare⟩
        cases q : H b with
        | none => exact un.keep b o e q (by intro z; exact absurd (show b ∈ ([] : List Addr) from z) (by simp)) (by simp)
        | some u =>
          rcases hO b with z | ⟨ob, xs, z⟩
          · rw [q] at z; cases z
          · have z2 := un.frzs b ob _ z
            obtain ⟨e1, _⟩ := hok b _ z
            obtain ⟨e2, _⟩ := hok' b _ z2
            rw [e] at e1; cases e1
            exact e2
  cases hk : K.lookup a with
  | some o =>
    have e := KX a o hk
    rw [ha] at e
    cases e
    refine core (fun _ => none) (fun _ => .inl rfl) (.inr ⟨_, vs.toArray, _, hk, rfl, rfl, rfl, by rw [List.size_toArray, lenV]; exact hl, by simpa using rv⟩) (fun b u z => by have z' : (none : Option HO) = some u := z; cases z') (fun b z => absurd rfl z) fun z => absurd rfl z
  | none =>
    refine core (fun b => if b = a then some (.frz { cls := .type "list", data := .seq vs.toArray } (.lst (ns.map V.int))) else none) (fun b => ?_) (.inl (.inr ⟨{ cls := .type "list", data := .seq vs.toArray }, if_pos rfl⟩)) (fun b u z => ?_) (fun b z => ?_) fun _ => hk
    · by_cases hb : b = a
      · exact .inr ⟨_, _, if_pos hb⟩
      · exact .inl (if_neg hb)
    · by_cases hb : b = a
      · have z' := (if_pos hb).symm.trans z
        cases z'
        subst hb
        exact ⟨ha, by rw [List.length_map]; exact hl, vs, _, rv, ha⟩
      · have z' := (if_neg hb).symm.trans z
        cases z'
    · by_cases hb : b = a
      · exact hb
      · exact absurd (if_neg hb) z
end L2
namespace L2
open PySem PySem.Spec PyProof.Rows
abbrev KOf {K : PySem.W.Frag} {h : Heap} (_ : K.In h) : PySem.W.Frag := K
end L2
namespace L2
open PySem PySem.Spec PyProof.Rows
def defArgs (s : Stmt) : Arguments := match s with
  | .FunctionDef _ a _ _ _ _ _ _ _ _ => a
  | _ => { posonlyargs := [], args := [], vararg := none, kwonlyargs := [], kw_defaults := [], kwarg := none, defaults := [] }
def defBody (s : Stmt) : List Stmt := match s with
  | .FunctionDef _ _ b _ _ _ _ _ _ _ => b
  | _ => []
def defScope (s : Stmt) : Scope := match s with
  | .FunctionDef _ _ _ _ _ _ sc _ _ _ => sc
  | _ => { kind := .function, names := [], isGenerator := false, isCoroutine := false }
abbrev CX0 : CXT := fun _ _ _ _ _ _ => False
abbrev E0 : XK := fun _ _ _ => False
theorem pass0 {X : Cx} : Passes CX0 X E0 := fun _ _ _ _ _ _ _ h => h.elim
structure Fun (K : PySem.W.Frag) (x qual : Str) (st : Stmt) (f : Addr) (fd : FuncData) : Prop where
  ex : ∃ (oc : Value) (od : Option Addr) (kV doc pm : Value) (an : Option Addr) (cdv ct : Value) (osl : Array (Option Value)),
    fd = PySem.W.fnOf x qual (defArgs st) (defBody st) (defScope st) .none kV doc pm an cdv ct ∧ K.lookup f = some ⟨oc, od, .func fd, osl⟩ ∧ PySem.W.codeIn K cdv qual = true
  kp : PySem.W.keepIn K (.ref f) = true
section
variable {P : Program} {w : World} {K : PySem.W.Frag} {mg : Str → Option Value} {base : Heap}
theorem Fun.ok {x qual : Str} {st : Stmt} {f : Addr} {fd : FuncData} {N ps : List Str} {k : Nat} {sp : Sp} (F : Fun K x qual st f fd) (S : FnScope N ps (defScope st)) (len : ∀ vs H Q E, sp vs H Q E → vs.length = ps.length)
    (hbody : ∀ (cdv : Value) (A : Around) (outer : List Env) (s : Shared) (H : Hp) (vs : List V) (Q : VK) (E : XK), Room k (A.deeper (envOfC qual (defScope st) s.heap.objs.size f cdv)) → sp vs H Q E →
      ∃ t, PSs (cxOf CX0 P w K mg base N qual (defScope st) f cdv A outer s H E).nox (defBody st) t ∧ t { nx := fun _ H' => Q .non H', rt := Q } (start N vs) H) : FnOk P w K mg base CX0 (k + 1) f fd ps sp := by
  obtain ⟨oc, od, kV, doc, pm, an, cdv, ct, osl, rfl, lk, hcd⟩ := F.ex
  refine fn_of lk hcd S len fun A outer s H vs Q E hr hsp => ?_
  obtain ⟨t, h, q⟩ := hbody cdv A outer s H vs Q E hr hsp
  exact ⟨t, h.nox, q⟩
theorem Fun.binds {x qual : Str} {st : Stmt} {f : Addr} {fd : FuncData} {ps : List Str} (F : Fun K x qual st f fd)
    (h : ∀ (kV doc pm : Value) (an : Option Addr) (cdv ct : Value) (us : List Value), us.length = ps.length → bindArgs (PySem.W.fnOf x qual (defArgs st) (defBody st) (defScope st) .none kV doc pm an cdv ct) ⟨us, []⟩ = pure (ps.zip us)) : Binds K fd ps [] := by
  obtain ⟨oc, od, kV, doc, pm, an, cdv, ct, osl, rfl, lk, hcd⟩ := F.ex
  exact .all (h kV doc pm an cdv ct)
theorem fun_mk {x qual : Str} {st : Stmt} {f : Addr} {oc : Value} {od an : Option Addr} {osl : Array (Option Value)} {kV doc pm cdv ct : Value} (l : K.lookup f = some ⟨oc, od, .func (PySem.W.fnOf x qual (defArgs st) (defBody st) (defScope st) .none kV doc pm an cdv ct), osl⟩)
    (c : PySem.W.codeIn K cdv qual = true) (k : PySem.W.keepIn K (.ref f) = true) : Fun K x qual st f (PySem.W.fnOf x qual (defArgs st) (defBody st) (defScope st) .none kV doc pm an cdv ct) := ⟨⟨oc, od, kV, doc, pm, an, cdv, ct, osl, rfl, l, c⟩, k⟩
end
theorem small1000 {n : Nat} (h : n ≤ 1000) : n < sizeLine := Nat.lt_of_le_of_lt h (by decide)
section
variable {X : Cx}
theorem pv (i : Nat) {x : Str} {pos : Pos} (hN : X.N[i]? = some x := by rfl) (hv : Vis X.env.scope x := by first | exact Or.inl rfl | exact Or.inr (Or.inl rfl) | exact Or.inr (Or.inr rfl)) (hd : (x == ("__debug__" : Str)) = false := by decide)
    (hcd : (x == ("__classdict__" : Str)) = false := by decide) : PE X (.Name x pos) (tVar i) := pe_var hN hv hd hcd
end
theorem iteF {A B : Prop} (h : B) : if false = true then A else B := by
  rw [if_neg Bool.false_ne_true]
  exact h
theorem iteT {A B : Prop} (h : A) : if true = true then A else B := by
  rw [if_pos rfl]
  exact h
def Same (H H' : Hp) : Prop := ∀ b o, H b = some o → H' b = some o
theorem Same.refl (H : Hp) : Same H H := fun _ _ h => h
theorem Same.trans {H H1 H2 : Hp} (a : Same H H1) (b : Same H1 H2) : Same H H2 := fun c o h => b c o (a c o h)
theorem Same.free {H H' : Hp} (e : Same H H') {l : Addr} (h : H' l = Option.none) : H l = Option.none := by
  cases q : H l with
  | none => rfl
  | some o =>
    rw [e l o q] at h
    cases h
theorem Same.seq {K : PySem.W.Frag} {H H' : Hp} {a : Addr} {xs : List V} (e : Same H H') (h : SqL K H a xs) : SqL K H' a xs := by
  rcases h with (h | ⟨o, h⟩) | h
  · exact .inl (.inl (e _ _ h))
  · exact .inl (.inr ⟨o, e _ _ h⟩)
  · exact .inr h
end L2
set_option Elab.async false
set_option linter.all false
set_option maxRecDepth 100000
set_option maxHeartbeats 4000000
namespace L2
open PySem PySem.Spec PyProof.Rows
theorem closure_go {env : Env} : ∀ (ns : List (Str × NameKind)) (cs : List (Str × Addr)), (∀ y ∈ ns, y.2 = .free → ∃ c, env.cells.lookup y.1 = some c) → (∀ x c, cs.lookup x = some c → env.cells.lookup x = some c) →
    ∃ cl : List (Str × Addr), (forIn ns cs fun (p : Str × NameKind) (r : List (Str × Addr)) => if (p.2 == NameKind.free) = true then (cellOf env p.1 >>= fun c => pure (ForInStep.yield ((p.1, c) :: r))) else (pure (ForInStep.yield r) : Sem (ForInStep (List (Str × Addr))))) = (pure cl : Sem (List (Str × Addr))) ∧
      (∀ x c, cl.lookup x = some c → env.cells.lookup x = some c) ∧ (∀ x c, cs.lookup x = some c → ∃ c', cl.lookup x = some c') ∧ ∀ y ∈ ns, y.2 = .free → ∃ c, cl.lookup y.1 = some c
  | [], cs, _, hc => ⟨cs, rfl, hc, fun x c e => ⟨c, e⟩, fun y hy => absurd hy (by simp)⟩
  | (n, k) :: r, cs, h, hc => by
    by_cases hk : k = .free
    · subst hk
      obtain ⟨c, e⟩ := h (n, .free) (by simp) rfl
      have hc2 : ∀ x c', ((n, c) :: cs).lookup x = some c' → env.cells.lookup x = some c' := fun x c' q => by
        rw [List.lookup_cons] at q
        cases hx : x == n with
        | true => rw [hx] at q; cases q; rw [eq_of_beq hx]; exact e
        | false => rw [hx] at q; exact hc x c' q
      obtain ⟨cl, e1, e2, e3, e4⟩ := closure_go r ((n, c) :: cs) (fun y hy => h y (List.mem_cons_of_mem _ hy)) hc2
      refine ⟨cl, ?_, e2, fun x c' q => ?_, fun y hy hf => ?_⟩
      · rw [List.forIn_cons]
        show (if (NameKind.free == NameKind.free) = true then _ else _) >>= _ = _
        rw [if_pos (by decide)]
        unfold cellOf
        rw [e]
        exact e1
      · by_cases hx : x = n
        · exact e3 x c (by rw [hx, List.lookup_cons]; simp)
        · exact e3 x c' (by rw [List.lookup_cons, beq_eq_false_iff_ne.mpr hx]; exact q)
      · rcases List.mem_cons.mp hy with z | z
        · rw [z]; exact e3 n c (by rw [List.lookup_cons]; simp)
        · exact e4 y z hf
    · obtain ⟨cl, e1, e2, e3, e4⟩ := closure_go r cs (fun y hy => h y (List.mem_cons_of_mem _ hy)) hc
      refine ⟨cl, ?_, e2, e3, fun y hy hf => ?_⟩
      · rw [List.forIn_cons]
        have hb : (k == NameKind.free) = false := by simpa using hk
        show (if (k == NameKind.free) = true then _ else _) >>= _ = _
        rw [hb]
        exact e1
      · rcases List.mem_cons.mp hy with z | z
        · rw [z] at hf; exact absurd hf hk
        · exact e4 y z hf
theorem closure_is {scope : Scope} {env : Env} (h : ∀ y ∈ scope.names, y.2 = .free → ∃ c, env.cells.lookup y.1 = some c) :
    ∃ cl, closureFor scope env = pure cl ∧ (∀ x c, cl.lookup x = some c → env.cells.lookup x = some c) ∧ ∀ y ∈ scope.names, y.2 = .free → ∃ c, cl.lookup y.1 = some c := by
  obtain ⟨cl, e1, e2, _, e4⟩ := closure_go (env := env) scope.names [] h (fun x c q => by simp at q)
  refine ⟨cl, ?_, e2, e4⟩
  show ((forIn scope.names [] fun (p : Str × NameKind) (r : List (Str × Addr)) => if (p.2 == NameKind.free) = true then (cellOf env p.1 >>= fun c => pure (ForInStep.yield ((p.1, c) :: r))) else (pure (ForInStep.yield r) : Sem (ForInStep (List (Str × Addr))))) >>= fun r => (pure r : Sem (List (Str × Addr)))) = pure cl
  rw [e1]
  rfl
def compCx (X : Cx) (N : List Str) (scope : Scope) (cl : List (Str × Addr)) (C : Addr) (s₀ : Shared) (H₀ : Hp) (ex : List Addr) : Cx where
  prog := X.prog
  w := X.w
  K := X.K
  mg := X.mg
  base := X.base
  A := X.A
  N := N
  s₀ := s₀
  H₀ := H₀
  env := compEnvC scope cl C X.env
  outer := X.stack
  stack := X.stack
  ex := ex
  fn := fun _ => false
  calm := X.calm
  pn := []
  xe := fun _ _ => False
def iniOf (l : List (Option Nat)) (σ : St) : St := l.map fun o => match o with | none => none | some k => (σ[k]?).join
def CompN (X : Cx) (scope : Scope) : List Str → List (Option Nat) → Prop
  | [], [] => True
  | _ :: N, none :: l => CompN X scope N l
  | x :: N, some k :: l => (X.N[k]? = some x ∧ (X.env.scope.names.lookup x = some .cell ∨ X.env.scope.names.lookup x = some .free) ∧ scope.names.lookup x = some .free) ∧ CompN X scope N l
  | _, _ => False
theorem CompN.len {X : Cx} {scope : Scope} : ∀ {N : List Str} {l : List (Option Nat)}, CompN X scope N l → l.length = N.length
  | [], [], _ => rfl
  | _ :: N, none :: l, h => by simp [CompN.len (N := N) (l := l) h]
  | _ :: N, some _ :: l, h => by simp [CompN.len (N := N) (l := l) h.2]
  | [], none :: _, h => h.elim
  | [], some _ :: _, h => h.elim
  | _ :: _, [], h => h.elim
theorem CompN.get {X : Cx} {scope : Scope} : ∀ {N : List Str} {l : List (Option Nat)} {i k : Nat} {x : Str}, CompN X scope N l → N[i]? = some x → l[i]? = some (some k) →
    X.N[k]? = some x ∧ (X.env.scope.names.lookup x = some .cell ∨ X.env.scope.names.lookup x = some .free) ∧ scope.names.lookup x = some .free
  | [], [], _, _, _, _, e, _ => by simp at e
  | _ :: N, none :: l, 0, _, _, _, _, e => by simp at e
  | _ :: N, none :: l, i + 1, k, x, h, e1, e2 => CompN.get (N := N) (l := l) (i := i) h (by simpa using e1) (by simpa using e2)
  | y :: N, some j :: l, 0, k, x, h, e1, e2 => by
    have e1' : y = x := by simpa using e1
    have e2' : j = k := by simpa using e2
    rw [← e1', ← e2']
    exact h.1
  | _ :: N, some _ :: l, i + 1, k, x, h, e1, e2 => CompN.get (N := N) (l := l) (i := i) h.2 (by simpa using e1) (by simpa using e2)
  | [], none :: _, _, _, _, h, _, _ => h.elim
  | [], some _ :: _, _, _, _, h, _, _ => h.elim
  | _ :: _, [], _, _, _, h, _, _ => h.elim
theorem iniOf_len (l : List (Option Nat)) (σ : St) : (iniOf l σ).length = l.length := by unfold iniOf; rw [List.length_map]
theorem iniOf_get {l : List (Option Nat)} {σ : St} {i : Nat} {v : V} (h : (iniOf l σ)[i]? = some (some v)) : ∃ k, l[i]? = some (some k) ∧ σ[k]? = some (some v) := by
  unfold iniOf at h
  rw [List.getElem?_map] at h
  cases e : l[i]? with
  | none => rw [e] at h; cases h
  | some o =>
    rw [e] at h
    cases o with
    | none => simp at h
    | some k =>
      refine ⟨k, rfl, ?_⟩
      have h2 : (σ[k]?).join = some v := by simpa using h
      cases q : σ[k]? with
      | none => rw [q] at h2; cases h2
      | some z =>
        rw [q] at h2
        have h3 : z = some v := by simpa using h2
        rw [h3]
structure CompScope (X : Cx) (N : List Str) (l : List (Option Nat)) (scope : Scope) : Prop where
  kind : scope.kind = .function
  loc : (scope.names.all fun y => y.2 != .local || (scope.names.lookup y.1 == some .local)) = true
  nocell : (scope.names.all fun y => y.2 != .cell) = true
  fre : (scope.names.all fun y => y.2 != .free || (X.env.scope.names.lookup y.1 == some .cell || X.env.scope.names.lookup y.1 == some .free)) = true
  nm : CompN X scope N l
  nd : N.Nodup
theorem relabel_lookup {env : Env} {x : Str} {k : NameKind} : ∀ {names : List (Str × NameKind)}, (names.map fun (p : Str × NameKind) => if (p.2 == NameKind.free && env.scope.kind == .function && env.kindOf p.1 == some .cell) = true then (p.1, NameKind.cell) else (p.1, p.2)).lookup x = some k →
    ∃ k0, names.lookup x = some k0 ∧ (k = k0 ∨ (k0 = .free ∧ k = .cell))
  | [], h => by simp at h
  | (n, k1) :: r, h => by
    rw [List.map_cons] at h
    by_cases hc : (k1 == NameKind.free && env.scope.kind == .function && env.kindOf n == some .cell) = true
    · have hk : k1 = .free := by
        have h1 := hc
        rw [Bool.and_eq_true, Bool.and_eq_true] at h1
        simpa using h1.1.1
      rw [if_pos hc, List.lookup_cons] at h
      rw [List.lookup_cons]
      cases hx : x == n with
      | true => rw [hx] at h; exact ⟨k1, rfl, .inr ⟨hk, by simpa using h.symm⟩⟩
      | false => rw [hx] at h; exact relabel_lookup h
    · rw [if_neg hc, List.lookup_cons] at h
      rw [List.lookup_cons]
      cases hx : x == n with
      | true => rw [hx] at h; exact ⟨k1, rfl, .inl (by simpa using h.symm)⟩
      | false => rw [hx] at h; exact relabel_lookup h
theorem relabel_free {env : Env} {x : Str} : ∀ {names : List (Str × NameKind)}, names.lookup x = some .free →
    ∃ k, (names.map fun (p : Str × NameKind) => if (p.2 == NameKind.free && env.scope.kind == .function && env.kindOf p.1 == some .cell) = true then (p.1, NameKind.cell) else (p.1, p.2)).lookup x = some k ∧ (k = .cell ∨ k = .free)
  | [], h => by simp at h
  | (n, k1) :: r, h => by
    rw [List.map_cons]
    rw [List.lookup_cons] at h
    by_cases hc : (k1 == NameKind.free && env.scope.kind == .function && env.kindOf n == some .cell) = true
    · rw [if_pos hc, List.lookup_cons]
      cases hx : x == n with
      | true => exact ⟨_, rfl, .inl rfl⟩
      | false => rw [hx] at h; exact relabel_free h
    · rw [if_neg hc, List.lookup_cons]
      cases hx : x == n with
      | true =>
        rw [hx] at h
        have hk : k1 = .free := by simpa using h
        exact ⟨_, rfl, .inr hk⟩
      | false => rw [hx] at h; exact relabel_free h
section
variable {X : Cx} {pins : List (Addr × Obj)} {σ : St} {H : Hp} {s : Shared} {N : List Str} {l : List (Option Nat)} {scope : Scope} {cl : List (Str × Addr)} {fp : List Addr}
theorem inv_comp (S : CompScope X N l scope) (I : Inv X pins σ H s) (c1 : ∀ x c, cl.lookup x = some c → X.env.cells.lookup x = some c) (c2 : ∀ y ∈ scope.names, y.2 = .free → ∃ c, cl.lookup y.1 = some c)
    (f : ∀ b ∈ fp, FpOk X pins H b) (fo : ∀ b ∈ fp, ∃ o, s.heap.get? b = some o) {h' : Heap} {m : Str → Option Value} (hn : h'.Ns s.heap.objs.size m) (hk : ∀ b o, s.heap.get? b = some o → h'.get? b = some o) (t' : Nat) :
    Inv (compCx X N scope cl s.heap.objs.size s H fp) [] (iniOf l σ) H { s with heap := h', toks := t' } := by
  have cellH : ∀ x c, cl.lookup x = some c → ∃ v, h'.IsCell c v := fun x c e => by
    obtain ⟨v, o, ho, hd⟩ := I.cell x c (c1 x c e)
    exact ⟨v, o, hk c o ho, hd⟩
  have fr : ∀ b ∈ fp, b < s.heap.objs.size := fun b hb => by
    obtain ⟨o, e⟩ := fo b hb
    exact Heap.lt_size e
  refine ⟨⟨I.ok.mod, S.kind, I.ok.glob, I.ok.blt, Nat.le_refl _, fun x y c h1 h2 => I.ok.inj x y c (c1 x c h1) (c1 y c h2), fun x hx => ?_, fun x c h => (nomatch h), I.ok.hd, I.ok.frames, .inl rfl, fun b hb => ⟨Nat.ne_of_lt (fr b hb), fun x c e => (f b hb).2.2.2.2.1 x c (c1 x c e)⟩,
      I.bs, Nat.le_trans I.ok.bsz I.sz, fun b o e hb => ?_, fun b hb hf => ?_, I.stack, I.stkFree⟩,
    rfl, I.bare, Un.kept hk, ⟨m, hn, fun i x v e1 e2 e3 => ?_⟩, cellH, I.hok.fresh (Nat.le_refl _), fun x c e => I.freeC x c (c1 x c e), fun p hp => absurd (show p ∈ ([] : List (Addr × Obj)) from hp) (by simp), I.hok.kept hk, (iniOf_len l σ).trans S.nm.len⟩
  · have hx2 : (relabel scope X.env).names.lookup x = some .cell ∨ (relabel scope X.env).names.lookup x = some .free := hx
    have fin : ∀ k, (relabel scope X.env).names.lookup x = some k → (k = .cell ∨ k = .free) → ∃ c, cl.lookup x = some c := fun k e hk => by
      obtain ⟨k0, e0, q⟩ := relabel_lookup (names := scope.names) (env := X.env) (x := x) (k := k) e
      have hm := PySem.mem_of_lookup e0
      have nc := List.all_eq_true.mp S.nocell _ hm
      have hfree : k0 = .free := by
        rcases q with q | q
        · subst q
          rcases hk with z | z
          · subst z; simp at nc
          · exact z
        · exact q.1
      exact c2 _ hm hfree
    rcases hx2 with z | z
    · exact fin _ z (.inl rfl)
    · exact fin _ z (.inr rfl)
  · rcases (f b hb).2.2.2.1 with z | z
    · exact I.ok.noex b o e z
    · exact absurd (Nat.lt_of_lt_of_le (Heap.lt_size e) (Nat.le_trans I.ok.bsz z)) (Nat.lt_irrefl _)
  · rcases List.mem_cons.mp (I.stkSub b hf) with z | z
    · exact (f b hb).2.1 z
    · exact (f b hb).2.2.1 z
  · obtain ⟨k, g1, g2⟩ := iniOf_get e2
    obtain ⟨n1, n2, n3⟩ := S.nm.get e1 g1
    obtain ⟨mx, _, hl⟩ := I.loc
    have vis : Vis X.env.scope x := .inr n2
    obtain ⟨u, r, lk⟩ := hl k x v n1 g2 vis
    refine ⟨u, r, ?_⟩
    obtain ⟨kk, e4, e5⟩ := relabel_free (env := X.env) n3
    obtain ⟨c, ec⟩ := c2 _ (PySem.mem_of_lookup n3) rfl
    have kf : (compEnvC scope cl s.heap.objs.size X.env).kindOf x = some .cell ∨ (compEnvC scope cl s.heap.objs.size X.env).kindOf x = some .free := by
      rcases e5 with z | z
      · exact .inl (z ▸ e4)
      · exact .inr (z ▸ e4)
    refine .inr ⟨kf, c, ec, ?_⟩
    rcases lk with ⟨k1, _⟩ | ⟨_, c', e', ⟨o, ho, hd⟩⟩
    · have k1' : X.env.scope.names.lookup x = some .local := k1
      rcases n2 with z | z <;> (rw [z] at k1'; cases k1')
    · have ee := c1 x c ec
      rw [e'] at ee
      have ee' : c' = c := Option.some.inj ee
      subst ee'
      exact ⟨o, hk _ o ho, hd⟩
theorem comp_end {C : Addr} {σ' : St} {H' : Hp} {s' : Shared} (I : Inv X pins σ H s) (f : ∀ b ∈ fp, FpOk X pins H b) (J : Inv (compCx X N scope cl C s H fp) [] σ' H' s') : Inv X pins σ H' s' :=
  I.call' (ch := fp) J.os J.base J.hok J.bare fun b hb => ⟨(f b hb).2.2.2.1, (f b hb).2.1, (f b hb).2.2.2.2.1, (f b hb).2.2.2.2.2⟩
theorem comp_gone {σ2 : St} {H' : Hp} {s' : Shared} {h'' : Heap} (I : Inv X pins σ H s) (hf : H' s.heap.objs.size = none) (I' : Inv X pins σ2 H' s') (sb : Heap.SameBut s.heap.objs.size s'.heap h'') : Inv X pins σ2 H' { s' with heap := h'' } := by
  refine I'.turned (t' := s'.toks) (it := s.heap.objs.size) (fun b o hb e => (sb.2 b hb).trans e) hf (Nat.ne_of_gt I.lt) (.inr I.sz) (fun x c e z => ?_) fun p hp z => ?_
  · obtain ⟨v, q⟩ := I.cell x c e
    exact absurd q.lt (by rw [z]; exact Nat.lt_irrefl _)
  · exact absurd (Heap.lt_size (I.pin p hp).1) (by rw [z]; exact Nat.lt_irrefl _)
end
def testsOf (ifs : List Expr) (env : Env) : Sem Bool := forIn ifs true fun c r => if r = true then do let ok ← isTrue c env (eval c env); pure (ForInStep.yield ok) else pure (ForInStep.yield r)
abbrev NoX : Value → Shared → Prop := fun _ _ => False
theorem comp_loop {prog : Program} {w : World} {A : Around} {R : Result → Shared → Prop} {s : Shared} {elt target iter : Expr} {ifs : List Expr} {scope : Scope} {pos : Pos} {it acc : Value} {env : Env} (Iv : Nat → Shared → Prop)
    (turn : ∀ n s, Iv n s → wpAny (model prog w) A (pyNext it) (fun r s1 => match r with
      | none => R (.ok .next) s1
      | some v => wpAny (model prog w) A (letOwnedTupleGo target it v) (fun _ s2 => wpAny (model prog w) A (assign target env v) (fun _ s3 => wpAny (model prog w) A (testsOf ifs env) (fun ok s4 =>
          if ok = true then wpAny (model prog w) A (eval elt env) (fun x s5 => wpAny (model prog w) A (call (.builtin "list.append") [acc, x]) (fun _ s6 => ∃ m, m < n ∧ Iv m s6) NoX s5) NoX s4
          else ∃ m, m < n ∧ Iv m s4) NoX s3) NoX s2) NoX s1) NoX s)
    (n : Nat) (h : Iv n s) : codeAny (model prog w) A (.compLoop (.ListComp elt [⟨target, iter, ifs, 0⟩] scope pos) 0 it acc env) R s := by
  refine codeAny_loop rfl Iv (fun n s hI => ?_) n h
  show wpAny (model prog w) A ((compTurn (.ListComp elt [⟨target, iter, ifs, 0⟩] scope pos) 0 it acc env).onRaise fun x => (noteFrame x env >>= fun _ => theTreesLotGoes x)) _ _ s
  refine wpAny_noted (wpAny_mono ?_ (fun _ _ q => q) fun _ _ q => False.elim q)
  rw [compTurn_list]
  refine wpAny_bind (wpAny_standAt (wpAny_bind (thn (turn n s hI) fun r s1 h1 => ?_)))
  cases r with
  | none => exact wpAny_pure h1
  | some v =>
    refine wpAny_bind (thn h1 fun _ s2 h2 => wpAny_bind (thn h2 fun _ s3 h3 => wpAny_bind (thn h3 fun ok s4 h4 => ?_)))
    cases ok with
    | false => exact wpAny_pure ⟨rfl, h4⟩
    | true => exact wpAny_bind (wpAny_bind (thn h4 fun x s5 h5 => wpAny_bind (thn h5 fun _ s6 h6 => wpAny_pure (wpAny_pure ⟨rfl, h6⟩))))
def PIfs (X : Cx) (ifs : List Expr) (t : TT) : Prop :=
  ∀ (pins : List (Addr × Obj)) (s : Shared) (σ : St) (H : Hp) (Q : Bool → Hp → Prop), Inv X pins σ H s → t σ H Q → wpAny (model X.prog X.w) X.A (testsOf ifs X.env) (TP X pins σ Q) X.xe s
def tYes : TT := fun _ H Q => Q true H
theorem pif_nil {X : Cx} : PIfs X [] tYes := fun _ _ _ H _ I h => wpAny_pure ⟨H, I, h⟩
abbrev CompW := Nat → Nat → List V → St → Hp → Prop
def compStep (J : It) (g : TG) (tc : TT) (te : TE) (D : Addr) (W : CompW) (Q : Hp → Prop) : Prop :=
  ∀ i m ys σ H, W i m ys σ H → H D = some (.lst ys) ∧ ((J.stop i H ∧ Q H) ∨ (J.go i H ∧ ∃ (A : V → St → Hp → Prop) (B : St → Hp → Prop),
    (∀ v σ2 H4, A v σ2 H4 → H4 D = some (.lst ys) ∧ ys.length < sizeLine ∧ ∃ m', m' < m ∧ W (i + 1) m' (ys ++ [v]) σ2 (upd H4 D (.lst (ys ++ [v])))) ∧ (∀ σ2 H3, B σ2 H3 → ∃ m', m' < m ∧ W (i + 1) m' ys σ2 H3) ∧
    ∀ x H', J.yld i H x H' → g x σ H' fun σ2 H2 => tc σ2 H2 fun b H3 => if b = true then te σ2 H3 fun v H4 => A v σ2 H4 else B σ2 H3))
def tComp (l : List (Option Nat)) (wi : TI) (g : TG) (tc : TT) (te : TE) : TE := fun σ H Q => wi σ H fun J H1 => ∀ D, H1 D = none → ∃ W : CompW, (∃ m, W 0 m [] (iniOf l σ) (upd H1 D (.lst []))) ∧ compStep J g tc te D W fun H' => Q (.ref D) H'
section
variable {X : Cx} {tg elt iter : Expr} {ifs : List Expr} {N : List Str} {l : List (Option Nat)} {scope : Scope} {pos : Pos} {wi : TI} {g : TG} {tc : TT} {te : TE}
theorem comp_block {cl : List (Str × Addr)} {pins : List (Addr × Obj)} {σ : St} {H : Hp} {s : Shared} {J : It} {fp : List Addr} {it : Addr} {tn : Nat → Heap → Prop} {RR : Value → Addr → Result → Shared → Prop} {Q : Addr → Hp → Prop} {E : Value → Shared → Prop}
    (hc : X.calm = true) (S : CompScope X N l scope) (c1 : ∀ x c, cl.lookup x = some c → X.env.cells.lookup x = some c) (c2 : ∀ y ∈ scope.names, y.2 = .free → ∃ c, cl.lookup y.1 = some c)
    (hg : ∀ C s H ex, PG (compCx X N scope cl C s H ex) tg g) (hi : ∀ C s H ex, PIfs (compCx X N scope cl C s H ex) ifs tc) (he : ∀ C s H ex, PE (compCx X N scope cl C s H ex) elt te)
    (I : Inv X pins σ H s) (T : Turn X.prog X.w X.K tg J fp it tn) (t0 : tn 0 s.heap) (f : ∀ b ∈ fp, FpOk X pins H b)
    (hW : ∀ D, H D = none → ∃ W : CompW, (∃ m, W 0 m [] (iniOf l σ) (upd H D (.lst []))) ∧ compStep J g tc te D W (Q D))
    (hR : ∀ D s0 H' s', Inv X pins σ (upd H D (.lst [])) s0 → Inv X pins σ H' s' → H' s0.heap.objs.size = none → (∃ m, s'.heap.Ns s0.heap.objs.size m) → Q D H' → RR (.ref D) s0.heap.objs.size (.ok .next) s') :
    wpAny (model X.prog X.w) X.A (newList []) (fun acc s3 => wpAny (model X.prog X.w) X.A (newFunctionEnv scope X.env.globals cl [] X.env.qual none .none (some X.env)) (fun cenv s4 =>
      codeAny (model X.prog X.w) X.A (.compStart (.ListComp elt [⟨tg, iter, ifs, 0⟩] scope pos) 0 (.ref it) acc { cenv with scope := relabel scope X.env }) (RR acc cenv.locals) s4) E s3) E s := by
  refine wpAny_newObj_type (wpAny_newFunctionEnv (fun y hy => by have := List.all_eq_true.mp S.nocell y hy; simpa using this) (fun y hy => absurd hy (by simp)) (fun h4 hn4 sb4 => ?_) S.kind)
  have kept3 : ∀ b u, s.heap.get? b = some u → (s.heap.push { cls := .type "list", dict := none, data := .seq ([] : List Value).toArray }).get? b = some u := fun b u e => Heap.get?_push_of_some _ e
  have hD : H s.heap.objs.size = none := I.hok.fresh (Nat.le_refl _)
  have I3 : Inv X pins σ (upd H s.heap.objs.size (.lst [])) { s with heap := s.heap.push { cls := .type "list", dict := none, data := .seq ([] : List Value).toArray } } :=
    I.laid (t' := s.toks) kept3 (Nat.le_refl _) ⟨Nat.zero_le _, [], 0, .nil, Heap.get?_push_size _ rfl⟩
  generalize hh3 : s.heap.push { cls := .type "list", dict := none, data := .seq ([] : List Value).toArray } = h3 at kept3 I3 hn4 sb4 ⊢
  have fpIn : ∀ b ∈ fp, ∃ o, s.heap.get? b = some o := fun b hb => let ⟨o, e, _⟩ := T.obj _ _ t0 b hb; ⟨o, e⟩
  have f3 : ∀ b ∈ fp, FpOk X pins (upd H s.heap.objs.size (.lst [])) b := fun b hb => by
    obtain ⟨o, e⟩ := fpIn b hb
    exact ⟨by rw [upd_ne (Nat.ne_of_lt (Heap.lt_size e))]; exact (f b hb).1, (f b hb).2⟩
  have kept4 : ∀ b o, h3.get? b = some o → h4.get? b = some o := fun b o e => sb4.extBut b o (Nat.ne_of_lt (Heap.lt_size e)) (Heap.get?_push_of_some _ e)
  have J4 := inv_comp S I3 c1 c2 f3 (fun b hb => let ⟨o, e⟩ := fpIn b hb; ⟨o, kept3 b o e⟩) hn4 kept4 (s.toks + ([] : List (Str × Value)).length)
  have t4 : tn 0 h4 := T.keep _ _ _ t0 fun b _ o e => kept4 b o (kept3 b o e)
  obtain ⟨W, ⟨m0, w0⟩, step⟩ := hW _ hD
  have loop : ∀ s4 : Shared, s4 = { s with heap := h4, toks := s.toks + ([] : List (Str × Value)).length } →
      codeAny (model X.prog X.w) X.A (.compLoop (.ListComp elt [⟨tg, iter, ifs, 0⟩] scope pos) 0 (.ref it) (.ref s.heap.objs.size) (compEnvC scope cl h3.objs.size X.env)) (RR (.ref s.heap.objs.size) h3.objs.size) s4 := by
    rintro s4 rfl
    generalize hY : compCx X N scope cl h3.objs.size { s with heap := h3 } (upd H s.heap.objs.size (.lst [])) fp = Y at J4
    have eP : Y.prog = X.prog := by rw [← hY]; rfl
    have ew : Y.w = X.w := by rw [← hY]; rfl
    have eK : Y.K = X.K := by rw [← hY]; rfl
    have ec : Y.calm = true := by rw [← hY]; exact hc
    have eA : Y.A = X.A := by rw [← hY]; rfl
    have ee : Y.env = compEnvC scope cl h3.objs.size X.env := by rw [← hY]; rfl
    have ex : Y.xe = NoX := by rw [← hY]; rfl
    have stat : ∀ {H' : Hp}, (∀ b ∈ fp, H' b = none) → ∀ b ∈ fp, FpOk Y [] H' b := fun {H'} hn b hb => by
      rw [← hY]
      obtain ⟨o, e⟩ := fpIn b hb
      refine ⟨hn b hb, Nat.ne_of_lt (Heap.lt_size (kept3 b o e)), fun z => ?_, .inl hb, fun x c q => (f3 b hb).2.2.2.2.1 x c (c1 x c q), fun p hp => absurd (show p ∈ ([] : List (Addr × Obj)) from hp) (by simp)⟩
      rcases List.mem_cons.mp (I3.stkSub b z) with q | q
      · exact (f3 b hb).2.1 q
      · exact (f3 b hb).2.2.1 q
    refine comp_loop (fun n s' => ∃ i ys σ' H', Inv Y [] σ' H' s' ∧ tn i s'.heap ∧ (∀ b ∈ fp, H' b = none) ∧ W i n ys σ' H') ?_ m0 ⟨0, [], iniOf l σ, _, J4, t4, fun b hb => (f3 b hb).1, w0⟩
    rintro n s5 ⟨i, ys, σ5, H5, J5, t5, fr5, w5⟩
    obtain ⟨hDl, st⟩ := step i n ys σ5 H5 w5
    rw [← eP, ← ew, ← eA, ← ee]
    rcases st with ⟨stop, q⟩ | ⟨go, NA, NB, hA, hB, nxt⟩
    · have d := T.done Y eP ew eK ec i [] s5 σ5 H5 NoX J5 (stat fr5) t5 stop
      rw [← eP, ← ew] at d
      refine thn d fun r s6 ⟨hr, J6⟩ => ?_
      subst hr
      rw [← hY] at J6
      obtain ⟨m6, n6, _⟩ := J6.loc
      exact hR _ { s with heap := h3 } H5 s6 I3 (comp_end I3 f3 J6) J6.free ⟨m6, n6⟩ q
    · have d := T.item Y eP ew eK ec i [] s5 σ5 H5 NoX J5 (stat fr5) t5 go
      rw [← eP, ← ew] at d
      refine thn d fun r s6 ⟨u, hr, h6⟩ => ?_
      subst hr
      refine thn h6 fun _ s7 ⟨x, H7, J7, r7, y7, t7, fr7⟩ => ?_
      have J7' := J7.pinned (stat fr7) (T.obj _ _ t7)
      have back : ∀ {σ8 : St} {H8 : Hp} {s8 : Shared}, Inv Y ([] ++ pinsAt fp s7.heap) σ8 H8 s8 → tn (i + 1) s8.heap ∧ (∀ b ∈ fp, H8 b = none) := fun {σ8 H8 s8} J8 => by
        refine ⟨T.keep _ _ _ t7 fun b hb o e => (J8.pin (b, o) (List.mem_append_right _ (List.mem_append_right _ (mem_pinsAt hb e)))).1, fun b hb => ?_⟩
        obtain ⟨o, e, _⟩ := T.obj _ _ t7 b hb
        exact (J8.pin (b, o) (List.mem_append_right _ (List.mem_append_right _ (mem_pinsAt hb e)))).2.1
      have hg' : PG Y tg g := by rw [← hY]; exact hg _ _ _ _
      have hi' : PIfs Y ifs tc := by rw [← hY]; exact hi _ _ _ _
      have he' : PE Y elt te := by rw [← hY]; exact he _ _ _ _
      have a7 := hg' _ s7 σ5 H7 x u _ J7' r7 (nxt x H7 y7)
      rw [ex] at a7
      refine thn a7 fun _ s8 ⟨σ8, H8, J8, q8⟩ => ?_
      have a8 := hi' _ s8 σ8 H8 _ J8 q8
      rw [ex] at a8
      refine thn a8 fun ok s9 ⟨H9, J9, q9⟩ => ?_
      cases ok with
      | false =>
        have q9' : NB σ8 H9 := by simpa using q9
        obtain ⟨m', hm, w9⟩ := hB _ _ q9'
        obtain ⟨t9, fr9⟩ := back J9
        show ∃ m, m < n ∧ _
        exact ⟨m', hm, i + 1, ys, σ8, H9, J9.unpinned, t9, fr9, w9⟩
      | true =>
        rw [if_pos rfl] at q9
        show wpAny _ _ (eval elt Y.env) _ _ s9
        have a9 := he' _ s9 σ8 H9 _ J9 q9
        rw [ex] at a9
        refine thn a9 fun xv s10 ⟨v, H10, J10, r10, q10⟩ => ?_
        obtain ⟨hD10, hz, m', hm, w10⟩ := hA _ _ _ q10
        have a10 := mt_append _ s10 σ8 H10 (.ref s.heap.objs.size) [v] (.ref s.heap.objs.size) [xv] (fun _ H' => H' = upd H10 s.heap.objs.size (.lst (ys ++ [v]))) J10 rfl (.cons r10 .nil) ⟨_, ys, v, rfl, rfl, hD10, hz, rfl⟩
        rw [ex] at a10
        refine thn a10 fun _ s11 ⟨_, H11, J11, _, e11⟩ => ?_
        subst e11
        obtain ⟨t11, fr11⟩ := back J11
        exact ⟨m', hm, i + 1, ys ++ [v], σ8, _, J11.unpinned, t11, fr11, w10⟩
  exact codeAny_compStart_list (loop _ rfl) (T.self _ 0 _ _ _ t4 (loop _ rfl))
theorem comp_cells {pins : List (Addr × Obj)} {σ : St} {H : Hp} {s : Shared} (S : CompScope X N l scope) (I : Inv X pins σ H s) :
    ∃ cl, closureFor scope X.env = pure cl ∧ (∀ x c, cl.lookup x = some c → X.env.cells.lookup x = some c) ∧ ∀ y ∈ scope.names, y.2 = .free → ∃ c, cl.lookup y.1 = some c := by
  refine closure_is fun y hy hf => ?_
  have q := List.all_eq_true.mp S.fre y hy
  rw [hf] at q
  have q2 : (X.env.scope.names.lookup y.1 == some .cell || X.env.scope.names.lookup y.1 == some .free) = true := by simpa using q
  rw [Bool.or_eq_true] at q2
  rcases q2 with z | z
  · exact I.ok.has y.1 (.inl (show X.env.scope.names.lookup y.1 = some .cell by simpa using z))
  · exact I.ok.has y.1 (.inr (show X.env.scope.names.lookup y.1 = some .free by simpa using z))
theorem comp_locals (S : CompScope X N l scope) : ∀ y ∈ scope.names, y.2 = .local → scope.names.lookup y.1 = some .local := fun y hy hl => by
  have q := List.all_eq_true.mp S.loc y hy
  rw [hl] at q
  simpa using q
theorem pe_comp (hc : X.calm = true) (S : CompScope X N l scope) (hw : PI X tg iter wi)
    (hg : ∀ cl C s H ex, PG (compCx X N scope cl C s H ex) tg g) (hi : ∀ cl C s H ex, PIfs (compCx X N scope cl C s H ex) ifs tc) (he : ∀ cl C s H ex, PE (compCx X N scope cl C s H ex) elt te)
    (hs : ∀ x, foldedSetIterable iter X.env x = pure x := by intro _; rfl) : PE X (.ListComp elt [⟨tg, iter, ifs, 0⟩] scope pos) (tComp l wi g tc te) := by
  intro pins s σ H Q I h
  obtain ⟨cl, e1, c1, c2⟩ := comp_cells S I
  rw [eval_ListComp]
  refine wpAny_comprehension_free (use := none) rfl hs e1 S.kind (comp_locals S) (thn (hw pins s σ H _ I h) fun v s1 h1 => thn h1 fun itv s2 h2 => ?_)
  obtain ⟨it, fp, tn, J, H2, e, I2, T, st2, f2, hW⟩ := h2
  subst e
  refine comp_block hc S c1 c2 (hg cl) (hi cl) (he cl) I2 T st2 f2 hW fun D s0 H' s' I0 I' hf hns q => ?_
  obtain ⟨m, hm⟩ := hns
  exact ⟨m, hm, fun h'' sb => ⟨.ref D, H', comp_gone I0 hf I' sb, rfl, q⟩⟩
end
theorem comp_seq {J : It} {l : List (Option Nat)} {g : TG} {tc : TT} {te : TE} {σ : St} {H1 : Hp} {Q : Hp → Prop} (D : Addr) (xs : List V) (Pv : Nat → List V → St → Hp → Prop) (hn : xs.length ≤ 1000) (hy : ∀ i ys σ H, Pv i ys σ H → ys.length ≤ i)
    (hJ : ∀ i ys σ H, Pv i ys σ H → H D = some (.lst ys) → (∀ x, xs[i]? = some x → J.go i H ∧ ∀ y H', J.yld i H y H' → H' = H ∧ y = x) ∧ (xs.length ≤ i → J.stop i H)) (h0 : Pv 0 [] (iniOf l σ) (upd H1 D (.lst [])))
    (hs : ∀ i x ys σ H, xs[i]? = some x → Pv i ys σ H → H D = some (.lst ys) → g x σ H fun σ2 H2 => tc σ2 H2 fun b H3 =>
      if b = true then te σ2 H3 fun v H4 => H4 D = some (.lst ys) ∧ Pv (i + 1) (ys ++ [v]) σ2 (upd H4 D (.lst (ys ++ [v]))) else H3 D = some (.lst ys) ∧ Pv (i + 1) ys σ2 H3)
    (hd : ∀ ys σ H, Pv xs.length ys σ H → H D = some (.lst ys) → Q H) :
    ∃ W : CompW, (∃ m, W 0 m [] (iniOf l σ) (upd H1 D (.lst []))) ∧ compStep J g tc te D W Q := by
  refine ⟨fun i m ys σ H => m = xs.length - i ∧ i ≤ xs.length ∧ H D = some (.lst ys) ∧ Pv i ys σ H, ⟨xs.length, by simp, Nat.zero_le _, upd_same, h0⟩, ?_⟩
  rintro i m ys σ H ⟨rfl, hi, hD, p⟩
  refine ⟨hD, ?_⟩
  by_cases hlt : i < xs.length
  · obtain ⟨hg, hyl⟩ := (hJ i ys σ H p hD).1 xs[i] (by simp [hlt])
    refine .inr ⟨hg, fun v σ2 H4 => H4 D = some (.lst ys) ∧ Pv (i + 1) (ys ++ [v]) σ2 (upd H4 D (.lst (ys ++ [v]))), fun σ2 H3 => H3 D = some (.lst ys) ∧ Pv (i + 1) ys σ2 H3, fun v σ2 H4 q => ?_, fun σ2 H3 q => ⟨xs.length - (i + 1), by omega, rfl, hlt, q⟩, fun x H' y => ?_⟩
    · exact ⟨q.1, small1000 (Nat.le_trans (hy _ _ _ _ p) (by omega)), xs.length - (i + 1), by omega, rfl, hlt, upd_same, q.2⟩
    · obtain ⟨e, e2⟩ := hyl x H' y
      subst e e2
      exact hs i _ ys σ _ (by simp [hlt]) p hD
  · have e : i = xs.length := by omega
    subst e
    exact .inl ⟨(hJ _ ys σ H p hD).2 (Nat.le_refl _), hd ys σ H p hD⟩
theorem itt_of {K : PySem.W.Frag} {a : Addr} {xs : List V} {H : Hp} (hq : SqT K H a xs) (i : Nat) :
    (∀ x, xs[i]? = some x → (Itt K a).go i H ∧ ∀ y H', (Itt K a).yld i H y H' → H' = H ∧ y = x) ∧ (xs.length ≤ i → (Itt K a).stop i H) :=
  ⟨fun x hx => ⟨⟨xs, x, hq, hx⟩, fun y H' h => ⟨h.1, by have := h.2 xs hq; rw [hx] at this; exact (Option.some.inj this).symm⟩⟩, fun h => ⟨xs, hq, h⟩⟩
theorem itl_of {K : PySem.W.Frag} {a : Addr} {xs : List V} {H : Hp} (hq : SqL K H a xs) (i : Nat) :
    (∀ x, xs[i]? = some x → (Itl K a).go i H ∧ ∀ y H', (Itl K a).yld i H y H' → H' = H ∧ y = x) ∧ (xs.length ≤ i → (Itl K a).stop i H) :=
  ⟨fun x hx => ⟨⟨xs, x, hq, hx⟩, fun y H' h => ⟨h.1, by have := h.2 xs hq; rw [hx] at this; exact (Option.some.inj this).symm⟩⟩, fun h => ⟨xs, hq, h⟩⟩
end L2
set_option Elab.async false
set_option linter.all false
set_option maxRecDepth 100000
set_option maxHeartbeats 4000000
namespace L2
open PySem PySem.Spec PyProof.Rows
section
variable {X : Cx}
theorem op_mulB : OpR X (binaryOp .Mult) (rI IntMulOk fun i j => .int (i * j)) := opI fun _ _ _ _ _ _ _ hc q => mul_int q hc
def CDivB (i j : Int) : Prop := 0 < j ∧ j.natAbs.log2 < 9000
theorem CDivB.of {i j : Int} (h0 : 0 < j) (h : j < 2 ^ 9000) : CDivB i j := by
  refine ⟨h0, (Nat.log2_lt (by omega)).mpr ?_⟩
  have e : ((j.natAbs : Nat) : Int) = j := by omega
  have h' : ((j.natAbs : Nat) : Int) < ((2 ^ 9000 : Nat) : Int) := by
    rw [e]
    rw [Int.natCast_pow]; exact h
  exact Int.ofNat_lt.mp h'
theorem op_fdivB : OpR X (binaryOp .FloorDiv) (rI CDivB fun i j => .int (i / j)) := opI fun i j _ _ _ _ _ hc q =>
  floordiv_int (by have := hc.1; omega) (by rw [Int.fdiv_eq_ediv_of_nonneg i (Int.le_of_lt hc.1)]; exact q) (.inl (PyProof.noPylong_of_log2 hc.2))
theorem bits_of {x : Int} {k : Nat} (h1 : -(2 ^ k) < x) (h2 : x < 2 ^ k) : Builtin.Int.intBits x ≤ k := by
  unfold Builtin.Int.intBits
  split
  · exact Nat.zero_le _
  · rename_i hx
    have h0 : x.natAbs ≠ 0 := fun z => hx (by simp; omega)
    have e2 : ((2 ^ k : Nat) : Int) = (2 : Int) ^ k := by rw [Int.natCast_pow]; rfl
    have hn : x.natAbs < 2 ^ k := by
      have : ((x.natAbs : Nat) : Int) < ((2 ^ k : Nat) : Int) := by rw [e2]; omega
      exact Int.ofNat_lt.mp this
    have := (Nat.log2_lt h0).mpr hn
    omega
theorem op_isB : OpR X (compareOp .Is) (fun x y H Q => ∃ i j, x = .bl i ∧ y = .bl j ∧ Q (.bl (i == j)) H) := by
  intro pins s σ H x y v u Q I rx ry h
  obtain ⟨i, j, rfl, rfl, q⟩ := h
  cases rx
  cases ry
  refine wpAny_is_plain rfl ⟨.bl (i == j), H, I, ?_, q⟩
  show Value.bool _ = Value.bool _
  cases i <;> cases j <;> rfl
def SqA (K : PySem.W.Frag) (H : Hp) (a : Addr) (xs : List V) : Prop := SqL K H a xs ∨ SqT K H a xs
theorem walk_seq {pins : List (Addr × Obj)} {σ : St} {H : Hp} {s : Shared} {a : Addr} {xs : List V} {A : Around} {E : Value → Shared → Prop} {Q : Value → Shared → Prop} (hA : A.handled = none) (I : Inv X pins σ H s) (h : SqA X.K H a xs)
    (hq : ∀ (its : List Value) (It : Addr) (fp wr : List Addr) (St : Nat → Heap → Prop) (s2 : Shared), Vals xs its → Walks X.prog X.w A It fp wr its.length (fun i v => its.toArray[i]? = some v) St → St 0 s2.heap → (∀ b ∈ fp, b < s2.heap.objs.size) →
      (∀ h' tk, (∀ b o, b ∉ wr → s2.heap.get? b = some o → h'.get? b = some o) → Inv X pins σ H { s2 with heap := h', toks := tk }) → Q (.ref It) s2) :
    wpAny (model X.prog X.w) A (pyIter (.ref a)) Q E s := by
  rcases h with h | h
  · obtain ⟨its, rv, p, hz⟩ := I.list h
    have pl := p.isList
    have hlt : a < s.heap.objs.size := by obtain ⟨_, e, _⟩ := id pl; exact Heap.lt_size e
    refine wpAny_pyIter_list pl (hq its s.heap.objs.size _ _ _ { s with heap := s.heap.push _ } rv (show Walks X.prog X.w A s.heap.objs.size _ _ its.toArray.size _ _ from Walks.list hA s.heap.objs.size a (Nat.ne_of_lt hlt) its.toArray) ⟨⟨_, Heap.get?_push_size _ rfl, rfl, rfl⟩, pl.push _⟩ (fun b hb => ?_) fun h' tk k => ?_)
    · show b < (s.heap.push _).objs.size
      rw [Heap.size_push]
      rcases List.mem_cons.mp hb with e | hb
      · rw [e]; exact Nat.lt_succ_self _
      · rw [List.mem_singleton.mp hb]; exact Nat.lt_succ_of_lt hlt
    · refine I.kept fun b o e => k b o (fun z => ?_) (Heap.get?_push_of_some _ e)
      rw [List.mem_singleton.mp z] at e
      exact absurd (Heap.lt_size e) (Nat.lt_irrefl _)
  · obtain ⟨its, rv, p, hz⟩ := I.tuple h
    have pl : s.heap.IsTuple a its.toArray := p
    have hlt : a < s.heap.objs.size := by obtain ⟨_, e, _⟩ := id pl; exact Heap.lt_size e
    refine wpAny_pyIter_tuple pl (hq its s.heap.objs.size _ _ _ { s with heap := s.heap.push _ } rv (show Walks X.prog X.w A s.heap.objs.size _ _ its.toArray.size _ _ from Walks.tuple hA s.heap.objs.size a (Nat.ne_of_lt hlt) its.toArray) ⟨⟨_, Heap.get?_push_size _ rfl, rfl, rfl⟩, ?_⟩ (fun b hb => ?_) fun h' tk k => ?_)
    · obtain ⟨o, e, r⟩ := id pl
      exact ⟨o, Heap.get?_push_of_some _ e, r⟩
    · show b < (s.heap.push _).objs.size
      rw [Heap.size_push]
      rcases List.mem_cons.mp hb with e | hb
      · rw [e]; exact Nat.lt_succ_self _
      · rw [List.mem_singleton.mp hb]; exact Nat.lt_succ_of_lt hlt
    · refine I.kept fun b o e => k b o (fun z => ?_) (Heap.get?_push_of_some _ e)
      rw [List.mem_singleton.mp z] at e
      exact absurd (Heap.lt_size e) (Nat.lt_irrefl _)
theorem preSum_eq (ns : List Int) : ∀ k, k ≤ ns.length → preSum (fun i => ns.getD i 0) k = (ns.take k).sum
  | 0, _ => by simp [preSum]
  | k + 1, h => by
    have e := preSum_eq ns k (by omega)
    show preSum _ k + ns.getD k 0 = _
    rw [e, List.take_succ_eq_append_getElem (by omega : k < ns.length), List.sum_append]
    simp [List.getD, (by omega : k < ns.length)]
theorem ints_at {ns : List Int} {its : List Value} (rv : Vals (ns.map V.int) its) {i : Nat} {v : Value} (h : its[i]? = some v) : ∃ t, v = .int (ns.getD i 0) t := by
  have hl := rv.length
  rw [List.length_map] at hl
  have hi : i < its.length := (List.getElem?_eq_some_iff.mp h).1
  have hx : (ns.map V.int)[i]? = some (V.int (ns.getD i 0)) := by
    rw [List.getElem?_map, List.getD, List.getElem?_eq_getElem (by omega)]
    rfl
  obtain ⟨u, e1, t, e2⟩ := rv.get hx
  rw [h] at e1
  cases e1
  exact ⟨t, e2⟩
theorem bls_at {bs : List Bool} {its : List Value} (rv : Vals (bs.map V.bl) its) {i : Nat} {v : Value} (h : its[i]? = some v) : v = .bool (bs.getD i false) := by
  have hl := rv.length
  rw [List.length_map] at hl
  have hi : i < its.length := (List.getElem?_eq_some_iff.mp h).1
  have hx : (bs.map V.bl)[i]? = some (V.bl (bs.getD i false)) := by
    rw [List.getElem?_map, List.getD, List.getElem?_eq_getElem (by omega)]
    rfl
  obtain ⟨u, e1, e2⟩ := rv.get hx
  rw [h] at e1
  cases e1
  exact e2
theorem call_sumL (hc : X.calm = true) : CallR X (.builtin "sum") (fun xs H Q => ∃ (p : Addr) (ns : List Int), xs = [.ref p] ∧ SqA X.K H p (ns.map V.int) ∧ Q (.int ns.sum) H) := by
  intro pins s σ H xs us Q I r h
  obtain ⟨p, ns, rfl, hs, q⟩ := h
  obtain ⟨u, rfl, ru⟩ := vals1 r
  cases ru
  refine call_sum_walkG (walk_seq (I.ok.hd hc) I hs fun its It fp wr St s2 rv W st hfp fin => ?_)
  refine ⟨It, fp, wr, its.length, _, St, fun i => ns.getD i 0, rfl, W, st, hfp, fun i v hv => ints_at rv (by simpa using hv), fun h' tk t' k => ⟨.int ns.sum, H, fin h' tk k, ⟨t', ?_⟩, q⟩⟩
  have hl := rv.length
  rw [List.length_map] at hl
  rw [preSum_eq ns its.length (by omega), ← hl, List.take_length]
theorem range_all (bs : List Bool) : (List.range bs.length).all (fun i => bs.getD i false) = bs.all id := by
  rw [Bool.eq_iff_iff, List.all_eq_true, List.all_eq_true]
  constructor
  · intro h x hx
    obtain ⟨i, hi, e⟩ := List.mem_iff_getElem.mp hx
    have := h i (List.mem_range.mpr hi)
    rw [List.getD, List.getElem?_eq_getElem hi] at this
    rw [← e]; exact this
  · intro h i hi
    have hi' := List.mem_range.mp hi
    rw [List.getD, List.getElem?_eq_getElem hi']
    exact h _ (List.getElem_mem hi')
theorem range_any (bs : List Bool) : (List.range bs.length).any (fun i => bs.getD i false) = bs.any id := by
  rw [Bool.eq_iff_iff, List.any_eq_true, List.any_eq_true]
  constructor
  · rintro ⟨i, hi, h⟩
    have hi' := List.mem_range.mp hi
    rw [List.getD, List.getElem?_eq_getElem hi'] at h
    exact ⟨_, List.getElem_mem hi', h⟩
  · rintro ⟨x, hx, h⟩
    obtain ⟨i, hi, e⟩ := List.mem_iff_getElem.mp hx
    refine ⟨i, List.mem_range.mpr hi, ?_⟩
    rw [List.getD, List.getElem?_eq_getElem hi]
    show bs[i] = true
    rw [e]; exact h
theorem call_allL (hc : X.calm = true) : CallR X (.builtin "all") (fun xs H Q => ∃ (p : Addr) (bs : List Bool), xs = [.ref p] ∧ SqA X.K H p (bs.map V.bl) ∧ Q (.bl (bs.all id)) H) := by
  intro pins s σ H xs us Q I r h
  obtain ⟨p, bs, rfl, hs, q⟩ := h
  obtain ⟨u, rfl, ru⟩ := vals1 r
  cases ru
  refine call_all_walk (walk_seq (I.ok.hd hc) I hs fun its It fp wr St s2 rv W st hfp fin => ?_)
  refine ⟨It, fp, wr, its.length, _, St, fun i => bs.getD i false, rfl, W, st, fun i v s3 Q3 E3 hv h3 => ?_, fun h' tk k => ⟨.bl (bs.all id), H, fin h' tk k, ?_, q⟩⟩
  · have e := bls_at rv (show its[i]? = some v by simpa using hv)
    rw [e]; exact wpAny_truthy_bool h3
  · have hl := rv.length
    rw [List.length_map] at hl
    show Value.bool _ = Value.bool _
    rw [← hl, range_all]
theorem call_anyL (hc : X.calm = true) : CallR X (.builtin "any") (fun xs H Q => ∃ (p : Addr) (bs : List Bool), xs = [.ref p] ∧ SqA X.K H p (bs.map V.bl) ∧ Q (.bl (bs.any id)) H) := by
  intro pins s σ H xs us Q I r h
  obtain ⟨p, bs, rfl, hs, q⟩ := h
  obtain ⟨u, rfl, ru⟩ := vals1 r
  cases ru
  refine call_any_walk (walk_seq (I.ok.hd hc) I hs fun its It fp wr St s2 rv W st hfp fin => ?_)
  refine ⟨It, fp, wr, its.length, _, St, fun i => bs.getD i false, rfl, W, st, fun i v s3 Q3 E3 hv h3 => ?_, fun h' tk k => ⟨.bl (bs.any id), H, fin h' tk k, ?_, q⟩⟩
  · have e := bls_at rv (show its[i]? = some v by simpa using hv)
    rw [e]; exact wpAny_truthy_bool h3
  · have hl := rv.length
    rw [List.length_map] at hl
    show Value.bool _ = Value.bool _
    rw [← hl, range_any]
theorem getD_mem {ns : List Int} {i : Nat} (h : i < ns.length) : ns.getD i 0 ∈ ns := by
  rw [List.getD, List.getElem?_eq_getElem h]
  exact List.getElem_mem _
end
end L2
set_option Elab.async false
set_option linter.all false
set_option maxRecDepth 100000
set_option maxHeartbeats 4000000
namespace L2
open PySem PySem.Spec PyProof.Rows
def Fn (P : Program) (w : World) (K : PySem.W.Frag) (mg : Str → Option Value) (base : Heap) (CX : CXT) (x : Str) (k : Nat) (ps : List Str) (sp : Sp) : Prop :=
  ∃ f fd, FnOk P w K mg base CX k f fd ps sp ∧ mg x = some (.ref f) ∧ PySem.W.keepIn K (.ref f) = true ∧ Binds K fd ps []
def Df (K : PySem.W.Frag) (mg : Str → Option Value) (x : Str) (st : Stmt) : Prop := ∃ f fd, Fun K x x st f fd ∧ mg x = some (.ref f)
theorem df_mk {K : PySem.W.Frag} {mg : Str → Option Value} {h : Heap} {x : Str} {st : Stmt} {f : Addr} {oc : Value} {od an : Option Addr} {osl : Array (Option Value)} {kV doc pm cdv ct : Value} (X : K.In h) (G : h.Ns mainGlobals mg)
    (a : PySem.W.nsIn K mainGlobals x = some (some (.ref f))) (l : K.lookup f = some ⟨oc, od, .func (PySem.W.fnOf x x (defArgs st) (defBody st) (defScope st) .none kV doc pm an cdv ct), osl⟩)
    (c : PySem.W.codeIn K cdv x = true) (k : PySem.W.keepIn K (.ref f) = true) : Df K mg x st := ⟨f, _, fun_mk l c k, PySem.W.mg_of X G a⟩
section
variable {P : Program} {w : World} {K : PySem.W.Frag} {mg : Str → Option Value} {base : Heap}
theorem Df.to {CX : CXT} {x : Str} {st : Stmt} {ps : List Str} {k : Nat} {sp : Sp} (D : Df K mg x st) (h : ∀ {f : Addr} {fd : FuncData}, Fun K x x st f fd → FnOk P w K mg base CX k f fd ps sp)
    (hb : ∀ (kV doc pm : Value) (an : Option Addr) (cdv ct : Value) (us : List Value), us.length = ps.length → bindArgs (PySem.W.fnOf x x (defArgs st) (defBody st) (defScope st) .none kV doc pm an cdv ct) ⟨us, []⟩ = pure (ps.zip us)) : Fn P w K mg base CX x k ps sp := by
  obtain ⟨f, fd, F, hm⟩ := D
  exact ⟨f, fd, h F, hm, F.kp, F.binds hb⟩
theorem Fun.bind1 {x p : Str} {st : Stmt} {f : Addr} {fd : FuncData} (F : Fun K x x st f fd)
    (hb : ∀ (kV doc pm : Value) (an : Option Addr) (cdv ct : Value) (us : List Value), us.length = [p].length → bindArgs (PySem.W.fnOf x x (defArgs st) (defBody st) (defScope st) .none kV doc pm an cdv ct) ⟨us, []⟩ = pure ([p].zip us))
    (s : Shared) (u : Value) : BindsTo s fd ⟨[u], []⟩ [(p, u)] := by
  obtain ⟨oc, od, kV, doc, pm, an, cdv, ct, osl, rfl, lk, hcd⟩ := F.ex
  exact .of_eq (hb kV doc pm an cdv ct [u] rfl)
end
def sp1 (f : V → Hp → VK → XK → Prop) : Sp := fun vs H Q E => ∃ a, vs = [a] ∧ f a H Q E
def sp2 (f : V → V → Hp → VK → XK → Prop) : Sp := fun vs H Q E => ∃ a b, vs = [a, b] ∧ f a b H Q E
def sp3 (f : V → V → V → Hp → VK → XK → Prop) : Sp := fun vs H Q E => ∃ a b c, vs = [a, b, c] ∧ f a b c H Q E
theorem sp1_len {f} {vs : List V} {H Q E} (h : sp1 f vs H Q E) : vs.length = 1 := by obtain ⟨_, rfl, _⟩ := h; rfl
theorem sp2_len {f} {vs : List V} {H Q E} (h : sp2 f vs H Q E) : vs.length = 2 := by obtain ⟨_, _, rfl, _⟩ := h; rfl
theorem sp3_len {f} {vs : List V} {H Q E} (h : sp3 f vs H Q E) : vs.length = 3 := by obtain ⟨_, _, _, rfl, _⟩ := h; rfl
def isStar : Expr → Bool
  | .Starred _ _ => true
  | _ => false
theorem star_cons {e : Expr} {es : List Expr} {env : Env} (h : isStar e = false) : starEach (e :: es) env = (false, eval e env) :: starEach es env := by
  cases e <;> first | rfl | (cases h)
theorem star_any {pos : Pos} {env : Env} : ∀ {es : List Expr}, es.all (fun e => !isStar e) = true → (backTo pos (starEach es env)).any (·.1) = false
  | [], _ => rfl
  | e :: es, h => by
    rw [List.all_cons, Bool.and_eq_true] at h
    rw [star_cons (by simpa using h.1)]
    show (false || (backTo pos (starEach es env)).any (·.1)) = false
    rw [star_any h.2]; rfl
theorem star_few {pos : Pos} {env : Env} {e : Expr} (h : isStar e = false) : ((backTo pos (starEach [e] env)).all (fun x => !x.1) && (backToKw pos (keywordEach [] env)).all (fun x => x.1.isSome)
      && decide ([e].length + ([] : List Keyword).length + (if ([] : List Keyword).isEmpty then 0 else 1) < 30)) = true := by
  rw [star_cons h]
  rfl
section
variable {X : Cx} {CX : CXT} {k : Nat} {x : Str} {ps : List Str} {sp : Sp} {E : XK} {p pos : Pos} {e : Expr} {es : List Expr} {te : TE} {t : TA}
theorem pa_c (ha : PE X e te) (hr : PA X es t) (h : isStar e = false := by rfl) : PA X (e :: es) (tCons te t) := pa_cons ha hr (star_cons h)
theorem pe_fn (G : Fn X.prog X.w X.K X.mg X.base CX x k ps sp) (hr : Room k X.A) (hg : Gl X x) (hx : Passes CX X E) (ha : PA X (e :: es) t)
    (hdb : (x == ("__debug__" : Str)) = false := by decide) (he : isStar e = false := by rfl) (hpl : es.all (fun e => !isStar e) = true := by rfl) :
    PE X (.Call (.Name x p) (e :: es) [] pos) (tCall sp [] E t) := by
  obtain ⟨f, fd, F, hm, hk, hb⟩ := G
  exact pe_call F hr hg hm hk hb .nil hx ha hdb (star_cons he) (star_any hpl)
theorem pe_cB {id : String} {r : List V → Hp → VK → Prop} (hc : CallR X (.builtin id) r) (hg : Gl X x) (hm : X.mg x = none) (hv : bootBuiltins x = some (.builtin id)) (ha : PA X (e :: es) t) (hn : x ≠ "__name__" := by decide) (hdb : (x == ("__debug__" : Str)) = false := by decide)
    (he : isStar e = false := by rfl) (hpl : es.all (fun e => !isStar e) = true := by rfl) : PE X (.Call (.Name x p) (e :: es) [] pos) (tCB r t) := pe_callB hc hg hm hv ha hn hdb (star_cons he) (star_any hpl)
theorem pe_cTy {T : String} {r : List V → Hp → VK → Prop} (hc : CallR X (.type T) r) (hg : Gl X x) (hm : X.mg x = none) (hv : bootBuiltins x = some (.type T)) (ha : PA X (e :: es) t) (hn : x ≠ "__name__" := by decide) (hdb : (x == ("__debug__" : Str)) = false := by decide)
    (he : isStar e = false := by rfl) (hpl : es.all (fun e => !isStar e) = true := by rfl) : PE X (.Call (.Name x p) (e :: es) [] pos) (tCB r t) := pe_callTy hc hg hm hv ha hn hdb (star_cons he) (star_any hpl)
theorem pe_bm1 {o : Expr} {to : TE} {name : Str} {apos cpos : Pos} {T id : String} {r : V → List V → Hp → VK → Prop} (pa : PlainAttrs T) (slot : Slot T name id) (hty : typeOf (.builtin id) = pure (.type "method_descriptor")) (hm : MtR X id r) (ho : PE X o to) (ha : PA X [e] t)
    (he : isStar e = false := by rfl) (hbase : attributeBase o name X.env (eval o X.env) = eval o X.env := by rfl) (hline : (apos.endLine == cpos.line) = true := by rfl) : PE X (.Call (.Attribute o name apos) [e] [] cpos) (tBM X.K T r to t) :=
  pe_bm pa slot hty hm ho ha hbase (star_few he) hline (star_cons he) rfl
end
theorem bt_len : bootBuiltins "len" = some (.builtin "len") := by decide +kernel
theorem bt_sum : bootBuiltins "sum" = some (.builtin "sum") := by decide +kernel
theorem bt_all : bootBuiltins "all" = some (.builtin "all") := by decide +kernel
theorem bt_any : bootBuiltins "any" = some (.builtin "any") := by decide +kernel
theorem bt_min : bootBuiltins "min" = some (.builtin "min") := by decide +kernel
theorem bt_max : bootBuiltins "max" = some (.builtin "max") := by decide +kernel
theorem bt_isinstance : bootBuiltins "isinstance" = some (.builtin "isinstance") := by decide +kernel
theorem bt_tuple : bootBuiltins "tuple" = some (.type "tuple") := by decide +kernel
theorem bt_int : bootBuiltins "int" = some (.type "int") := by decide +kernel
theorem bt_bool : bootBuiltins "bool" = some (.type "bool") := by decide +kernel
theorem bt_str : bootBuiltins "str" = some (.type "str") := by decide +kernel
theorem bt_ValueError : bootBuiltins "ValueError" = some (.type "ValueError") := by decide +kernel
section
variable {X : Cx} {pos : Pos}
theorem pe_gint {x : Str} {i : Int} (h : ∃ t, X.mg x = some (.int i t)) (hg : Gl X x := by rfl) (hd : (x == ("__debug__" : Str)) = false := by decide) : PE X (.Name x pos) (tC (.int i)) := by
  obtain ⟨t, h⟩ := h
  exact pe_glob hg h ⟨t, rfl⟩ hd
theorem pe_gstr {x y : Str} (h : ∃ t, X.mg x = some (.str y t)) (hg : Gl X x := by rfl) (hd : (x == ("__debug__" : Str)) = false := by decide) : PE X (.Name x pos) (tC (.str y)) := by
  obtain ⟨t, h⟩ := h
  exact pe_glob hg h ⟨t, rfl⟩ hd
theorem pe_gty {x : Str} {T : String} (hm : X.mg x = none) (hv : bootBuiltins x = some (.type T)) (hg : Gl X x := by rfl) (hn : x ≠ "__name__" := by decide) (hd : (x == ("__debug__" : Str)) = false := by decide) : PE X (.Name x pos) (tC (.ty T)) :=
  pe_bltn hg hm hv rfl hn hd
theorem pe_powC {a b r : Int} {i j : Nat} {p q : Pos} (e : a ^ b.toNat = r) (h0 : 0 ≤ b) (h1 : b ≤ 1000000) (h2 : a.natAbs < 2 ^ 64) : PE X (.BinOp (.Constant (.int a) i p) .Pow (.Constant (.int b) j q) pos) (tC (.int r)) := by
  intro pins s σ H Q I h
  exact pe_op op_pow pe_int pe_int pins s σ H Q I ⟨a, b, rfl, rfl, ⟨h0, h1, h2⟩, by show Q (.int (a ^ b.toNat)) H; rw [e]; exact h⟩
def tTru (K : PySem.W.Frag) (t : TE) : TT := fun σ H Q => t σ H fun x H' => ∃ k, TruV K x H' k ∧ Q k H'
theorem pt_tru {a : Expr} {ta : TE} (ha : PE X a ta) (he : ∀ whole, isTrue a X.env whole = (do let v ← whole; standAt a.pos; holding [v] (truthy v))) : PT X a (tTru X.K ta) := pt_truth ha he
end
mutual
def Rep (H : Hp) : V → PyData → Prop
  | v, .none => v = .non
  | v, .bool b => v = .bl b
  | v, .int i => v = .int i
  | v, .str x => v = .str x
  | v, .list ds => ∃ a xs, v = .ref a ∧ H a = some (.lst xs) ∧ Reps H xs ds
  | v, .tuple ds => ∃ a xs, v = .ref a ∧ H a = some (.tup xs) ∧ Reps H xs ds
  | v, .dict kvs => kvs = [] ∧ ∃ a, v = .ref a ∧ H a = some (.dK [])
def Reps (H : Hp) : List V → List PyData → Prop
  | xs, [] => xs = []
  | xs, d :: ds => ∃ x r, xs = x :: r ∧ Rep H x d ∧ Reps H r ds
end
def Tu (H H' : Hp) : Prop := ∀ b xs, H b = some (.tup xs) → H' b = some (.tup xs)
theorem Same.tu {H H' : Hp} (e : Same H H') : Tu H H' := fun b xs h => e b _ h
theorem Tu.put {H : Hp} {p : Addr} {xs ys : List V} (h : H p = some (.lst xs)) : Tu H (upd H p (.lst ys)) := fun b zs e => by
  rw [upd_ne (fun z => by subst z; rw [h] at e; cases e)]; exact e
mutual
theorem Rep.mono {H H' : Hp} (e : Same H H') : ∀ (d : PyData) (v : V), Rep H v d → Rep H' v d
  | .none, v, h => by unfold Rep at h ⊢; exact h
  | .bool b, v, h => by unfold Rep at h ⊢; exact h
  | .int i, v, h => by unfold Rep at h ⊢; exact h
  | .str x, v, h => by unfold Rep at h ⊢; exact h
  | .list ds, v, h => by
    unfold Rep at h ⊢
    obtain ⟨a, xs, r, q, z⟩ := h
    exact ⟨a, xs, r, e _ _ q, Reps.mono e ds xs z⟩
  | .tuple ds, v, h => by
    unfold Rep at h ⊢
    obtain ⟨a, xs, r, q, z⟩ := h
    exact ⟨a, xs, r, e _ _ q, Reps.mono e ds xs z⟩
  | .dict _, v, h => by
    unfold Rep at h ⊢
    obtain ⟨z, a, r, q⟩ := h
    exact ⟨z, a, r, e _ _ q⟩
theorem Reps.mono {H H' : Hp} (e : Same H H') : ∀ (ds : List PyData) (xs : List V), Reps H xs ds → Reps H' xs ds
  | [], xs, h => by unfold Reps at h ⊢; exact h
  | d :: ds, xs, h => by
    unfold Reps at h ⊢
    obtain ⟨x, r, q, z, y⟩ := h
    exact ⟨x, r, q, Rep.mono e d x z, Reps.mono e ds r y⟩
end
mutual
theorem Rep.reads {X : Cx} {pins : List (Addr × Obj)} {σ : St} {H : Hp} {s : Shared} (I : Inv X pins σ H s) : ∀ (d : PyData) (v : V) (u : Value), d.canLay0 = true → Rep H v d → RelV v u → ∃ as, Reads s.heap u d as
  | .none, v, u, _, h, r => by unfold Rep at h; subst h; cases r; exact ⟨_, .none⟩
  | .bool b, v, u, _, h, r => by unfold Rep at h; subst h; cases r; exact ⟨_, .bool b⟩
  | .int i, v, u, _, h, r => by unfold Rep at h; subst h; obtain ⟨t, r⟩ := r; subst r; exact ⟨_, .int i t⟩
  | .str x, v, u, _, h, r => by unfold Rep at h; subst h; obtain ⟨t, r⟩ := r; subst r; exact ⟨_, .str x t⟩
  | .list ds, v, u, c, h, r => by
    unfold Rep at h
    obtain ⟨a, xs, e, q, z⟩ := h
    subst e
    cases r
    obtain ⟨its, rv, p, hz⟩ := I.list (SqL.of q)
    obtain ⟨as, ra⟩ := Reps.reads I ds xs its (by simpa only [PyData.canLay0] using c) z rv
    obtain ⟨o, e1, e2, n, e3⟩ := p.isList
    exact ⟨_, .list e1 e2 e3 ra⟩
  | .tuple ds, v, u, c, h, r => by
    unfold Rep at h
    obtain ⟨a, xs, e, q, z⟩ := h
    subst e
    cases r
    obtain ⟨its, rv, p, hz⟩ := I.tuple (SqT.of q)
    obtain ⟨as, ra⟩ := Reps.reads I ds xs its (by simpa only [PyData.canLay0] using c) z rv
    obtain ⟨o, e1, e2, n, e3⟩ := p
    exact ⟨_, .tuple e1 e2 e3 ra⟩
  | .dict _, v, u, c, h, r => by simp [PyData.canLay0] at c
theorem Reps.reads {X : Cx} {pins : List (Addr × Obj)} {σ : St} {H : Hp} {s : Shared} (I : Inv X pins σ H s) : ∀ (ds : List PyData) (xs : List V) (us : List Value), PyData.canLayAll0 ds = true → Reps H xs ds → Vals xs us → ∃ as, ReadsAll s.heap us ds as
  | [], xs, us, _, h, r => by unfold Reps at h; subst h; cases r; exact ⟨_, .nil⟩
  | d :: ds, xs, us, c, h, r => by
    unfold Reps at h
    obtain ⟨x, t, e, z, y⟩ := h
    subst e
    have c' : d.canLay0 = true ∧ PyData.canLayAll0 ds = true := by simpa [PyData.canLayAll0] using c
    cases r with
    | cons r1 r2 =>
      obtain ⟨as, ra⟩ := Rep.reads I d x _ c'.1 z r1
      obtain ⟨bs, rb⟩ := Reps.reads I ds t _ c'.2 y r2
      exact ⟨_, .cons ra rb⟩
end
theorem Reps.length {H : Hp} : ∀ {ds : List PyData} {xs : List V}, Reps H xs ds → xs.length = ds.length
  | [], _, h => by unfold Reps at h; rw [h]; rfl
  | _ :: _, _, h => by
    unfold Reps at h
    obtain ⟨x, r, rfl, _, y⟩ := h
    simp [Reps.length y]
theorem Reps.get {H : Hp} : ∀ {ds : List PyData} {xs : List V} {i : Nat} {x : V}, Reps H xs ds → xs[i]? = some x → ∃ d, ds[i]? = some d ∧ Rep H x d
  | [], _, _, _, h, e => by unfold Reps at h; subst h; simp at e
  | d :: ds, _, 0, x, h, e => by
    unfold Reps at h
    obtain ⟨y, r, rfl, q, _⟩ := h
    have : y = x := by simpa using e
    subst this
    exact ⟨d, rfl, q⟩
  | d :: ds, _, i + 1, x, h, e => by
    unfold Reps at h
    obtain ⟨y, r, rfl, _, q⟩ := h
    exact Reps.get (i := i) q (by simpa using e)
theorem Reps.ints {H : Hp} : ∀ (ns : List Int), Reps H (ns.map V.int) (ns.map PyData.int)
  | [] => by unfold Reps; rfl
  | n :: ns => by
    show Reps H (V.int n :: ns.map V.int) (PyData.int n :: ns.map PyData.int)
    unfold Reps
    exact ⟨_, _, rfl, by unfold Rep; rfl, Reps.ints ns⟩
def tyD : PyData → Value
  | .none => .type "NoneType"
  | .bool _ => .type "bool"
  | .int _ => .type "int"
  | .str _ => .type "str"
  | .list _ => .type "list"
  | .tuple _ => .type "tuple"
  | .dict _ => .type "dict"
theorem Rep.ty {K : PySem.W.Frag} {H : Hp} : ∀ {d : PyData} {v : V}, Rep H v d → TyOf K H v (tyD d)
  | .none, _, h => by unfold Rep at h; subst h; exact .non
  | .bool _, _, h => by unfold Rep at h; subst h; exact .bl _
  | .int _, _, h => by unfold Rep at h; subst h; exact .int _
  | .str _, _, h => by unfold Rep at h; subst h; exact .str _
  | .list _, _, h => by unfold Rep at h; obtain ⟨a, xs, rfl, q, _⟩ := h; exact .lst q
  | .tuple _, _, h => by unfold Rep at h; obtain ⟨a, xs, rfl, q, _⟩ := h; exact .tup q
  | .dict _, _, h => by unfold Rep at h; obtain ⟨_, a, rfl, q⟩ := h; exact .dK q
abbrev rDivU : R2 := rI CDivB fun i j => .int (i / j)
abbrev rModU : R2 := rI (fun _ j => 0 < j) fun i j => .int (i % j)
abbrev rLtU : R2 := rI0 fun i j => .bl (decide (i < j))
abbrev rLeU : R2 := rI0 fun i j => .bl (decide (i ≤ j))
abbrev rGtU : R2 := rI0 fun i j => .bl (decide (j < i))
def rCatN (K : PySem.W.Frag) : R2 := fun x y H Q => ∃ a b ys, x = .ref a ∧ y = .ref b ∧ SqT K H a [] ∧ SqT K H b ys ∧ Q (.ref b) H
abbrev rAddU (K : PySem.W.Frag) : R2 := fun x y H Q => rI0 (fun i j => .int (i + j)) x y H Q ∨ (fun x y H Q => rCatT K x y H Q ∨ (fun x y H Q => rCatN K x y H Q ∨ rCat x y H Q) x y H Q) x y H Q
abbrev rMulU (K : PySem.W.Frag) : R2 := fun x y H Q => rI IntMulOk (fun i j => .int (i * j)) x y H Q ∨ rRep x y H Q
def rEqD (K : PySem.W.Frag) : R2 := fun x y H Q => ∃ d e, Rep H x d ∧ Rep H y e ∧ d.canLay0 = true ∧ e.canLay0 = true ∧ min d.depth e.depth ≤ 64 ∧ Q (.bl (PyData.eqv d e)) H
def rNeD (K : PySem.W.Frag) : R2 := fun x y H Q => ∃ d e, Rep H x d ∧ Rep H y e ∧ d.canLay0 = true ∧ e.canLay0 = true ∧ min d.depth e.depth ≤ 64 ∧ Q (.bl (!PyData.eqv d e)) H
abbrev rEqU (K : PySem.W.Frag) : R2 := fun x y H Q => rEq x y H Q ∨ rEqD K x y H Q
abbrev rNeU (K : PySem.W.Frag) : R2 := fun x y H Q => rNe x y H Q ∨ rNeD K x y H Q
def rIsN : R2 := fun x y H Q => y = .non ∧ Q (.bl (decide (x = .non))) H
def rIsB : R2 := fun x y H Q => ∃ i j, x = .bl i ∧ y = .bl j ∧ Q (.bl (i == j)) H
abbrev rIsU : R2 := fun x y H Q => rIsN x y H Q ∨ rIsB x y H Q
section
variable {X : Cx}
theorem op_divU : OpR X (binaryOp .FloorDiv) rDivU := op_fdivB
theorem op_modU : OpR X (binaryOp .Mod) rModU := op_mod
theorem op_catN : OpR X (binaryOp .Add) (rCatN X.K) := by
  intro pins s σ H x y v u Q I rx ry h
  obtain ⟨a, b, ys, rfl, rfl, ha, hb, q⟩ := h
  cases rx
  cases ry
  obtain ⟨its, r1, p1, _⟩ := I.tuple ha
  obtain ⟨its2, r2, p2, _⟩ := I.tuple hb
  cases r1
  obtain ⟨⟨cls, dd, data, sl⟩, ho, hc, n, hd⟩ := id p1
  obtain ⟨⟨cls2, dd2, data2, sl2⟩, ho2, hc2, n2, hd2⟩ := id p2
  simp only at hc hd hc2 hd2
  subst hc hd hc2 hd2
  exact concat_meets ⟨_, ho, rfl⟩ ⟨_, ho2, rfl⟩ noFill_tuple_add seq_tuple_add PySem.F.slot_tuple_add PySem.F.entry_tuple_add (PySem.F.args_tuple_add_2 _ _)
      (tuple_addW0 a b ([] : List Value).toArray its2.toArray n n2 dd dd2 sl sl2 (by simp)) ⟨ho, ho2, ⟨.ref b, H, I, rfl, q⟩⟩
theorem op_addU : OpR X (binaryOp .Add) (rAddU X.K) := op_add.or (op_catT.or (op_catN.or op_cat))
theorem op_mulU : OpR X (binaryOp .Mult) (rMulU X.K) := op_mulB.or op_rep
theorem op_eqD (hu : X.A.units + 64 < cLine) : OpR X (compareOp .Eq) (rEqD X.K) := by
  intro pins s σ H x y v u Q I rx ry h
  obtain ⟨d, e, h1, h2, c1, c2, hm, q⟩ := h
  obtain ⟨as, ra⟩ := Rep.reads I d x v c1 h1 rx
  obtain ⟨bs, rb⟩ := Rep.reads I e y u c2 h2 ry
  exact SeqAt.compareEq_reads ra rb c1 c2 (by omega) ⟨.bl _, H, I, rfl, q⟩
theorem op_neD (hu : X.A.units + 64 < cLine) : OpR X (compareOp .NotEq) (rNeD X.K) := by
  intro pins s σ H x y v u Q I rx ry h
  obtain ⟨d, e, h1, h2, c1, c2, hm, q⟩ := h
  obtain ⟨as, ra⟩ := Rep.reads I d x v c1 h1 rx
  obtain ⟨bs, rb⟩ := Rep.reads I e y u c2 h2 ry
  exact SeqAt.compareNe_reads ra rb c1 c2 (by omega) ⟨.bl _, H, I, rfl, q⟩
theorem op_eqU (hu : X.A.units + 64 < cLine) : OpR X (compareOp .Eq) (rEqU X.K) := op_eq.or (op_eqD hu)
theorem op_neU (hu : X.A.units + 64 < cLine) : OpR X (compareOp .NotEq) (rNeU X.K) := op_ne.or (op_neD hu)
theorem op_isU : OpR X (compareOp .Is) rIsU := op_isN.or op_isB
abbrev rInU (K : PySem.W.Frag) : R2 := rIn K false
theorem op_inU : OpR X (compareOp .In) (rInU X.K) := op_in_seq
abbrev rSlU (K : PySem.W.Frag) : V → Option Int → Option Int → Hp → VK → Prop := fun x lo hi H Q => rSlT K x lo hi H Q ∨ rSlL K x lo hi H Q
theorem sl_U : SlR X (rSlU X.K) := sl_tup.or sl_list
def rIsinst (K : PySem.W.Frag) : List V → Hp → VK → Prop := fun xs H Q => ∃ x T t b, xs = [x, .ty T] ∧ TyOf K H x t ∧ PySem.W.kitOne K t (.type T) = some b ∧ Q (.bl b) H
theorem call_isinst : CallR X (.builtin "isinstance") (rIsinst X.K) := by
  intro pins s σ H xs us Q I r h
  obtain ⟨x, T, t, b, rfl, ty, e, q⟩ := h
  obtain ⟨u, w', rfl, rx, ry⟩ := vals2 r
  cases ry
  exact isinst_ok I rx ty e fun tk => ⟨.bl b, H, I.tok tk, rfl, q⟩
def rLenU (K : PySem.W.Frag) : List V → Hp → VK → Prop := fun xs H Q => ∃ x n, xs = [x] ∧ LenV K x H n ∧ Q (.int (n : Nat)) H
theorem call_lenU : CallR X (.builtin "len") (rLenU X.K) := call_len
def rSumU (K : PySem.W.Frag) : List V → Hp → VK → Prop := fun xs H Q => ∃ (p : Addr) (ns : List Int), xs = [.ref p] ∧ SqA K H p (ns.map V.int) ∧ Q (.int ns.sum) H
theorem call_sumU (hc : X.calm = true) : CallR X (.builtin "sum") (rSumU X.K) := call_sumL hc
def rAllU (K : PySem.W.Frag) : List V → Hp → VK → Prop := fun xs H Q => ∃ (p : Addr) (bs : List Bool), xs = [.ref p] ∧ SqA K H p (bs.map V.bl) ∧ Q (.bl (bs.all id)) H
theorem call_allU (hc : X.calm = true) : CallR X (.builtin "all") (rAllU X.K) := call_allL hc
def rAnyU (K : PySem.W.Frag) : List V → Hp → VK → Prop := fun xs H Q => ∃ (p : Addr) (bs : List Bool), xs = [.ref p] ∧ SqA K H p (bs.map V.bl) ∧ Q (.bl (bs.any id)) H
theorem call_anyU (hc : X.calm = true) : CallR X (.builtin "any") (rAnyU X.K) := call_anyL hc
def rTy_tuple (K : PySem.W.Frag) : List V → Hp → VK → Prop := fun xs H Q => ∃ p ys, xs = [.ref p] ∧ ((SqL K H p ys ∧ ∀ l, H l = none → Q (.ref l) (upd H l (.tup ys))) ∨ (SqT K H p ys ∧ Q (.ref p) H))
theorem call_ty_tuple : CallR X (.type "tuple") (rTy_tuple X.K) := call_tuple_of
def iSeq (K : PySem.W.Frag) (tl : TE) : TI := fun σ H R => tl σ H fun x H1 => ∃ a, x = .ref a ∧ (((∃ xs, SqL K H1 a xs) ∧ R (Itl K a) H1) ∨ ((∃ xs, SqT K H1 a xs) ∧ R (Itt K a) H1))
theorem pi_seq {tg l : Expr} {tl : TE} (hl : PE X l tl) : PI X tg l (iSeq X.K tl) := by
  intro pins s σ H R I h
  refine thn (hl pins s σ H _ I h) fun v s1 ⟨x, H1, I1, r1, q1⟩ => ?_
  obtain ⟨a, e, q⟩ := q1
  subst e
  cases r1
  rcases q with ⟨⟨xs, hq⟩, q⟩ | ⟨⟨xs, hq⟩, q⟩
  · obtain ⟨its, rv, p, hz⟩ := I1.list hq
    refine wpAny_pyIter_list p.isList ?_
    refine ⟨s1.heap.objs.size, [s1.heap.objs.size], _, _, H1, rfl, I1.kept (t' := s1.toks) fun b o e => Heap.get?_push_of_some _ e, turn_list a _, ⟨_, Heap.get?_push_size _ rfl, rfl, rfl⟩, fun b hb => ?_, q⟩
    have e : b = s1.heap.objs.size := by simpa using hb
    subst e
    exact I1.fpOk (Nat.le_refl _) (I1.hok.fresh (Nat.le_refl _))
  · obtain ⟨its, rv, p, hz⟩ := I1.tuple hq
    refine wpAny_pyIter_tuple (show s1.heap.IsTuple a its.toArray from p) ?_
    refine ⟨s1.heap.objs.size, [s1.heap.objs.size], _, _, H1, rfl, I1.kept (t' := s1.toks) fun b o e => Heap.get?_push_of_some _ e, turn_tuple a _, ⟨_, Heap.get?_push_size _ rfl, rfl, rfl⟩, fun b hb => ?_, q⟩
    have e : b = s1.heap.objs.size := by simpa using hb
    subst e
    exact I1.fpOk (Nat.le_refl _) (I1.hok.fresh (Nat.le_refl _))
end
theorem weight_mem : ∀ {xs : List PySem.W.WData} {x : PySem.W.WData}, x ∈ xs → x.weight ≤ PySem.W.WData.weightAll xs
  | [], _, h => by simp at h
  | y :: r, x, h => by
    unfold PySem.W.WData.weightAll
    rcases List.mem_cons.mp h with e | e
    · subst e; omega
    · have := weight_mem e
      omega
theorem bits_script {ns : List Int} (h : PySem.W.WData.layableAll [.list (ns.map .int)] = true) : ∀ n ∈ ns, Builtin.Int.intBits n ≤ 1048576 := by
  intro n hn
  have h1 : PySem.W.WData.layable (.list (ns.map .int)) = true := (PySem.W.layW_cons h).1
  unfold PySem.W.WData.layable at h1
  rw [Bool.and_eq_true, Bool.and_eq_true] at h1
  have h2 : PySem.W.WData.weight (.list (ns.map .int)) ≤ 2 ^ 20 := of_decide_eq_true h1.2
  have h3 : PySem.W.WData.weight (.list (ns.map .int)) = PySem.W.WData.weightAll (ns.map .int) := by simp only [PySem.W.WData.weight]
  have h4 := weight_mem (x := .int n) (List.mem_map.mpr ⟨n, hn, rfl⟩ : PySem.W.WData.int n ∈ ns.map .int)
  have h5 : PySem.W.WData.weight (.int n) = Builtin.Int.intBits n := by simp only [PySem.W.WData.weight, Builtin.Int.intBits]
  have e : (2 : Nat) ^ 20 = 1048576 := by decide
  omega
end L2
set_option Elab.async false
set_option linter.all false
set_option maxRecDepth 100000
set_option maxHeartbeats 4000000
namespace L2
open PySem PySem.Spec PyProof.Rows
section
variable {K : PySem.W.Frag} {σ : St} {H : Hp} {Q : VK} {D : Ends} {t u : TS} {te ta tb tc : TE} {g : TG} {R : Bool → Hp → Prop} {c d : TT} {v x y : V} {i j : Int} {p : Addr} {xs : List V} {ns : List Int}
theorem w_seq (h : t { D with nx := u D } σ H) : tSeq t u D σ H := h
theorem w_asg (h : te σ H fun x H1 => g x σ H1 D.nx) : tAsg te g D σ H := h
theorem w_name {n : Nat} {R : St → Hp → Prop} (h : R (σ.set n (some v)) H) : gName n v σ H R := h
theorem w_ret (h : te σ H D.rt) : tRet te D σ H := h
theorem w_drop (h : te σ H fun _ H1 => D.nx σ H1) : tDrop te D σ H := h
theorem w_ifS (h : c σ H fun b H1 => if b = true then t D σ H1 else u D σ H1) : tIfS c t u D σ H := h
theorem w_next (h : D.nx σ H) : tNext D σ H := h
theorem w_var {n : Nat} (e : σ[n]? = some (some v)) (h : Q v H) : tVar n σ H Q := ⟨v, e, h⟩
theorem w_c (h : Q v H) : tC v σ H Q := h
theorem w_op {r : R2} (h : ta σ H fun x H1 => tb σ H1 fun y H2 => r x y H2 Q) : tOp r ta tb σ H Q := h
theorem w_test (h : te σ H fun x H' => ∃ k, x = .bl k ∧ R k H') : tTest te σ H R := h
theorem w_bl {k : Bool} {R : Bool → Prop} (h : R k) : ∃ k', V.bl k = .bl k' ∧ R k' := ⟨k, rfl, h⟩
theorem w_tru (h : te σ H fun x H' => ∃ k, TruV K x H' k ∧ R k H') : tTru K te σ H R := h
theorem w_trub {b : Bool} {R : Bool → Prop} (h : R b) : ∃ k, TruV K (.bl b) H k ∧ R k := ⟨b, rfl, h⟩
theorem w_and (h : c σ H fun b H1 => if b = true then d σ H1 R else R false H1) : tAnd c d σ H R := h
theorem w_or (h : c σ H fun b H1 => if b = true then R true H1 else d σ H1 R) : tOr c d σ H R := h
theorem w_not (h : c σ H fun b H1 => R (!b) H1) : tNot c σ H R := h
theorem w_andV (h : ta σ H fun x H1 => ∃ c, x = .bl c ∧ if c = true then tb σ H1 Q else Q (.bl false) H1) : tAndV ta tb σ H Q := h
theorem w_orV (h : ta σ H fun x H1 => ∃ c, x = .bl c ∧ if c = true then Q (.bl true) H1 else tb σ H1 Q) : tOrV ta tb σ H Q := h
theorem w_notV (h : ta σ H fun x H1 => ∃ c, x = .bl c ∧ Q (.bl (!c)) H1) : tNotV ta σ H Q := h
theorem w_chain {r r' : R2} (h : ta σ H fun x H1 => tb σ H1 fun y H2 => r x y H2 fun z H3 => ∃ k, z = .bl k ∧ if k = true then tc σ H3 fun w H4 => r' y w H4 Q else Q (.bl false) H3) : tChain r r' ta tb tc σ H Q := h
theorem w_cb {r : List V → Hp → VK → Prop} {t : TA} (h : t σ H fun vs H1 => r vs H1 Q) : tCB r t σ H Q := h
theorem w_yes (h : R true H) : tYes σ H R := h
theorem w_nil {R : List V → Hp → Prop} (h : R [] H) : tNil σ H R := h
theorem w_cons {t : TA} {R : List V → Hp → Prop} (h : ta σ H fun x H1 => t σ H1 fun xs H2 => R (x :: xs) H2) : tCons ta t σ H R := h
theorem w_call {sp : Sp} {E : XK} {t : TA} (h : t σ H fun vs H1 => sp vs H1 Q E) : tCall sp [] E t σ H Q := by
  show t σ H fun vs H1 => sp (vs ++ []) H1 Q E
  simpa only [List.append_nil] using h
theorem w_tup {t : TA} (h : t σ H fun xs H1 => xs.length ≤ sizeLine ∧ ∀ p, H1 p = none → Q (.ref p) (upd H1 p (.tup xs))) : tTup t σ H Q := h
theorem w_lst {t : TA} (h : t σ H fun xs H1 => xs.length ≤ sizeLine ∧ ∀ p, H1 p = none → Q (.ref p) (upd H1 p (.lst xs))) : tLst t σ H Q := h
theorem w_part {R : Option Int → Hp → Prop} (h : te σ H fun x H1 => ∃ i, x = .int i ∧ R (some i) H1) : tPart te σ H R := h
theorem w_nopart {R : Option Int → Hp → Prop} (h : R none H) : tNoPart σ H R := h
theorem w_int {R : Int → Prop} (h : R i) : ∃ i', V.int i = .int i' ∧ R i' := ⟨i, rfl, h⟩
theorem w_sl {r : V → Option Int → Option Int → Hp → VK → Prop} {tl th : TO} (h : te σ H fun x H1 => tl σ H1 fun l H2 => th σ H2 fun u H3 => r x l u H3 Q) : tSl r te tl th σ H Q := h
theorem w_bm {T : String} {r : V → List V → Hp → VK → Prop} {to : TE} {t : TA} (h : to σ H fun x H1 => tyV K T x H1 ∧ t σ H1 fun xs H2 => r x xs H2 Q) : tBM K T r to t σ H Q := h
theorem w_addI (h : Q (.int (i + j)) H) : rAddU K (.int i) (.int j) H Q := .inl ⟨i, j, rfl, rfl, h⟩
theorem w_mulI (hc : IntMulOk i j) (h : Q (.int (i * j)) H) : rMulU K (.int i) (.int j) H Q := .inl ⟨i, j, rfl, rfl, hc, h⟩
theorem w_divI (h0 : 0 < j) (h1 : j ≤ 100000000000000000000000000000000000000000000000000000000000000000000000000000000000000000000000000000000000000) (h : Q (.int (i / j)) H) : rDivU (.int i) (.int j) H Q :=
  ⟨i, j, rfl, rfl, CDivB.of h0 (Int.lt_of_le_of_lt h1 (by decide +kernel)), h⟩
theorem w_modI (h0 : 0 < j) (h : Q (.int (i % j)) H) : rModU (.int i) (.int j) H Q := ⟨i, j, rfl, rfl, h0, h⟩
theorem w_ltI (h : Q (.bl (decide (i < j))) H) : rLtU (.int i) (.int j) H Q := ⟨i, j, rfl, rfl, h⟩
theorem w_leI (h : Q (.bl (decide (i ≤ j))) H) : rLeU (.int i) (.int j) H Q := ⟨i, j, rfl, rfl, h⟩
theorem w_gtI (h : Q (.bl (decide (j < i))) H) : rGtU (.int i) (.int j) H Q := ⟨i, j, rfl, rfl, h⟩
theorem decV_int : decide (V.int i = V.int j) = decide (i = j) := by
  by_cases e : i = j
  · subst e; simp
  · rw [decide_eq_false e, decide_eq_false (fun q => e (V.int.inj q))]
theorem w_eqI (h : Q (.bl (decide (i = j))) H) : rEqU K (.int i) (.int j) H Q := .inl ⟨rfl, by rw [decV_int]; exact h⟩
theorem w_neI (h : Q (.bl (!decide (i = j))) H) : rNeU K (.int i) (.int j) H Q := .inl ⟨rfl, by rw [decV_int]; exact h⟩
theorem w_isN (h : Q (.bl (decide (x = .non))) H) : rIsU x .non H Q := .inl ⟨rfl, h⟩
theorem w_ixL (h : SqL K H p xs) (e : atI xs i = some v) (q : Q v H) : rIx K (.ref p) (.int i) H Q := .inl ⟨p, xs, i, v, rfl, rfl, h, e, q⟩
theorem w_ixT (h : SqT K H p xs) (e : atI xs i = some v) (q : Q v H) : rIx K (.ref p) (.int i) H Q := .inr (.inl ⟨p, xs, i, v, rfl, rfl, h, e, q⟩)
theorem w_lenL (h : SqL K H p xs) (q : Q (.int xs.length) H) : rLenU K [.ref p] H Q := ⟨.ref p, xs.length, rfl, .inl ⟨xs, h, rfl⟩, q⟩
theorem w_lenT (h : SqT K H p xs) (q : Q (.int xs.length) H) : rLenU K [.ref p] H Q := ⟨.ref p, xs.length, rfl, .inr ⟨xs, h, rfl⟩, q⟩
theorem w_tupL (h : SqL K H p xs) (q : ∀ l, H l = none → Q (.ref l) (upd H l (.tup xs))) : rTy_tuple K [.ref p] H Q := ⟨p, xs, rfl, .inl ⟨h, q⟩⟩
theorem w_sumA (h : SqA K H p (ns.map V.int)) (q : Q (.int ns.sum) H) : rSumU K [.ref p] H Q := ⟨p, ns, rfl, h, q⟩
theorem w_allA {bs : List Bool} (h : SqA K H p (bs.map V.bl)) (q : Q (.bl (bs.all id)) H) : rAllU K [.ref p] H Q := ⟨p, bs, rfl, h, q⟩
theorem w_anyA {bs : List Bool} (h : SqA K H p (bs.map V.bl)) (q : Q (.bl (bs.any id)) H) : rAnyU K [.ref p] H Q := ⟨p, bs, rfl, h, q⟩
theorem w_append {R : VK} (h : H p = some (.lst xs)) (hz : xs.length < sizeLine) (q : R .non (upd H p (.lst (xs ++ [v])))) : rAppend (.ref p) [v] H R := ⟨p, xs, v, rfl, rfl, h, hz, q⟩
theorem tyV_lst (h : H p = some (.lst xs)) : tyV K "list" (.ref p) H := .inl ⟨rfl, _, SqL.of h⟩
theorem iteD {c A B : Prop} [Decidable c] (h1 : c → A) (h2 : ¬ c → B) : if decide c = true then A else B := by
  by_cases h : c
  · rw [if_pos (decide_eq_true h)]; exact h1 h
  · rw [if_neg (by rw [decide_eq_false h]; decide)]; exact h2 h
theorem iteN {c A B : Prop} [Decidable c] (h1 : ¬ c → A) (h2 : c → B) : if (!decide c) = true then A else B := by
  by_cases h : c
  · rw [if_neg (by rw [decide_eq_true h]; decide)]; exact h2 h
  · rw [if_pos (by rw [decide_eq_false h]; rfl)]; exact h1 h
theorem iteB {b : Bool} {A B : Prop} (h1 : b = true → A) (h2 : b = false → B) : if b = true then A else B := by
  cases b
  · exact iteF (h2 rfl)
  · exact iteT (h1 rfl)
theorem iteNT {c A B : Prop} [Decidable c] (h : ¬ c) (h1 : A) : if (!decide c) = true then A else B := iteN (fun _ => h1) fun z => absurd z h
theorem iteNF {c A B : Prop} [Decidable c] (h : c) (h1 : B) : if (!decide c) = true then A else B := iteN (fun z => absurd h z) fun _ => h1
theorem atI_at {α : Type} {xs : List α} {i : Int} {v : α} (h0 : 0 ≤ i) (h : xs[i.toNat]? = some v) : atI xs i = some v := by
  have e : ((i.toNat : Nat) : Int) = i := Int.toNat_of_nonneg h0
  rw [← e]; exact atI_nat h
theorem get_ints {ns : List Int} {k : Nat} (h : k < ns.length) : (ns.map V.int)[k]? = some (.int (ns.getD k 0)) := by
  rw [List.getElem?_map, List.getD, List.getElem?_eq_getElem h]; rfl
theorem atI_ints {ns : List Int} (h0 : 0 ≤ i) (h1 : i < ns.length) : atI (ns.map V.int) i = some (.int (ns.getD i.toNat 0)) := atI_at h0 (get_ints (by omega))
theorem mulok_l (h1 : -18446744073709551616 < i) (h2 : i < 18446744073709551616) : IntMulOk i j := IntMulOk.of_left (intBits_le_64 h1 h2)
theorem mulok_r (h1 : -18446744073709551616 < j) (h2 : j < 18446744073709551616) : IntMulOk i j := IntMulOk.of_right (intBits_le_64 h1 h2)
theorem bits_1000 (h1 : -1000000000000000000000000000000000000000000000000000000000000000000000000000000000000000000000000000000000000000000000000000000000000000000000000000000000000000000000000000000000000 < i)
    (h2 : i < 1000000000000000000000000000000000000000000000000000000000000000000000000000000000000000000000000000000000000000000000000000000000000000000000000000000000000000000000000000000000000) : Builtin.Int.intBits i ≤ 1000 := by
  have e : (1000000000000000000000000000000000000000000000000000000000000000000000000000000000000000000000000000000000000000000000000000000000000000000000000000000000000000000000000000000000000 : Int) ≤ 2 ^ 1000 := by decide +kernel
  exact bits_of (by omega) (by omega)
theorem mulok_big (h1 : -1000000000000000000000000000000000000000000000000000000000000000000000000000000000000000000000000000000000000000000000000000000000000000000000000000000000000000000000000000000000000 < i)
    (h2 : i < 1000000000000000000000000000000000000000000000000000000000000000000000000000000000000000000000000000000000000000000000000000000000000000000000000000000000000000000000000000000000000)
    (h3 : -1000000000000000000000000000000000000000000000000000000000000000000000000000000000000000000000000000000000000000000000000000000000000000000000000000000000000000000000000000000000000 < j)
    (h4 : j < 1000000000000000000000000000000000000000000000000000000000000000000000000000000000000000000000000000000000000000000000000000000000000000000000000000000000000000000000000000000000000) : IntMulOk i j :=
  IntMulOk.of_le (bits_1000 h1 h2) (bits_1000 h3 h4) (by decide)
theorem Same.laid {o : HO} (h : H p = none) : Same H (upd H p o) := fun b u e => by
  rw [upd_ne (ne_of_none e h)]; exact e
theorem Same.laidT {H0 : Hp} {o : HO} (s : Same H0 H) (h : H p = none) : Same H0 (upd H p o) := s.trans (Same.laid h)
theorem Same.put {H0 : Hp} {o : HO} (s : Same H0 H) (h : H0 p = none) : Same H0 (upd H p o) := fun b u e => by
  rw [upd_ne (ne_of_none e h)]; exact s b u e
theorem w_for {wi : TI} {tb : TS} (h : wi σ H fun J H1 => ∃ W : Nat → Nat → St → Hp → Prop, (∃ m, W 0 m σ H1) ∧ ∀ i m σ H, W i m σ H →
    (J.stop i H ∧ D.nx σ H) ∨ (J.go i H ∧ ∃ N : St → Hp → Prop, (∀ σ' H', N σ' H' → ∃ m', m' < m ∧ W (i + 1) m' σ' H') ∧ ∀ x H', J.yld i H x H' → g x σ H' fun σ2 H2 => tb { D with nx := N, ct := N, bk := D.nx } σ2 H2)) : tFor wi g tb D σ H := h
theorem w_rng1 {ta : TA} {R : It → Hp → Prop} (h : ta σ H fun vs H1 => ∃ j : Int, vs = [.int j] ∧ -(2 ^ 62) ≤ j ∧ j < 2 ^ 62 ∧ R (Itr 0 j.toNat) H1) : iRng1 ta σ H R := h
theorem rng_ok {n : Nat} (h : n ≤ 1000) : -(2 ^ 62) ≤ (n : Int) ∧ (n : Int) < 2 ^ 62 := by omega
theorem w_seq0 {tl : TE} {R : It → Hp → Prop} (h : tl σ H fun x H1 => ∃ a, x = .ref a ∧ (((∃ xs, SqL K H1 a xs) ∧ R (Itl K a) H1) ∨ ((∃ xs, SqT K H1 a xs) ∧ R (Itt K a) H1))) : iSeq K tl σ H R := h
theorem w_comp {l : List (Option Nat)} {wi : TI} (h : wi σ H fun J H1 => ∀ D, H1 D = none → ∃ W : CompW, (∃ m, W 0 m [] (iniOf l σ) (upd H1 D (.lst []))) ∧ compStep J g c te D W fun H' => Q (.ref D) H') : tComp l wi g c te σ H Q := h
end
theorem for_range0 {n : Nat} {g : TG} {tb : TS} {D : Ends} {σ : St} {H : Hp} (Pv : Nat → St → Hp → Prop) (h0 : Pv 0 σ H)
    (hs : ∀ i σ H, i < n → Pv i σ H → g (.int (i : Nat)) σ H fun σ2 H2 => tb { D with nx := Pv (i + 1), ct := Pv (i + 1), bk := D.nx } σ2 H2) (hd : ∀ σ H, Pv n σ H → D.nx σ H) :
    ∃ W : Nat → Nat → St → Hp → Prop, (∃ m, W 0 m σ H) ∧ ∀ i m σ H, W i m σ H →
      ((Itr 0 n).stop i H ∧ D.nx σ H) ∨ ((Itr 0 n).go i H ∧ ∃ N : St → Hp → Prop, (∀ σ' H', N σ' H' → ∃ m', m' < m ∧ W (i + 1) m' σ' H') ∧ ∀ x H', (Itr 0 n).yld i H x H' → g x σ H' fun σ2 H2 => tb { D with nx := N, ct := N, bk := D.nx } σ2 H2) :=
  for_range Pv h0 (fun i σ H hi p => by rw [Int.zero_add]; exact hs i σ H hi p) hd
section
variable {l : List (Option Nat)} {te : TE} {σ σr : St} {H1 : Hp} {Q : Hp → Prop}
theorem comp_seqP {K : PySem.W.Frag} {J : It} {a : Addr} {xs : List V} (hJ : (J = Itt K a ∧ H1 a = some (.tup xs)) ∨ (J = Itl K a ∧ H1 a = some (.lst xs))) (D : Addr) (P : Nat → V → Hp → Prop) (hP : ∀ i v H H', Tu H H' → P i v H → P i v H') (hn : xs.length ≤ 1000) (hD : H1 D = none) (hini : ∃ r0, iniOf l σ = r0 :: σr)
    (hs : ∀ i x H (R : VK), xs[i]? = some x → Same H1 H → (∀ v H4, Same H H4 → P i v H4 → R v H4) → te (some x :: σr) H R)
    (hd : ∀ ys H, ys.length = xs.length → (∀ i v, ys[i]? = some v → P i v H) → Same H1 H → H D = some (.lst ys) → Q H) :
    ∃ W : CompW, (∃ m, W 0 m [] (iniOf l σ) (upd H1 D (.lst []))) ∧ compStep J (gName 0) tYes te D W Q := by
  obtain ⟨r0, hini⟩ := hini
  refine comp_seq D xs (fun i ys σ2 H => ys.length = i ∧ (∀ j v, ys[j]? = some v → P j v H) ∧ Same H1 H ∧ ∃ r0, σ2 = r0 :: σr) hn (fun i ys σ H h => Nat.le_of_eq h.1) ?_ ⟨rfl, fun j v e => by simp at e, Same.laid hD, r0, hini⟩ ?_ ?_
  · rintro i ys σ2 H ⟨_, _, hs1, _⟩ _
    rcases hJ with ⟨rfl, e⟩ | ⟨rfl, e⟩
    · exact itt_of (SqT.of (hs1 _ _ e)) i
    · exact itl_of (SqL.of (hs1 _ _ e)) i
  · rintro i x ys σ2 H hi ⟨hl, hp, hs1, r1, rfl⟩ hH
    refine w_name (w_yes (iteT ?_))
    refine hs i x H _ hi hs1 fun v H4 h4 hv => ?_
    have hD4 : H4 D = some (.lst ys) := h4 _ _ hH
    refine ⟨hD4, by simp [hl], fun j u e => ?_, (hs1.trans h4).put hD, some x, rfl⟩
    by_cases hj : j < ys.length
    · rw [List.getElem?_append_left hj] at e
      exact hP _ _ _ _ (Tu.put hD4) (hP _ _ _ _ h4.tu (hp j u e))
    · rw [List.getElem?_append_right (by omega)] at e
      have hj2 : j - ys.length = 0 := by
        by_cases z : j - ys.length = 0
        · exact z
        · rw [List.getElem?_eq_none (by simp; omega)] at e; cases e
      rw [hj2] at e
      have e' : v = u := by simpa using e
      have ej : j = i := by omega
      rw [← e', ej]
      exact hP _ _ _ _ (Tu.put hD4) hv
  · rintro ys σ2 H ⟨hl, hp, hs1, _⟩ hH
    exact hd ys H hl hp hs1 hH
theorem all_map {α : Type} {f : α → V} : ∀ {ys : List V} {P : Nat → α → Prop}, (∀ (i : Nat) v, ys[i]? = some v → ∃ x, v = f x ∧ P i x) → ∃ rs : List α, ys = rs.map f ∧ ∀ (i : Nat) x, rs[i]? = some x → ∃ y, f y = f x ∧ P i y
  | [], P, _ => ⟨[], rfl, fun i x e => by simp at e⟩
  | y :: ys, P, h => by
    obtain ⟨x, hx, px⟩ := h 0 y rfl
    obtain ⟨rs, e, hr⟩ := all_map (ys := ys) (P := fun i => P (i + 1)) (fun i v hv => h (i + 1) v (by simpa using hv))
    refine ⟨x :: rs, by rw [e, hx]; rfl, fun i z hz => ?_⟩
    cases i with
    | zero =>
      have : x = z := by simpa using hz
      subst this
      exact ⟨x, rfl, px⟩
    | succ i => exact hr i z (by simpa using hz)
theorem all_bls {ys : List V} {P : Nat → Bool → Prop} (h : ∀ (i : Nat) v, ys[i]? = some v → ∃ x, v = .bl x ∧ P i x) : ∃ rs : List Bool, ys = rs.map V.bl ∧ ∀ (i : Nat) x, rs[i]? = some x → P i x := by
  obtain ⟨rs, e, hr⟩ := all_map h
  exact ⟨rs, e, fun i x hx => by obtain ⟨y, ey, p⟩ := hr i x hx; cases ey; exact p⟩
end
end L2
set_option Elab.async false
set_option linter.all false
set_option maxRecDepth 100000
set_option maxHeartbeats 4000000
namespace L2
open PySem PySem.W PySem.Calls PyProof.Rows
theorem attach_bits {l : OpenLaw} {n : Nat} {q : Program} {loose : List Str} {XP : (Str → Option Value) → Heap → Prop} {YP : World → Heap → Prop} {d : DefRec}
    (hn : l.most = some n) (hdf : d.params.defaults = [])
    (call : ∀ (w : World) (s₀ s₁ : Shared) (mg mb : Str → Option Value) (fa : Addr) (a : Addr) (vs : List Value) (ns : List Int),
      Ground q loose [] XP w s₀ mg mb s₁.heap → YP w s₁.heap → mg d.name = some (.ref fa) →
      s₁.heap.get? a = some { cls := .type "list", data := .seq vs.toArray } → IntsAre vs ns → ns.length ≤ n → (∀ i ∈ ns, Builtin.Int.intBits i ≤ 1048576) → s₁.gens = #[] →
      codeAny (model l.prog w) callerA (.call (.ref fa) ⟨[.ref a], []⟩) (fun r s' => r = .ok (.ret (.bool true)) ∧ OldK s₁.heap s'.heap ∧ s'.os = s₁.os ∧ AllBare s'.gens) s₁) :
    WalkO q loose XP YP l.row.toRowW d [] (fun f vs => PySem.call f vs) := by
  intro w s₀ s₁ mg mb G Y fa o pm cd doc dV kV ho hd hcd hD hmg hg args vals as hpre hlay hrd hwl hlo
  obtain ⟨a, vs, ns, rfl, rfl, hobj, hints, hlen⟩ := Att.script_of hn hpre hwl
  refine enter_call (codeAny_mono (call w s₀ s₁ mg mb fa a vs ns G Y hmg hobj hints hlen (bits_script hlay) hg) fun r s' hq => ?_)
  obtain ⟨rfl, h2, h3, h4⟩ := hq
  exact ⟨.inl ⟨.bool true, .bool true, [], rfl, fun _ => rfl, .bool true, Att.post_true l _, fun _ => ⟨List.Pairwise.nil, fun _ hm => (nomatch hm)⟩⟩, h2, h3, h4⟩
def sb_top (K : PySem.W.Frag) (a : V) (H : Hp) (Q : VK) (E : XK) : Prop := ∃ (l : Addr) (ns : List Int), a = .ref l ∧ SqL K H l (ns.map V.int) ∧ (∀ n ∈ ns, Builtin.Int.intBits n ≤ 1048576) ∧ ns.length ≤ 63 ∧ ∀ H', Q (.bl true) H'
theorem walk_fn {l : OpenLaw} {q : Program} {loose : List Str} {XP : (Str → Option Value) → Heap → Prop} {YP : World → Heap → Prop} {d : DefRec} {K : Params → Frag} {x : Str} (k : Nat)
    (hn : l.most = some 63) (hdf : d.params.defaults = []) (hk : k ≤ 40)
    (hY : ∀ (w : World) (h : Heap), YP w h → (K w.params).In h)
    (F : ∀ (w : World) (mg : Str → Option Value) (h : Heap), (K w.params).In h → h.Ns mainGlobals mg → ∃ f fd, mg d.name = some (.ref f) ∧ (∀ (s : Shared) (u : Value), BindsTo s fd ⟨[u], []⟩ [(x, u)]) ∧
      ∀ base : Heap, (K w.params).In base → base.Ns mainGlobals mg → FnOk l.prog w (K w.params) mg base CX0 k f fd [x] (sp1 (sb_top (K w.params)))) :
    WalkO q loose XP YP l.row.toRowW d [] (fun f vs => PySem.call f vs) := by
  refine attach_bits hn hdf fun w s₀ s₁ mg mb fa a vs ns G Y hmg hobj hints hlen hbits hg => ?_
  have KX := hY w _ Y
  obtain ⟨f, fd, hf, hb, hF⟩ := F w mg _ KX G.T.g
  rw [hmg] at hf
  cases hf
  have hr : Room 40 callerA := ⟨rfl, by decide, by decide⟩
  exact law_call KX G.T.g G.T.b G.T.builtins G.T.nolimit hg hobj hints (Nat.le_trans hlen (by decide)) (hr.mono hk) hF hb
    (fun H hO hS => ⟨_, rfl, a, ns, rfl, hS, hbits, hlen, fun _ => rfl⟩) fun H e s' h => h
end L2
set_option Elab.async false
set_option linter.all false
set_option maxRecDepth 100000
set_option maxHeartbeats 4000000
namespace L2
open PySem PySem.Spec PyProof.Rows
def CtxN (e : Addr) (h : Heap) : Prop := ∃ o vs, h.get? e = some o ∧ o.data = .fields vs ∧ vs[2]? = some Value.none
theorem CtxN.keep {e : Addr} {h h' : Heap} (c : CtxN e h) (k : h'.get? e = h.get? e) : CtxN e h' := by
  obtain ⟨o, vs, q, d, z⟩ := c
  exact ⟨o, vs, k.trans q, d, z⟩
section
variable {M : Model} {A : Around} {E : Value → Shared → Prop} {s : Shared} {B : Heap} {env : Env} {l outer : List Env} {L e : Addr} {cls a0 : Value} {Q : Unit → Shared → Prop}
theorem entryC {ob : Obj} {ws : Array Value} {hd0 : Value} {hadNext : Bool} (frm : A.frames = some (env :: outer)) (ff : s.heap.FunFrames B (env :: outer)) (fr : env.frame = some L)
    (q1 : s.heap.get? e = some ob) (kb : B.StaysIn s.heap) (en : B.get? e = none) (q2 : ob.data = .fields ws) (q3 : 1 < ws.size) (q4 : ws[0]? = some a0) (q5 : ws[2]? = some Value.none)
    (k : ∀ h', Heap.NotedW B (env :: outer) e ob.cls a0 (rawInt L) s.heap h' → CtxN e h' → Q () { s with heap := h' }) :
    wpAny M A (do let a ← frameOf env; let pl ← entryPlaceOf L hadNext; let b ← EntryCells.newEntry hd0 a .none (rawInt L) .none pl; setField (.ref e) 1 b) Q E s := by
  have out : e ∉ (env :: outer).filterMap (·.frame) := fun z => by
    obtain ⟨_, o, ho, nf⟩ := ff.mem z
    rw [q1] at ho
    cases ho
    exact nf ws q2
  refine wpAny_bind (wpAny_frameOf_fun frm ff fr fun g sl => ?_)
  refine wpAny_bind (wpAny_entryPlaceOf fun pl hpl => ?_)
  unfold EntryCells.newEntry newFields
  refine wpAny_bind (wpAny_newObj_type ?_ (hpl.sizeOk5 _ _ _ _ _))
  have g1 : g.get? e = some ob := (sl.2.1 e out).trans q1
  have gk : B.StaysIn g := fun b o r => (sl.2.1 b fun z => by rw [(ff.mem z).1] at r; cases r).trans (kb b o r)
  generalize hT : ({ cls := .type "traceback", dict := none, data := .fields ([hd0, .ref L, .none, rawInt L, .none] ++ (if pl.isEmpty then List.replicate 6 Value.none else pl)).toArray } : Obj) = tb
  have g2 : (g.push tb).get? e = some ob := Heap.get?_push_of_some tb g1
  refine wpAny_setField g2 q2 q3 ?_
  have ne : g.objs.size ≠ e := Nat.ne_of_gt (Heap.lt_size g1)
  have d3 := Obj.data_mapFields q2 (fun ar => ar.setIfInBounds 1 (Value.ref g.objs.size))
  have g3 := Heap.get?_update_self (Obj.mapFields (fun ar => ar.setIfInBounds 1 (Value.ref g.objs.size))) g2 (Obj.isFreed_of_fields d3)
  have gT : ((g.push tb).update e (Obj.mapFields (fun ar => ar.setIfInBounds 1 (Value.ref g.objs.size)))).get? g.objs.size = some tb :=
    (Heap.get?_update_other _ _ (Ne.symm ne)).trans (Heap.get?_push_size g (by rw [← hT]; rfl))
  have kp : ∀ b o, b ≠ e → g.get? b = some o → ((g.push tb).update e (Obj.mapFields (fun ar => ar.setIfInBounds 1 (Value.ref g.objs.size)))).get? b = some o := fun b o nb r => by
    rw [Heap.get?_update_other _ _ (Ne.symm nb)]
    exact Heap.get?_push_of_some _ r
  have nrec : ∀ b o, s.heap.get? b = some o → (∀ vs, o.data ≠ .fields vs) → b ≠ e := fun b o r nf z => by
    rw [z, q1] at r
    cases r
    exact nf ws q2
  refine k _ ⟨fun b o r => kp b o (fun z => by rw [z, en] at r; cases r) (gk b o r), ff.of_keeps fun b o r nf => ?_, ?_, fun b o r nf => ?_⟩ ⟨_, _, g3, d3, ?_⟩
  · obtain ⟨z, r2⟩ := sl.2.2 b o r
    exact ⟨_, kp b _ (nrec b o r nf) r2, rfl⟩
  · refine ⟨_, _, g.objs.size, tb, _, g3, ⟨Obj.cls_mapFields _ _, ?_⟩, d3, by simp [q3], gk.fresh, ne, gT, by rw [← hT], ?_⟩
    · rw [Array.getElem?_setIfInBounds_ne (by decide)]; exact q4
    · first | (simp; done) | (rcases hpl with rfl | ⟨_, _, _, _, _, _, _, rfl⟩ <;> simp)
  · obtain ⟨z, r2⟩ := sl.2.2 b o r
    exact ⟨z, kp b _ (nrec b o r nf) r2⟩
  · rw [Array.getElem?_setIfInBounds_ne (by decide)]; exact q5
theorem noteC (frm : A.frames = some (env :: outer)) (fr : env.frame = some L) (f1 : B.StaysIn s.heap) (f2 : B.get? e = none) (f3 : s.heap.FunFrames B (env :: outer)) {fl : Value} (f4 : s.heap.TracedAtW B e cls a0 fl) (cx : CtxN e s.heap)
    (k : ∀ h', Heap.HeldW B (env :: outer) e cls a0 L h' → CtxN e h' → s.heap.UpToSlots h' → Q () { s with heap := h' }) : wpAny M A (noteFrame (.ref e) env) Q E s := by
  by_cases hb : fl = rawInt L
  · subst hb
    exact wpAny_noteFrame_againW fr f4 (k s.heap ⟨f1, f2, f3, f4⟩ cx (Heap.UpToSlots.refl _))
  · obtain ⟨ob, ws, T, oT, ts, q1, ⟨q2, q3⟩, q4, q5, q6, q7, q8, q9, q10⟩ := f4
    subst q2
    unfold noteFrame
    simp only [fr]
    refine wpAny_bind (wpAny_field q1 q4 q5 ?_)
    rw [if_pos (show (Value.ref T != Value.none) = true by simp)]
    refine wpAny_bind (wpAny_field q8 q9 q10 ?_)
    rw [if_neg (show ¬ ((fl == rawInt L) = true) by simpa using hb)]
    refine wpAny_bind (wpAny_setField q8 q9 (Array.getElem?_eq_some_iff.mp q10).1 ?_)
    have oth : ∀ b, b ≠ T → (s.heap.update T (Obj.mapFields fun ar => ar.setIfInBounds 3 Value.none)).get? b = s.heap.get? b := fun b nb => Heap.get?_update_other _ _ (Ne.symm nb)
    have nrec : ∀ b o, s.heap.get? b = some o → (∀ vs, o.data ≠ .fields vs) → b ≠ T := fun b o r nf z => by
      rw [z, q8] at r
      cases r
      exact nf ts q9
    have c2 : ws[2]? = some Value.none := by
      obtain ⟨o, vs, r1, r2, r3⟩ := cx
      rw [q1] at r1
      cases r1
      rw [q4] at r2
      cases r2
      exact r3
    refine entryC frm (f3.of_keeps fun b o r nf => ⟨o, (oth b (nrec b o r nf)).trans r, rfl⟩) fr ((oth e (Ne.symm q7)).trans q1) (fun b o r => (oth b fun z => by rw [z, q6] at r; cases r).trans (f1 b o r)) f2 q4
      (Array.getElem?_eq_some_iff.mp q5).1 q3 c2 fun h' ⟨x1, x2, x3, x4⟩ cn => k h' ⟨x1, f2, x2, x3⟩ cn fun b o r nf => x4 b o ((oth b (nrec b o r nf)).trans r) nf
theorem flightC {fr : Option Addr} {fl : Value} (f1 : B.StaysIn s.heap) (f2 : B.get? e = none) (f3 : s.heap.FunFrames B l) (f4 : s.heap.TracedAtW B e cls a0 fl) (cx : CtxN e s.heap)
    (k : ∀ h', B.StaysIn h' → h'.FunFrames B l → h'.TracedAtW B e cls a0 (fr.elim Value.none fun f => rawInt f) → CtxN e h' → s.heap.UpToSlots h' → Q () { s with heap := h' }) : wpAny M A (setFlight (.ref e) fr) Q E s := by
  obtain ⟨ob, ws, T, oT, ts, q1, q2, q4, q5, q6, q7, q8, q9, q10⟩ := f4
  have z3 : 3 < ts.size := (Array.getElem?_eq_some_iff.mp q10).1
  have nrec : ∀ b o, s.heap.get? b = some o → (∀ vs, o.data ≠ .fields vs) → b ≠ T := fun b o r nf z => by
    rw [z, q8] at r
    cases r
    exact nf ts q9
  unfold setFlight
  refine wpAny_bind (wpAny_field q1 q4 q5 ?_)
  rw [if_pos (show (Value.ref T != Value.none) = true by simp)]
  refine wpAny_setField q8 q9 z3 ?_
  generalize (fr.elim Value.none fun f => rawInt f) = fv at k ⊢
  have oth : ∀ b, b ≠ T → (s.heap.update T (Obj.mapFields fun ar => ar.setIfInBounds 3 fv)).get? b = s.heap.get? b := fun b nb => Heap.get?_update_other _ _ (Ne.symm nb)
  refine k _ (fun b o r => (oth b fun z => by rw [z, q6] at r; cases r).trans (f1 b o r)) (f3.of_keeps fun b o r nf => ⟨o, (oth b (nrec b o r nf)).trans r, rfl⟩) ?_ (cx.keep (oth e (Ne.symm q7))) fun b o r nf => ⟨o.slots, (oth b (nrec b o r nf)).trans r⟩
  exact ⟨ob, ws, T, _, _, (oth e (Ne.symm q7)).trans q1, q2, q4, q5, q6, q7, Heap.get?_update_self _ q8 (Obj.isFreed_of_fields (Obj.data_mapFields q9 _)), Obj.data_mapFields q9 _, by simp [z3]⟩
theorem landsC {fl : Value} (f1 : B.StaysIn s.heap) (f2 : B.get? e = none) (f3 : s.heap.FunFrames B l) (f4 : s.heap.TracedAtW B e cls a0 fl) (cx : CtxN e s.heap)
    (k : ∀ h', Heap.FlyingW B l e cls a0 h' → CtxN e h' → s.heap.UpToSlots h' → Q () { s with heap := h' }) : wpAny M A (setFlight (.ref e) none) Q E s :=
  flightC (fr := none) f1 f2 f3 f4 cx fun h' x1 x2 x3 x4 x5 => k h' ⟨x1, f2, x2, x3⟩ x4 x5
theorem leavesC {fl : Value} (frm : A.frames = some (env :: outer)) (fr : env.frame = some L) (f1 : B.StaysIn s.heap) (f2 : B.get? e = none) (f3 : s.heap.FunFrames B (env :: outer)) (f4 : s.heap.TracedAtW B e cls a0 fl) (cx : CtxN e s.heap)
    (k : ∀ h', Heap.FlyingW B outer e cls a0 h' → CtxN e h' → s.heap.UpToSlots h' → Q () { s with heap := h' }) : wpAny M A (leaving env (.ref e)) Q E s := by
  unfold leaving
  refine wpAny_bind (noteC frm fr f1 f2 f3 f4 cx fun h' hh cn up => ?_)
  obtain ⟨g1, g2, g3, g4⟩ := hh
  refine landsC (s := { s with heap := h' }) g1 g2 g3 g4 cn fun h2 fl2 cn2 up2 => ?_
  obtain ⟨z1, z2, ⟨_, _, z3⟩, z4⟩ := fl2
  exact k h2 ⟨z1, z2, z3, z4⟩ cn2 (up.trans up2)
theorem leavesC_made {h : Heap} {args : List Value} (frm : A.frames = some (env :: outer)) (fr : env.frame = some L) (kb : B.StaysIn h) (ff : h.FunFrames B (env :: outer)) (hx : Heap.MadeExcOf h s.heap e cls args)
    (k : ∀ h' t, Heap.FlyingW B outer e cls (.ref t) h' → CtxN e h' → s.heap.UpToSlots h' → Q () { s with heap := h' }) : wpAny M A (leaving env (.ref e)) Q E s := by
  obtain ⟨t, q1, _, _⟩ := hx.there
  have en : B.get? e = none := by
    cases q : B.get? e with
    | none => rfl
    | some o => have := kb e o q; rw [hx.new] at this; cases this
  unfold leaving noteFrame
  simp only [fr]
  refine wpAny_bind (wpAny_bind (wpAny_field q1 rfl (x := Value.none) rfl ?_))
  rw [if_neg (show ¬ ((Value.none != Value.none) = true) by simp)]
  refine entryC (a0 := .ref t) frm (ff.of_keeps fun b o r _ => ⟨o, hx.keeps b o r, rfl⟩) fr q1 (fun b o r => hx.keeps b o (kb b o r)) en rfl (by show 1 < 6; decide) rfl rfl fun h' ⟨x1, x2, x3, x4⟩ cn => ?_
  refine landsC (s := { s with heap := h' }) x1 en x2 x3 cn fun h2 fl2 cn2 up2 => ?_
  obtain ⟨z1, z2, ⟨_, _, z3⟩, z4⟩ := fl2
  exact k h2 t ⟨z1, z2, z3, z4⟩ cn2 (Heap.UpToSlots.trans x4 up2)
end
end L2
set_option Elab.async false
set_option linter.all false
set_option maxRecDepth 100000
set_option maxHeartbeats 4000000
namespace L2
open PySem PySem.Spec PyProof.Rows
theorem ObjOk.ob {P : Program} {w : World} {H : Hp} {h : Heap} {a : Addr} {o : HO} (x : ObjOk P w H h a o) : ∃ ob, h.get? a = some ob := by
  cases o with
  | lst xs => obtain ⟨_, _, _, _, e⟩ := x; exact ⟨_, e⟩
  | tup xs => obtain ⟨_, _, _, ob, e, _⟩ := x; exact ⟨ob, e⟩
  | dK kvs => obtain ⟨_, _, _, _, o, _, _, e, _⟩ := x; exact ⟨o, e⟩
  | dT kvs => obtain ⟨_, _, _, _, o, _, _, e, _⟩ := x; exact ⟨o, e⟩
  | set S n => obtain ⟨o, _, _, _, e, _⟩ := x; exact ⟨o, e⟩
  | ins C dx fs => obtain ⟨_, _, _, e, _⟩ := x; exact ⟨_, e⟩
  | own y => exact x
  | xd fs => obtain ⟨_, ⟨_, _, _, e, _⟩, _⟩ := x; exact ⟨_, e⟩
  | rng lo hi => obtain ⟨_, _, _, e⟩ := x; exact ⟨_, e⟩
  | frz ob u => exact ⟨_, x.1⟩
  | tbl ps => exact ⟨_, x⟩
  | met f y => exact ⟨_, x⟩
  | ext φ => exact x.2.1
structure Flown (P : Program) (w : World) (base : Heap) (outer : List Env) (H : Hp) (s s' : Shared) (e : Addr) (cls : Value) (H' : Hp) (B : Heap) (a0 : Value) : Prop where
  os : s'.os = s.os
  bare : AllBare s'.gens
  fly : Heap.FlyingW B outer e cls a0 s'.heap
  ctx : CtxN e s'.heap
  hok : HOk P w H' B
  bst : base.StaysIn B
  noe : H' e = none
  keep : ∀ b o, s.heap.get? b = some o → H b = none → b ∉ frs outer → B.get? b = some o
  slot : ∀ b o, s.heap.get? b = some o → H b = none → b ∈ frs outer → ∃ sl, s'.heap.get? b = some { o with slots := sl }
  free : ∀ b o, s.heap.get? b = some o → H b = none → H' b = none
  there : ∀ b o, s.heap.get? b = some o → b ∉ frs outer → ∃ o', B.get? b = some o'
  tups : ∀ b xs, H b = some (.tup xs) → H' b = some (.tup xs)
  frzs : ∀ b o u, H b = some (.frz o u) → H' b = some (.frz o u)
  tbls : ∀ b ps, H b = some (.tbl ps) → ∃ more, H' b = some (.tbl (ps ++ more))
def CXr (P : Program) (w : World) (base : Heap) : CXT := fun outer H s E x s' => ∃ e cls H' B a0, x = .ref e ∧ Flown P w base outer H s s' e cls H' B a0 ∧ E cls none H'
section
variable {P : Program} {w : World} {base : Heap} {outer : List Env} {H H' : Hp} {s s' : Shared} {e : Addr} {cls : Value} {B : Heap} {a0 : Value}
theorem Flown.un (F : Flown P w base outer H s s' e cls H' B a0) (hf : ∀ b ∈ frs outer, H b = none) {h5 : Heap} (st : B.StaysIn h5)
    (sl : ∀ b o, s.heap.get? b = some o → H b = none → b ∈ frs outer → ∃ sl, h5.get? b = some { o with slots := sl }) : Un (frs outer) [] H H' s.heap h5 where
  keep := fun b o q n hb _ => st b o (F.keep b o q n hb)
  slot := fun b o q n hb _ => sl b o q n hb
  free := fun b o q n _ => F.free b o q n
  there := fun b o q _ => by
    by_cases hb : b ∈ frs outer
    · obtain ⟨z, r⟩ := sl b o q (hf b hb) hb
      exact ⟨_, r⟩
    · obtain ⟨o', r⟩ := F.there b o q hb
      exact ⟨o', st _ _ r⟩
  tups := F.tups
  frzs := F.frzs
  tbls := F.tbls
theorem Flown.slots (F : Flown P w base outer H s s' e cls H' B a0) (fu : s.heap.FunFrames base outer) {h5 : Heap} (up : s'.heap.UpToSlots h5) :
    ∀ b o, s.heap.get? b = some o → H b = none → b ∈ frs outer → ∃ sl, h5.get? b = some { o with slots := sl } := fun b o q n hb => by
  obtain ⟨z, r⟩ := F.slot b o q n hb
  obtain ⟨_, o2, q2, nf⟩ := fu.mem hb
  rw [q] at q2
  cases q2
  obtain ⟨z2, r2⟩ := up b _ r fun vs => nf vs
  exact ⟨z2, r2⟩
end
section
variable {X : Cx} {pins : List (Addr × Obj)} {σ : St} {H : Hp} {s : Shared}
theorem Inv.hide (I : Inv X pins σ H s) : HOk X.prog X.w H (PySem.W.hideAll s.heap (frs X.stack)) := fun a o q =>
  (I.hok a o q).stay (fun b u hb r => PySem.W.hideAll_get _ r fun hm => by
    have n := I.stkFree b hm
    rcases hb with z | z
    · rw [z, q] at n; cases n
    · rw [z] at n; cases n) (fun _ z => z) fun _ _ z => z
end
section
variable {P : Program} {w : World} {K : PySem.W.Frag} {mg : Str → Option Value} {base : Heap} {N : List Str} {qual : Str} {scope : Scope} {f : Addr} {cd : Value} {A : Around} {outer : List Env} {s : Shared} {H : Hp} {E : XK}
abbrev cxR (P : Program) (w : World) (K : PySem.W.Frag) (mg : Str → Option Value) (base : Heap) (N : List Str) (qual : Str) (scope : Scope) (f : Addr) (cd : Value) (A : Around) (outer : List Env) (s : Shared) (H : Hp) (E : XK) : Cx :=
  cxOf (CXr P w base) P w K mg base N qual scope f cd A outer s H E
theorem frs_in {pins : List (Addr × Obj)} {σ : St} {H1 : Hp} {s1 : Shared} (I : Inv (cxR P w K mg base N qual scope f cd A outer s H E) pins σ H1 s1) {b : Addr} (hb : b < s.heap.objs.size) (n : b ∉ frs outer) :
    b ∉ frs (cxR P w K mg base N qual scope f cd A outer s H E).stack := fun z => by
  rcases List.mem_cons.mp (I.stkSub b z) with q | q
  · have q' : b = s.heap.objs.size := q
    exact absurd hb (by rw [q']; exact Nat.lt_irrefl _)
  · exact n q
theorem xe_made {pins : List (Addr × Obj)} {σ : St} {H1 : Hp} {s1 : Shared} {e : Addr} {cls : Value} {args : List Value} {h' : Heap} (I : Inv (cxR P w K mg base N qual scope f cd A outer s H E) pins σ H1 s1)
    (hx : Heap.MadeExcOf s1.heap h' e cls args) (hE : E cls none H1) : (cxR P w K mg base N qual scope f cd A outer s H E).xe (.ref e) { s1 with heap := h' } := by
  show wpAny (model P w) (A.deeper (envOfC qual scope s.heap.objs.size f cd)) (leaving (envOfC qual scope s.heap.objs.size f cd) (.ref e)) _ _ _
  have fun1 := I.stack
  refine leavesC_made (B := PySem.W.hideAll s1.heap (frs (cxR P w K mg base N qual scope f cd A outer s H E).stack)) (h := s1.heap) I.ok.frames rfl (fun b o q => PySem.W.of_hideAll _ q)
    (PySem.W.funFrames_hide fun1 fun env he b hb => List.mem_filterMap.mpr ⟨env, he, hb⟩) hx fun h2 t fl cn up => ?_
  have inB : ∀ b o, s1.heap.get? b = some o → b ∉ frs (cxR P w K mg base N qual scope f cd A outer s H E).stack → (PySem.W.hideAll s1.heap (frs (cxR P w K mg base N qual scope f cd A outer s H E).stack)).get? b = some o := fun b o q n => PySem.W.hideAll_get _ q n
  refine ⟨e, cls, H1, _, _, rfl, ⟨I.os, I.bare, fl, cn, I.hide, fun b o q => inB b o (I.bk b o q) fun hm => ?_, ?_, fun b o q n hb => ?_, fun b o q n hb => ?_, fun b o q n => I.base.free b o q n (by intro z; cases z), fun b o q hb => ?_, I.base.tups, I.base.frzs, I.base.tbls⟩, hE⟩
  · have z : base.get? b = none := (fun1.mem hm).1
    rw [q] at z; cases z
  · cases q : H1 e with
    | none => rfl
    | some u =>
      obtain ⟨ob, z⟩ := (I.hok e u q).ob
      rw [hx.new] at z; cases z
  · exact inB b o (I.base.keep b o q n hb (by intro z; cases z)) (frs_in I (Heap.lt_size q) hb)
  · obtain ⟨sl, r⟩ := I.base.slot b o q n hb (by intro z; cases z)
    obtain ⟨_, o2, q2, nf⟩ := I.ok.funs.mem hb
    have q3 : s.heap.get? b = some o2 := q2
    rw [q] at q3
    cases q3
    obtain ⟨sl2, r2⟩ := up b _ (hx.keeps _ _ r) fun vs => nf vs
    exact ⟨sl2, r2⟩
  · obtain ⟨o', r⟩ := I.base.there b o q (by intro z; cases z)
    exact ⟨o', inB b o' r (frs_in I (Heap.lt_size q) hb)⟩
theorem passR : Passes (CXr P w base) (cxR P w K mg base N qual scope f cd A outer s H E) E := by
  intro pins σ H1 s1 x s' I h
  obtain ⟨e, cls, H2, B, a0, rfl, F, hE⟩ := h
  show wpAny (model P w) (A.deeper (envOfC qual scope s.heap.objs.size f cd)) (leaving (envOfC qual scope s.heap.objs.size f cd) (.ref e)) _ _ _
  obtain ⟨f1, f2, f3, f4⟩ := F.fly
  refine leavesC I.ok.frames rfl f1 f2 f3 f4.at F.ctx fun h2 fl cn up => ⟨e, cls, H2, B, a0, rfl, ⟨F.os.trans I.os, F.bare, fl, cn, F.hok, F.bst, F.noe, fun b o q n hb => ?_, fun b o q n hb => ?_, fun b o q n => ?_, fun b o q hb => ?_, fun b xs q => F.tups b xs (I.base.tups b xs q), fun b o u q => F.frzs b o u (I.base.frzs b o u q), fun b ps q => ?_⟩, hE⟩
  · exact F.keep b o (I.base.keep b o q n hb (by intro z; cases z)) (I.base.free b o q n (by intro z; cases z)) (frs_in I (Heap.lt_size q) hb)
  · obtain ⟨sl, r⟩ := I.base.slot b o q n hb (by intro z; cases z)
    have hb2 : b ∈ frs (cxR P w K mg base N qual scope f cd A outer s H E).stack := by
      show b ∈ (envOfC qual scope s.heap.objs.size f cd :: outer).filterMap (·.frame)
      rw [List.filterMap_cons]
      exact List.mem_cons_of_mem _ hb
    obtain ⟨sl2, r2⟩ := F.slot b _ r (I.base.free b o q n (by intro z; cases z)) hb2
    obtain ⟨_, o2, q2, nf⟩ := I.ok.funs.mem hb
    have q3 : s.heap.get? b = some o2 := q2
    rw [q] at q3
    cases q3
    obtain ⟨sl3, r3⟩ := up b _ r2 fun vs => nf vs
    exact ⟨sl3, r3⟩
  · obtain ⟨o1, r⟩ := I.base.there b o q (by intro z; cases z)
    exact F.free b o1 r (I.base.free b o q n (by intro z; cases z))
  · obtain ⟨o1, r⟩ := I.base.there b o q (by intro z; cases z)
    exact F.there b o1 r (frs_in I (Heap.lt_size q) hb)
  · obtain ⟨m1, e1⟩ := I.base.tbls b ps q
    obtain ⟨m2, e2⟩ := F.tbls b _ e1
    exact ⟨m1 ++ m2, by rw [e2, Array.append_assoc]⟩
theorem Fun.okR {x : Str} {st : Stmt} {fd : FuncData} {ps : List Str} {k : Nat} {sp : Sp} {f : Addr} (F : Fun K x qual st f fd) (S : FnScope N ps (defScope st)) (len : ∀ vs H Q E, sp vs H Q E → vs.length = ps.length)
    (hbody : ∀ (cdv : Value) (A : Around) (outer : List Env) (s : Shared) (H : Hp) (vs : List V) (Q : VK) (E : XK), Room k (A.deeper (envOfC qual (defScope st) s.heap.objs.size f cdv)) → sp vs H Q E →
      ∃ t, PSs (cxR P w K mg base N qual (defScope st) f cdv A outer s H E) (defBody st) t ∧ t { nx := fun _ H' => Q .non H', rt := Q } (start N vs) H) : FnOk P w K mg base (CXr P w base) (k + 1) f fd ps sp := by
  obtain ⟨oc, od, kV, doc, pm, an, cdv, ct, osl, rfl, lk, hcd⟩ := F.ex
  exact fn_of lk hcd S len fun A outer s H vs Q E hr hsp => hbody cdv A outer s H vs Q E hr hsp
end
def bmV : List Value := [.type "ValueError", .type "Exception", .type "BaseException", .type "object"]
structure ExC (K : PySem.W.Frag) (mg : Str → Option Value) (x : Str) (C : Addr) : Prop where
  bound : mg x = some (.ref C)
  q : PySem.W.excIn K C bmV "ValueError.__new__" = true
theorem exc_obj {K : PySem.W.Frag} {h : Heap} {C : Addr} {bmB : List Value} {newId : String} (X : K.In h) (q : PySem.W.excIn K C bmB newId = true) :
    ∃ bm N nm q bs hdct sn sub ab col dd k0 k1 k2 k3 k5 mN, h.get? C = some (excClassObj nm q C N bs bm hdct sn sub ab col dd k0 k1 k2 k3 k5 newId) ∧ h.Ns N mN ∧ mN "__init__" = none ∧ OwnTail h bmB bm ∧
      ∃ cd : ClassData, PySem.W.clsIn K C = some cd ∧ cd.mro = .ref C :: bm := by
  unfold PySem.W.excIn at q
  split at q
  · rename_i dd cd sl ho
    split at q
    · rename_i C' bm k0 k1 k2 k3 n k5 hm hs
      simp only [Bool.and_eq_true, beq_iff_eq, Bool.not_eq_true'] at q
      obtain ⟨⟨⟨⟨⟨rfl, rfl⟩, hdel⟩, ht⟩, hok⟩, hni⟩ := q
      have hcl : PySem.W.clsIn K C' = some cd := by unfold PySem.W.clsIn; rw [ho]
      have hm0 := hm
      obtain ⟨nm, bs, mro, ns, qn, hd, sn, sub, ab, col, del⟩ := cd
      dsimp only at hm hdel hok hni
      subst hm hdel
      have hsl : sl = #[k0, k1, k2, k3, some (.builtin n), k5] := by
        obtain ⟨l⟩ := sl
        simp only at hs
        rw [hs]
      subst hsl
      exact ⟨bm, ns, nm, qn, bs, hd, sn, sub, ab, col, dd, k0, k1, k2, k3, k5, _, X _ _ ho, .of_isNs (PySem.W.isNs_of_in X hok), PySem.W.nsMap_none_of_in X hok hni, PySem.W.tail_of_in X ht, _, hcl, hm0⟩
    · cases q
  · cases q
end L2
set_option Elab.async false
set_option linter.all false
set_option maxRecDepth 100000
set_option maxHeartbeats 4000000
namespace L2
open PySem PySem.Spec PyProof.Rows
def tRaise (E : XK) (C : Value) (t : TA) : TS := fun _ σ H => t σ H fun vs H1 => vs.length ≤ sizeLine ∧ E C none H1
def Made (X : Cx) (E : XK) (C : Value) : Prop := ∀ (pins : List (Addr × Obj)) (σ : St) (H1 : Hp) (s1 : Shared) (e : Addr) (args : List Value) (h' : Heap), Inv X pins σ H1 s1 → Heap.MadeExcOf s1.heap h' e C args → E C none H1 → X.xe (.ref e) { s1 with heap := h' }
theorem madeR {P : Program} {w : World} {K : PySem.W.Frag} {mg : Str → Option Value} {base : Heap} {N : List Str} {qual : Str} {scope : Scope} {f : Addr} {cd : Value} {A : Around} {outer : List Env} {s : Shared} {H : Hp} {E : XK} {C : Value} :
    Made (cxR P w K mg base N qual scope f cd A outer s H E) E C := fun _ _ _ _ _ _ _ I hx hE => xe_made I hx hE
section
variable {X : Cx} {x : Str} {C : Addr} {E : XK} {e : Expr} {es : List Expr} {t : TA} {np cpos pos : Pos}
theorem ps_raise (hX : Made X E (.ref C)) (hc : X.calm = true) (T : ExC X.K X.mg x C) (hg : Gl X x) (ha : PA X (e :: es) t) (hd : (x == ("__debug__" : Str)) = false := by decide)
    (he : starEach (e :: es) X.env = (false, eval e X.env) :: starEach es X.env := by rfl) (hpl : (backTo cpos (starEach es X.env)).any (·.1) = false := by rfl) :
    PS X (.Raise (some (.Call (.Name x np) (e :: es) [] cpos)) none pos) (tRaise E (.ref C) t) := by
  intro pins s σ H D I h
  obtain ⟨tl, N, nm, q, bs, hdct, sn, sub, ab, col, dd, k0, k1, k2, k3, k5, mN, hC, hN, hni, TL, _⟩ := exc_obj I.mod.kin T.q
  refine wpAny_Raise_call_subT (C := C) (nm := nm) (q := q) (N := N) (bs := bs) (bm := tl) (hdct := hdct) (sn := sn) (sub := sub) (ab := ab) (col := col) (dd := dd) (k0 := k0) (k1 := k1) (k2 := k2) (k3 := k3) (k5 := k5)
    PySem.F.excBase_ValueError (mN := mN) (TL.hasType PySem.F.excBase_ValueError.hasBase) (I.ok.hd hc) ?_ hni (ld_glob I hg T.bound ⟨rfl, ?_⟩ hd)
  · rw [he]
    show (false || (backTo cpos (starEach es X.env)).any (·.1)) = false
    rw [hpl]; rfl
  · have a := ha cpos pins s σ H _ I h
    rw [he] at a ⊢
    refine Calls.evalArgs_plain (thn a fun us s2 ⟨vs, H2, I2, r, hz, hE⟩ => ⟨rfl, by rw [← r.length]; exact hz, I2.bk _ _ hC, hN.keeps I2.bk, TL.keeps I2.bk, fun h' e' hm => hX pins σ H2 s2 e' us h' I2 hm hE⟩)
end
abbrev Cx.suite (X : Cx) (e : Addr) : Cx := { X with A := X.A.mark (some (.ref e)), calm := false, xe := fun _ _ => False }
theorem Inv.suite {X : Cx} {pins : List (Addr × Obj)} {σ : St} {H : Hp} {s : Shared} (I : Inv X pins σ H s) (e : Addr) : Inv (X.suite e) pins σ H s :=
  ⟨⟨I.ok.mod, I.ok.kind, I.ok.glob, I.ok.blt, I.ok.above, I.ok.inj, I.ok.has, I.ok.cab, fun z => (by cases z), I.ok.frames, I.ok.stk, I.ok.exf, I.ok.bs, I.ok.bsz, I.ok.noex, I.ok.exfs, I.ok.funs, I.ok.frf⟩, I.os, I.bare, I.base, I.loc, I.cell, I.free, I.freeC, I.pin, I.hok, I.len⟩
theorem Inv.unsuite {X : Cx} {pins : List (Addr × Obj)} {σ : St} {H : Hp} {s : Shared} {e : Addr} (ok : X.Ok) (I : Inv (X.suite e) pins σ H s) : Inv X pins σ H s :=
  ⟨ok, I.os, I.bare, I.base, I.loc, I.cell, I.free, I.freeC, I.pin, I.hok, I.len⟩
theorem SP.unsuite {X : Cx} {pins : List (Addr × Obj)} {D : Ends} {f : Flow} {s : Shared} {e : Addr} (ok : X.Ok) (h : SP (X.suite e) pins D f s) : SP X pins D f s := by
  cases f with
  | next => obtain ⟨σ, H, I, q⟩ := h; exact ⟨σ, H, I.unsuite ok, q⟩
  | brk => obtain ⟨σ, H, I, q⟩ := h; exact ⟨σ, H, I.unsuite ok, q⟩
  | cont => obtain ⟨σ, H, I, q⟩ := h; exact ⟨σ, H, I.unsuite ok, q⟩
  | ret u => obtain ⟨v, σ, H, I, r, q⟩ := h; exact ⟨v, σ, H, I.unsuite ok, r, q⟩
theorem matches_own {M : Model} {A : Around} {E : Value → Shared → Prop} {K : PySem.W.Frag} {s : Shared} {e C D : Addr} {oe : Obj} {Q : Bool → Shared → Prop} (X : K.In s.heap)
    (qC : PySem.W.excIn K C bmV "ValueError.__new__" = true) (qD : PySem.W.excIn K D bmV "ValueError.__new__" = true) (he : s.heap.get? e = some oe) (hcls : oe.cls = .ref C) (hs : PySem.W.mroIn K C (.ref D) = some true)
    (hq : Q true s) : wpAny M A (excMatches (.ref e) (.ref D)) Q E s := by
  obtain ⟨h, g, d, t, os⟩ := s
  obtain ⟨bm, N, nm, q, bs, hdct, sn, sub, ab, col, dd, k0, k1, k2, k3, k5, mN, hC, hN, hni, TL, cd, hcd, hm⟩ := exc_obj X qC
  obtain ⟨bm', N', nm', q', bs', hdct', sn', sub', ab', col', dd', j0, j1, j2, j3, j5, mN', hD, hN', hni', TL', cd', hcd', hm'⟩ := exc_obj X qD
  have hcB : (Value.ref D :: bm').contains (.type "BaseException") = true := by rw [List.contains_cons, TL'.hasType PySem.F.excBase_ValueError.hasBase, Bool.or_true]
  have hcC : (Value.ref C :: bm).contains (.ref D) = true := by
    unfold PySem.W.mroIn at hs
    rw [hcd] at hs
    dsimp only [Option.bind] at hs
    rw [hm] at hs
    simpa using hs
  have f := tc_notTuple
  unfold excMatches
  repeat (first | (with_reducible refine wpAny_loadPart_at he ?_; rw [hcls]) | with_reducible refine wpAny_loadPart_at hD ?_ | (with_reducible refine wpAny_isSubtype_exc hD ?_; rw [hcB]) | (with_reducible refine wpAny_isSubtype_exc hC ?_; rw [hcC]) | wp_step)
  exact hq
theorem Inv.track {X : Cx} {pins : List (Addr × Obj)} {σ : St} {H : Hp} {s : Shared} {e : Addr} {u : HO} (I : Inv X pins σ H s) (hn : H e = none) (hnew : ∀ b o, X.s₀.heap.get? b = some o → X.H₀ b = none → b ∉ X.ex → b ≠ e) (hL : X.env.locals ≠ e)
    (hc : ∀ x c, X.env.cells.lookup x = some c → c ≠ e) (hp : ∀ p ∈ X.pn ++ pins, p.1 ≠ e) (new : ObjOk X.prog X.w (upd H e u) s.heap e u) : Inv X pins σ (upd H e u) s := by
  have ne : ∀ {b : Addr} {o : HO}, H b = some o → b ≠ e := fun q => ne_of_none q hn
  refine ⟨I.ok, I.os, I.bare, ⟨I.base.keep, I.base.slot, fun b o q n hx => ?_, I.base.there, fun b xs q => ?_, fun b o v q => ?_, fun b ps q => ?_⟩, I.loc, I.cell, ?_, fun x c q => ?_, fun p q => ?_, fun b v q => ?_, I.len⟩
  · rw [upd_ne (hnew b o q n hx)]; exact I.base.free b o q n hx
  · have z := I.base.tups b xs q
    rw [upd_ne (ne z)]; exact z
  · have z := I.base.frzs b o v q
    rw [upd_ne (ne z)]; exact z
  · obtain ⟨m, z⟩ := I.base.tbls b ps q
    exact ⟨m, by rw [upd_ne (ne z)]; exact z⟩
  · rw [upd_ne hL]; exact I.free
  · rw [upd_ne (hc x c q)]; exact I.freeC x c q
  · obtain ⟨a, b, c⟩ := I.pin p q
    exact ⟨a, by rw [upd_ne (hp p q)]; exact b, c⟩
  · by_cases hb : b = e
    · subst hb
      rw [upd_same] at q
      cases q
      exact new
    · rw [upd_ne hb] at q
      exact (I.hok b v q).stay (fun _ _ _ r => r) (fun c z => by rw [upd_ne (ne z)]; exact z) fun c xs z => by rw [upd_ne (ne z)]; exact z
def ExP (e C : Addr) : Heap → Prop := fun h => ∃ o, h.get? e = some o ∧ o.cls = .ref C
structure Caught (X : Cx) (pins : List (Addr × Obj)) (σ : St) (H : Hp) (s : Shared) (e C : Addr) : Prop where
  inv : Inv X pins σ H s
  there : ∃ o, s.heap.get? e = some o ∧ o.cls = .ref C
  trk : Inv X pins σ (upd H e (.ext (ExP e C))) s
  noe : H e = none
section
variable {X : Cx} {pins : List (Addr × Obj)} {σ : St} {H1 H2 : Hp} {s1 s' : Shared} {e C : Addr} {B : Heap} {a0 : Value}
theorem Flown.caught (I1 : Inv X pins σ H1 s1) (F : Flown X.prog X.w X.base X.stack H1 s1 s' e (.ref C) H2 B a0) (hL : X.env.locals ∈ frs X.stack) {h5 : Heap} (fl : Heap.FlyingW B X.stack e (.ref C) a0 h5) (up : s'.heap.UpToSlots h5) :
    Caught X pins σ H2 { s' with heap := h5 } e C := by
  have I5 : Inv X pins σ H2 { s' with heap := h5 } := I1.call' (s' := { s' with heap := h5 }) (ch := []) F.os (F.un I1.stkFree fl.1 (F.slots I1.stack up)) (F.hok.kept fl.1) F.bare (fun b z => absurd z (by simp))
  obtain ⟨oe, vs, q1, q2, q3, q4⟩ := fl.first
  have nfr : ∀ b ∈ frs X.stack, b ≠ e := fun b hb z => by
    obtain ⟨_, o, ho, nf⟩ := fl.2.2.1.mem hb
    rw [z, q1] at ho
    cases ho
    exact nf vs q3
  have inB : ∀ b o, s1.heap.get? b = some o → H1 b = none → b ≠ e := fun b o q n z => by
    by_cases hb : b ∈ frs X.stack
    · exact nfr b hb z
    · have := F.keep b o q n hb
      rw [z, fl.2.1] at this; cases this
  refine ⟨I5, ⟨oe, q1, q2⟩, I5.track F.noe (fun b o q n hx => ?_) (nfr _ hL) (fun x c q => ?_) (fun p q => ?_) ⟨⟨oe, q1, q2⟩, ⟨oe, q1⟩, fun h1 h2 ⟨o, a, b⟩ k => ⟨o, k o a, b⟩⟩, F.noe⟩
  · by_cases hb : b ∈ X.fs
    · refine nfr b ?_
      rcases I1.ok.stk with z | ⟨z, _⟩
      · rw [z]; exact hb
      · rw [z]
        show b ∈ (X.env :: X.outer).filterMap (·.frame)
        rw [List.filterMap_cons]
        split
        · exact hb
        · exact List.mem_cons_of_mem _ hb
    · exact inB b o (I1.base.keep b o q n hb hx) (I1.base.free b o q n hx)
  · obtain ⟨v, o, q5, _⟩ := I1.cell x c q
    exact inB c o q5 (I1.freeC x c q)
  · obtain ⟨a, b, _⟩ := I1.pin p q
    exact inB p.1 p.2 a b
end
def tTry0 (K : PySem.W.Frag) (D : Addr) (sp : Sp) (t : TA) (ts : TS) : TS := fun Dn σ H => t σ H fun vs H1 => sp vs H1 (fun _ H2 => Dn.nx σ H2)
  (fun cls _ H2 => ∃ C, cls = .ref C ∧ PySem.W.excIn K C bmV "ValueError.__new__" = true ∧ PySem.W.mroIn K C (.ref D) = some true ∧ ts Dn σ H2)
def tTryA (K : PySem.W.Frag) (D : Addr) (i : Nat) (sp : Sp) (t : TA) (ts : TS) : TS := fun Dn σ H => t σ H fun vs H1 => sp vs H1 (fun _ H2 => Dn.nx σ H2)
  (fun cls _ H2 => ∃ C, cls = .ref C ∧ PySem.W.excIn K C bmV "ValueError.__new__" = true ∧ PySem.W.mroIn K C (.ref D) = some true ∧ ∀ e, H2 e = none →
    ts { nx := fun σ' H' => Dn.nx (σ'.set i none) H', rt := Dn.rt, bk := fun σ' H' => Dn.bk (σ'.set i none) H', ct := fun σ' H' => Dn.ct (σ'.set i none) H' } (σ.set i (some (.ref e))) (upd H2 e (.ext (ExP e C))))
section
variable {X : Cx} {k : Nat} {g x n : Str} {ps : List Str} {sp : Sp} {p np cpos epos hpos pos : Pos} {e : Expr} {es : List Expr} {t : TA} {ts : TS} {D : Addr} {b₀ : Stmt} {suite : List Stmt} {i : Nat}
theorem call_try {pins : List (Addr × Obj)} {σ : St} {H : Hp} {s : Shared} {Q : VK} {E : XK} {E' : Value → Shared → Prop} (G : Fn X.prog X.w X.K X.mg X.base (CXr X.prog X.w X.base) g k ps sp) (hr : Room k X.A) (hg : Gl X g) (ha : ∀ E', PA (X.wish E') (e :: es) t)
    (I : Inv X pins σ H s) (h : t σ H fun vs H1 => sp vs H1 Q E)
    (hE : ∀ s1 s' H1 e' cls H2 B a0, Inv X pins σ H1 s1 → Flown X.prog X.w X.base X.stack H1 s1 s' e' cls H2 B a0 → E cls none H2 → E' (.ref e') s')
    (hdb : (g == ("__debug__" : Str)) = false := by decide) (he : starEach (e :: es) X.env = (false, eval e X.env) :: starEach es X.env := by rfl) (hpl : (backTo cpos (starEach es X.env)).any (·.1) = false := by rfl) :
    wpAny (model X.prog X.w) X.A (eval (.Call (.Name g p) (e :: es) [] cpos) X.env) (EP X pins σ Q) E' s := by
  obtain ⟨f, fd, F, hm, hk, hb⟩ := G
  refine wpAny_Call_Name_kw (ld_glob I hg hm ?_ hdb)
  refine PySem.W.callWith_K (h₀ := X.base) I.ok.mod.kin hk (thn (ha E' cpos pins s σ H _ (I.wish E') h) fun us s1 ⟨vs, H1, I1, r, q⟩ => ⟨I1.kIn, ?_⟩) he hpl
  have I1' : Inv X pins σ H1 s1 := I1.unwish
  have hl : (us ++ []).length = ps.length := by rw [List.append_nil, ← r.length]; exact F.len _ _ _ _ q
  have hb1 := hb s1 us I1'.kIn hl
  rw [List.append_nil] at hb1
  refine wpAny_call (codeAny_mono (F.run X.A X.stack s1 H1 ⟨us, []⟩ us vs _ _ hr I1'.env0 hb1 r q) fun r' s' hq => ?_)
  cases r' with
  | error ev =>
    obtain ⟨e', cls, H2, B, a0, rfl, FL, hcl⟩ := hq
    exact hE s1 s' H1 e' cls H2 B a0 I1' FL hcl
  | ok fl =>
    cases fl with
    | ret u => exact I1'.after hq
    | next => exact False.elim hq
    | brk => exact False.elim hq
    | cont => exact False.elim hq
theorem ps_try0 (hst : X.stack = X.env :: X.outer) (hfr : X.env.frame = some X.env.locals) (G : Fn X.prog X.w X.K X.mg X.base (CXr X.prog X.w X.base) g k ps sp) (hr : Room k X.A) (hg : Gl X g) (ha : ∀ E', PA (X.wish E') (e :: es) t)
    (T : ExC X.K X.mg x D) (hgx : Gl X x) (hs : ∀ e', PSs (X.suite e') (b₀ :: suite) ts)
    (hdb : (g == ("__debug__" : Str)) = false := by decide) (hdx : (x == ("__debug__" : Str)) = false := by decide) (he : starEach (e :: es) X.env = (false, eval e X.env) :: starEach es X.env := by rfl) (hpl : (backTo cpos (starEach es X.env)).any (·.1) = false := by rfl)
    (hsw : swapsWith (.Call (.Name g p) (e :: es) [] cpos) none epos.line X.env = pure false := by rfl) :
    PS X (.Try [.Expr (.Call (.Name g p) (e :: es) [] cpos) epos] [.ExceptHandler (some (.Name x np)) none (b₀ :: suite) hpos] [] [] pos) (tTry0 X.K D sp t ts) := by
  intro pins s σ H Dn I h
  have hL : X.env.locals ∈ frs X.stack := by
    rw [hst]
    show _ ∈ (X.env :: X.outer).filterMap (·.frame)
    rw [List.filterMap_cons, hfr]
    exact List.mem_cons_self
  refine wpAny_Try_except (wpAny_execs_cons (wpAny_Expr_any (thn (call_try G hr hg ha I h (fun s1 s' H1 e' cls H2 B a0 I1 F hcl => ?_) hdb he hpl) fun v s2 ⟨_, H2, I2, _, q⟩ => wpAny_execs_nil (wpAny_execs_nil ⟨σ, H2, I2, q⟩)) I.quiet hsw))
  obtain ⟨C, rfl, qC, hsub, hts⟩ := hcl
  have frm : X.A.frames = some (X.env :: X.outer) := by rw [← hst]; exact I.ok.frames
  have fly := F.fly
  rw [hst] at fly
  refine wpAny_looks_onW frm hfr fly fun h4 held up4 => ?_
  refine wpAny_landsW held fun h5 fl5 up5 => ?_
  have c5 := F.caught I1 hL (by rw [hst]; exact fl5) (up4.trans up5)
  obtain ⟨oe, hoe, hcl⟩ := c5.there
  refine wpAny_handleBy_cons (codeAny_handlers_test (ld_glob (c5.inv.suite e') hgx T.bound (matches_own c5.inv.kIn qC T.q hoe hcl hsub ?_) hdx)) (by intro q; cases q)
  refine codeAny_handlers_suite (lands_againW fl5 fun h6 fl6 up6 => ?_)
  have c6 := F.caught I1 hL (by rw [hst]; exact fl6) ((up4.trans up5).trans up6)
  exact wpAny_mono (hs e' pins _ σ H2 Dn (c6.inv.suite e') hts) (fun f s7 q => q.unsuite I.ok) fun _ _ z => z.elim
end
end L2
set_option Elab.async false
set_option linter.all false
set_option maxRecDepth 100000
set_option maxHeartbeats 4000000
namespace L2
open PySem PySem.Spec PyProof.Rows
section
variable {prog : Program} {w : World} {A : Around} {E : Value → Shared → Prop} {s : Shared}
end
section
variable {prog : Program} {w : World} {A : Around} {E : Value → Shared → Prop} {s : Shared}
end
section
variable {X : Cx}
end
end L2
set_option Elab.async false
set_option linter.all false
set_option maxRecDepth 100000
set_option maxHeartbeats 4000000
namespace L2
open PySem PySem.Spec PyProof.Rows
def clsA (mg : Str → Option Value) (x : Str) : Addr := match mg x with | some (.ref a) => a | _ => 0
theorem passR0 {X : Cx} {P : Program} {w : World} {base : Heap} : Passes (CXr P w base) X E0 := fun _ _ _ _ _ _ _ h => by
  obtain ⟨_, _, _, _, _, _, _, z⟩ := h
  exact z.elim
section
variable {X : Cx} {pins : List (Addr × Obj)} {σ : St} {H : Hp} {s : Shared}
theorem gone_ok {M : Model} {A : Around} {E : Value → Shared → Prop} {i : Nat} {x : Str} {pos : Pos} {Q : Unit → Shared → Prop} (I : Inv X pins σ H s) (hN : X.N.Nodup) (hi : X.N[i]? = some x) (hk : X.env.scope.names.lookup x = some .local)
    (h : ∀ s', Inv X pins (σ.set i none) H s' → Q () s') : wpAny M A (do bindName X.env x .none; unbindBehindTheSuite X.env x pos) Q E s := by
  obtain ⟨m, hn, hl⟩ := id I.loc
  have hiσ : i < σ.length := by rw [I.len]; exact (List.getElem?_eq_some_iff.mp hi).1
  have cne := I.cne
  obtain ⟨oL, _, _, hoL, _⟩ := id hn
  refine wpAny_nameGoes_keeps hk hn (by rw [I.ok.kind]; rfl) fun h' v hn' hs => ?_
  have trk : HOk X.prog X.w H h' := fun b ob e => by
    refine (I.hok b ob e).stay (fun c w' hc q => (hs.2 c fun z => ?_).trans q) (fun _ q => q) fun _ _ q => q
    rcases hc with y | y
    · rw [← y, z, I.free] at e; cases e
    · rw [z, I.free] at y; cases y
  have up : ∀ {b : Addr} {o : Obj}, X.s₀.heap.get? b = some o → ∀ {o' : Obj}, s.heap.get? b = some o' → h'.get? b = some o' := fun e _ q => (hs.2 _ (Nat.ne_of_lt (Nat.lt_of_lt_of_le (Heap.lt_size e) I.ok.above))).trans q
  refine h _ ⟨I.ok, I.os, I.bare, ⟨fun b o e n hb hx => up e (I.base.keep b o e n hb hx), fun b o e n hb hx => ?_, I.base.free, fun b o e hx => ?_, I.base.tups, I.base.frzs, I.base.tbls⟩, ⟨_, hn', fun j y v' e1 e2 e3 => ?_⟩, fun y c e => ?_, I.free, I.freeC, fun p hp => ?_, trk, by simpa using I.len⟩
  · obtain ⟨sl, e1⟩ := I.base.slot b o e n hb hx
    exact ⟨sl, up e e1⟩
  · obtain ⟨o', e1⟩ := I.base.there b o e hx
    exact ⟨o', up e e1⟩
  · by_cases hj : j = i
    · subst hj
      rw [List.getElem?_set_self hiσ] at e2
      cases e2
    · rw [List.getElem?_set_ne (Ne.symm hj)] at e2
      obtain ⟨u', r', q⟩ := hl j y v' e1 e2 e3
      refine ⟨u', r', ?_⟩
      rcases q with ⟨k, e⟩ | ⟨k, c, e, z⟩
      · have ne : y ≠ x := fun e => hj (nodup_ix hN e1 (e ▸ hi))
        exact .inl ⟨k, by simp [ne, e]⟩
      · exact .inr ⟨k, c, e, z.sameBut hs (cne y c e)⟩
  · obtain ⟨w', z⟩ := I.cell y c e
    exact ⟨w', z.sameBut hs (cne y c e)⟩
  · obtain ⟨e, n, ne, nf, d⟩ := I.pin p hp
    exact ⟨(hs.2 p.1 ne).trans e, n, ne, nf, d⟩
end
section
variable {X : Cx} {k : Nat} {g x n : Str} {ps : List Str} {sp : Sp} {p np cpos epos hpos pos : Pos} {e : Expr} {es : List Expr} {t : TA} {ts : TS} {D : Addr} {b₀ : Stmt} {suite : List Stmt} {i : Nat}
theorem ps_tryA (hN : X.N.Nodup) (hi : X.N[i]? = some n) (hk : X.env.scope.names.lookup n = some .local) (hst : X.stack = X.env :: X.outer) (hfr : X.env.frame = some X.env.locals)
    (G : Fn X.prog X.w X.K X.mg X.base (CXr X.prog X.w X.base) g k ps sp) (hr : Room k X.A) (hg : Gl X g) (ha : ∀ E', PA (X.wish E') (e :: es) t)
    (T : ExC X.K X.mg x D) (hgx : Gl X x) (hs : ∀ e', PSs (X.suite e') (b₀ :: suite) ts)
    (hdb : (g == ("__debug__" : Str)) = false := by decide) (hdx : (x == ("__debug__" : Str)) = false := by decide) (he : starEach (e :: es) X.env = (false, eval e X.env) :: starEach es X.env := by rfl) (hpl : (backTo cpos (starEach es X.env)).any (·.1) = false := by rfl)
    (hsw : swapsWith (.Call (.Name g p) (e :: es) [] cpos) none epos.line X.env = pure false := by rfl) :
    PS X (.Try [.Expr (.Call (.Name g p) (e :: es) [] cpos) epos] [.ExceptHandler (some (.Name x np)) (some n) (b₀ :: suite) hpos] [] [] pos) (tTryA X.K D i sp t ts) := by
  intro pins s σ H Dn I h
  have hL : X.env.locals ∈ frs X.stack := by
    rw [hst]
    show _ ∈ (X.env :: X.outer).filterMap (·.frame)
    rw [List.filterMap_cons, hfr]
    exact List.mem_cons_self
  refine wpAny_Try_except (wpAny_execs_cons (wpAny_Expr_any (thn (call_try G hr hg ha I h (fun s1 s' H1 e' cls H2 B a0 I1 F hcl => ?_) hdb he hpl) fun v s2 ⟨_, H2, I2, _, q⟩ => wpAny_execs_nil (wpAny_execs_nil ⟨σ, H2, I2, q⟩)) I.quiet hsw))
  obtain ⟨C, rfl, qC, hsub, hts⟩ := hcl
  have frm : X.A.frames = some (X.env :: X.outer) := by rw [← hst]; exact I.ok.frames
  have fly := F.fly
  rw [hst] at fly
  refine wpAny_looks_onW frm hfr fly fun h4 held up4 => ?_
  refine wpAny_landsW held fun h5 fl5 up5 => ?_
  have c5 := F.caught I1 hL (by rw [hst]; exact fl5) (up4.trans up5)
  obtain ⟨oe, hoe, hcl⟩ := c5.there
  refine wpAny_handleBy_cons (codeAny_handlers_test (ld_glob (c5.inv.suite e') hgx T.bound (matches_own c5.inv.kIn qC T.q hoe hcl hsub ?_) hdx)) (by intro q; cases q)
  refine codeAny_handlers_suite_as (lands_againW fl5 fun h6 fl6 up6 => ?_)
  have c6 := F.caught I1 hL (by rw [hst]; exact fl6) ((up4.trans up5).trans up6)
  refine store_ok (X := X.suite e') (v := .ref e') (c6.trk.suite e') hN hi (.inl hk) rfl (fun s7 I7 => ?_) (.inr hk)
  refine wpAny_mono (hs e' pins s7 _ _ _ I7 (hts e' c6.noe)) (fun f s8 q => ?_) fun _ _ z => z.elim
  have q' := q.unsuite I.ok
  cases f with
  | next => obtain ⟨σ', H', I', q⟩ := q'; exact gone_ok I' hN hi hk fun s9 I9 => ⟨_, H', I9, q⟩
  | brk => obtain ⟨σ', H', I', q⟩ := q'; exact gone_ok I' hN hi hk fun s9 I9 => ⟨_, H', I9, q⟩
  | cont => obtain ⟨σ', H', I', q⟩ := q'; exact gone_ok I' hN hi hk fun s9 I9 => ⟨_, H', I9, q⟩
  | ret u => obtain ⟨v, σ', H', I', r, q⟩ := q'; exact gone_ok I' hN hi hk fun s9 I9 => ⟨v, _, H', I9, r, q⟩
end
section
open PySem.W PySem.Calls
end
end L2
set_option Elab.async false
set_option linter.all false
set_option maxRecDepth 100000
set_option maxHeartbeats 4000000
namespace L2
open PySem PySem.Spec PyProof.Rows PySem.W PySem.Calls PySem.Builtin PySem.Builtin.ObjectAttr PySem.Builtin.Getset_descriptor
structure ExF (K : Frag) (C : Addr) : Prop where
  ga : findIn K (.ref C) "__getattribute__" = some (some (.builtin "BaseException.__getattribute__"))
  gn : findIn K (.ref C) "__getattr__" = some none
  be : mroIn K C (.type "BaseException") = some true
  at_ : findIn K (.ref C) "__class__" = some (some (.builtin "object.__class__"))
  gt : specialIn K (.builtin "object.__class__") "__get__" = some (some (.builtin "getset_descriptor.__get__"))
  tk : takesIn K (.builtin "object.__class__") = some true
  ob : mroIn K C (.type "object") = some true
  cl : (clsIn K C).isSome = true
section
variable {prog : Program} {w : World} {A : Around} {E : Value → Shared → Prop} {s : Shared} {K : Frag} {x C : Addr} {ox : Obj}
theorem exc_typ {M : Model} {h : Heap} (he : h.get? x = some ox) (hc : ox.cls = .ref C) : Looks M h (typeOf (.ref x)) (.ref C) := hc ▸ (Looks.ld he).andThen .now
theorem exc_find {M : Model} {h : Heap} (kin : K.In h) (Y : ExF K C) : Looks M h (find (.ref x) (.ref C) "__class__") (.bind (.builtin "getset_descriptor.__get__") (.builtin "object.__class__")) := by
  have L3 := looks_takesIn (M := M) kin Y.tk
  refine (looks_findIn (M := M) kin Y.at_).andThen ((looks_specialIn (M := M) kin Y.gt : Looks M h (getOf (some (.builtin "object.__class__"))) (some (.builtin "getset_descriptor.__get__"))).andThen ?_)
  exact (show Looks M h (dataDescriptor? (some (.builtin "object.__class__")) (some (.builtin "getset_descriptor.__get__"))) (some (.builtin "getset_descriptor.__get__", .builtin "object.__class__")) from L3.andThen .now).andThen (Looks.tag .now)
theorem exc_get {tp : Value} {R : Result → Shared → Prop} (kin : K.In s.heap) (he : s.heap.get? x = some ox) (hc : ox.cls = .ref C) (Y : ExF K C)
    (h : R (.ok (.ret (.ref C))) s) : codeAny (model prog w) A (.call (.builtin "getset_descriptor.__get__") ⟨[.builtin "object.__class__", .ref x, tp], []⟩) R s := by
  obtain ⟨hh, g, dr, t, os⟩ := s
  have L0 := exc_typ (M := model prog w) he hc
  have L1 := looks_mroIn (M := model prog w) kin Y.ob
  refine codeAny_call_builtin KF.slot_gs.plain KF.entry_gs (KF.slot_gs.check _ _ _ _ _ _ _ _ KF.type_class (KF.args_gs _ _ _) ?_)
  unfold Builtin.«getset_descriptor.__get__» descrGet
  rw [dga_obj]; refine wpAny_bind (wpAny_pure ?_)
  unfold descrGetter descrCheckInstance descrNameAndClass isInstance; simp only [KF.owner_class]
  repeat lk
  refine ⟨Code.quiet_builtin _ (by decide +kernel), codeAny_builtin KF.entry_class ?_⟩
  unfold Builtin.«object.__class__» shownTypeOf; repeat lk
  exact h
theorem exc_entry {tk : Tok} {Q : Fin → Shared → Prop} (kin : K.In s.heap) (he : s.heap.get? x = some ox) (hc : ox.cls = .ref C) (Y : ExF K C) (h : Q (.done (.ret (.ref C))) s) :
    wpAny (model prog w) A (Builtin.«object.__getattribute__» ⟨[.ref x, .str "__class__" tk], []⟩) Q E s := by
  obtain ⟨hh, g, d, t, os⟩ := s
  have L0 := exc_typ (M := model prog w) he hc
  have L2 := exc_find (M := model prog w) (x := x) kin Y
  unfold Builtin.«object.__getattribute__»
  repeat (any_goals (first | assumption | (with_reducible refine wpAny_bind (L0.at ?_)) | (with_reducible refine wpAny_bind (L2.at ?_)) | wp_step))
  refine exc_get (s := ⟨hh, g, d, t, os⟩) kin he hc Y ?_
  repeat (any_goals (first | assumption | wp_step))
theorem exc_check {M : Model} {nameV : Value} {Q : Unit → Shared → Prop} (kin : K.In s.heap) (he : s.heap.get? x = some ox) (hc : ox.cls = .ref C) (Y : ExF K C) (hq : Q () s) : wpAny M A (checkBuiltinCall "BaseException.__getattribute__" ⟨[.ref x, nameV], []⟩) Q E s := by
  have hk : builtinKind "BaseException.__getattribute__" = some .slot := by decide +kernel
  have hsplit : splitId "BaseException.__getattribute__" = some ("BaseException", "__getattribute__") := by decide +kernel
  have ha := F.args_bexc_ga (.ref x) nameV
  have L0 := exc_typ (M := M) he hc
  have L1 := looks_mroIn (M := M) kin Y.be
  have LI : Looks M s.heap (isInstance (.ref x) (.type "BaseException")) true := L0.andThen L1
  simp only [checkBuiltinCall, hk, hsplit]
  refine wpAny_bind (LI.at ?_)
  simp only [Bool.not_true, Bool.false_eq_true, if_false]
  repeat wp_step
  exact hq
theorem exc_cls {Q : Option Value → Shared → Prop} (kin : K.In s.heap) (he : s.heap.get? x = some ox) (hc : ox.cls = .ref C) (Y : ExF K C) (h : Q (some (.ref C)) { s with toks := s.toks + 1 }) :
    wpAny (model prog w) A (getAttr? (.ref x) "__class__") Q E s := by
  obtain ⟨hh, g, d, t, os⟩ := s
  have L0 := exc_typ (M := model prog w) he hc
  have L1 := looks_findIn (M := model prog w) kin Y.ga
  have L3 := looks_findIn (M := model prog w) kin Y.gn
  have hx2 : (Value.builtin "BaseException.__getattribute__" == Value.builtin "object.__getattribute__") = false := by decide +kernel
  unfold getAttr? getAttrBy? getAttrBy
  refine wpAny_bind (wpAny_mkText (wpAny_bind (wpAny_attempt (wpAny_holding (wpAny_bind (L0.at (wpAny_bind (L1.at ?_))))))))
  dsimp only
  rw [hx2, Bool.and_false, if_neg Bool.false_ne_true]
  unfold getAttrByItsOwn
  refine wpAny_bind (L3.at ?_)
  have f3 := F.attrBase_ValueError.ga.bind (.ref x)
  have hx0 : (false && onTheHeap (Value.builtin "BaseException.__getattribute__")) = false := rfl
  unfold callGetattribute boundAndCalled
  repeat (any_goals (first | assumption | wp_step))
  refine codeAny_call_builtin F.attrBase_ValueError.ga.plain F.entry_bexc_ga (exc_check (s := ⟨hh, g, d, t + 1, os⟩) kin he hc Y (exc_entry (s := ⟨hh, g, d, t + 1, os⟩) kin he hc Y ?_))
  repeat (any_goals (first | assumption | wp_step))
theorem kitx_exc {e : Addr} (Y : ExF K C) : KitX K (.ref e) (.ref C) (ExP e C) where
  ty := fun M h _ ⟨o, e1, e2⟩ => exc_typ e1 e2
  it := fun M h kin _ => by
    have q := Y.cl
    unfold clsIn at q
    split at q
    · rename_i c' d' cd' sl' ho
      intro A' Q' E' s' k z
      unfold isType loadHead; exact wpAny_bind (wpAny_loadPart (k _ _ (kin _ _ ho)) (wpAny_pure z))
    · cases q
  ne := fun h tp dd its n sl kin htp => by
    have q := Y.cl
    refine Bool.eq_false_iff.mpr fun z => ?_
    have e : C = tp := Value.ref.inj (beq_iff_eq.mp z)
    subst e
    unfold clsIn at q
    split at q
    · rename_i c' d' cd' sl' ho
      cases (kin _ _ ho).symm.trans htp
    · cases q
  ca := fun kin ⟨o, e1, e2⟩ k => exc_cls kin e1 e2 Y k
end
def rIsinstX (K : Frag) : List V → Hp → VK → Prop := fun xs H Q => ∃ a C b, H a = some (.ext (ExP a C)) ∧ ExF K C ∧ Q (.bl b) H ∧
  ((∃ T, xs = [.ref a, .ty T] ∧ kitOne K (.ref C) (.type T) = some b) ∨ (∃ (tp : Addr) (cs : List Addr), xs = [.ref a, .ref tp] ∧ H tp = some (.tup (cs.map V.ref)) ∧ kitAny K (.ref C) (cs.map Value.ref) = some b))
theorem vals_refs : ∀ {cs : List Addr} {us : List Value}, Vals (cs.map V.ref) us → us = cs.map Value.ref
  | [], _, h => by cases h; rfl
  | c :: cs, _, h => by
    cases h with
    | cons r rr => cases r; rw [vals_refs rr]; rfl
theorem call_isinstX {X : Cx} : CallR X (.builtin "isinstance") (rIsinstX X.K) := by
  intro pins s σ H xs us Q I r h
  obtain ⟨a, C, b, ea, Y, q, h⟩ := h
  have ob := (show ObjOk X.prog X.w H s.heap a (.ext (ExP a C)) from I.hok a _ ea).1
  have fin : ∀ tk, EP X pins σ Q (.bool b) { s with toks := tk } := fun tk => ⟨.bl b, H, I.tok tk, rfl, q⟩
  rcases h with ⟨T, rfl, e⟩ | ⟨tp, cs, rfl, et, e⟩
  · obtain ⟨u, w', rfl, rx, ry⟩ := vals2 r
    cases ry
    cases (show u = Value.ref a from rx)
    exact kia_one (kitx_exc Y) I.kIn ob e (fun z => nomatch z) fin
  · obtain ⟨u, w', rfl, rx, ry⟩ := vals2 r
    cases (show w' = Value.ref tp from ry)
    cases (show u = Value.ref a from rx)
    obtain ⟨its, rv, p, hz⟩ := I.tuple (SqT.of et)
    cases vals_refs rv
    obtain ⟨o, h1, h2, n, h3⟩ := p
    obtain ⟨oc, od, odt, osl⟩ := o
    cases h2
    cases h3
    exact kia_tup (kitx_exc Y) I.kIn ob h1 e (fun z => nomatch z) fin
end L2
set_option Elab.async false
set_option linter.all false
set_option maxRecDepth 100000
set_option maxHeartbeats 4000000
namespace L2
open PySem PySem.Spec PyProof.Rows
section
variable {P : Program} {w : World} {K : PySem.W.Frag} {mg : Str → Option Value} {base : Heap} {N ps : List Str} {qual : Str} {f : Addr}
end
theorem pe_gcls {X : Cx} {x : Str} {C : Addr} {pos : Pos} (T : ExC X.K X.mg x C) (hg : Gl X x := by rfl) (hd : (x == ("__debug__" : Str)) = false := by decide) : PE X (.Name x pos) (tC (.ref C)) := pe_glob hg T.bound rfl hd
end L2
set_option Elab.async false
set_option linter.all false
set_option maxRecDepth 100000
set_option maxHeartbeats 4000000
namespace L2
open PySem PySem.Spec PyProof.Rows
end L2
set_option Elab.async false
set_option linter.all false
set_option maxRecDepth 100000
set_option maxHeartbeats 4000000
namespace L2
open PySem PySem.Spec PyProof.Rows
structure PB (X : Cx) (es : List Expr) (t : TA) : Prop where
  ok : PA X es t
section
variable {X : Cx} {e a b : Expr} {es : List Expr} {te : TE} {t ta : TA} {p pos np cpos epos hpos tpos : Pos} {x n g : Str} {k i : Nat} {ps : List Str} {sp : Sp} {CX : CXT} {E : XK}
theorem pb_nil : PB X [] tNil := ⟨pa_nil⟩
theorem pb_c (ha : PE X e te) (hr : PB X es t) (h : isStar e = false := by rfl) : PB X (e :: es) (tCons te t) := ⟨pa_c ha hr.ok h⟩
theorem fb_lst (h : PB X es t) : PE X (.List es pos) (tLst t) := pe_lst h.ok
theorem fb_tup {x1} (h : PB X es t) : PE X (.Tuple es x1 pos) (tTup t) := pe_tup h.ok
theorem fb_fn (G : Fn X.prog X.w X.K X.mg X.base CX x k ps sp) (hr : Room k X.A) (hg : Gl X x) (hx : Passes CX X E) (ha : PB X (e :: es) t)
    (hdb : (x == ("__debug__" : Str)) = false := by decide) (he : isStar e = false := by rfl) (hpl : es.all (fun e => !isStar e) = true := by rfl) : PE X (.Call (.Name x p) (e :: es) [] pos) (tCall sp [] E t) := pe_fn G hr hg hx ha.ok hdb he hpl
theorem fb_cB {id : String} {r : List V → Hp → VK → Prop} (hc : CallR X (.builtin id) r) (hg : Gl X x) (hm : X.mg x = none) (hv : bootBuiltins x = some (.builtin id)) (ha : PB X (e :: es) t) (hn : x ≠ "__name__" := by decide) (hdb : (x == ("__debug__" : Str)) = false := by decide)
    (he : isStar e = false := by rfl) (hpl : es.all (fun e => !isStar e) = true := by rfl) : PE X (.Call (.Name x p) (e :: es) [] pos) (tCB r t) := pe_cB hc hg hm hv ha.ok hn hdb he hpl
theorem fb_cTy {T : String} {r : List V → Hp → VK → Prop} (hc : CallR X (.type T) r) (hg : Gl X x) (hm : X.mg x = none) (hv : bootBuiltins x = some (.type T)) (ha : PB X (e :: es) t) (hn : x ≠ "__name__" := by decide) (hdb : (x == ("__debug__" : Str)) = false := by decide)
    (he : isStar e = false := by rfl) (hpl : es.all (fun e => !isStar e) = true := by rfl) : PE X (.Call (.Name x p) (e :: es) [] pos) (tCB r t) := pe_cTy hc hg hm hv ha.ok hn hdb he hpl
theorem fb_bm1 {o : Expr} {to : TE} {name : Str} {apos : Pos} {T id : String} {r : V → List V → Hp → VK → Prop} (pa : PlainAttrs T) (slot : Slot T name id) (hty : typeOf (.builtin id) = pure (.type "method_descriptor")) (hm : MtR X id r) (ho : PE X o to) (ha : PB X [e] t)
    (he : isStar e = false := by rfl) (hbase : attributeBase o name X.env (eval o X.env) = eval o X.env := by rfl) (hline : (apos.endLine == cpos.line) = true := by rfl) : PE X (.Call (.Attribute o name apos) [e] [] cpos) (tBM X.K T r to t) :=
  pe_bm1 pa slot hty hm ho ha.ok he hbase hline
theorem fb_range1 {tg : Expr} (hg : Gl X "range") (hm : X.mg "range" = none) (ha : PB X [a] ta) (he : isStar a = false := by rfl) : PI X tg (.Call (.Name "range" p) [a] [] pos) (iRng1 ta) := pi_range1 hg hm ha.ok (star_cons he)
theorem fb_range2 {tg : Expr} (hg : Gl X "range") (hm : X.mg "range" = none) (ha : PB X [a, b] ta) (he : isStar a = false := by rfl) (hf : isStar b = false := by rfl) : PI X tg (.Call (.Name "range" p) [a, b] [] pos) (iRng2 ta) :=
  pi_range2 hg hm ha.ok (by rw [star_cons he, star_cons hf]; rfl) (by rw [star_cons hf]; rfl)
theorem fb_raise {C : Addr} (hX : Made X E (.ref C)) (hc : X.calm = true) (T : ExC X.K X.mg x C) (hg : Gl X x) (ha : PB X (e :: es) t) (hd : (x == ("__debug__" : Str)) = false := by decide)
    (he : isStar e = false := by rfl) (hpl : es.all (fun e => !isStar e) = true := by rfl) : PS X (.Raise (some (.Call (.Name x np) (e :: es) [] cpos)) none pos) (tRaise E (.ref C) t) := ps_raise hX hc T hg ha.ok hd (star_cons he) (star_any hpl)
theorem fb_try0 {D : Addr} {b₀ : Stmt} {suite : List Stmt} {ts : TS} (hst : X.stack = X.env :: X.outer) (hfr : X.env.frame = some X.env.locals) (G : Fn X.prog X.w X.K X.mg X.base (CXr X.prog X.w X.base) g k ps sp) (hr : Room k X.A) (hg : Gl X g) (ha : ∀ E', PB (X.wish E') (e :: es) t)
    (T : ExC X.K X.mg x D) (hgx : Gl X x) (hs : ∀ e', PSs (X.suite e') (b₀ :: suite) ts)
    (hdb : (g == ("__debug__" : Str)) = false := by decide) (hdx : (x == ("__debug__" : Str)) = false := by decide) (he : isStar e = false := by rfl) (hpl : es.all (fun e => !isStar e) = true := by rfl)
    (hsw : swapsWith (.Call (.Name g p) (e :: es) [] cpos) none epos.line X.env = pure false := by rfl) :
    PS X (.Try [.Expr (.Call (.Name g p) (e :: es) [] cpos) epos] [.ExceptHandler (some (.Name x np)) none (b₀ :: suite) hpos] [] [] pos) (tTry0 X.K D sp t ts) := ps_try0 hst hfr G hr hg (fun E' => (ha E').ok) T hgx hs hdb hdx (star_cons he) (star_any hpl) hsw
theorem fb_tryA {D : Addr} {b₀ : Stmt} {suite : List Stmt} {ts : TS} (hN : X.N.Nodup) (hi : X.N[i]? = some n) (hk : X.env.scope.names.lookup n = some .local) (hst : X.stack = X.env :: X.outer) (hfr : X.env.frame = some X.env.locals)
    (G : Fn X.prog X.w X.K X.mg X.base (CXr X.prog X.w X.base) g k ps sp) (hr : Room k X.A) (hg : Gl X g) (ha : ∀ E', PB (X.wish E') (e :: es) t)
    (T : ExC X.K X.mg x D) (hgx : Gl X x) (hs : ∀ e', PSs (X.suite e') (b₀ :: suite) ts)
    (hdb : (g == ("__debug__" : Str)) = false := by decide) (hdx : (x == ("__debug__" : Str)) = false := by decide) (he : isStar e = false := by rfl) (hpl : es.all (fun e => !isStar e) = true := by rfl)
    (hsw : swapsWith (.Call (.Name g p) (e :: es) [] cpos) none epos.line X.env = pure false := by rfl) :
    PS X (.Try [.Expr (.Call (.Name g p) (e :: es) [] cpos) epos] [.ExceptHandler (some (.Name x np)) (some n) (b₀ :: suite) hpos] [] [] pos) (tTryA X.K D i sp t ts) := ps_tryA hN hi hk hst hfr G hr hg (fun E' => (ha E').ok) T hgx hs hdb hdx (star_cons he) (star_any hpl) hsw
end
end L2
set_option Elab.async false
set_option linter.all false
set_option maxRecDepth 100000
set_option maxHeartbeats 4000000
namespace L2
open PySem PySem.Spec PyProof.Rows
section
variable {X : Cx} {tg : Expr}
end
end L2
set_option Elab.async false
set_option linter.all false
set_option maxRecDepth 100000
set_option maxHeartbeats 4000000
namespace LB
open PySem L2
inductive IsI : Value → Bool → Prop
  | non : IsI (.type "NoneType") false
  | bl : IsI (.type "bool") false
  | int : IsI (.type "int") true
  | str : IsI (.type "str") false
  | lst : IsI (.type "list") false
  | tup : IsI (.type "tuple") false
  | dct : IsI (.type "dict") false
theorem kit_int {K : PySem.W.Frag} {t : Value} {b : Bool} (h : IsI t b) : ∃ c, PySem.W.kitOne K t (.type "int") = some c ∧ (c = false → b = false) ∧ (c = true → ∃ d, PySem.W.kitOne K t (.type "bool") = some d ∧ b = !d) := by
  cases h
  · exact ⟨false, by kernel_rfl, fun _ => rfl, fun z => by cases z⟩
  · exact ⟨true, by kernel_rfl, fun z => (by cases z), fun _ => ⟨true, by kernel_rfl, rfl⟩⟩
  · exact ⟨true, by kernel_rfl, fun z => (by cases z), fun _ => ⟨false, by kernel_rfl, rfl⟩⟩
  · exact ⟨false, by kernel_rfl, fun _ => rfl, fun z => by cases z⟩
  · exact ⟨false, by kernel_rfl, fun _ => rfl, fun z => by cases z⟩
  · exact ⟨false, by kernel_rfl, fun _ => rfl, fun z => by cases z⟩
  · exact ⟨false, by kernel_rfl, fun _ => rfl, fun z => by cases z⟩
def sb_is_int (K : PySem.W.Frag) (a : V) (H : Hp) (Q : VK) (E : XK) : Prop := ∃ t b, TyOf K H a t ∧ IsI t b ∧ Q (.bl b) H
def sp_is_int (K : PySem.W.Frag) : Sp := sp1 (sb_is_int K)
def cellF (ns : List Int) (k : Nat) : Int :=
  if k < ns.length then (ns.getD k 0 + 104729) * 2718281828459045235360287471352662497757 % 10000000000000000000000000000000000000000
  else
    let n : Int := (k : Int) * k * 7919 + 5 + (if 0 < ns.length then ns.getD (k * 7 % ns.length) 0 % 10000000000000000000000000000000000000000 * 48271 else 0)
    n * n % 2147483629 * 2718281828459045235360287471352662497757 % 10000000000000000000000000000000000000000
def sb__law_cell (K : PySem.W.Frag) (a b : V) (H : Hp) (Q : VK) (E : XK) : Prop := ∃ (l : Addr) (ns : List Int) (k : Nat), a = .ref l ∧ b = .int k ∧ SqL K H l (ns.map V.int) ∧ (∀ n ∈ ns, Builtin.Int.intBits n ≤ 1048576) ∧ k ≤ 1000 ∧ Q (.int (cellF ns k)) H
def sp__law_cell (K : PySem.W.Frag) : Sp := sp2 (sb__law_cell K)
def tb_is_int (K : PySem.W.Frag) : TS :=
  (tRet (tAndV (tCB (rIsinst K) (tCons (tVar 0) (tCons (tC (.ty "int")) tNil))) (tNotV (tCB (rIsinst K) (tCons (tVar 0) (tCons (tC (.ty "bool")) tNil))))))
def tb__law_cell (K : PySem.W.Frag) : TS :=
  (tSeq (tIfS (tTest (tOp rLtU (tVar 1) (tCB (rLenU K) (tCons (tVar 0) tNil)))) (tRet (tOp rModU (tOp (rMulU K) (tOp (rAddU K) (tOp (rIx K) (tVar 0) (tVar 1)) (tC (.int 104729))) (tC (.int 2718281828459045235360287471352662497757))) (tC (.int 10000000000000000000000000000000000000000)))) tNext)
    (tSeq (tAsg (tOp (rAddU K) (tOp (rMulU K) (tOp (rMulU K) (tVar 1) (tVar 1)) (tC (.int 7919))) (tC (.int 5))) (gName 2))
    (tSeq (tIfS (tTest (tOp rGtU (tCB (rLenU K) (tCons (tVar 0) tNil)) (tC (.int 0)))) (tAsg (tOp (rAddU K) (tVar 2) (tOp (rMulU K) (tOp rModU (tOp (rIx K) (tVar 0) (tOp rModU (tOp (rMulU K) (tVar 1) (tC (.int 7))) (tCB (rLenU K) (tCons (tVar 0) tNil)))) (tC (.int 10000000000000000000000000000000000000000))) (tC (.int 48271)))) (gName 2)) tNext)
    (tRet (tOp rModU (tOp (rMulU K) (tOp rModU (tOp (rMulU K) (tVar 2) (tVar 2)) (tC (.int 2147483629))) (tC (.int 2718281828459045235360287471352662497757))) (tC (.int 10000000000000000000000000000000000000000)))))))
abbrev Rt (Q : VK) : Ends := { nx := fun _ H' => Q .non H', rt := Q }
theorem rd_is_int {K : PySem.W.Frag} {a : V} {H : Hp} {Q : VK} {E : XK} (h : sb_is_int K a H Q E) : tb_is_int K (Rt Q) [some a] H := by
  obtain ⟨t, b, ty, hi, q⟩ := h
  obtain ⟨c, e, h1, h2⟩ := kit_int (K := K) hi
  unfold tb_is_int
  refine w_ret (w_andV (w_cb (w_cons (w_var rfl (w_cons (w_c (w_nil ?_)))))))
  refine ⟨a, "int", t, c, rfl, ty, e, w_bl ?_⟩
  refine iteB (fun z => ?_) (fun z => ?_)
  · obtain ⟨d, e2, hb⟩ := h2 z
    refine w_notV (w_cb (w_cons (w_var rfl (w_cons (w_c (w_nil ?_))))))
    refine ⟨a, "bool", t, d, rfl, ty, e2, w_bl ?_⟩
    rw [← hb]; exact q
  · rw [← h1 z]; exact q
theorem add_bits {n : Int} (h : Builtin.Int.intBits n ≤ 1048576) : Builtin.Int.intBits (n + 104729) ≤ 1048600 := by
  have h1 : n.natAbs < 2 ^ 1048576 := by
    unfold Builtin.Int.intBits at h
    split at h
    · rename_i e
      have : n = 0 := by simpa using e
      subst this
      exact Nat.two_pow_pos _
    · rename_i e
      have h0 : n.natAbs ≠ 0 := fun z => e (by simp; omega)
      exact (Nat.log2_lt h0).mp (by omega)
  unfold Builtin.Int.intBits
  split
  · omega
  · rename_i e
    have h0 : (n + 104729).natAbs ≠ 0 := fun z => e (by simp; omega)
    have h2 : (n + 104729).natAbs < 2 ^ 1048599 := by
      have e1 : (2 : Nat) ^ 1048599 = 2 ^ 1048576 * 2 ^ 23 := by rw [← Nat.pow_add]
      have e2 : (2 : Nat) ^ 23 = 8388608 := by decide
      have e3 : 1 ≤ (2 : Nat) ^ 1048576 := Nat.one_le_two_pow
      rw [e1, e2]
      generalize (2 : Nat) ^ 1048576 = z at h1 e3 ⊢
      omega
    have := (Nat.log2_lt h0).mpr h2
    omega
theorem cell_mul {n : Int} (h : Builtin.Int.intBits n ≤ 1048576) : IntMulOk (n + 104729) 2718281828459045235360287471352662497757 :=
  IntMulOk.of_le (add_bits h) (bits_1000 (by decide) (by decide)) (by decide)
theorem rd__law_cell {K : PySem.W.Frag} {a b : V} {H : Hp} {Q : VK} {E : XK} (h : sb__law_cell K a b H Q E) : tb__law_cell K (Rt Q) [some a, some b, none] H := by
  obtain ⟨l, ns, k, rfl, rfl, hl, hb, hk, q⟩ := h
  unfold tb__law_cell
  refine w_seq (w_ifS (w_test (w_op (w_var rfl (w_cb (w_cons (w_var rfl (w_nil (w_lenL hl (w_ltI (w_bl ?_)))))))))))
  rw [List.length_map]
  refine iteD (fun hlt => ?_) (fun hge => ?_)
  · have hlt' : k < ns.length := by omega
    refine w_ret (w_op (w_op (w_op (w_op (w_var rfl (w_var rfl (w_ixL hl (atI_ints (by omega) hlt) (w_c (w_addI (w_c (w_mulI ?_ (w_c (w_modI (by decide) ?_)))))))))))))
    · exact cell_mul (hb _ (by rw [Int.toNat_natCast]; exact L2.getD_mem hlt'))
    · unfold cellF at q
      rw [if_pos hlt'] at q
      rw [Int.toNat_natCast]; exact q
  · have hge' : ¬ k < ns.length := by omega
    unfold cellF at q
    rw [if_neg hge'] at q
    dsimp only at q
    have kk : (k : Int) ≤ 1000 := by omega
    have kn : (0 : Int) ≤ k := by omega
    have k2 : (k : Int) * k ≤ 1000 * 1000 := Int.mul_le_mul kk kk kn (by decide)
    have k3 : 0 ≤ (k : Int) * k := Int.mul_nonneg kn kn
    refine w_next (w_seq (w_asg (w_op (w_op (w_op (w_var rfl (w_var rfl (w_mulI (mulok_l (by omega) (by omega)) (w_c (w_mulI (mulok_r (by decide) (by decide)) (w_c (w_addI (w_name ?_)))))))))))))
    have fin : ∀ N : Int, 0 ≤ N → N ≤ 1000000000000000000000000000000000000000000000000000 → N * N % 2147483629 * 2718281828459045235360287471352662497757 % 10000000000000000000000000000000000000000 = N * N % 2147483629 * 2718281828459045235360287471352662497757 % 10000000000000000000000000000000000000000 →
        Q (.int (N * N % 2147483629 * 2718281828459045235360287471352662497757 % 10000000000000000000000000000000000000000)) H →
        (tRet (tOp rModU (tOp (rMulU K) (tOp rModU (tOp (rMulU K) (tVar 2) (tVar 2)) (tC (.int 2147483629))) (tC (.int 2718281828459045235360287471352662497757))) (tC (.int 10000000000000000000000000000000000000000)))) (Rt Q) [some (.ref l), some (.int k), some (.int N)] H := by
      intro N h0 h1 _ hq
      have r0 := Int.emod_nonneg (N * N) (show (2147483629 : Int) ≠ 0 by decide)
      have r1 := Int.emod_lt_of_pos (N * N) (show (0 : Int) < 2147483629 by decide)
      refine w_ret (w_op (w_op (w_op (w_op (w_var rfl (w_var rfl (w_mulI (mulok_big (by omega) (by omega) (by omega) (by omega)) (w_c (w_modI (by decide) (w_c (w_mulI (mulok_l (by omega) (by omega)) (w_c (w_modI (by decide) ?_)))))))))))))
      exact hq
    refine w_seq (w_ifS (w_test (w_op (w_cb (w_cons (w_var rfl (w_nil (w_lenL hl (w_c (w_gtI (w_bl ?_)))))))))))
    rw [List.length_map]
    refine iteD (fun hp => ?_) (fun hz => ?_)
    · have hp' : 0 < ns.length := by omega
      rw [if_pos hp'] at q
      refine w_asg (w_op (w_var rfl (w_op (w_op (w_op (w_var rfl (w_op (w_op (w_var rfl (w_c (w_mulI (mulok_r (by decide) (by decide)) (w_cb (w_cons (w_var rfl (w_nil (w_lenL hl (w_modI ?_ (w_ixL (v := .int (ns.getD (k * 7 % ns.length) 0)) hl ?_ (w_c (w_modI (by decide) (w_c (w_mulI (mulok_r (by decide) (by decide)) (w_addI (w_name ?_))))))))))))))))))))))))
      · rw [List.length_map]; omega
      · rw [List.length_map]
        have e : (k : Int) * 7 % (ns.length : Int) = ((k * 7 % ns.length : Nat) : Int) := by simp
        rw [e]
        exact atI_nat (get_ints (Nat.mod_lt _ hp'))
      · have r0 := Int.emod_nonneg (ns.getD (k * 7 % ns.length) 0) (show (10000000000000000000000000000000000000000 : Int) ≠ 0 by decide)
        have r1 := Int.emod_lt_of_pos (ns.getD (k * 7 % ns.length) 0) (show (0 : Int) < 10000000000000000000000000000000000000000 by decide)
        exact fin _ (by omega) (by omega) rfl q
    · have hz' : ¬ 0 < ns.length := by omega
      rw [if_neg hz'] at q
      rw [Int.add_zero] at q
      exact w_next (fin _ (by omega) (by omega) rfl q)
end LB
set_option Elab.async false
set_option linter.all false
set_option maxRecDepth 100000
set_option maxHeartbeats 4000000
namespace LB
open PySem L2
def isIntD : PyData → Bool | .int _ => true | _ => false
def isTupD (lo hi : Nat) : PyData → Bool | .tuple xs => decide (lo ≤ xs.length) && decide (xs.length ≤ hi) | _ => false
def isPriceD : PyData → Bool | .int i => decide (1 ≤ i) && decide (i ≤ 1000000000) | _ => false
def isAmtD : PyData → Bool | .int i => decide (0 ≤ i) && decide (i ≤ 1000000000000000000) | _ => false
def posD : PyData → Bool | .int i => decide (0 < i) | _ => false
def itemsD : PyData → List PyData | .tuple xs => xs | _ => []
def arePricesD (d : PyData) : Bool := isTupD 1 6 d && (itemsD d).all isPriceD
def areAmtsD (d : PyData) : Bool := isTupD 1 6 d && (itemsD d).all isAmtD && (itemsD d).any posD
def isDayD (d : PyData) : Bool := isTupD 2 2 d && arePricesD ((itemsD d).getD 0 .none) && areAmtsD ((itemsD d).getD 1 .none) && decide ((itemsD ((itemsD d).getD 0 .none)).length = (itemsD ((itemsD d).getD 1 .none)).length)
def waresD (d : PyData) : Nat := (itemsD ((itemsD d).getD 0 .none)).length
theorem isI_ty (d : PyData) : IsI (tyD d) (isIntD d) := by cases d <;> constructor
def sb_is_tuple (K : PySem.W.Frag) (a b c : V) (H : Hp) (Q : VK) (E : XK) : Prop := ∃ (d : PyData) (lo hi : Nat), Rep H a d ∧ b = .int lo ∧ c = .int hi ∧ Q (.bl (isTupD lo hi d)) H
def sp_is_tuple (K : PySem.W.Frag) : Sp := sp3 (sb_is_tuple K)
def sb_is_price (K : PySem.W.Frag) (a : V) (H : Hp) (Q : VK) (E : XK) : Prop := ∃ d : PyData, Rep H a d ∧ Q (.bl (isPriceD d)) H
def sp_is_price (K : PySem.W.Frag) : Sp := sp1 (sb_is_price K)
def sb_is_amount (K : PySem.W.Frag) (a : V) (H : Hp) (Q : VK) (E : XK) : Prop := ∃ d : PyData, Rep H a d ∧ Q (.bl (isAmtD d)) H
def sp_is_amount (K : PySem.W.Frag) : Sp := sp1 (sb_is_amount K)
def sb_are_prices (K : PySem.W.Frag) (a : V) (H : Hp) (Q : VK) (E : XK) : Prop := ∃ d : PyData, Rep H a d ∧ ∀ H', Same H H' → Q (.bl (arePricesD d)) H'
def sp_are_prices (K : PySem.W.Frag) : Sp := sp1 (sb_are_prices K)
def sb_are_amounts (K : PySem.W.Frag) (a : V) (H : Hp) (Q : VK) (E : XK) : Prop := ∃ d : PyData, Rep H a d ∧ ∀ H', Same H H' → Q (.bl (areAmtsD d)) H'
def sp_are_amounts (K : PySem.W.Frag) : Sp := sp1 (sb_are_amounts K)
def sb_is_day (K : PySem.W.Frag) (a : V) (H : Hp) (Q : VK) (E : XK) : Prop := ∃ d : PyData, Rep H a d ∧ ∀ H', Same H H' → Q (.bl (isDayD d)) H'
def sp_is_day (K : PySem.W.Frag) : Sp := sp1 (sb_is_day K)
def tb_is_tuple (K : PySem.W.Frag) : TS :=
  (tRet (tAndV (tCB (rIsinst K) (tCons (tVar 0) (tCons (tC (.ty "tuple")) tNil))) (tChain rLeU rLeU (tVar 1) (tCB (rLenU K) (tCons (tVar 0) tNil)) (tVar 2))))
def tb_is_price (K : PySem.W.Frag) : TS :=
  (tRet (tAndV (tCall (sp_is_int K) [] E0 (tCons (tVar 0) tNil)) (tChain rLeU rLeU (tC (.int 1)) (tVar 0) (tC (.int 1000000000)))))
def tb_is_amount (K : PySem.W.Frag) : TS :=
  (tRet (tAndV (tCall (sp_is_int K) [] E0 (tCons (tVar 0) tNil)) (tChain rLeU rLeU (tC (.int 0)) (tVar 0) (tC (.int 1000000000000000000)))))
def tb_are_prices (K : PySem.W.Frag) : TS :=
  (tRet (tAndV (tCall (sp_is_tuple K) [] E0 (tCons (tVar 0) (tCons (tC (.int 1)) (tCons (tC (.int 6)) tNil)))) (tCB (rAllU K) (tCons (tComp [none] (iSeq K (tVar 0)) (gName 0) tYes (tCall (sp_is_price K) [] E0 (tCons (tVar 0) tNil))) tNil))))
def tb_are_amounts (K : PySem.W.Frag) : TS :=
  (tSeq (tIfS (tOr (tNot (tTru K (tCall (sp_is_tuple K) [] E0 (tCons (tVar 0) (tCons (tC (.int 1)) (tCons (tC (.int 6)) tNil)))))) (tNot (tTru K (tCB (rAllU K) (tCons (tComp [none] (iSeq K (tVar 0)) (gName 0) tYes (tCall (sp_is_amount K) [] E0 (tCons (tVar 0) tNil))) tNil))))) (tRet (tC (.bl false))) tNext)
    (tRet (tCB (rAnyU K) (tCons (tComp [none] (iSeq K (tVar 0)) (gName 0) tYes (tOp rGtU (tVar 0) (tC (.int 0)))) tNil))))
def tb_is_day (K : PySem.W.Frag) : TS :=
  (tSeq (tIfS (tNot (tTru K (tCall (sp_is_tuple K) [] E0 (tCons (tVar 0) (tCons (tC (.int 2)) (tCons (tC (.int 2)) tNil)))))) (tRet (tC (.bl false))) tNext)
    (tSeq (tAsg (tOp (rIx K) (tVar 0) (tC (.int 0))) (gName 1))
    (tSeq (tAsg (tOp (rIx K) (tVar 0) (tC (.int 1))) (gName 2))
    (tRet (tAndV (tCall (sp_are_prices K) [] E0 (tCons (tVar 1) tNil)) (tAndV (tCall (sp_are_amounts K) [] E0 (tCons (tVar 2) tNil)) (tOp (rEqU K) (tCB (rLenU K) (tCons (tVar 1) tNil)) (tCB (rLenU K) (tCons (tVar 2) tNil)))))))))
theorem kit_tupD {K : PySem.W.Frag} (d : PyData) : ∃ b, PySem.W.kitOne K (tyD d) (.type "tuple") = some b ∧ (b = true → ∃ xs, d = .tuple xs) ∧ (b = false → ∀ lo hi, isTupD lo hi d = false) := by
  cases d with
  | tuple xs => exact ⟨true, by kernel_rfl, fun _ => ⟨xs, rfl⟩, fun z => by cases z⟩
  | none => exact ⟨false, by kernel_rfl, fun z => (by cases z), fun _ _ _ => rfl⟩
  | bool _ => exact ⟨false, by kernel_rfl, fun z => (by cases z), fun _ _ _ => rfl⟩
  | int _ => exact ⟨false, by kernel_rfl, fun z => (by cases z), fun _ _ _ => rfl⟩
  | str _ => exact ⟨false, by kernel_rfl, fun z => (by cases z), fun _ _ _ => rfl⟩
  | list _ => exact ⟨false, by kernel_rfl, fun z => (by cases z), fun _ _ _ => rfl⟩
  | dict _ => exact ⟨false, by kernel_rfl, fun z => (by cases z), fun _ _ _ => rfl⟩
theorem rd_is_tuple {K : PySem.W.Frag} {a b c : V} {H : Hp} {Q : VK} {E : XK} (h : sb_is_tuple K a b c H Q E) : tb_is_tuple K (Rt Q) [some a, some b, some c] H := by
  obtain ⟨d, lo, hi, r, rfl, rfl, q⟩ := h
  obtain ⟨k, e, h1, h2⟩ := kit_tupD (K := K) d
  unfold tb_is_tuple
  refine w_ret (w_andV (w_cb (w_cons (w_var rfl (w_cons (w_c (w_nil ?_)))))))
  refine ⟨a, "tuple", _, k, rfl, r.ty, e, w_bl (iteB (fun z => ?_) fun z => ?_)⟩
  · obtain ⟨xs, rfl⟩ := h1 z
    unfold Rep at r
    obtain ⟨p, ys, rfl, hp, rs⟩ := r
    have hl := rs.length
    refine w_chain (w_var rfl (w_cb (w_cons (w_var rfl (w_nil (w_lenT (SqT.of hp) (w_leI (w_bl ?_))))))))
    have e1 : isTupD lo hi (.tuple xs) = (decide ((lo : Int) ≤ (ys.length : Int)) && decide ((ys.length : Int) ≤ (hi : Int))) := by
      show (decide (lo ≤ xs.length) && decide (xs.length ≤ hi)) = _
      rw [← hl]
      congr 1 <;> simp only [Int.ofNat_le]
    rw [e1] at q
    refine iteB (fun z => ?_) fun z => ?_
    · refine w_var rfl (w_leI ?_)
      rw [z, Bool.true_and] at q; exact q
    · rw [z, Bool.false_and] at q; exact q
  · rw [h2 z] at q; exact q
theorem rd_is_price {K : PySem.W.Frag} {a : V} {H : Hp} {Q : VK} {E : XK} (h : sb_is_price K a H Q E) : tb_is_price K (Rt Q) [some a] H := by
  obtain ⟨d, r, q⟩ := h
  unfold tb_is_price
  refine w_ret (w_andV (w_call (w_cons (w_var rfl (w_nil ⟨_, rfl, _, _, r.ty, isI_ty d, w_bl ?_⟩)))))
  cases d with
  | int i =>
    unfold Rep at r
    subst r
    refine iteT (w_chain (w_c (w_var rfl (w_leI (w_bl (iteB (fun z => ?_) fun z => ?_))))))
    · refine w_c (w_leI ?_)
      have q : Q (.bl (decide (1 ≤ i) && decide (i ≤ 1000000000))) H := q
      rw [z, Bool.true_and] at q; exact q
    · have q : Q (.bl (decide (1 ≤ i) && decide (i ≤ 1000000000))) H := q
      rw [z, Bool.false_and] at q; exact q
  | none => exact iteF q
  | bool _ => exact iteF q
  | str _ => exact iteF q
  | list _ => exact iteF q
  | tuple _ => exact iteF q
  | dict _ => exact iteF q
theorem rd_is_amount {K : PySem.W.Frag} {a : V} {H : Hp} {Q : VK} {E : XK} (h : sb_is_amount K a H Q E) : tb_is_amount K (Rt Q) [some a] H := by
  obtain ⟨d, r, q⟩ := h
  unfold tb_is_amount
  refine w_ret (w_andV (w_call (w_cons (w_var rfl (w_nil ⟨_, rfl, _, _, r.ty, isI_ty d, w_bl ?_⟩)))))
  cases d with
  | int i =>
    unfold Rep at r
    subst r
    refine iteT (w_chain (w_c (w_var rfl (w_leI (w_bl (iteB (fun z => ?_) fun z => ?_))))))
    · refine w_c (w_leI ?_)
      have q : Q (.bl (decide (0 ≤ i) && decide (i ≤ 1000000000000000000))) H := q
      rw [z, Bool.true_and] at q; exact q
    · have q : Q (.bl (decide (0 ≤ i) && decide (i ≤ 1000000000000000000))) H := q
      rw [z, Bool.false_and] at q; exact q
  | none => exact iteF q
  | bool _ => exact iteF q
  | str _ => exact iteF q
  | list _ => exact iteF q
  | tuple _ => exact iteF q
  | dict _ => exact iteF q
theorem tup_of {lo hi : Nat} {d : PyData} (h : isTupD lo hi d = true) : ∃ xs, d = .tuple xs ∧ lo ≤ xs.length ∧ xs.length ≤ hi := by
  cases d with
  | tuple xs =>
    have h' : (decide (lo ≤ xs.length) && decide (xs.length ≤ hi)) = true := h
    rw [Bool.and_eq_true] at h'
    exact ⟨xs, rfl, of_decide_eq_true h'.1, of_decide_eq_true h'.2⟩
  | none => cases h
  | bool _ => cases h
  | int _ => cases h
  | str _ => cases h
  | list _ => cases h
  | dict _ => cases h
theorem all_eq {ds : List PyData} {bs : List Bool} {f : PyData → Bool} (hl : bs.length = ds.length) (h : ∀ (i : Nat) b, bs[i]? = some b → ∃ d, ds[i]? = some d ∧ b = f d) : bs = ds.map f := by
  apply List.ext_getElem?
  intro i
  rw [List.getElem?_map]
  cases e : bs[i]? with
  | none =>
    have : ds[i]? = none := List.getElem?_eq_none_iff.mpr (by have := List.getElem?_eq_none_iff.mp e; omega)
    rw [this]; rfl
  | some b =>
    obtain ⟨d, e1, e2⟩ := h i b e
    rw [e1, e2]; rfl
theorem rd_allOf {K : PySem.W.Frag} {H : Hp} {σ : St} {p : Addr} {xs : List V} {ds : List PyData} {l : List (Option Nat)} {te : TE} {σr : St} {n : Nat} {Q : VK} (f : PyData → Bool) (hσ : σ[n]? = some (some (.ref p))) (hp : H p = some (.tup xs)) (rs : Reps H xs ds) (hz : ds.length ≤ 8) (hini : ∃ r0, iniOf l σ = r0 :: σr)
    (hs : ∀ (i : Nat) x d H1 (R : VK), xs[i]? = some x → ds[i]? = some d → Same H H1 → Rep H1 x d → (∀ H2, Same H1 H2 → R (.bl (f d)) H2) → te (some x :: σr) H1 R)
    (q : ∀ D H', H D = none → Same H H' → H' D = some (.lst ((ds.map f).map V.bl)) → Q (.ref D) H') :
    tComp l (iSeq K (tVar n)) (gName 0) tYes te σ H Q := by
  have hl := rs.length
  refine w_comp (w_seq0 (w_var hσ (⟨_, rfl, .inr ⟨⟨_, SqT.of hp⟩, fun D hD => ?_⟩⟩)))
  refine comp_seqP (K := K) (a := p) (.inl ⟨rfl, hp⟩) D (fun i v _ => ∃ d, ds[i]? = some d ∧ v = .bl (f d)) (fun _ _ _ _ _ z => z) (by omega) hD hini (fun i x H1 R hi s1 k => ?_) (fun ys H1 hy hall s1 hD1 => ?_)
  · obtain ⟨d, hd, rd⟩ := rs.get hi
    exact hs i x d H1 R hi hd s1 (Rep.mono s1 d x rd) fun H2 s2 => k _ H2 s2 ⟨d, hd, rfl⟩
  · obtain ⟨bs, e, hb⟩ := all_bls (P := fun i b => ∃ d, ds[i]? = some d ∧ b = f d) (fun i v hv => by obtain ⟨d, h1, h2⟩ := hall i v hv; exact ⟨f d, h2, d, h1, rfl⟩)
    have e2 : bs = ds.map f := all_eq (by have := congrArg List.length e; simp at this; omega) hb
    subst e e2
    exact q D H1 hD s1 hD1
theorem all_id (ds : List PyData) (f : PyData → Bool) : (ds.map f).all id = ds.all f := by
  induction ds with
  | nil => rfl
  | cons d ds ih => simp only [List.map_cons, List.all_cons, id, ih]
theorem any_id (ds : List PyData) (f : PyData → Bool) : (ds.map f).any id = ds.any f := by
  induction ds with
  | nil => rfl
  | cons d ds ih => simp only [List.map_cons, List.any_cons, id, ih]
theorem rd_are_prices {K : PySem.W.Frag} {a : V} {H : Hp} {Q : VK} {E : XK} (h : sb_are_prices K a H Q E) : tb_are_prices K (Rt Q) [some a] H := by
  obtain ⟨d, r, q⟩ := h
  unfold tb_are_prices
  refine w_ret (w_andV (w_call (w_cons (w_var rfl (w_cons (w_c (w_cons (w_c (w_nil ⟨_, _, _, rfl, d, 1, 6, r, rfl, rfl, w_bl ?_⟩)))))))))
  refine iteB (fun z => ?_) fun z => ?_
  · obtain ⟨ds, rfl, h1, h2⟩ := tup_of z
    unfold Rep at r
    obtain ⟨p, xs, rfl, hp, rs⟩ := r
    refine w_cb (w_cons (rd_allOf isPriceD rfl hp rs (by omega) ⟨_, rfl⟩ (fun i x d H1 R hi hd s1 rd k => ?_) fun D H1 hD s1 hD1 => w_nil (w_allA (.inl (SqL.of hD1)) ?_)))
    · exact w_call (w_cons (w_var rfl (w_nil ⟨_, rfl, d, rd, k _ (Same.refl _)⟩)))
    · rw [all_id]
      have := q H1 s1
      unfold arePricesD at this
      rw [z, Bool.true_and] at this; exact this
  · have := q H (Same.refl _)
    unfold arePricesD at this
    rw [z, Bool.false_and] at this; exact this
theorem rd_are_amounts {K : PySem.W.Frag} {a : V} {H : Hp} {Q : VK} {E : XK} (h : sb_are_amounts K a H Q E) : tb_are_amounts K (Rt Q) [some a] H := by
  obtain ⟨d, r, q⟩ := h
  unfold tb_are_amounts
  refine w_seq (w_ifS (w_or (w_not (w_tru (w_call (w_cons (w_var rfl (w_cons (w_c (w_cons (w_c (w_nil ⟨_, _, _, rfl, d, 1, 6, r, rfl, rfl, w_trub ?_⟩))))))))))))
  cases z : isTupD 1 6 d with
  | false =>
    refine iteT (iteT (w_ret (w_c ?_)))
    have := q H (Same.refl _)
    unfold areAmtsD at this
    rw [z, Bool.false_and, Bool.false_and] at this; exact this
  | true =>
    obtain ⟨ds, rfl, h1, h2⟩ := tup_of z
    unfold Rep at r
    obtain ⟨p, xs, rfl, hp, rs⟩ := r
    refine iteF (w_not (w_tru (w_cb (w_cons (rd_allOf isAmtD rfl hp rs (by omega) ⟨_, rfl⟩ (fun i x d H1 R hi hd s1 rd k => ?_) fun D H1 hD s1 hD1 => w_nil (w_allA (.inl (SqL.of hD1)) (w_trub ?_)))))))
    · exact w_call (w_cons (w_var rfl (w_nil ⟨_, rfl, d, rd, k _ (Same.refl _)⟩)))
    · rw [all_id]
      have qa : ∀ H', Same H H' → Q (.bl (ds.all isAmtD && ds.any posD)) H' := fun H' s => by
        have := q H' s
        unfold areAmtsD at this
        rw [z, Bool.true_and] at this; exact this
      cases y : ds.all isAmtD with
      | false =>
        refine iteT (w_ret (w_c ?_))
        have := qa H1 s1
        rw [y, Bool.false_and] at this; exact this
      | true =>
        refine iteF (w_next (w_ret (w_cb (w_cons (rd_allOf posD rfl (s1 _ _ hp) (Reps.mono s1 _ _ rs) (by omega) ⟨_, rfl⟩ (fun i x d H2 R hi hd s2 rd k => ?_) fun D2 H2 hD2 s2 hD3 => w_nil (w_anyA (.inl (SqL.of hD3)) ?_))))))
        · have hd' := List.all_eq_true.mp y d (List.mem_of_getElem? hd)
          cases d with
          | int i =>
            unfold Rep at rd
            subst rd
            exact w_op (w_var rfl (w_c (w_gtI (k _ (Same.refl _)))))
          | none => cases hd'
          | bool _ => cases hd'
          | str _ => cases hd'
          | list _ => cases hd'
          | tuple _ => cases hd'
          | dict _ => cases hd'
        · rw [any_id]
          have := qa H2 (s1.trans s2)
          rw [y, Bool.true_and] at this; exact this
theorem rd_is_day {K : PySem.W.Frag} {a : V} {H : Hp} {Q : VK} {E : XK} (h : sb_is_day K a H Q E) : tb_is_day K (Rt Q) [some a, none, none] H := by
  obtain ⟨d, r, q⟩ := h
  unfold tb_is_day
  refine w_seq (w_ifS (w_not (w_tru (w_call (w_cons (w_var rfl (w_cons (w_c (w_cons (w_c (w_nil ⟨_, _, _, rfl, d, 2, 2, r, rfl, rfl, w_trub ?_⟩)))))))))))
  cases z : isTupD 2 2 d with
  | false =>
    refine iteT (w_ret (w_c ?_))
    have := q H (Same.refl _)
    unfold isDayD at this
    rw [z, Bool.false_and, Bool.false_and, Bool.false_and] at this; exact this
  | true =>
    obtain ⟨ds, rfl, h1, h2⟩ := tup_of z
    match ds, h1, h2 with
    | [d0, d1], _, _ =>
    unfold Rep at r
    obtain ⟨p, xs, rfl, hp, rs⟩ := r
    unfold Reps at rs
    obtain ⟨x0, r1, rfl, rd0, rs⟩ := rs
    unfold Reps at rs
    obtain ⟨x1, r2, rfl, rd1, rs⟩ := rs
    unfold Reps at rs
    subst rs
    have qa : ∀ H', Same H H' → Q (.bl (arePricesD d0 && areAmtsD d1 && decide ((itemsD d0).length = (itemsD d1).length))) H' := fun H' s => by
      have := q H' s
      unfold isDayD at this
      rw [z, Bool.true_and] at this; exact this
    refine iteF (w_next (w_seq (w_asg (w_op (w_var rfl (w_c (w_ixT (SqT.of hp) (v := x0) rfl (w_name ?_))))))))
    refine w_seq (w_asg (w_op (w_var rfl (w_c (w_ixT (SqT.of hp) (v := x1) rfl (w_name ?_))))))
    refine w_ret (w_andV (w_call (w_cons (w_var rfl (w_nil ⟨_, rfl, d0, rd0, fun H1 s1 => w_bl ?_⟩)))))
    cases y : arePricesD d0 with
    | false =>
      refine iteF ?_
      have := qa H1 s1
      rw [y, Bool.false_and, Bool.false_and] at this; exact this
    | true =>
      refine iteT (w_andV (w_call (w_cons (w_var rfl (w_nil ⟨_, rfl, d1, Rep.mono s1 _ _ rd1, fun H2 s2 => w_bl ?_⟩)))))
      have s12 := s1.trans s2
      cases x : areAmtsD d1 with
      | false =>
        refine iteF ?_
        have := qa H2 s12
        rw [y, x, Bool.true_and, Bool.false_and] at this; exact this
      | true =>
        have t0 : isTupD 1 6 d0 = true := by unfold arePricesD at y; rw [Bool.and_eq_true] at y; exact y.1
        have t1 : isTupD 1 6 d1 = true := by unfold areAmtsD at x; rw [Bool.and_eq_true, Bool.and_eq_true] at x; exact x.1.1
        obtain ⟨e0, rfl, _, _⟩ := tup_of t0
        obtain ⟨e1, rfl, _, _⟩ := tup_of t1
        have rd0' := Rep.mono s12 _ _ rd0
        have rd1' := Rep.mono s12 _ _ rd1
        unfold Rep at rd0' rd1'
        obtain ⟨p0, ys0, rfl, hp0, rs0⟩ := rd0'
        obtain ⟨p1, ys1, rfl, hp1, rs1⟩ := rd1'
        refine iteT (w_op (w_cb (w_cons (w_var rfl (w_nil (w_lenT (SqT.of hp0) (w_cb (w_cons (w_var rfl (w_nil (w_lenT (SqT.of hp1) (w_eqI ?_))))))))))))
        have := qa H2 s12
        rw [y, x, Bool.true_and, Bool.true_and] at this
        rw [rs0.length, rs1.length]
        have ee : decide ((e0.length : Int) = (e1.length : Int)) = decide ((itemsD (.tuple e0)).length = (itemsD (.tuple e1)).length) := by
          show _ = decide (e0.length = e1.length)
          simp only [Int.ofNat_inj]
        rw [ee]; exact this
end LB
set_option Elab.async false
set_option linter.all false
set_option maxRecDepth 100000
set_option maxHeartbeats 4000000
namespace LB
open PySem L2
def sb__law_next (K : PySem.W.Frag) (a : V) (H : Hp) (Q : VK) (E : XK) : Prop := ∃ c : Int, a = .int c ∧ ∀ c', 0 ≤ c' → c' < 10000000000000000000000000000000000000000 → Q (.int c') H
def sp__law_next (K : PySem.W.Frag) : Sp := sp1 (sb__law_next K)
def dayD (d : List Int × List Int) : PyData := .tuple [.tuple (d.1.map .int), .tuple (d.2.map .int)]
structure GoodDay (n : Nat) (d : List Int × List Int) : Prop where
  l1 : d.1.length = n
  l2 : d.2.length = n
  pr : ∀ x ∈ d.1, 1 ≤ x ∧ x ≤ 1000000000
  am : ∀ x ∈ d.2, 0 ≤ x ∧ x ≤ 1000000000000000000
  ps : ∃ x ∈ d.2, 0 < x
def tb__law_next (K : PySem.W.Frag) : TS :=
  (tRet (tOp rModU (tOp (rAddU K) (tOp (rMulU K) (tVar 0) (tC (.int 6364136223846793007))) (tC (.int 1442695040888963407))) (tC (.int 10000000000000000000000000000000000000000))))
theorem rd__law_next {K : PySem.W.Frag} {a : V} {H : Hp} {Q : VK} {E : XK} (h : sb__law_next K a H Q E) : tb__law_next K (Rt Q) [some a] H := by
  obtain ⟨c, rfl, q⟩ := h
  unfold tb__law_next
  exact w_ret (w_op (w_op (w_op (w_var rfl (w_c (w_mulI (mulok_r (by decide) (by decide)) (w_c (w_addI (w_c (w_modI (by decide) (q _ (Int.emod_nonneg _ (by decide)) (Int.emod_lt_of_pos _ (by decide)))))))))))))
end LB
set_option Elab.async false
set_option linter.all false
set_option maxRecDepth 100000
set_option maxHeartbeats 4000000
namespace LB
open PySem L2
theorem rep_day {H : Hp} {p p1 p2 : Addr} {d : List Int × List Int} (h : H p = some (.tup [.ref p1, .ref p2])) (h1 : H p1 = some (.tup (d.1.map V.int))) (h2 : H p2 = some (.tup (d.2.map V.int))) : Rep H (.ref p) (dayD d) := by
  unfold dayD Rep
  refine ⟨p, _, rfl, h, ?_⟩
  unfold Reps
  refine ⟨_, _, rfl, by unfold Rep; exact ⟨p1, _, rfl, h1, Reps.ints _⟩, ?_⟩
  unfold Reps
  refine ⟨_, _, rfl, by unfold Rep; exact ⟨p2, _, rfl, h2, Reps.ints _⟩, ?_⟩
  unfold Reps
  rfl
theorem reps_ints {H : Hp} : ∀ {ns : List Int} {xs : List V}, Reps H xs (ns.map PyData.int) → xs = ns.map V.int
  | [], xs, h => by unfold List.map Reps at h; exact h
  | n :: ns, xs, h => by
    rw [List.map_cons] at h
    unfold Reps at h
    obtain ⟨x, r, rfl, h1, h2⟩ := h
    unfold Rep at h1
    rw [h1, reps_ints h2]; rfl
theorem day_rep {H : Hp} {v : V} {d : List Int × List Int} (h : Rep H v (dayD d)) : ∃ p p1 p2, v = .ref p ∧ H p = some (.tup [.ref p1, .ref p2]) ∧ H p1 = some (.tup (d.1.map V.int)) ∧ H p2 = some (.tup (d.2.map V.int)) := by
  unfold dayD Rep at h
  obtain ⟨p, xs, rfl, hp, rs⟩ := h
  unfold Reps at rs
  obtain ⟨x0, r1, rfl, rd0, rs⟩ := rs
  unfold Reps at rs
  obtain ⟨x1, r2, rfl, rd1, rs⟩ := rs
  unfold Reps at rs
  subst rs
  unfold Rep at rd0 rd1
  obtain ⟨p1, ys1, rfl, h1, q1⟩ := rd0
  obtain ⟨p2, ys2, rfl, h2, q2⟩ := rd1
  rw [reps_ints q1] at h1
  rw [reps_ints q2] at h2
  exact ⟨p, p1, p2, rfl, hp, h1, h2⟩
theorem all_ints_D {ns : List Int} {f : PyData → Bool} {P : Int → Prop} (hf : ∀ x, P x → f (.int x) = true) (h : ∀ x ∈ ns, P x) : (ns.map PyData.int).all f = true := by
  rw [List.all_eq_true]
  intro d hd
  obtain ⟨x, hx, rfl⟩ := List.mem_map.mp hd
  exact hf x (h x hx)
theorem good_day {n : Nat} {d : List Int × List Int} (h : GoodDay n d) (h1 : 1 ≤ n) (h6 : n ≤ 6) : isDayD (dayD d) = true ∧ waresD (dayD d) = n := by
  have e1 : (d.1.map PyData.int).length = n := by rw [List.length_map]; exact h.l1
  have e2 : (d.2.map PyData.int).length = n := by rw [List.length_map]; exact h.l2
  refine ⟨?_, e1⟩
  unfold isDayD
  show (true && arePricesD (.tuple (d.1.map PyData.int)) && areAmtsD (.tuple (d.2.map PyData.int)) && decide ((d.1.map PyData.int).length = (d.2.map PyData.int).length)) = true
  have p1 : arePricesD (.tuple (d.1.map PyData.int)) = true := by
    unfold arePricesD
    show ((decide (1 ≤ (d.1.map PyData.int).length) && decide ((d.1.map PyData.int).length ≤ 6)) && (d.1.map PyData.int).all isPriceD) = true
    rw [e1, decide_eq_true h1, decide_eq_true h6, all_ints_D (P := fun x => 1 ≤ x ∧ x ≤ 1000000000) (fun x hx => by show (decide (1 ≤ x) && decide (x ≤ 1000000000)) = true; rw [decide_eq_true hx.1, decide_eq_true hx.2]; rfl) h.pr]; rfl
  have p2 : areAmtsD (.tuple (d.2.map PyData.int)) = true := by
    unfold areAmtsD
    show ((decide (1 ≤ (d.2.map PyData.int).length) && decide ((d.2.map PyData.int).length ≤ 6)) && (d.2.map PyData.int).all isAmtD && (d.2.map PyData.int).any posD) = true
    have p3 : (d.2.map PyData.int).any posD = true := by
      obtain ⟨x, hx, h0⟩ := h.ps
      exact List.any_eq_true.mpr ⟨.int x, List.mem_map.mpr ⟨x, hx, rfl⟩, decide_eq_true h0⟩
    rw [e2, decide_eq_true h1, decide_eq_true h6, p3, all_ints_D (P := fun x => 0 ≤ x ∧ x ≤ 1000000000000000000) (fun x hx => by show (decide (0 ≤ x) && decide (x ≤ 1000000000000000000)) = true; rw [decide_eq_true hx.1, decide_eq_true hx.2]; rfl) h.am]; rfl
  rw [p1, p2, e1, e2, decide_eq_true rfl]; rfl
end LB
set_option Elab.async false
set_option linter.all false
set_option maxRecDepth 100000
set_option maxHeartbeats 4000000
namespace LB
open PySem L2
theorem w_raise {E : XK} {C : Value} {t : TA} {D : Ends} {σ : St} {H : Hp} (h : t σ H fun vs H1 => vs.length ≤ sizeLine ∧ E C none H1) : tRaise E C t D σ H := h
theorem w_try0 {K : PySem.W.Frag} {D : Addr} {sp : Sp} {t : TA} {ts : TS} {Dn : Ends} {σ : St} {H : Hp} (h : t σ H fun vs H1 => sp vs H1 (fun _ H2 => Dn.nx σ H2)
    (fun cls _ H2 => ∃ C, cls = .ref C ∧ PySem.W.excIn K C bmV "ValueError.__new__" = true ∧ PySem.W.mroIn K C (.ref D) = some true ∧ ts Dn σ H2)) : tTry0 K D sp t ts Dn σ H := h
theorem w_tryA {K : PySem.W.Frag} {D : Addr} {i : Nat} {sp : Sp} {t : TA} {ts : TS} {Dn : Ends} {σ : St} {H : Hp} (h : t σ H fun vs H1 => sp vs H1 (fun _ H2 => Dn.nx σ H2)
    (fun cls _ H2 => ∃ C, cls = .ref C ∧ PySem.W.excIn K C bmV "ValueError.__new__" = true ∧ PySem.W.mroIn K C (.ref D) = some true ∧ ∀ e, H2 e = none →
      ts { nx := fun σ' H' => Dn.nx (σ'.set i none) H', rt := Dn.rt, bk := fun σ' H' => Dn.bk (σ'.set i none) H', ct := fun σ' H' => Dn.ct (σ'.set i none) H' } (σ.set i (some (.ref e))) (upd H2 e (.ext (ExP e C))))) : tTryA K D i sp t ts Dn σ H := h
end LB
set_option Elab.async false
set_option linter.all false
set_option maxRecDepth 100000
set_option maxHeartbeats 4000000
namespace L2
open PySem PySem.Spec PyProof.Rows
section
variable {κ : Type} [DecidableEq κ]
end
section
variable {P : Program} {w : World} {H : Hp} {h : Heap} {a : Addr}
end
section
variable {X : Cx} {pins : List (Addr × Obj)} {σ : St} {H : Hp} {s : Shared} {a : Addr} {y v : V} {u r : Value} {o : Option V} {A : Around} {E : Value → Shared → Prop}
end
section
variable {X : Cx} {pins : List (Addr × Obj)} {σ : St} {H : Hp} {s : Shared} {a : Addr} {kvs : List (Key × V)} {k : Key} {u : Value} {A : Around} {E : Value → Shared → Prop}
end
section
variable {X : Cx} {o i e value : Expr} {pos pos' tpos : Pos} {td ty tv : TE}
end
section
variable {X : Cx} {pos : Pos}
end
section
variable {X : Cx} {pins : List (Addr × Obj)} {σ : St} {H : Hp} {s : Shared} {a : Addr} {y d : V} {u r : Value} {o : Option V} {A : Around} {E : Value → Shared → Prop}
end
section
variable {X : Cx} {o e f : Expr} {apos cpos : Pos} {td ty tx : TE}
end
section
variable {X : Cx} {pins : List (Addr × Obj)} {σ : St} {H : Hp} {s : Shared} {a : Addr} {kvs : List (Key × V)} {A : Around} {E : Value → Shared → Prop}
end
section
variable {X : Cx} {pins : List (Addr × Obj)} {σ : St} {H : Hp} {s : Shared} {a : Addr} {y : V} {u : Value} {A : Around} {E : Value → Shared → Prop}
end
end L2
set_option Elab.async false
set_option linter.all false
set_option maxRecDepth 100000
set_option maxHeartbeats 4000000
namespace L2
open PySem PySem.Spec PyProof.Rows
section
variable {X : Cx}
end
end L2
set_option Elab.async false
set_option linter.all false
set_option maxRecDepth 100000
set_option maxHeartbeats 4000000
namespace L2
open PySem PySem.Spec PyProof.Rows
end L2
set_option Elab.async false
set_option linter.all false
set_option maxRecDepth 100000
set_option maxHeartbeats 4000000
namespace L2
open PySem PySem.Spec PyProof.Rows
section
variable {X : Cx}
end
end L2
set_option Elab.async false
set_option linter.all false
set_option maxRecDepth 100000
set_option maxHeartbeats 4000000
namespace LB
open PySem L2
end LB
set_option Elab.async false
set_option linter.all false
set_option maxRecDepth 100000
set_option maxHeartbeats 4000000
namespace LB
open PySem L2
end LB
set_option Elab.async false
set_option linter.all false
set_option maxRecDepth 100000
set_option maxHeartbeats 4000000
namespace LB
open PySem L2
end LB
set_option Elab.async false
set_option linter.all false
set_option maxRecDepth 100000
set_option maxHeartbeats 4000000
namespace LB
open PySem L2
end LB
set_option Elab.async false
set_option linter.all false
set_option maxRecDepth 100000
set_option maxHeartbeats 4000000
namespace LB
open PySem L2
def insI (x : Int) : List Int → List Int
  | [] => [x]
  | y :: r => if x ≤ y then x :: y :: r else y :: insI x r
theorem ins_perm (x : Int) : ∀ l, (insI x l).Perm (x :: l)
  | [] => List.Perm.refl _
  | y :: r => by
    unfold insI
    split
    · exact List.Perm.refl _
    · exact ((ins_perm x r).cons y).trans (List.Perm.swap x y r)
theorem lay_ints : ∀ ns : List Int, PyData.canLayAll0 (ns.map .int) = true
  | [] => by simp [PyData.canLayAll0]
  | n :: ns => by rw [List.map_cons]; simp [PyData.canLayAll0, PyData.canLay0, lay_ints ns]
theorem depth_ints : ∀ ns : List Int, PyData.depthAll (ns.map .int) ≤ 1
  | [] => by simp [PyData.depthAll]
  | n :: ns => by
    have := depth_ints ns
    rw [List.map_cons]
    simp only [PyData.depthAll, PyData.depth]
    omega
end LB
set_option Elab.async false
set_option linter.all false
set_option maxRecDepth 100000
set_option maxHeartbeats 4000000
namespace PySem
open Sem (wp)
open AutoSeq1 (wpAny_loadPart')
section
variable {prog : Program} {w : World} {A : Around} {E : Value → Shared → Prop} {s : Shared}
end
end PySem
namespace L2
open PySem PySem.Spec PyProof.Rows
section
variable {X : Cx}
end
end L2
set_option Elab.async false
set_option linter.all false
set_option maxRecDepth 100000
set_option maxHeartbeats 4000000
namespace L2
open PySem PySem.Spec PySem.W PyProof.Rows
section
variable {K : PySem.W.Frag} {mg : Str → Option Value} {h : Heap} {x y m qual fl : Str} {C D f : Addr}
variable {P : Program} {w : World} {base : Heap}
end
section
variable {X : Cx} {CX : CXT} {k : Nat} {C : Addr} {ps : List Str} {sp : Sp} {E : XK} {x m : Str} {p pos apos cpos : Pos} {e o : Expr} {es : List Expr} {ta to : TE} {t : TA}
end
section
variable {X : Cx} {k : Nat} {g x x2 n : Str} {ps : List Str} {sp : Sp} {p np np2 cpos epos hpos hpos2 pos : Pos} {e : Expr} {es : List Expr} {t : TA} {ts ts2 : TS} {D D2 : Addr} {b₀ b₂ : Stmt} {suite suite2 : List Stmt} {i : Nat}
end
section
variable {X : Cx}
end
section
variable {K : PySem.W.Frag} {σ : St} {H : Hp} {Q : VK} {D : Ends} {te ta tb : TE} {t : TA} {C p : Addr} {sp : Sp} {E : XK} {m f : Str}
end
end L2
set_option Elab.async false
set_option linter.all false
set_option maxRecDepth 100000
set_option maxHeartbeats 4000000
namespace LB
open PySem L2
mutual
theorem eqv_self : ∀ d : PyData, d.canLay0 = true → PyData.eqv d d = true
  | .none, _ => by simp [PyData.eqv]
  | .bool b, _ => by simp [PyData.eqv]
  | .int i, _ => by simp [PyData.eqv]
  | .str x, _ => by simp [PyData.eqv]
  | .list xs, h => by simp only [PyData.eqv]; exact eqvAll_self xs (by simpa only [PyData.canLay0] using h)
  | .tuple xs, h => by simp only [PyData.eqv]; exact eqvAll_self xs (by simpa only [PyData.canLay0] using h)
  | .dict _, h => by simp [PyData.canLay0] at h
theorem eqvAll_self : ∀ ds : List PyData, PyData.canLayAll0 ds = true → PyData.eqvAll ds ds = true
  | [], _ => by simp [PyData.eqvAll]
  | d :: ds, h => by
    have c : d.canLay0 = true ∧ PyData.canLayAll0 ds = true := by simpa [PyData.canLayAll0] using h
    simp only [PyData.eqvAll, eqv_self d c.1, eqvAll_self ds c.2, Bool.and_self]
end
theorem lay_day (d : List Int × List Int) : (dayD d).canLay0 = true := by
  unfold dayD
  simp only [PyData.canLay0, PyData.canLayAll0, lay_ints, Bool.and_self]
theorem depth_day (d : List Int × List Int) : (dayD d).depth ≤ 3 := by
  unfold dayD
  have := depth_ints d.1
  have := depth_ints d.2
  simp only [PyData.depth, PyData.depthAll]; omega
theorem w_eqSelf {K : PySem.W.Frag} {H : Hp} {Q : VK} {x y : V} {d : PyData} (h1 : Rep H x d) (h2 : Rep H y d) (l : d.canLay0 = true) (dp : d.depth ≤ 64) (k : Q (.bl true) H) : rEqU K x y H Q := by
  refine .inr ⟨d, d, h1, h2, l, l, by omega, ?_⟩
  rw [eqv_self d l]; exact k
theorem w_neSelf {K : PySem.W.Frag} {H : Hp} {Q : VK} {x y : V} {d : PyData} (h1 : Rep H x d) (h2 : Rep H y d) (l : d.canLay0 = true) (dp : d.depth ≤ 64) (k : Q (.bl false) H) : rNeU K x y H Q := by
  refine .inr ⟨d, d, h1, h2, l, l, by omega, ?_⟩
  rw [eqv_self d l]; exact k
section
variable {K : PySem.W.Frag} {σ : St} {H : Hp} {Q : VK}
end
theorem w_eqS {K : PySem.W.Frag} {H : Hp} {Q : VK} {x y : Str} (h : Q (.bl (decide (x = y))) H) : rEqU K (.str x) (.str y) H Q := .inl ⟨rfl, by rw [show decide (V.str x = V.str y) = decide (x = y) by simp]; exact h⟩
end LB
set_option Elab.async false
set_option linter.all false
namespace L2
abbrev rMin2 : List V → Hp → VK → Prop := fun xs H Q => ∃ i j : Int, xs = [.int i, .int j] ∧ Q (.int (if j < i then j else i)) H
abbrev rMax2 : List V → Hp → VK → Prop := fun xs H Q => ∃ i j : Int, xs = [.int i, .int j] ∧ Q (.int (if j > i then j else i)) H
theorem w_min2 {i j : Int} {H : Hp} {Q : VK} (h : Q (.int (min i j)) H) : rMin2 [.int i, .int j] H Q := ⟨i, j, rfl, by
  have e : (if j < i then j else i) = min i j := by split <;> omega
  rw [e]; exact h⟩
theorem w_max2 {i j : Int} {H : Hp} {Q : VK} (h : Q (.int (max i j)) H) : rMax2 [.int i, .int j] H Q := ⟨i, j, rfl, by
  have e : (if j > i then j else i) = max i j := by split <;> omega
  rw [e]; exact h⟩
end L2
set_option Elab.async false
set_option linter.all false
set_option maxRecDepth 100000
set_option maxHeartbeats 4000000
namespace L2
open PySem PySem.Spec PyProof.Rows
section
variable {X : Cx}
theorem strs_vals {ts : List Str} : ∀ {us : List Value}, Vals (ts.map V.str) us → ∃ l : List (Str × Tok), us = strValues l ∧ l.map (·.1) = ts := by
  induction ts with
  | nil => intro us h; cases h; exact ⟨[], rfl, rfl⟩
  | cons t ts ih =>
    intro us h
    cases h with
    | cons r rr =>
      obtain ⟨k, rfl⟩ := r
      obtain ⟨l, rfl, e⟩ := ih rr
      exact ⟨(t, k) :: l, rfl, by rw [List.map_cons, e]⟩
theorem vals_strs : ∀ l : List (Str × Tok), Vals ((l.map (·.1)).map V.str) (strValues l)
  | [] => .nil
  | (x, t) :: l => .cons ⟨t, rfl⟩ (vals_strs l)
def rSplit : V → List V → Hp → VK → Prop := fun x xs H Q => ∃ z c, x = .str z ∧ xs = [.str ⟨#[c]⟩] ∧ z.length ≤ 1000 ∧ ∀ q, H q = none → Q (.ref q) (upd H q (.lst ((Txt.split z ⟨#[c]⟩).map V.str)))
theorem split_len (z : Str) (c : Nat) : (Txt.split z ⟨#[c]⟩).length ≤ z.length + 2 := by
  unfold Txt.split
  split
  · show 1 ≤ _; omega
  · split
    · show 1 ≤ _; omega
    · rw [length_partsBetween]
      have := StrLaws.occ_length_le z ⟨#[c]⟩ 0 z.length (z.length + 1)
      omega
theorem mt_split : MtR X "str.split" rSplit := by
  intro pins s σ H x xs v us Q I rx rv h
  obtain ⟨z, c, rfl, rfl, hz, q⟩ := h
  obtain ⟨t, rfl⟩ := rx
  obtain ⟨u, rfl, ⟨t2, rfl⟩⟩ := rv.one
  have hlay : ∀ (l : List (Str × Tok)) (k : Nat), l.map (·.1) = Txt.split z ⟨#[c]⟩ → EP X pins σ Q (.ref s.heap.objs.size) { s with heap := s.heap.push { cls := .type "list", data := .seq (strValues l).toArray }, toks := k } := fun l k e => by
    have sz := split_len z c
    have old : ∀ b o, s.heap.get? b = some o → (s.heap.push { cls := .type "list", data := .seq (strValues l).toArray }).get? b = some o := fun b o e => Heap.get?_push_of_some _ e
    refine ⟨.ref _, _, I.laid (t' := k) old (Nat.le_refl _) (show ObjOk X.prog X.w _ (s.heap.push { cls := .type "list", data := .seq (strValues l).toArray }) _ (.lst ((Txt.split z ⟨#[c]⟩).map V.str)) from ⟨?_, strValues l, 0, ?_, Heap.get?_push_size _ rfl⟩), rfl, q _ (I.hok.fresh (Nat.le_refl _))⟩
    · rw [List.length_map]; exact Nat.le_trans sz (Nat.le_trans (show z.length + 2 ≤ 1002 by omega) (by decide))
    · rw [← e]; exact vals_strs l
  have hy : ((⟨#[c]⟩ : Str).length == 0) = false := rfl
  cases h1 : (decide (z.length < (⟨#[c]⟩ : Str).length) || decide (Builtin.Str.strKind z < Builtin.Str.strKind ⟨#[c]⟩))
  · cases hf : (Builtin.Str.occurrences z ⟨#[c]⟩ 0 z.length (z.length + 1)).isEmpty
    · refine call_meets F.slot_str_split (typeIs_str _ _ _) F.entry_str_split (F.args_str_split_2 _ _) (meets_str_split_sep z ⟨#[c]⟩ t t2 h1 hy hf (Nat.le_trans hz (by decide)) ?_) ?_
      · have := StrLaws.occ_length_le z ⟨#[c]⟩ 0 z.length (z.length + 1)
        rw [length_partsBetween]
        exact Nat.le_trans (show _ ≤ 1002 by omega) (by decide)
      · show wants (EP X pins σ Q) X.xe _ { s with toks := _, heap := s.heap.push { cls := .type "list", data := .seq (strsFrom s.toks (Builtin.Str.partsBetween z (Builtin.Str.occurrences z ⟨#[c]⟩ 0 z.length (z.length + 1)) (⟨#[c]⟩ : Str).length)).toArray } }
        rw [strsFrom_eq]
        exact hlay _ _ ((numbered_texts _ _).trans ((if_neg (ne_true_of_eq_false h1)).trans (if_neg (ne_true_of_eq_false hf))).symm)
    · refine call_meets F.slot_str_split (typeIs_str _ _ _) F.entry_str_split (F.args_str_split_2 _ _) (meets_str_split_not_found z ⟨#[c]⟩ t t2 h1 hy hf) ?_
      exact hlay [(z, t)] _ ((if_neg (ne_true_of_eq_false h1)).trans (if_pos hf)).symm
  · refine call_meets F.slot_str_split (typeIs_str _ _ _) F.entry_str_split (F.args_str_split_2 _ _) (meets_str_split_cannot_occur z ⟨#[c]⟩ t t2 h1) ?_
    exact hlay [(z, t)] _ (if_pos h1).symm
def rJoin (K : PySem.W.Frag) : V → List V → Hp → VK → Prop := fun x xs H Q => ∃ z p ts, x = .str z ∧ xs = [.ref p] ∧ SqL K H p (ts.map V.str) ∧ JoinOk z ts = true ∧ Q (.str (Txt.join z ts)) H
theorem mt_join : MtR X "str.join" (rJoin X.K) := by
  intro pins s σ H x xs v us Q I rx rv h
  obtain ⟨z, p, ts, rfl, rfl, hq, ok, q⟩ := h
  obtain ⟨t, rfl⟩ := rx
  obtain ⟨u, rfl, ru⟩ := rv.one
  cases ru
  obtain ⟨its, rs, pl, hz⟩ := I.list hq
  obtain ⟨l, rfl, e⟩ := strs_vals rs
  have ok' := ok
  unfold JoinOk at ok'
  rw [Bool.not_eq_true'] at ok'
  rw [← e] at ok' q
  refine call_meets F.slot_str_join (typeIs_str _ _ _) F.entry_str_join (F.args_str_join_2 _ _) (meets_str_join_list z t p l ok') ⟨pl.isList, post_join l ⟨joinFit_length ok', fun t' k => ⟨.str _, H, I.tok k, ⟨t', rfl⟩, q⟩⟩⟩
def rStarts : V → List V → Hp → VK → Prop := fun x xs H Q => ∃ z y, x = .str z ∧ xs = [.str y] ∧ Q (.bl (Txt.startswith z y)) H
theorem mt_starts : MtR X "str.startswith" rStarts := by
  intro pins s σ H x xs v us Q I rx rv h
  obtain ⟨z, y, rfl, rfl, q⟩ := h
  obtain ⟨t, rfl⟩ := rx
  obtain ⟨u, rfl, ⟨t2, rfl⟩⟩ := rv.one
  exact call_gives F.slot_str_startswith (typeIs_str _ _ _) F.entry_str_startswith (F.args_str_startswith_2 _ _) (gives_str_startswith z y t t2) ⟨.bl _, H, I, rfl, q⟩
def rIntS : List V → Hp → VK → Prop := fun xs H Q => ∃ z n, xs = [.str z] ∧ PySem.intText? z = some n ∧ z.length ≤ 640 ∧ Q (.int n) H
theorem call_intS : CallR X (.type "int") rIntS := by
  intro pins s σ H xs us Q I r h
  obtain ⟨z, n, rfl, hn, hl, q⟩ := h
  obtain ⟨u, rfl, t, rfl⟩ := vals1 r
  exact PySem.W.KIN.call_text hn hl ⟨.int n, H, I.tok _, ⟨_, rfl⟩, q⟩
end
def Its (x : Str) : It := { go := fun i _ => i < x.cps.size, yld := fun i H v H' => H' = H ∧ ∃ c, x.cps[i]? = some c ∧ v = .str ⟨#[c]⟩, stop := fun i _ => x.cps.size ≤ i }
theorem turn_str {P : Program} {w : World} {K : PySem.W.Frag} {tg : Expr} (x : Str) (t : Tok) (it : Addr) : Turn P w K tg (Its x) [it] it (fun i h => h.IsStrIter it "str_ascii_iterator" x t i) where
  mem := by simp
  obj := fun i h st b hb => by
    have e : b = it := by simpa using hb
    subst e
    obtain ⟨o, e, c, d⟩ := st
    exact ⟨o, e, fun v z => by rw [d] at z; cases z⟩
  keep := fun i h h' st k => let ⟨o, ho, r⟩ := st; ⟨o, k it (by simp) o ho, r⟩
  item := by
    intro X hP hw hK hc i pins s σ H E I hf st hg
    subst hP hw hK
    have hg' : i < x.cps.size := hg
    obtain ⟨f0, f1, f2, f3, f4, f5⟩ := hf it (by simp)
    refine wpAny_pyNext_ascii_item st (c := x.cps[i]) (by simp [hg']) fun h' st' sb => ?_
    have I1 : Inv X pins σ H { s with heap := h', toks := s.toks + 1 } := I.turned (t' := s.toks + 1) (fun b o hb e => (sb.2 b hb).trans e) f0 f1 f3 f4 f5
    obtain ⟨o, e, c, d⟩ := id st'
    exact ⟨_, rfl, go_of (s := { s with heap := h', toks := s.toks + 1 }) e c d (by decide) ⟨.str ⟨#[x.cps[i]]⟩, H, I1, ⟨_, rfl⟩, ⟨rfl, _, by simp [hg'], rfl⟩, st', fun b hb => (hf b hb).1⟩⟩
  done := by
    intro X hP hw hK hc i pins s σ H E I hf st hg
    subst hP hw hK
    have hg' : x.cps.size ≤ i := hg
    obtain ⟨f0, f1, f2, f3, f4, f5⟩ := hf it (by simp)
    exact wpAny_pyNext_ascii_end (I.ok.hd hc) st (by simp [hg']) fun h' eb => ⟨rfl, I.turned (t' := s.toks) (fun b o hb e => eb b o hb e) f0 f1 f3 f4 f5⟩
  self := fun _ _ _ _ _ st h => wpAny_pyIter_striter_ascii st h
def iStr (te : TE) : TI := fun σ H R => te σ H fun v H1 => ∃ x, v = .str x ∧ x.cps.all (· < 128) = true ∧ R (Its x) H1
theorem pi_str {X : Cx} {tg l : Expr} {tl : TE} (hl : PE X l tl) : PI X tg l (iStr tl) := by
  intro pins s σ H R I h
  refine thn (hl pins s σ H _ I h) fun v s1 ⟨y, H1, I1, r1, q1⟩ => ?_
  obtain ⟨x, rfl, ha, q⟩ := q1
  obtain ⟨t, rfl⟩ := r1
  refine wpAny_pyIter_ascii ha ?_
  refine ⟨s1.heap.objs.size, [s1.heap.objs.size], _, _, H1, rfl, I1.kept (t' := s1.toks) fun b o e => Heap.get?_push_of_some _ e, turn_str x t _, ⟨_, Heap.get?_push_size _ rfl, rfl, rfl⟩, fun b hb => ?_, q⟩
  have e : b = s1.heap.objs.size := by simpa using hb
  subst e
  exact I1.fpOk (Nat.le_refl _) (I1.hok.fresh (Nat.le_refl _))
theorem its_of (x : Str) (H : Hp) (i : Nat) : (∀ v, (x.cps.toList.map fun c => V.str ⟨#[c]⟩)[i]? = some v → (Its x).go i H ∧ ∀ y H', (Its x).yld i H y H' → H' = H ∧ y = v) ∧ ((x.cps.toList.map fun c => V.str ⟨#[c]⟩).length ≤ i → (Its x).stop i H) := by
  refine ⟨fun v hv => ?_, fun h => by rw [List.length_map, Array.length_toList] at h; exact h⟩
  rw [List.getElem?_map, Array.getElem?_toList] at hv
  obtain ⟨c, hc, rfl⟩ := Option.map_eq_some_iff.mp hv
  refine ⟨(Array.getElem?_eq_some_iff.mp hc).1, fun y H' h => ⟨h.1, ?_⟩⟩
  obtain ⟨d, hd, e⟩ := h.2
  rw [hc] at hd
  cases hd
  exact e
theorem w_istr {te : TE} {σ : St} {H : Hp} {R : It → Hp → Prop} (h : te σ H fun v H1 => ∃ x, v = .str x ∧ x.cps.all (· < 128) = true ∧ R (Its x) H1) : iStr te σ H R := h
section
variable {X : Cx}
def rAddS : R2 := fun x y H Q => ∃ i j, x = .str i ∧ y = .str j ∧ i.length + j.length ≤ sizeLine ∧ Q (.str (i ++ j)) H
theorem op_addS : OpR X (binaryOp .Add) rAddS := op_add_str
def rInS : R2 := fun x y H Q => ∃ i j, x = .str i ∧ y = .str j ∧ Q (.bl (!(Builtin.Str.occurrences j i 0 j.length 1).isEmpty)) H
theorem op_inS : OpR X (compareOp .In) rInS := op_in_str
def rStrI : List V → Hp → VK → Prop := fun xs H Q => ∃ i : Int, xs = [.int i] ∧ i.natAbs.log2 < 1920 ∧ Q (.str (Str.ofString (toString i))) H
theorem call_strI : CallR X (.type "str") rStrI := call_str_int
end
end L2
set_option Elab.async false
set_option linter.all false
set_option maxRecDepth 100000
set_option maxHeartbeats 4000000
namespace L2
open PySem PySem.Spec PyProof.Rows
section
variable {X : Cx}
def rSlS : V → Option Int → Option Int → Hp → VK → Prop := fun x _ _ H Q => ∃ z, x = .str z ∧ z.length ≤ 1000 ∧ ∀ y : Str, (∀ c ∈ y.cps.toList, c ∈ z.cps.toList) → y.length ≤ z.length → Q (.str y) H
theorem made_sub {x : Str} {t : Tok} {l u : Option (Int × Tok)} {Q : Value → Shared → Prop} {s : Shared} (hx : x.length ≤ sizeLine) (h : ∀ y : Str, (∀ c ∈ y.cps.toList, c ∈ x.cps.toList) → y.length ≤ x.length → ∀ t' k, Q (.str y t') { s with toks := k }) : (sliceMade x t l u none).post Q s := by
  have sub : ∀ is : List Nat, ∀ c ∈ (is.filterMap (x.cps[·]?)), c ∈ x.cps.toList := fun is c hc => by
    obtain ⟨i, _, hi⟩ := List.mem_filterMap.mp hc
    rw [← Array.getElem?_toList] at hi
    exact List.mem_of_getElem? hi
  have sz := Txt.slice_le x (l.map (·.1)) (u.map (·.1))
  have all : ∀ c ∈ (Txt.slice x (l.map (·.1)) (u.map (·.1))).cps.toList, c ∈ x.cps.toList := fun c hc => by
    unfold Txt.slice at hc
    split at hc
    · exact hc
    · exact sub _ c (by simpa using hc)
  exact post_val_or_str ⟨Nat.le_trans sz hx, fun t' k => h _ all sz t' k⟩
theorem sl_S : SlR X rSlS := by
  intro pins s σ H x v vl vu lo hi sl Q I rx hs pl pu h
  obtain ⟨z, rfl, hz, q⟩ := h
  obtain ⟨t, rfl⟩ := rx
  obtain ⟨o, ho, hc, hd⟩ := hs
  refine ⟨"str", _, F.slot_str_getitem.lookup, typeIs_str _ _ _, ?_⟩
  have part : ∀ {v : Value} {o : Option Int}, IsPart v o → ∃ w : Option (Int × Tok), v = partValue w := fun p => by
    cases p with
    | none => exact ⟨none, rfl⟩
    | int i t => exact ⟨some (i, t), rfl⟩
  obtain ⟨l, rfl⟩ := part pl
  obtain ⟨u, rfl⟩ := part pu
  exact wpAny_getItem_str_slice (l := l) (u := u) (st := none) ⟨o, ho, hc, hd⟩ rfl (made_sub (Nat.le_trans hz (by decide)) fun y h1 h2 t' k => ⟨.str y, H, I.tok k, ⟨t', rfl⟩, q y h1 h2⟩)
def rMulS : R2 := fun x y H Q => ∃ z n, x = .str z ∧ y = .int n ∧ MulOk z n ∧ Q (.str (Txt.mul z n)) H
theorem op_mulS : OpR X (binaryOp .Mult) rMulS := by
  intro pins s σ H x y v u Q I rx ry h
  obtain ⟨z, n, rfl, rfl, ok, q⟩ := h
  obtain ⟨t, rfl⟩ := rx
  obtain ⟨t2, rfl⟩ := ry
  exact SB.mul ok fun t' k => ⟨.str _, H, I.tok k, ⟨t', rfl⟩, q⟩
def rNotInS : R2 := fun x y H Q => ∃ i j, x = .str i ∧ y = .str j ∧ Q (.bl (!(!(Builtin.Str.occurrences j i 0 j.length 1).isEmpty))) H
theorem op_notInS : OpR X (compareOp .NotIn) rNotInS := op_notin_str
end
theorem for_str {x : Str} {g : TG} {tb : TS} {D : Ends} {σ : St} {H : Hp} (Pv : Nat → St → Hp → Prop) (h0 : Pv 0 σ H)
    (hs : ∀ i c σ H, x.cps.toList[i]? = some c → Pv i σ H → g (.str ⟨#[c]⟩) σ H fun σ2 H2 => tb { D with nx := Pv (i + 1), ct := Pv (i + 1), bk := D.nx } σ2 H2) (hd : ∀ σ H, Pv x.length σ H → D.nx σ H) :
    ∃ W : Nat → Nat → St → Hp → Prop, (∃ m, W 0 m σ H) ∧ ∀ i m σ H, W i m σ H →
      ((Its x).stop i H ∧ D.nx σ H) ∨ ((Its x).go i H ∧ ∃ N : St → Hp → Prop, (∀ σ' H', N σ' H' → ∃ m', m' < m ∧ W (i + 1) m' σ' H') ∧ ∀ v H', (Its x).yld i H v H' → g v σ H' fun σ2 H2 => tb { D with nx := N, ct := N, bk := D.nx } σ2 H2) := by
  have hl : x.cps.size = x.length := rfl
  refine ⟨fun i m σ H => m = x.length - i ∧ i ≤ x.length ∧ Pv i σ H, ⟨x.length, by simp, Nat.zero_le _, h0⟩, ?_⟩
  rintro i m σ H ⟨rfl, hi, p⟩
  by_cases hlt : i < x.length
  · refine .inr ⟨hlt, Pv (i + 1), fun σ' H' p' => ⟨x.length - (i + 1), by omega, rfl, hlt, p'⟩, fun v H' y => ?_⟩
    obtain ⟨e, c, hc, ev⟩ := y
    subst e
    subst ev
    exact hs i c σ _ (by rw [Array.getElem?_toList]; exact hc) p
  · have e : i = x.length := by omega
    subst e
    exact .inl ⟨Nat.le_refl _, hd σ H p⟩
end L2
set_option Elab.async false
set_option linter.all false
set_option maxRecDepth 100000
set_option maxHeartbeats 4000000
namespace L2
open PySem PySem.Spec PyProof.Rows
def FlyAny (B : Heap) (l : List Env) (e : Addr) (cls a0 : Value) (h : Heap) : Prop := B.StaysIn h ∧ B.get? e = none ∧ h.FunFrames B l ∧ ∃ fl, h.TracedAtW B e cls a0 fl
theorem hid_none {B : Heap} {C b : Addr} (h : B.get? b = none) : (PySem.W.hideAll B [C]).get? b = none := by
  cases q : (PySem.W.hideAll B [C]).get? b with
  | none => rfl
  | some o =>
    have z := PySem.W.of_hideAll _ q
    rw [h] at z; cases z
theorem hid_some {B : Heap} {C b : Addr} {o : Obj} (h : (PySem.W.hideAll B [C]).get? b = some o) : B.get? b = some o ∧ b ≠ C := by
  refine ⟨PySem.W.of_hideAll _ h, fun z => ?_⟩
  have n := PySem.W.hideAll_none [C] (h := B) (b := b) (by rw [z]; exact List.mem_cons_self)
  rw [h] at n; cases n
theorem frames_but {B h h' : Heap} {C : Addr} (hC : ∃ o, B.get? C = some o) (sb : Heap.SameBut C h h') : ∀ {l : List Env}, h.FunFrames B l → h'.FunFrames (PySem.W.hideAll B [C]) l
  | [], _ => trivial
  | env :: _, ⟨hk, ⟨L, o, hf, hn, ho, hd⟩, hr⟩ => by
    refine ⟨hk, ⟨L, o, hf, hid_none hn, ?_, hd⟩, frames_but hC sb hr⟩
    rw [sb.2 L fun z => by obtain ⟨o', q⟩ := hC; rw [← z, hn] at q; cases q]
    exact ho
theorem held_but {B h h' : Heap} {l : List Env} {e C L : Addr} {cls a0 : Value} (F : Heap.HeldW B l e cls a0 L h) (hC : ∃ o, B.get? C = some o) (sb : Heap.SameBut C h h') : Heap.HeldW (PySem.W.hideAll B [C]) l e cls a0 L h' := by
  obtain ⟨f1, f2, f3, ob, ws, T, oT, ts, q1, q2, q4, q5, q6, q7, q8, q9, q10⟩ := F
  have ne : ∀ b, B.get? b = none → b ≠ C := fun b n z => by
    obtain ⟨o, q⟩ := hC
    rw [← z, n] at q; cases q
  refine ⟨fun b o q => ?_, hid_none f2, frames_but hC sb f3, ob, ws, T, oT, ts, ?_, q2, q4, q5, hid_none q6, q7, ?_, q9, q10⟩
  · obtain ⟨z, nz⟩ := hid_some q
    rw [sb.2 b nz]; exact f1 b o z
  · rw [sb.2 e (ne e f2)]; exact q1
  · rw [sb.2 T (ne T q6)]; exact q8
def PassX (X : Cx) (E : XK) : Prop := ∀ (pins : List (Addr × Obj)) (σ : St) (H1 : Hp) (s1 s5 s7 : Shared) (e C : Addr) (cls : Value) (H2 : Hp) (B : Heap) (a0 : Value), Inv X pins σ H1 s1 → Flown X.prog X.w X.base X.stack H1 s1 s5 e cls H2 B a0 → E cls none H2 →
  X.s₀.heap.objs.size ≤ C → C ∉ frs X.stack → H2 C = none → s7.os = s5.os → AllBare s7.gens → FlyAny (PySem.W.hideAll B [C]) X.stack e cls a0 s7.heap → CtxN e s7.heap →
  (∀ b o, b ≠ C → s5.heap.get? b = some o → (∀ vs, o.data ≠ .fields vs) → ∃ sl, s7.heap.get? b = some { o with slots := sl }) → X.xe (.ref e) s7
theorem passXR {P : Program} {w : World} {K : PySem.W.Frag} {mg : Str → Option Value} {base : Heap} {N : List Str} {qual : Str} {scope : Scope} {f : Addr} {cd : Value} {A : Around} {outer : List Env} {s : Shared} {H : Hp} {E : XK} :
    PassX (cxR P w K mg base N qual scope f cd A outer s H E) E := by
  intro pins σ H1 s1 s5 s7 e C cls H2 B a0 I F hE hC hCf hCn ho hbr fly cx up
  have nb : ∀ b o, s.heap.get? b = some o → b ≠ C := fun b o q z => by
    have l := Heap.lt_size q
    rw [z] at l
    exact absurd (Nat.lt_of_lt_of_le l hC) (Nat.lt_irrefl _)
  show wpAny (model P w) (A.deeper (envOfC qual scope s.heap.objs.size f cd)) (leaving (envOfC qual scope s.heap.objs.size f cd) (.ref e)) _ _ _
  obtain ⟨f1, f2, f3, _, f4⟩ := fly
  refine leavesC I.ok.frames rfl f1 f2 f3 f4 cx fun h2 fl cn up2 => ⟨e, cls, H2, PySem.W.hideAll B [C], a0, rfl, ⟨(ho.trans F.os).trans I.os, hbr, fl, cn, ?_, fun b o q => ?_, F.noe, fun b o q n hb => ?_, fun b o q n hb => ?_, fun b o q n => ?_, fun b o q hb => ?_, fun b xs q => F.tups b xs (I.base.tups b xs q), fun b o u q => F.frzs b o u (I.base.frzs b o u q), fun b ps q => ?_⟩, hE⟩
  · intro a o q
    refine (F.hok a o q).stay (fun b u hb r => PySem.W.hideAll_get _ r fun hm => ?_) (fun _ z => z) fun _ _ z => z
    have e0 : b = C := by simpa using hm
    rcases hb with z | z
    · rw [← z, e0, hCn] at q; cases q
    · rw [e0, hCn] at z; cases z
  · have q1 : s.heap.get? b = some o := (I.ok.bs b o q).1
    exact PySem.W.hideAll_get _ (F.bst b o q) (by simpa using nb b o q1)
  · exact PySem.W.hideAll_get _ (F.keep b o (I.base.keep b o q n hb (by intro z; cases z)) (I.base.free b o q n (by intro z; cases z)) (frs_in I (Heap.lt_size q) hb)) (by simpa using nb b o q)
  · obtain ⟨sl, r⟩ := I.base.slot b o q n hb (by intro z; cases z)
    have hb2 : b ∈ frs (cxR P w K mg base N qual scope f cd A outer s H E).stack := by
      show b ∈ (envOfC qual scope s.heap.objs.size f cd :: outer).filterMap (·.frame)
      rw [List.filterMap_cons]
      exact List.mem_cons_of_mem _ hb
    obtain ⟨sl2, r2⟩ := F.slot b _ r (I.base.free b o q n (by intro z; cases z)) hb2
    obtain ⟨_, o2, q2, nf⟩ := I.ok.funs.mem hb
    have q3 : s.heap.get? b = some o2 := q2
    rw [q] at q3
    cases q3
    obtain ⟨sl3, r3⟩ := up b _ (nb b _ q) r2 fun vs => nf vs
    obtain ⟨sl4, r4⟩ := up2 b _ r3 fun vs => nf vs
    exact ⟨sl4, r4⟩
  · obtain ⟨o1, r⟩ := I.base.there b o q (by intro z; cases z)
    exact F.free b o1 r (I.base.free b o q n (by intro z; cases z))
  · obtain ⟨o1, r⟩ := I.base.there b o q (by intro z; cases z)
    obtain ⟨o2, r2⟩ := F.there b o1 r (frs_in I (Heap.lt_size q) hb)
    exact ⟨o2, PySem.W.hideAll_get _ r2 (by simpa using nb b o q)⟩
  · obtain ⟨m1, e1⟩ := I.base.tbls b ps q
    obtain ⟨m2, e2⟩ := F.tbls b _ e1
    exact ⟨m1 ++ m2, by rw [e2, Array.append_assoc]⟩
def XEof (X Y : Cx) (E : XK) : Value → Shared → Prop := fun x s' => ∃ pins σ H1 s1, Inv Y pins σ H1 s1 ∧ CXr X.prog X.w X.base X.stack H1 s1 E x s'
abbrev compCxE (X : Cx) (E : XK) (N : List Str) (scope : Scope) (cl : List (Str × Addr)) (C : Addr) (s₀ : Shared) (H₀ : Hp) (ex : List Addr) : Cx := (compCx X N scope cl C s₀ H₀ ex).wish (XEof X (compCx X N scope cl C s₀ H₀ ex) E)
theorem passRC {X : Cx} {E : XK} {N : List Str} {scope : Scope} {cl : List (Str × Addr)} {C : Addr} {s₀ : Shared} {H₀ : Hp} {ex : List Addr} : Passes (CXr X.prog X.w X.base) (compCxE X E N scope cl C s₀ H₀ ex) E :=
  fun pins σ H1 s1 _ _ I h => ⟨pins, σ, H1, s1, I.unwish, h⟩
theorem comp_end' {X : Cx} {N : List Str} {scope : Scope} {cl : List (Str × Addr)} {pins pins' : List (Addr × Obj)} {σ σ' : St} {H H' : Hp} {s s' : Shared} {fp : List Addr} {C : Addr} (I : Inv X pins σ H s) (f : ∀ b ∈ fp, FpOk X pins H b) (J : Inv (compCx X N scope cl C s H fp) pins' σ' H' s') : Inv X pins σ H' s' :=
  I.call' (ch := fp) J.os J.base J.hok J.bare fun b hb => ⟨(f b hb).2.2.2.1, (f b hb).2.1, (f b hb).2.2.2.2.1, (f b hb).2.2.2.2.2⟩
theorem comp_flown {X : Cx} {E0 : XK} {pins : List (Addr × Obj)} {σ : St} {H H1 : Hp} {s0 s1 s' : Shared} {x acc : Value} {use : Option (Value → Sem Unit)} {Q : Value → Shared → Prop} (hp : PassX X E0) (hst : X.stack = X.env :: X.outer) (hfr : X.env.frame = some X.env.locals)
    (I0 : Inv X pins σ H s0) (I1 : Inv X pins σ H1 s1) (hf : H1 s0.heap.objs.size = none) (hns : ∃ m, s1.heap.Ns s0.heap.objs.size m) (q : CXr X.prog X.w X.base X.stack H1 s1 E0 x s') :
    notedBy (model X.prog X.w) X.A X.env (fun e s'' => compPost (model X.prog X.w) X.A X.xe use Q acc s0.heap.objs.size (.error e) s'') x s' := by
  obtain ⟨m, oC, es, ep, hoC, rest⟩ := hns
  obtain ⟨e, cls, H2, B, a0, rfl, F, hE⟩ := q
  have frm : X.A.frames = some (X.env :: X.outer) := by rw [← hst]; exact I0.ok.frames
  have fly := F.fly
  rw [hst] at fly
  unfold notedBy
  obtain ⟨y1, y2, y3, y4⟩ := fly
  refine noteC frm hfr y1 y2 y3 y4.at F.ctx fun h4 held cn4 up4 => ?_
  have hCf : s0.heap.objs.size ∉ frs X.stack := fun hb => by
    obtain ⟨_, o, ho, _⟩ := I0.stack.mem hb
    exact absurd (Heap.lt_size ho) (Nat.lt_irrefl _)
  have hB : B.get? s0.heap.objs.size = some oC := F.keep _ oC hoC hf hCf
  have fin : ∃ m, Heap.Ns h4 s0.heap.objs.size m ∧ ∀ h', Heap.SameBut s0.heap.objs.size h4 h' → ∀ cenv : Env, cenv.locals = s0.heap.objs.size → wpAny (model X.prog X.w) X.A (PySem.passOn "comprehension.variables-let-go" (.ref e) cenv : Sem Value) (fun _ _ => False) X.xe { s' with heap := h' } := by
    refine ⟨m, ⟨oC, es, ep, held.1 _ _ hB, rest⟩, fun h' sb cenv _ => ?_⟩
    have held' := held_but held ⟨oC, hB⟩ sb
    obtain ⟨_, _, _, oe, ws, T, oT, ts, q1, q2, q4, q5, _⟩ := id held'
    unfold PySem.passOn
    refine wpAny_bind (wpAny_field q1 q4 q5 ?_)
    rw [if_neg (show ¬ ((Value.ref T == Value.none) = true) by simp)]
    have go : wpAny (model X.prog X.w) X.A (setFlight (.ref e) cenv.frame >>= fun _ => (throw (.ref e) : Sem Value)) (fun _ _ => False) X.xe { s' with heap := h' } := by
      obtain ⟨w1, w2, w3, w4⟩ := held'
      have cn : CtxN e h' := cn4.keep (sb.2 e fun z => by rw [← z, y2] at hB; cases hB)
      refine wpAny_bind (flightC (s := { s' with heap := h' }) w1 w2 w3 w4 cn fun h7 v1 v2 v3 cn7 up7 => wpAny_throw (hp pins σ H1 s1 s' _ e s0.heap.objs.size cls H2 B a0 I1 F hE I0.sz hCf (F.free _ oC hoC hf) rfl F.bare (by rw [hst]; exact ⟨v1, w2, v2, _, v3⟩) cn7 fun b o nb r nf => ?_))
      obtain ⟨sl, r4⟩ := up4 b o r nf
      obtain ⟨sl2, r7⟩ := up7 b _ ((sb.2 b nb).trans r4) nf
      exact ⟨sl2, r7⟩
    first
      | exact wpAny_bind (wpAny_pure go)
      | exact go
  cases use <;> exact fin
theorem comp_loopX {prog : Program} {w : World} {A : Around} {R : Result → Shared → Prop} {s : Shared} {elt target iter : Expr} {ifs : List Expr} {scope : Scope} {pos : Pos} {it acc : Value} {env : Env} {E1 : Value → Shared → Prop} (hE1 : ∀ x s', E1 x s' → notedBy (model prog w) A env (fun e s'' => R (.error e) s'') x s') (Iv : Nat → Shared → Prop)
    (turn : ∀ n s, Iv n s → wpAny (model prog w) A (pyNext it) (fun r s1 => match r with
      | none => R (.ok .next) s1
      | some v => wpAny (model prog w) A (letOwnedTupleGo target it v) (fun _ s2 => wpAny (model prog w) A (assign target env v) (fun _ s3 => wpAny (model prog w) A (testsOf ifs env) (fun ok s4 =>
          if ok = true then wpAny (model prog w) A (eval elt env) (fun x s5 => wpAny (model prog w) A (call (.builtin "list.append") [acc, x]) (fun _ s6 => ∃ m, m < n ∧ Iv m s6) E1 s5) E1 s4
          else ∃ m, m < n ∧ Iv m s4) E1 s3) E1 s2) E1 s1) E1 s)
    (n : Nat) (h : Iv n s) : codeAny (model prog w) A (.compLoop (.ListComp elt [⟨target, iter, ifs, 0⟩] scope pos) 0 it acc env) R s := by
  refine codeAny_loop rfl Iv (fun n s hI => ?_) n h
  show wpAny (model prog w) A ((compTurn (.ListComp elt [⟨target, iter, ifs, 0⟩] scope pos) 0 it acc env).onRaise fun x => (noteFrame x env >>= fun _ => theTreesLotGoes x)) _ _ s
  refine wpAny_noted (wpAny_mono ?_ (fun _ _ q => q) hE1)
  rw [compTurn_list]
  refine wpAny_bind (wpAny_standAt (wpAny_bind (thn (turn n s hI) fun r s1 h1 => ?_)))
  cases r with
  | none => exact wpAny_pure h1
  | some v =>
    refine wpAny_bind (thn h1 fun _ s2 h2 => wpAny_bind (thn h2 fun _ s3 h3 => wpAny_bind (thn h3 fun ok s4 h4 => ?_)))
    cases ok with
    | false => exact wpAny_pure ⟨rfl, h4⟩
    | true => exact wpAny_bind (wpAny_bind (thn h4 fun x s5 h5 => wpAny_bind (thn h5 fun _ s6 h6 => wpAny_pure (wpAny_pure ⟨rfl, h6⟩))))
section
variable {X : Cx} {tg elt iter : Expr} {ifs : List Expr} {N : List Str} {l : List (Option Nat)} {scope : Scope} {pos : Pos} {wi : TI} {g : TG} {tc : TT} {te : TE}
theorem comp_blockX {E0 : XK} {cl : List (Str × Addr)} {pins : List (Addr × Obj)} {σ : St} {H : Hp} {s : Shared} {J : It} {fp : List Addr} {it : Addr} {tn : Nat → Heap → Prop} {RR : Value → Addr → Result → Shared → Prop} {Q : Addr → Hp → Prop} {E : Value → Shared → Prop}
    (hc : X.calm = true) (S : CompScope X N l scope) (c1 : ∀ x c, cl.lookup x = some c → X.env.cells.lookup x = some c) (c2 : ∀ y ∈ scope.names, y.2 = .free → ∃ c, cl.lookup y.1 = some c)
    (hg : ∀ C s H ex, PG (compCxE X E0 N scope cl C s H ex) tg g) (hi : ∀ C s H ex, PIfs (compCxE X E0 N scope cl C s H ex) ifs tc) (he : ∀ C s H ex, PE (compCxE X E0 N scope cl C s H ex) elt te)
    (I : Inv X pins σ H s) (T : Turn X.prog X.w X.K tg J fp it tn) (t0 : tn 0 s.heap) (f : ∀ b ∈ fp, FpOk X pins H b)
    (hW : ∀ D, H D = none → ∃ W : CompW, (∃ m, W 0 m [] (iniOf l σ) (upd H D (.lst []))) ∧ compStep J g tc te D W (Q D))
    (hR : ∀ D s0 H' s', Inv X pins σ (upd H D (.lst [])) s0 → Inv X pins σ H' s' → H' s0.heap.objs.size = none → (∃ m, s'.heap.Ns s0.heap.objs.size m) → Q D H' → RR (.ref D) s0.heap.objs.size (.ok .next) s')
    (hX : ∀ D s0 H1 s1 x s', Inv X pins σ (upd H D (.lst [])) s0 → Inv X pins σ H1 s1 → H1 s0.heap.objs.size = none → (∃ m, s1.heap.Ns s0.heap.objs.size m) → CXr X.prog X.w X.base X.stack H1 s1 E0 x s' → notedBy (model X.prog X.w) X.A X.env (fun e s'' => RR (.ref D) s0.heap.objs.size (.error e) s'') x s') :
    wpAny (model X.prog X.w) X.A (newList []) (fun acc s3 => wpAny (model X.prog X.w) X.A (newFunctionEnv scope X.env.globals cl [] X.env.qual none .none (some X.env)) (fun cenv s4 =>
      codeAny (model X.prog X.w) X.A (.compStart (.ListComp elt [⟨tg, iter, ifs, 0⟩] scope pos) 0 (.ref it) acc { cenv with scope := relabel scope X.env }) (RR acc cenv.locals) s4) E s3) E s := by
  refine wpAny_newObj_type (wpAny_newFunctionEnv (fun y hy => by have := List.all_eq_true.mp S.nocell y hy; simpa using this) (fun y hy => absurd hy (by simp)) (fun h4 hn4 sb4 => ?_) S.kind)
  have kept3 : ∀ b u, s.heap.get? b = some u → (s.heap.push { cls := .type "list", dict := none, data := .seq ([] : List Value).toArray }).get? b = some u := fun b u e => Heap.get?_push_of_some _ e
  have hD : H s.heap.objs.size = none := I.hok.fresh (Nat.le_refl _)
  have I3 : Inv X pins σ (upd H s.heap.objs.size (.lst [])) { s with heap := s.heap.push { cls := .type "list", dict := none, data := .seq ([] : List Value).toArray } } :=
    I.laid (t' := s.toks) kept3 (Nat.le_refl _) ⟨Nat.zero_le _, [], 0, .nil, Heap.get?_push_size _ rfl⟩
  generalize hh3 : s.heap.push { cls := .type "list", dict := none, data := .seq ([] : List Value).toArray } = h3 at kept3 I3 hn4 sb4 ⊢
  have fpIn : ∀ b ∈ fp, ∃ o, s.heap.get? b = some o := fun b hb => let ⟨o, e, _⟩ := T.obj _ _ t0 b hb; ⟨o, e⟩
  have f3 : ∀ b ∈ fp, FpOk X pins (upd H s.heap.objs.size (.lst [])) b := fun b hb => by
    obtain ⟨o, e⟩ := fpIn b hb
    exact ⟨by rw [upd_ne (Nat.ne_of_lt (Heap.lt_size e))]; exact (f b hb).1, (f b hb).2⟩
  have kept4 : ∀ b o, h3.get? b = some o → h4.get? b = some o := fun b o e => sb4.extBut b o (Nat.ne_of_lt (Heap.lt_size e)) (Heap.get?_push_of_some _ e)
  have J4 := inv_comp S I3 c1 c2 f3 (fun b hb => let ⟨o, e⟩ := fpIn b hb; ⟨o, kept3 b o e⟩) hn4 kept4 (s.toks + ([] : List (Str × Value)).length)
  have t4 : tn 0 h4 := T.keep _ _ _ t0 fun b _ o e => kept4 b o (kept3 b o e)
  obtain ⟨W, ⟨m0, w0⟩, step⟩ := hW _ hD
  have loop : ∀ s4 : Shared, s4 = { s with heap := h4, toks := s.toks + ([] : List (Str × Value)).length } →
      codeAny (model X.prog X.w) X.A (.compLoop (.ListComp elt [⟨tg, iter, ifs, 0⟩] scope pos) 0 (.ref it) (.ref s.heap.objs.size) (compEnvC scope cl h3.objs.size X.env)) (RR (.ref s.heap.objs.size) h3.objs.size) s4 := by
    rintro s4 rfl
    have J4 := J4.wish (XEof X (compCx X N scope cl h3.objs.size { s with heap := h3 } (upd H s.heap.objs.size (.lst [])) fp) E0)
    generalize hY : (compCx X N scope cl h3.objs.size { s with heap := h3 } (upd H s.heap.objs.size (.lst [])) fp).wish (XEof X (compCx X N scope cl h3.objs.size { s with heap := h3 } (upd H s.heap.objs.size (.lst [])) fp) E0) = Y at J4
    have eP : Y.prog = X.prog := by rw [← hY]; rfl
    have ew : Y.w = X.w := by rw [← hY]; rfl
    have eK : Y.K = X.K := by rw [← hY]; rfl
    have ec : Y.calm = true := by rw [← hY]; exact hc
    have eA : Y.A = X.A := by rw [← hY]; rfl
    have ee : Y.env = compEnvC scope cl h3.objs.size X.env := by rw [← hY]; rfl
    have xx : ∀ x s', Y.xe x s' → notedBy (model X.prog X.w) X.A (compEnvC scope cl h3.objs.size X.env) (fun e s'' => RR (.ref s.heap.objs.size) h3.objs.size (.error e) s'') x s' := fun x s' q => by
      rw [← hY] at q
      obtain ⟨pp, σ', H1, s1, J1, cx⟩ := q
      obtain ⟨m1, n1, _⟩ := J1.loc
      exact hX _ { s with heap := h3 } H1 s1 x s' I3 (comp_end' I3 f3 J1) J1.free ⟨m1, n1⟩ cx
    have stat : ∀ {H' : Hp}, (∀ b ∈ fp, H' b = none) → ∀ b ∈ fp, FpOk Y [] H' b := fun {H'} hn b hb => by
      rw [← hY]
      obtain ⟨o, e⟩ := fpIn b hb
      refine ⟨hn b hb, Nat.ne_of_lt (Heap.lt_size (kept3 b o e)), fun z => ?_, .inl hb, fun x c q => (f3 b hb).2.2.2.2.1 x c (c1 x c q), fun p hp => absurd (show p ∈ ([] : List (Addr × Obj)) from hp) (by simp)⟩
      rcases List.mem_cons.mp (I3.stkSub b z) with q | q
      · exact (f3 b hb).2.1 q
      · exact (f3 b hb).2.2.1 q
    refine comp_loopX xx (fun n s' => ∃ i ys σ' H', Inv Y [] σ' H' s' ∧ tn i s'.heap ∧ (∀ b ∈ fp, H' b = none) ∧ W i n ys σ' H') ?_ m0 ⟨0, [], iniOf l σ, _, J4, t4, fun b hb => (f3 b hb).1, w0⟩
    rintro n s5 ⟨i, ys, σ5, H5, J5, t5, fr5, w5⟩
    obtain ⟨hDl, st⟩ := step i n ys σ5 H5 w5
    rw [← eP, ← ew, ← eA, ← ee]
    rcases st with ⟨stop, q⟩ | ⟨go, NA, NB, hA, hB, nxt⟩
    · have d := T.done Y eP ew eK ec i [] s5 σ5 H5 Y.xe J5 (stat fr5) t5 stop
      rw [← eP, ← ew] at d
      refine thn d fun r s6 ⟨hr, J6⟩ => ?_
      subst hr
      rw [← hY] at J6
      have J6 := J6.unwish
      obtain ⟨m6, n6, _⟩ := J6.loc
      exact hR _ { s with heap := h3 } H5 s6 I3 (comp_end I3 f3 J6) J6.free ⟨m6, n6⟩ q
    · have d := T.item Y eP ew eK ec i [] s5 σ5 H5 Y.xe J5 (stat fr5) t5 go
      rw [← eP, ← ew] at d
      refine thn d fun r s6 ⟨u, hr, h6⟩ => ?_
      subst hr
      refine thn h6 fun _ s7 ⟨x, H7, J7, r7, y7, t7, fr7⟩ => ?_
      have J7' := J7.pinned (stat fr7) (T.obj _ _ t7)
      have back : ∀ {σ8 : St} {H8 : Hp} {s8 : Shared}, Inv Y ([] ++ pinsAt fp s7.heap) σ8 H8 s8 → tn (i + 1) s8.heap ∧ (∀ b ∈ fp, H8 b = none) := fun {σ8 H8 s8} J8 => by
        refine ⟨T.keep _ _ _ t7 fun b hb o e => (J8.pin (b, o) (List.mem_append_right _ (List.mem_append_right _ (mem_pinsAt hb e)))).1, fun b hb => ?_⟩
        obtain ⟨o, e, _⟩ := T.obj _ _ t7 b hb
        exact (J8.pin (b, o) (List.mem_append_right _ (List.mem_append_right _ (mem_pinsAt hb e)))).2.1
      have hg' : PG Y tg g := by rw [← hY]; exact hg _ _ _ _
      have hi' : PIfs Y ifs tc := by rw [← hY]; exact hi _ _ _ _
      have he' : PE Y elt te := by rw [← hY]; exact he _ _ _ _
      have a7 := hg' _ s7 σ5 H7 x u _ J7' r7 (nxt x H7 y7)
      refine thn a7 fun _ s8 ⟨σ8, H8, J8, q8⟩ => ?_
      have a8 := hi' _ s8 σ8 H8 _ J8 q8
      refine thn a8 fun ok s9 ⟨H9, J9, q9⟩ => ?_
      cases ok with
      | false =>
        have q9' : NB σ8 H9 := by simpa using q9
        obtain ⟨m', hm, w9⟩ := hB _ _ q9'
        obtain ⟨t9, fr9⟩ := back J9
        show ∃ m, m < n ∧ _
        exact ⟨m', hm, i + 1, ys, σ8, H9, J9.unpinned, t9, fr9, w9⟩
      | true =>
        rw [if_pos rfl] at q9
        show wpAny _ _ (eval elt Y.env) _ _ s9
        have a9 := he' _ s9 σ8 H9 _ J9 q9
        refine thn a9 fun xv s10 ⟨v, H10, J10, r10, q10⟩ => ?_
        obtain ⟨hD10, hz, m', hm, w10⟩ := hA _ _ _ q10
        have a10 := mt_append _ s10 σ8 H10 (.ref s.heap.objs.size) [v] (.ref s.heap.objs.size) [xv] (fun _ H' => H' = upd H10 s.heap.objs.size (.lst (ys ++ [v]))) J10 rfl (.cons r10 .nil) ⟨_, ys, v, rfl, rfl, hD10, hz, rfl⟩
        refine thn a10 fun _ s11 ⟨_, H11, J11, _, e11⟩ => ?_
        subst e11
        obtain ⟨t11, fr11⟩ := back J11
        exact ⟨m', hm, i + 1, ys ++ [v], σ8, _, J11.unpinned, t11, fr11, w10⟩
  exact codeAny_compStart_list (loop _ rfl) (T.self _ 0 _ _ _ t4 (loop _ rfl))
theorem ps_setCompX {E0 : XK} {i : Nat} {x : Str} {pos' pos2 : Pos} (hp : PassX X E0) (hst : X.stack = X.env :: X.outer) (hfr : X.env.frame = some X.env.locals) (hc : X.calm = true) (hN : X.N.Nodup) (hi' : X.N[i]? = some x) (hx : X.env.scope.names.lookup x = some .local) (S : CompScope X N l scope) (hw : PI X tg iter wi)
    (hg : ∀ cl C s H ex, PG (compCxE X E0 N scope cl C s H ex) tg g) (hi : ∀ cl C s H ex, PIfs (compCxE X E0 N scope cl C s H ex) ifs tc) (he : ∀ cl C s H ex, PE (compCxE X E0 N scope cl C s H ex) elt te)
    (hsw : swapsWith (.ListComp elt [⟨tg, iter, ifs, 0⟩] scope pos) (some (.Name x pos')) pos2.line X.env = pure true := by rfl)
    (hs : ∀ x, foldedSetIterable iter X.env x = pure x := by intro _; rfl) : PS X (.Assign [.Name x pos'] (.ListComp elt [⟨tg, iter, ifs, 0⟩] scope pos) pos2) (tAsg (tComp l wi g tc te) (gName i)) := by
  intro pins s σ H D I h
  obtain ⟨cl, e1, c1, c2⟩ := comp_cells S I
  rw [exec_Assign_Name_used _ _ _ _ hsw]
  refine wpAny_bind (wpAny_standAt (wpAny_bind ?_))
  show wpAny _ X.A (comprehension (.ListComp elt [⟨tg, iter, ifs, 0⟩] scope pos) scope X.env _ (newList []) false (eval iter X.env) (some (assign (.Name x pos') X.env)) >>= fun _ => _) _ _ s
  refine wpAny_bind (thn (wpAny_comprehension_free (use := some (assign (.Name x pos') X.env)) (Q := fun _ s' => SP X pins D .next s') rfl hs e1 S.kind (comp_locals S) (thn (hw pins s σ H _ I h) fun v s1 h1 => thn h1 fun itv s2 h2 => ?_)) fun _ s' hq => wpAny_pure (wpAny_pure hq))
  obtain ⟨it, fp, tn, J, H2, e, I2, T, st2, f2, hW⟩ := h2
  subst e
  refine comp_blockX hc S c1 c2 (hg cl) (hi cl) (he cl) I2 T st2 f2 hW (fun L s0 H' s' I0 I' hf hns q => ?_) fun L s0 H1 s1 x s' I0 I1 hf hns q => comp_flown hp hst hfr I0 I1 hf hns q
  obtain ⟨m, hm⟩ := hns
  show wpAny _ X.A (assign (.Name x pos') X.env (.ref L)) _ _ s'
  refine wpAny_assign_Name (store_ok2 I' hN hi' (.inl hx) (v := .ref L) rfl (fun s2 I2 hsb => ?_) (.inr hx))
  obtain ⟨a, sb, ha⟩ := hsb
  have hne : s0.heap.objs.size ≠ a := by
    rcases ha with z | z
    · rw [z]; exact Nat.ne_of_gt I0.lt
    · obtain ⟨v, cc⟩ := I0.cell x a z
      exact Nat.ne_of_gt cc.lt
  exact ⟨m, hm.sameBut sb hne, fun h'' sb2 => ⟨_, H', comp_gone I0 hf I2 sb2, q⟩⟩
end
end L2
set_option Elab.async false
set_option linter.all false
set_option maxRecDepth 100000
set_option maxHeartbeats 4000000
namespace L2
open PySem PySem.Spec PyProof.Rows
structure PEb (X : Cx) (e : Expr) (t : TE) : Prop where
  ok : PE X e t
structure PSb (X : Cx) (st : Stmt) (t : TS) : Prop where
  ok : PS X st t
structure PSsb (X : Cx) (st : List Stmt) (t : TS) : Prop where
  ok : PSs X st t
section
variable {X : Cx} {e a b : Expr} {es : List Expr} {te ta tb : TE} {t : TA} {pos pos' : Pos} {st : Stmt} {rest : List Stmt} {ts us : TS}
theorem sb_cons (h1 : PSb X st ts) (h2 : PSsb X rest us) : PSsb X (st :: rest) (tSeq ts us) := ⟨pss_cons h1.ok h2.ok⟩
theorem sb_one (h1 : PSb X st ts) : PSsb X [st] ts := ⟨pss_one h1.ok⟩
theorem sb_set {i : Nat} {x : Str} (hN : X.N.Nodup) (hi : X.N[i]? = some x) (hx : Loc X.env.scope x) (he : PEb X e te) (hs : swapsWith e (some (.Name x pos')) pos.line X.env = pure false := by rfl)
    (hf : X.fn x = true ∨ X.env.scope.names.lookup x = some .local := by first | exact .inl rfl | exact .inr rfl | assumption) : PSb X (.Assign [.Name x pos'] e pos) (tAsg te (gName i)) := ⟨ps_set hN hi hx he.ok hs hf⟩
theorem eb_op {op : Operator} {r : R2} (ho : OpR X (binaryOp op) r) (ha : PEb X a ta) (hb : PEb X b tb) : PEb X (.BinOp a op b pos) (tOp r ta tb) := ⟨pe_op ho ha.ok hb.ok⟩
theorem eb_lst (h : PB X es t) : PEb X (.List es pos) (tLst t) := ⟨fb_lst h⟩
end
theorem Fun.okb {P : Program} {w : World} {K : PySem.W.Frag} {mg : Str → Option Value} {base : Heap} {x qual : Str} {st : Stmt} {f : Addr} {fd : FuncData} {N ps : List Str} {k : Nat} {sp : Sp} (F : Fun K x qual st f fd) (S : FnScope N ps (defScope st)) (len : ∀ vs H Q E, sp vs H Q E → vs.length = ps.length)
    (hbody : ∀ (cdv : Value) (A : Around) (outer : List Env) (s : Shared) (H : Hp) (vs : List V) (Q : VK) (E : XK), Room k (A.deeper (envOfC qual (defScope st) s.heap.objs.size f cdv)) → sp vs H Q E →
      ∃ t, PSsb (cxOf CX0 P w K mg base N qual (defScope st) f cdv A outer s H E).nox (defBody st) t ∧ t { nx := fun _ H' => Q .non H', rt := Q } (start N vs) H) : FnOk P w K mg base CX0 (k + 1) f fd ps sp :=
  F.ok S len fun cdv A outer s H vs Q E hr h => let ⟨t, a, q⟩ := hbody cdv A outer s H vs Q E hr h; ⟨t, a.ok, q⟩
end L2
set_option Elab.async false
set_option linter.all false
set_option maxRecDepth 100000
set_option maxHeartbeats 4000000
namespace K84
open PySem L2 LB
def decS (n : Int) : Str := Str.ofString (toString n)
theorem dec_list (m : Nat) : (decS (m : Int)).cps.toList = (Nat.toDigits 10 m).map Char.toNat := PySem.W.KIN.signs_num m
theorem dec_digit {m c : Nat} (h : c ∈ (decS (m : Int)).cps.toList) : 48 ≤ c ∧ c ≤ 57 := by
  rw [dec_list] at h
  obtain ⟨ch, hch, e⟩ := List.mem_map.mp h
  rw [← e]
  exact PyProof.Rows.digit_range (Nat.isDigit_of_mem_toDigits (by decide) (by decide) hch)
theorem dec_ne (m : Nat) : (decS (m : Int)).cps.toList ≠ [] := by
  rw [dec_list]
  intro e
  exact Nat.toDigits_ne_nil (List.map_eq_nil_iff.mp e)
theorem len_list (x : Str) : x.cps.toList.length = x.length := Array.length_toList
theorem dec_len {m k : Nat} (hk : 0 < k) (h : m < 10 ^ k) : 1 ≤ (decS (m : Int)).length ∧ (decS (m : Int)).length ≤ k := by
  refine ⟨?_, ?_⟩
  · have := dec_ne m
    rw [← len_list]
    rcases Nat.eq_zero_or_pos (decS (m : Int)).cps.toList.length with z | z
    · exact absurd (List.length_eq_zero_iff.mp z) this
    · exact z
  · rw [← len_list, dec_list, List.length_map]
    exact (Nat.length_toDigits_le_iff (by decide) hk).mpr h
def sg (c : Nat) : Str := ⟨#[c]⟩
theorem app_list (a y : Str) : (a ++ y).cps.toList = a.cps.toList ++ y.cps.toList := by rw [PySem.Str.cps_append, Array.toList_append]
theorem str_ext {a b : Str} (h : a.cps.toList = b.cps.toList) : a = b := PySem.Str.ext' (Array.toList_inj.mp h)
theorem join_two (s a b : Str) (r : List Str) : Str.join s (a :: b :: r) = a ++ s ++ Str.join s (b :: r) := rfl
def wordS (p a : Int) : Str := decS a ++ sg 120 ++ decS p
theorem join_str (s : Str) (ws : List Str) : Txt.join s ws = Str.join s ws := StrLaws.glued_eq_join s ws
theorem asc_iff {w : Str} : w.cps.all (· < 128) = true ↔ ∀ c ∈ w.cps.toList, c < 128 := by
  rw [Array.all_eq_true']
  constructor
  · intro h c hc
    exact of_decide_eq_true (h c (by simpa using hc))
  · intro h c hc
    exact decide_eq_true (h c (by simpa using hc))
def ascT (w : Str) : Prop := (∀ c ∈ w.cps.toList, c < 128) ∧ w.length ≤ 900
theorem join_mem {c : Nat} {s : Str} : ∀ {ts : List Str} {t : Str}, t ∈ ts → c ∈ t.cps.toList → c ∈ (Str.join s ts).cps.toList
  | [x], t, h, hc => by
    have : t = x := by simpa using h
    rw [this] at hc
    exact hc
  | x :: y :: r, t, h, hc => by
    rw [join_two, app_list, app_list]
    rcases List.mem_cons.mp h with rfl | h
    · simp [hc]
    · exact List.mem_append.mpr (.inr (join_mem h hc))
theorem join_len {s : Str} : ∀ {ts : List Str} {t : Str}, t ∈ ts → t.length ≤ (Str.join s ts).length
  | [x], t, h => by
    have : t = x := by simpa using h
    rw [this]
    exact Nat.le_refl _
  | x :: y :: r, t, h => by
    rw [join_two, PySem.Str.length_append, PySem.Str.length_append]
    rcases List.mem_cons.mp h with rfl | h
    · omega
    · have := join_len (s := s) h
      omega
theorem split_asc {x : Str} {c : Nat} (h : ascT x) : ∀ p ∈ Txt.split x (sg c), ascT p := fun p hp => by
  have e := StrLaws.join_split x (sg c)
  refine ⟨fun d hd => h.1 d ?_, ?_⟩
  · rw [← e]; exact join_mem hp hd
  · have := join_len (s := sg c) hp
    rw [e] at this
    exact Nat.le_trans this h.2
theorem join_count {s : Str} (hs : s.length = 1) : ∀ ts : List Str, ts.length ≤ (Str.join s ts).length + 1
  | [] => Nat.zero_le _
  | [x] => by simp
  | x :: y :: r => by
    have := join_count hs (y :: r)
    rw [join_two, PySem.Str.length_append, PySem.Str.length_append, List.length_cons, hs]
    omega
theorem split_count {x : Str} {c : Nat} (h : ascT x) : (Txt.split x (sg c)).length ≤ 901 := by
  have := join_count (s := sg c) rfl (Txt.split x (sg c))
  rw [StrLaws.join_split x (sg c)] at this
  have := h.2
  omega
theorem ascT.len {w : Str} (h : ascT w) : w.length ≤ 1000 := Nat.le_trans h.2 (by decide)
def digB (w : Str) : Bool := w.cps.toList.all fun c => decide (48 ≤ c) && decide (c ≤ 57)
theorem fig_all : ∀ c, c < 128 → (!(Builtin.Str.occurrences ("0123456789" : Str) ⟨#[c]⟩ 0 ("0123456789" : Str).length 1).isEmpty) = (decide (48 ≤ c) && decide (c ≤ 57)) := by decide +kernel
def leadB (w : Str) : Bool := decide (1 < w.length) && decide (w.cps.toList.getD 0 0 = 48)
def numB (w : Str) : Bool := (decide (1 ≤ w.length) && decide (w.length ≤ 19)) && digB w && (decide (w = ("0" : Str)) || !Txt.startswith w ("0" : Str))
theorem cons_of {w : Str} (h : 1 ≤ w.length) : ∃ c r, w.cps.toList = c :: r := by
  rw [← len_list] at h
  cases e : w.cps.toList with
  | nil => rw [e] at h; simp at h
  | cons c r => exact ⟨c, r, rfl⟩
theorem starts_iff {w : Str} {c : Nat} {r : List Nat} (e : w.cps.toList = c :: r) : Txt.startswith w ("0" : Str) = (c == 48) := by
  have l1 : ("0" : Str).length = 1 := rfl
  have l2 : ("0" : Str).cps.toList = [48] := rfl
  have l3 : w.length = r.length + 1 := by rw [← len_list, e]; rfl
  unfold Txt.startswith
  rw [StrLaws.subAt_eq, e, l1, l2, l3, decide_eq_true (show 0 + 1 ≤ r.length + 1 by omega), Bool.true_and]
  show ([c] == [48]) = (c == 48)
  simp
theorem zer_eq {w : Str} (h : 1 ≤ w.length) : (decide (w = ("0" : Str)) || !Txt.startswith w ("0" : Str)) = !leadB w := by
  obtain ⟨c, r, e⟩ := cons_of h
  have l3 : w.length = r.length + 1 := by rw [← len_list, e]; rfl
  rw [starts_iff e]
  unfold leadB
  rw [e, l3]
  show (decide (w = ("0" : Str)) || !(c == 48)) = !(decide (1 < r.length + 1) && decide (c = 48))
  by_cases z : c = 48
  · subst z
    cases r with
    | nil =>
      have : w = ("0" : Str) := str_ext (by rw [e]; rfl)
      rw [decide_eq_true this]; rfl
    | cons d r =>
      have : ¬ w = ("0" : Str) := fun q => by rw [q] at l3; cases l3
      rw [decide_eq_false this]
      simp
  · simp [z]
def valN (w : Str) : Nat := NumText.digitsVal w.cps.toList
theorem num_parts {w : Str} (h : numB w = true) : 1 ≤ w.length ∧ w.length ≤ 19 ∧ digB w = true ∧ leadB w = false := by
  unfold numB at h
  rw [Bool.and_eq_true, Bool.and_eq_true, Bool.and_eq_true] at h
  obtain ⟨⟨⟨a, b⟩, c⟩, d⟩ := h
  have a' := of_decide_eq_true a
  rw [zer_eq a'] at d
  exact ⟨a', of_decide_eq_true b, c, by simpa using d⟩
theorem num_mk {w : Str} (h1 : 1 ≤ w.length) (h2 : w.length ≤ 19) (h3 : digB w = true) (h4 : leadB w = false) : numB w = true := by
  unfold numB
  rw [zer_eq h1, decide_eq_true h1, decide_eq_true h2, h3, h4]; rfl
theorem int_dig {w : Str} (h1 : 1 ≤ w.length) (h2 : w.length ≤ 19) (h3 : digB w = true) : PySem.intText? w = some ((valN w : Nat) : Int) := by
  refine intText_digits (fun c hc => ?_) (fun e => ?_) (by omega)
  · have := List.all_eq_true.mp h3 c hc
    rw [Bool.and_eq_true] at this
    exact ⟨of_decide_eq_true this.1, of_decide_eq_true this.2⟩
  · rw [← len_list, e] at h1
    simp at h1
def prtA (w : Str) : Str := (Txt.split w (sg 120)).getD 0 Str.empty
def prtB (w : Str) : Str := (Txt.split w (sg 120)).getD 1 Str.empty
def twoB (w : Str) : Bool := decide ((Txt.split w (sg 120)).length = 2)
def wareB (w : Str) : Bool := twoB w && (numB (prtA w) && numB (prtB w))
theorem two_split {w : Str} (h : twoB w = true) : Txt.split w (sg 120) = [prtA w, prtB w] := by
  have h' := of_decide_eq_true h
  unfold prtA prtB
  generalize Txt.split w (sg 120) = l at h'
  match l, h' with
  | [a, b], _ => rfl
def wordsT (T : Str) : List Str := Txt.split T (sg 32)
def dayOf (T : Str) : List Int × List Int := ((wordsT T).map fun w => ((valN (prtB w) : Nat) : Int), (wordsT T).map fun w => ((valN (prtA w) : Nat) : Int))
def goodR (T : Str) : Bool := (wordsT T).all wareB && isDayD (dayD (dayOf T))
theorem all_D {f : PyData → Bool} {ns : List Int} (h : (ns.map PyData.int).all f = true) : ∀ x ∈ ns, f (.int x) = true := fun x hx => List.all_eq_true.mp h (.int x) (List.mem_map.mpr ⟨x, hx, rfl⟩)
theorem day_of {d : List Int × List Int} (h : isDayD (dayD d) = true) : 1 ≤ d.1.length ∧ d.1.length ≤ 6 ∧ (∀ x ∈ d.1, 1 ≤ x ∧ x ≤ 1000000000) ∧ (∀ x ∈ d.2, 0 ≤ x ∧ x ≤ 1000000000000000000) ∧ ∃ x ∈ d.2, 0 < x := by
  have e : isDayD (dayD d) = (((true && ((decide (1 ≤ (d.1.map PyData.int).length) && decide ((d.1.map PyData.int).length ≤ 6)) && (d.1.map PyData.int).all isPriceD)) && ((decide (1 ≤ (d.2.map PyData.int).length) && decide ((d.2.map PyData.int).length ≤ 6)) && (d.2.map PyData.int).all isAmtD && (d.2.map PyData.int).any posD)) && decide ((d.1.map PyData.int).length = (d.2.map PyData.int).length)) := rfl
  rw [e] at h
  simp only [Bool.and_eq_true, Bool.true_and, decide_eq_true_eq, List.length_map] at h
  obtain ⟨⟨⟨⟨a1, a2⟩, a3⟩, ⟨⟨a4, a5⟩, a6⟩, a7⟩, a8⟩ := h
  refine ⟨a1, a2, fun x hx => ?_, fun x hx => ?_, ?_⟩
  · have := all_D a3 x hx
    have t : (decide (1 ≤ x) && decide (x ≤ 1000000000)) = true := this
    rw [Bool.and_eq_true] at t
    exact ⟨of_decide_eq_true t.1, of_decide_eq_true t.2⟩
  · have := all_D a6 x hx
    have t : (decide (0 ≤ x) && decide (x ≤ 1000000000000000000)) = true := this
    rw [Bool.and_eq_true] at t
    exact ⟨of_decide_eq_true t.1, of_decide_eq_true t.2⟩
  · obtain ⟨y, hy, py⟩ := List.any_eq_true.mp a7
    obtain ⟨x, hx, rfl⟩ := List.mem_map.mp hy
    exact ⟨x, hx, of_decide_eq_true py⟩
theorem good_iff {T : Str} : goodR T = true ↔ (∀ w ∈ wordsT T, wareB w = true ∧ 1 ≤ valN (prtB w) ∧ valN (prtB w) ≤ 1000000000 ∧ valN (prtA w) ≤ 1000000000000000000) ∧ (wordsT T).length ≤ 6 ∧ ∃ w ∈ wordsT T, 0 < valN (prtA w) := by
  unfold goodR
  rw [Bool.and_eq_true, List.all_eq_true]
  constructor
  · rintro ⟨h1, h2⟩
    obtain ⟨a, b, c, d, x, hx, x0⟩ := day_of h2
    refine ⟨fun w hw => ⟨h1 w hw, ?_⟩, by simpa [dayOf] using b, ?_⟩
    · have c' := c _ (List.mem_map.mpr ⟨w, hw, rfl⟩)
      have d' := d _ (List.mem_map.mpr ⟨w, hw, rfl⟩)
      omega
    · obtain ⟨w, hw, rfl⟩ := List.mem_map.mp hx
      exact ⟨w, hw, by omega⟩
  · rintro ⟨h1, h2, w, hw, w0⟩
    refine ⟨fun w hw => (h1 w hw).1, ?_⟩
    have l1 : 1 ≤ (wordsT T).length := by
      cases e : wordsT T with
      | nil => rw [e] at hw; cases hw
      | cons a r => simp
    exact (good_day (n := (wordsT T).length) ⟨by simp [dayOf], by simp [dayOf], fun x hx => by obtain ⟨v, hv, rfl⟩ := List.mem_map.mp hx; have := h1 v hv; omega, fun x hx => by obtain ⟨v, hv, rfl⟩ := List.mem_map.mp hx; have := h1 v hv; omega, ⟨_, List.mem_map.mpr ⟨w, hw, rfl⟩, by omega⟩⟩ l1 h2).1
def numL (w : Str) (most : Int) : Option Int := if numB w = true ∧ ((valN w : Nat) : Int) ≤ most then some ((valN w : Nat) : Int) else none
def vO : Option Int → V
  | some x => .int x
  | none => .non
def sb_is_number (K : PySem.W.Frag) (a : V) (H : Hp) (Q : VK) (E : XK) : Prop := ∃ w, a = .str w ∧ ascT w ∧ ∀ H', Same H H' → Q (.bl (numB w)) H'
def sp_is_number (K : PySem.W.Frag) : Sp := sp1 (sb_is_number K)
def sb_check_text (K : PySem.W.Frag) (mg : Str → Option Value) (a : V) (H : Hp) (Q : VK) (E : XK) : Prop := ∃ b, a = .bl b ∧ (b = true → Q .non H) ∧ (b = false → E (.ref (clsA mg "NoText")) none H)
def sp_check_text (K : PySem.W.Frag) (mg : Str → Option Value) : Sp := sp1 (sb_check_text K mg)
def sb_read_ware (K : PySem.W.Frag) (mg : Str → Option Value) (a : V) (H : Hp) (Q : VK) (E : XK) : Prop := ∃ w, a = .str w ∧ ascT w ∧ (wareB w = true → ∀ t H', Same H H' → H' t = some (.tup [.int (valN (prtA w) : Nat), .int (valN (prtB w) : Nat)]) → Q (.ref t) H') ∧ (wareB w = false → ∀ H', Same H H' → E (.ref (clsA mg "NoText")) none H')
def sp_read_ware (K : PySem.W.Frag) (mg : Str → Option Value) : Sp := sp1 (sb_read_ware K mg)
def sb_read_day (K : PySem.W.Frag) (mg : Str → Option Value) (a : V) (H : Hp) (Q : VK) (E : XK) : Prop := ∃ T, a = .str T ∧ ascT T ∧ (goodR T = true → ∀ v H', Same H H' → Rep H' v (dayD (dayOf T)) → Q v H') ∧ (goodR T = false → ∀ H', Same H H' → E (.ref (clsA mg "NoText")) none H')
def sp_read_day (K : PySem.W.Frag) (mg : Str → Option Value) : Sp := sp1 (sb_read_day K mg)
def sb__law_number (K : PySem.W.Frag) (a b : V) (H : Hp) (Q : VK) (E : XK) : Prop := ∃ w most, a = .str w ∧ b = .int most ∧ ascT w ∧ Q (vO (numL w most)) H
def sp__law_number (K : PySem.W.Frag) : Sp := sp2 (sb__law_number K)
def sb__law_read (K : PySem.W.Frag) (a : V) (H : Hp) (Q : VK) (E : XK) : Prop := ∃ T, a = .str T ∧ ascT T ∧ (goodR T = true → ∀ v H', Same H H' → Rep H' v (dayD (dayOf T)) → Q v H') ∧ (goodR T = false → ∀ H', Same H H' → Q .non H')
def sp__law_read (K : PySem.W.Frag) : Sp := sp1 (sb__law_read K)
def sb__law_refused (K : PySem.W.Frag) (mg : Str → Option Value) (a : V) (H : Hp) (Q : VK) (E : XK) : Prop := ∃ T, a = .str T ∧ ascT T ∧ goodR T = false ∧ ∀ H', Same H H' → Q (.bl true) H'
def sp__law_refused (K : PySem.W.Frag) (mg : Str → Option Value) : Sp := sp1 (sb__law_refused K mg)
def WdOk (w : Str) : Prop := (∀ c ∈ w.cps.toList, c < 128) ∧ w.length ≤ 40
def sb__law_drawn (K : PySem.W.Frag) (a : V) (H : Hp) (Q : VK) (E : XK) : Prop := ∃ c : Int, a = .int c ∧ ∀ p ws H', Same H H' → H' p = some (.lst (List.map V.str ws)) → 1 ≤ ws.length → ws.length ≤ 6 → (∀ w ∈ ws, WdOk w) → Q (.ref p) H'
def sp__law_drawn (K : PySem.W.Frag) : Sp := sp1 (sb__law_drawn K)
def sb__law_signs (K : PySem.W.Frag) (a b : V) (H : Hp) (Q : VK) (E : XK) : Prop := ∃ (T : Str) (c : Int), a = .str T ∧ b = .int c ∧ (∀ c ∈ T.cps.toList, c < 128) ∧ T.length ≤ 400 ∧ ∀ T', ascT T' → Q (.str T') H
def sp__law_signs (K : PySem.W.Frag) : Sp := sp2 (sb__law_signs K)
def sb__law_words (K : PySem.W.Frag) (a b : V) (H : Hp) (Q : VK) (E : XK) : Prop := ∃ (p : Addr) (ws : List Str) (c : Int), a = .ref p ∧ b = .int c ∧ H p = some (.lst (List.map V.str ws)) ∧ 1 ≤ ws.length ∧ ws.length ≤ 6 ∧ (∀ w ∈ ws, WdOk w) ∧ ∀ T' H', Same H H' → ascT T' → Q (.str T') H'
def sp__law_words (K : PySem.W.Frag) : Sp := sp2 (sb__law_words K)
def sp_law (K : PySem.W.Frag) (mg : Str → Option Value) : Sp := sp1 (sb_top K)
def tb_is_number (K : PySem.W.Frag) : TS :=
  (tSeq (tIfS (tOr (tNot (tTest (tChain rLeU rLeU (tC (.int 1)) (tCB (rLenU K) (tCons (tVar 0) tNil)) (tC (.int 19))))) (tNot (tTru K (tCB (rAllU K) (tCons (tComp [none] (iStr (tVar 0)) (gName 0) tYes (tOp rInS (tVar 0) (tC (.str "0123456789")))) tNil))))) (tRet (tC (.bl false))) tNext)
    (tRet (tOrV (tOp (rEqU K) (tVar 0) (tC (.str "0"))) (tNotV (tBM K "str" rStarts (tVar 0) (tCons (tC (.str "0")) tNil))))))
def tb_check_text (K : PySem.W.Frag) (mg : Str → Option Value) (E : XK) : TS :=
  (tIfS (tNot (tTru K (tVar 0))) (tRaise E (.ref (clsA mg "NoText")) (tCons (tC (.str "this text is no day")) tNil)) tNext)
def tb_read_ware (K : PySem.W.Frag) (mg : Str → Option Value) (E : XK) : TS :=
  (tSeq (tAsg (tBM K "str" rSplit (tVar 0) (tCons (tC (.str "x")) tNil)) (gName 1))
    (tSeq (tDrop (tCall (sp_check_text K mg) [] E (tCons (tAndV (tOp (rEqU K) (tCB (rLenU K) (tCons (tVar 1) tNil)) (tC (.int 2))) (tCB (rAllU K) (tCons (tComp [none] (iSeq K (tVar 1)) (gName 0) tYes (tCall (sp_is_number K) [] E0 (tCons (tVar 0) tNil))) tNil))) tNil)))
    (tRet (tTup (tCons (tCB rIntS (tCons (tOp (rIx K) (tVar 1) (tC (.int 0))) tNil)) (tCons (tCB rIntS (tCons (tOp (rIx K) (tVar 1) (tC (.int 1))) tNil)) tNil))))))
def tb_read_day (K : PySem.W.Frag) (mg : Str → Option Value) (E : XK) : TS :=
  (tSeq (tAsg (tComp [none] (iSeq K (tBM K "str" rSplit (tVar 0) (tCons (tC (.str " ")) tNil))) (gName 0) tYes (tCall (sp_read_ware K mg) [] E (tCons (tVar 0) tNil))) (gName 1))
    (tSeq (tAsg (tTup (tCons (tCB (rTy_tuple K) (tCons (tComp [none] (iSeq K (tVar 1)) (gName 0) tYes (tOp (rIx K) (tVar 0) (tC (.int 1)))) tNil)) (tCons (tCB (rTy_tuple K) (tCons (tComp [none] (iSeq K (tVar 1)) (gName 0) tYes (tOp (rIx K) (tVar 0) (tC (.int 0)))) tNil)) tNil))) (gName 2))
    (tSeq (tDrop (tCall (sp_check_text K mg) [] E (tCons (tCall (sp_is_day K) [] E0 (tCons (tVar 2) tNil)) tNil)))
    (tRet (tVar 2)))))
def tb__law_number (K : PySem.W.Frag) : TS :=
  (tSeq (tIfS (tOr (tNot (tTest (tChain rLeU rLeU (tC (.int 1)) (tCB (rLenU K) (tCons (tVar 0) tNil)) (tC (.int 19))))) (tAnd (tTest (tOp rGtU (tCB (rLenU K) (tCons (tVar 0) tNil)) (tC (.int 1)))) (tTest (tOp (rEqU K) (tOp (rIx K) (tVar 0) (tC (.int 0))) (tC (.str "0")))))) (tRet (tC .non)) tNext)
    (tSeq (tFor (iStr (tVar 0)) (gName 2) (tIfS (tTest (tOp rNotInS (tVar 2) (tC (.str "0123456789")))) (tRet (tC .non)) tNext))
    (tSeq (tIfS (tTest (tOp rGtU (tCB rIntS (tCons (tVar 0) tNil)) (tVar 1))) (tRet (tC .non)) tNext)
    (tRet (tCB rIntS (tCons (tVar 0) tNil))))))
def tb__law_read (K : PySem.W.Frag) : TS :=
  (tSeq (tAsg (tLst tNil) (gName 1))
    (tSeq (tAsg (tLst tNil) (gName 2))
    (tSeq (tFor (iSeq K (tBM K "str" rSplit (tVar 0) (tCons (tC (.str " ")) tNil))) (gName 3) (tSeq (tAsg (tBM K "str" rSplit (tVar 3) (tCons (tC (.str "x")) tNil)) (gName 4))
    (tSeq (tIfS (tTest (tOp (rNeU K) (tCB (rLenU K) (tCons (tVar 4) tNil)) (tC (.int 2)))) (tRet (tC .non)) tNext)
    (tSeq (tDrop (tBM K "list" rAppend (tVar 1) (tCons (tCall (sp__law_number K) [] E0 (tCons (tOp (rIx K) (tVar 4) (tC (.int 1))) (tCons (tC (.int 1000000000)) tNil))) tNil)))
    (tDrop (tBM K "list" rAppend (tVar 2) (tCons (tCall (sp__law_number K) [] E0 (tCons (tOp (rIx K) (tVar 4) (tC (.int 0))) (tCons (tC (.int 1000000000000000000)) tNil))) tNil)))))))
    (tSeq (tIfS (tOr (tTest (tOp (rInU K) (tC .non) (tVar 1))) (tOr (tTest (tOp (rInU K) (tC .non) (tVar 2))) (tOr (tTest (tOp (rInU K) (tC (.int 0)) (tVar 1))) (tOr (tTest (tOp rGtU (tCB (rLenU K) (tCons (tVar 1) tNil)) (tC (.int 6)))) (tTest (tOp (rEqU K) (tCB (rSumU K) (tCons (tVar 2) tNil)) (tC (.int 0)))))))) (tRet (tC .non)) tNext)
    (tRet (tTup (tCons (tCB (rTy_tuple K) (tCons (tVar 1) tNil)) (tCons (tCB (rTy_tuple K) (tCons (tVar 2) tNil)) tNil))))))))
def tb__law_refused (K : PySem.W.Frag) (mg : Str → Option Value) : TS :=
  (tSeq (tAsg (tC (.bl false)) (gName 1))
    (tSeq (tTry0 K (clsA mg "NoText") (sp_read_day K mg) (tCons (tVar 0) tNil) (tAsg (tC (.bl true)) (gName 1)))
    (tSeq (tTryA K (clsA mg "TasteError") 2 (sp_read_day K mg) (tCons (tVar 0) tNil) (tSeq (tIfS (tTru K (tCB (rIsinstX K) (tCons (tVar 2) (tCons (tTup (tCons (tC (.ref (clsA mg "NoBook"))) (tCons (tC (.ref (clsA mg "NoDay"))) (tCons (tC (.ref (clsA mg "NoName"))) (tCons (tC (.ref (clsA mg "NoRow"))) (tCons (tC (.ref (clsA mg "NoTaste"))) (tCons (tC (.ref (clsA mg "Twice"))) tNil))))))) tNil)))) (tRet (tC (.bl false))) tNext)
    (tRet (tAndV (tVar 1) (tCB (rIsinstX K) (tCons (tVar 2) (tCons (tC (.ty "ValueError")) tNil)))))))
    (tRet (tC (.bl false))))))
def tb__law_drawn (K : PySem.W.Frag) : TS :=
  (tSeq (tAsg (tLst tNil) (gName 1))
    (tSeq (tFor (iRng1 (tCons (tOp (rAddU K) (tC (.int 1)) (tOp rModU (tVar 0) (tC (.int 6)))) tNil)) (gName 2) (tSeq (tAsg (tCall (sp__law_next K) [] E0 (tCons (tVar 0) tNil)) (gName 0))
    (tSeq (tAsg (tOp rDivU (tVar 0) (tC (.int 1000000000))) (gName 3))
    (tSeq (tAsg (tOp (rIx K) (tLst (tCons (tC (.int 1)) (tCons (tC (.int 1000000000)) (tCons (tOp (rAddU K) (tC (.int 1)) (tOp rModU (tVar 3) (tC (.int 1000000000)))) (tCons (tOp (rAddU K) (tC (.int 1)) (tOp rModU (tVar 3) (tC (.int 12)))) tNil))))) (tOp rModU (tOp rDivU (tVar 0) (tC (.int 100000000))) (tC (.int 4)))) (gName 4))
    (tSeq (tAsg (tOp (rIx K) (tLst (tCons (tC (.int 0)) (tCons (tC (.int 1000000000000000000)) (tCons (tOp rModU (tVar 3) (tOp (rAddU K) (tC (.int 1000000000000000000)) (tC (.int 1)))) (tCons (tOp rModU (tVar 3) (tC (.int 12))) tNil))))) (tOp rModU (tOp rDivU (tVar 0) (tC (.int 10000000))) (tC (.int 4)))) (gName 5))
    (tDrop (tBM K "list" rAppend (tVar 1) (tCons (tOp rAddS (tOp rAddS (tCB rStrI (tCons (tVar 5) tNil)) (tC (.str "x"))) (tCB rStrI (tCons (tVar 4) tNil))) tNil))))))))
    (tRet (tVar 1))))
def tb__law_signs (K : PySem.W.Frag) : TS :=
  (tSeq (tAsg (tC (.str " !\"#$&'()*+,-./0123456789:;<=>?@ABCDEFGHIJKLMNOPQRSTUVWXYZ[\\]^_`")) (gName 2))
    (tSeq (tAsg (tOp rAddS (tVar 2) (tC (.str "abcdefghijklmnopqrstuvwxyz{|}~"))) (gName 2))
    (tSeq (tAsg (tOp (rIx K) (tVar 2) (tOp rModU (tOp rDivU (tVar 1) (tC (.int 6))) (tC (.int 94)))) (gName 3))
    (tSeq (tIfS (tTest (tOp (rEqU K) (tOp rModU (tVar 1) (tC (.int 2))) (tC (.int 1)))) (tAsg (tOp (rIx K) (tC (.str " x01-+x 9X")) (tOp rModU (tOp rDivU (tVar 1) (tC (.int 6))) (tC (.int 10)))) (gName 3)) tNext)
    (tSeq (tAsg (tOp rModU (tOp rDivU (tVar 1) (tC (.int 1000))) (tOp (rAddU K) (tCB (rLenU K) (tCons (tVar 0) tNil)) (tC (.int 1)))) (gName 4))
    (tSeq (tIfS (tTest (tOp (rEqU K) (tOp rModU (tOp rDivU (tVar 1) (tC (.int 2))) (tC (.int 3))) (tC (.int 0)))) (tRet (tOp rAddS (tOp rAddS (tSl rSlS (tVar 0) tNoPart (tPart (tVar 4))) (tVar 3)) (tSl rSlS (tVar 0) (tPart (tVar 4)) tNoPart))) tNext)
    (tSeq (tIfS (tTest (tOp (rEqU K) (tOp rModU (tOp rDivU (tVar 1) (tC (.int 2))) (tC (.int 3))) (tC (.int 1)))) (tRet (tOp rAddS (tSl rSlS (tVar 0) tNoPart (tPart (tVar 4))) (tSl rSlS (tVar 0) (tPart (tOp (rAddU K) (tVar 4) (tC (.int 1)))) tNoPart))) tNext)
    (tRet (tOp rAddS (tOp rAddS (tSl rSlS (tVar 0) tNoPart (tPart (tVar 4))) (tVar 3)) (tSl rSlS (tVar 0) (tPart (tOp (rAddU K) (tVar 4) (tC (.int 1)))) tNoPart))))))))))
def tb__law_words (K : PySem.W.Frag) : TS :=
  (tSeq (tAsg (tOp rModU (tOp rDivU (tVar 1) (tC (.int 64))) (tCB (rLenU K) (tCons (tVar 0) tNil))) (gName 2))
    (tSeq (tAsg (tLst (tCons (tC (.str "")) (tCons (tC (.str "x")) (tCons (tC (.str "3x")) (tCons (tC (.str "x3")) (tCons (tC (.str "3")) (tCons (tC (.str "3x0")) (tCons (tC (.str "03x1")) (tCons (tC (.str "3x01")) (tCons (tC (.str "3x1x1")) (tCons (tC (.str "3X1")) (tCons (tC (.str "-3x1")) (tCons (tC (.str "3x-1")) (tCons (tC (.str "+3x1")) (tCons (tC (.str "3x1000000001")) tNil))))))))))))))) (gName 3))
    (tSeq (tAsg (tOp (rAddU K) (tVar 3) (tLst (tCons (tC (.str "1000000000000000001x1")) (tCons (tOp rAddS (tOp rMulS (tC (.str "1")) (tC (.int 30))) (tC (.str "x1"))) (tCons (tOp rAddS (tC (.str "1x")) (tOp rMulS (tC (.str "1")) (tC (.int 30)))) (tCons (tC (.str "3.0x1")) (tCons (tC (.str "axb")) (tCons (tC (.str "00x1")) (tCons (tC (.str "0x1")) tNil))))))))) (gName 3))
    (tSeq (tAsg (tOp (rAddU K) (tVar 3) (tLst (tCons (tC (.str "3x1 ")) (tCons (tC (.str " 3x1")) (tCons (tC (.str "9999999999999999999x1")) (tCons (tC (.str "1x1000000000")) tNil)))))) (gName 3))
    (tSeq (tIfS (tTest (tOp (rEqU K) (tOp rModU (tVar 1) (tC (.int 4))) (tC (.int 0)))) (tRet (tBM K "str" (rJoin K) (tC (.str " ")) (tCons (tOp (rAddU K) (tSl (rSlU K) (tVar 0) tNoPart (tPart (tVar 2))) (tSl (rSlU K) (tVar 0) (tPart (tOp (rAddU K) (tVar 2) (tC (.int 1)))) tNoPart)) tNil))) tNext)
    (tSeq (tIfS (tTest (tOp (rEqU K) (tOp rModU (tVar 1) (tC (.int 4))) (tC (.int 1)))) (tRet (tBM K "str" (rJoin K) (tC (.str " ")) (tCons (tOp (rAddU K) (tSl (rSlU K) (tVar 0) tNoPart (tPart (tOp (rAddU K) (tVar 2) (tC (.int 1))))) (tSl (rSlU K) (tVar 0) (tPart (tVar 2)) tNoPart)) tNil))) tNext)
    (tSeq (tIfS (tAnd (tTest (tOp (rEqU K) (tOp rModU (tVar 1) (tC (.int 4))) (tC (.int 2)))) (tTest (tOp (rEqU K) (tOp rModU (tOp rDivU (tVar 1) (tC (.int 4))) (tC (.int 4))) (tC (.int 0))))) (tRet (tBM K "str" (rJoin K) (tC (.str " ")) (tCons (tSl (rSlU K) (tOp (rMulU K) (tVar 0) (tC (.int 7))) tNoPart (tPart (tC (.int 7)))) tNil))) tNext)
    (tSeq (tAsg (tOp (rIx K) (tVar 3) (tOp rModU (tOp rDivU (tVar 1) (tC (.int 6400))) (tC (.int 25)))) (gName 4))
    (tRet (tBM K "str" (rJoin K) (tC (.str " ")) (tCons (tOp (rAddU K) (tOp (rAddU K) (tSl (rSlU K) (tVar 0) tNoPart (tPart (tVar 2))) (tLst (tCons (tVar 4) tNil))) (tSl (rSlU K) (tVar 0) (tPart (tOp (rAddU K) (tVar 2) (tC (.int 1)))) tNoPart)) tNil)))))))))))
def tb_law (K : PySem.W.Frag) (mg : Str → Option Value) : TS :=
  (tSeq (tAsg (tCall (sp__law_drawn K) [] E0 (tCons (tCall (sp__law_cell K) [] E0 (tCons (tVar 0) (tCons (tC (.int 0)) tNil))) tNil)) (gName 1))
    (tSeq (tFor (iRng2 (tCons (tC (.int 1)) (tCons (tCB rMax2 (tCons (tC (.int 2)) (tCons (tCB rMin2 (tCons (tC (.int 17)) (tCons (tCB (rLenU K) (tCons (tVar 0) tNil)) tNil))) tNil))) tNil))) (gName 2) (tSeq (tAsg (tCall (sp__law_cell K) [] E0 (tCons (tVar 0) (tCons (tVar 2) tNil))) (gName 3))
    (tSeq (tAsg (tCall (sp__law_words K) [] E0 (tCons (tVar 1) (tCons (tOp rDivU (tVar 3) (tC (.int 2))) tNil))) (gName 4))
    (tSeq (tIfS (tTest (tOp (rEqU K) (tOp rModU (tVar 3) (tC (.int 2))) (tC (.int 0)))) (tAsg (tCall (sp__law_signs K) [] E0 (tCons (tBM K "str" (rJoin K) (tC (.str " ")) (tCons (tVar 1) tNil)) (tCons (tOp rDivU (tVar 3) (tC (.int 2))) tNil))) (gName 4)) tNext)
    (tSeq (tAsg (tCall (sp__law_read K) [] E0 (tCons (tVar 4) tNil)) (gName 5))
    (tIfS (tTest (tOp rIsU (tVar 5) (tC .non))) (tIfS (tNot (tTru K (tCall (sp__law_refused K mg) [] E0 (tCons (tVar 4) tNil)))) (tRet (tC (.bl false))) tNext) (tIfS (tTest (tOp (rNeU K) (tCall (sp_read_day K mg) [] E0 (tCons (tVar 4) tNil)) (tVar 5))) (tRet (tC (.bl false))) tNext)))))))
    (tRet (tC (.bl true)))))
def top (i : Nat) : Stmt := PySem.Challenge.pw_tastesbook_k84_no_day_text.main.body.getD i (.Pass ⟨0, 0, 0, 0⟩)
structure Md (K : PySem.W.Frag) (mg : Str → Option Value) : Prop where
  b_ValueError : mg "ValueError" = none
  b_all : mg "all" = none
  b_any : mg "any" = none
  b_bool : mg "bool" = none
  b_int : mg "int" = none
  b_isinstance : mg "isinstance" = none
  b_len : mg "len" = none
  b_max : mg "max" = none
  b_min : mg "min" = none
  b_range : mg "range" = none
  b_str : mg "str" = none
  b_sum : mg "sum" = none
  b_tuple : mg "tuple" = none
  c_FIGURES : ∃ t, mg "FIGURES" = some (.str "0123456789" t)
  c_HIGHEST_AMOUNT : ∃ t, mg "HIGHEST_AMOUNT" = some (.int 1000000000000000000 t)
  c_HIGHEST_PRICE : ∃ t, mg "HIGHEST_PRICE" = some (.int 1000000000 t)
  c_MOST_FIGURES : ∃ t, mg "MOST_FIGURES" = some (.int 19 t)
  c_MOST_WARES : ∃ t, mg "MOST_WARES" = some (.int 6 t)
  x_NoBook : ExC K mg "NoBook" (clsA mg "NoBook")
  x_NoDay : ExC K mg "NoDay" (clsA mg "NoDay")
  x_NoName : ExC K mg "NoName" (clsA mg "NoName")
  x_NoRow : ExC K mg "NoRow" (clsA mg "NoRow")
  x_NoTaste : ExC K mg "NoTaste" (clsA mg "NoTaste")
  x_NoText : ExC K mg "NoText" (clsA mg "NoText")
  x_TasteError : ExC K mg "TasteError" (clsA mg "TasteError")
  x_Twice : ExC K mg "Twice" (clsA mg "Twice")
  s_NoBook_NoBook : PySem.W.mroIn K (clsA mg "NoBook") (.ref (clsA mg "NoBook")) = some true
  s_NoBook_TasteError : PySem.W.mroIn K (clsA mg "NoBook") (.ref (clsA mg "TasteError")) = some true
  s_NoDay_NoDay : PySem.W.mroIn K (clsA mg "NoDay") (.ref (clsA mg "NoDay")) = some true
  s_NoDay_TasteError : PySem.W.mroIn K (clsA mg "NoDay") (.ref (clsA mg "TasteError")) = some true
  s_NoName_NoName : PySem.W.mroIn K (clsA mg "NoName") (.ref (clsA mg "NoName")) = some true
  s_NoName_TasteError : PySem.W.mroIn K (clsA mg "NoName") (.ref (clsA mg "TasteError")) = some true
  s_NoRow_NoRow : PySem.W.mroIn K (clsA mg "NoRow") (.ref (clsA mg "NoRow")) = some true
  s_NoRow_TasteError : PySem.W.mroIn K (clsA mg "NoRow") (.ref (clsA mg "TasteError")) = some true
  s_NoTaste_NoTaste : PySem.W.mroIn K (clsA mg "NoTaste") (.ref (clsA mg "NoTaste")) = some true
  s_NoTaste_TasteError : PySem.W.mroIn K (clsA mg "NoTaste") (.ref (clsA mg "TasteError")) = some true
  s_NoText_NoText : PySem.W.mroIn K (clsA mg "NoText") (.ref (clsA mg "NoText")) = some true
  s_NoText_TasteError : PySem.W.mroIn K (clsA mg "NoText") (.ref (clsA mg "TasteError")) = some true
  s_TasteError_TasteError : PySem.W.mroIn K (clsA mg "TasteError") (.ref (clsA mg "TasteError")) = some true
  s_Twice_Twice : PySem.W.mroIn K (clsA mg "Twice") (.ref (clsA mg "Twice")) = some true
  s_Twice_TasteError : PySem.W.mroIn K (clsA mg "Twice") (.ref (clsA mg "TasteError")) = some true
  v_NoBook : PySem.W.kitOne K (.ref (clsA mg "NoBook")) (.type "ValueError") = some true
  v_NoDay : PySem.W.kitOne K (.ref (clsA mg "NoDay")) (.type "ValueError") = some true
  v_NoName : PySem.W.kitOne K (.ref (clsA mg "NoName")) (.type "ValueError") = some true
  v_NoRow : PySem.W.kitOne K (.ref (clsA mg "NoRow")) (.type "ValueError") = some true
  v_NoTaste : PySem.W.kitOne K (.ref (clsA mg "NoTaste")) (.type "ValueError") = some true
  v_NoText : PySem.W.kitOne K (.ref (clsA mg "NoText")) (.type "ValueError") = some true
  v_TasteError : PySem.W.kitOne K (.ref (clsA mg "TasteError")) (.type "ValueError") = some true
  v_Twice : PySem.W.kitOne K (.ref (clsA mg "Twice")) (.type "ValueError") = some true
  f_NoText : ExF K (clsA mg "NoText")
  j_NoText_0 : PySem.W.kitAny K (.ref (clsA mg "NoText")) [.ref (clsA mg "NoBook"), .ref (clsA mg "NoDay"), .ref (clsA mg "NoName"), .ref (clsA mg "NoRow"), .ref (clsA mg "NoTaste"), .ref (clsA mg "Twice")] = some false
theorem md_mk {K : PySem.W.Frag} {mg : Str → Option Value} {h : Heap} {c_NoBook c_NoDay c_NoName c_NoRow c_NoTaste c_NoText c_TasteError c_Twice : Addr} {t_FIGURES t_HIGHEST_AMOUNT t_HIGHEST_PRICE t_MOST_FIGURES t_MOST_WARES : Tok} (X : K.In h) (G : h.Ns mainGlobals mg) (n_NoBook : PySem.W.nsIn K mainGlobals "NoBook" = some (some (.ref c_NoBook))) (n_NoDay : PySem.W.nsIn K mainGlobals "NoDay" = some (some (.ref c_NoDay))) (n_NoName : PySem.W.nsIn K mainGlobals "NoName" = some (some (.ref c_NoName))) (n_NoRow : PySem.W.nsIn K mainGlobals "NoRow" = some (some (.ref c_NoRow))) (n_NoTaste : PySem.W.nsIn K mainGlobals "NoTaste" = some (some (.ref c_NoTaste))) (n_NoText : PySem.W.nsIn K mainGlobals "NoText" = some (some (.ref c_NoText))) (n_TasteError : PySem.W.nsIn K mainGlobals "TasteError" = some (some (.ref c_TasteError))) (n_Twice : PySem.W.nsIn K mainGlobals "Twice" = some (some (.ref c_Twice))) (q_NoBook : PySem.W.excIn K c_NoBook bmV "ValueError.__new__" = true) (q_NoDay : PySem.W.excIn K c_NoDay bmV "ValueError.__new__" = true) (q_NoName : PySem.W.excIn K c_NoName bmV "ValueError.__new__" = true) (q_NoRow : PySem.W.excIn K c_NoRow bmV "ValueError.__new__" = true) (q_NoTaste : PySem.W.excIn K c_NoTaste bmV "ValueError.__new__" = true) (q_NoText : PySem.W.excIn K c_NoText bmV "ValueError.__new__" = true) (q_TasteError : PySem.W.excIn K c_TasteError bmV "ValueError.__new__" = true) (q_Twice : PySem.W.excIn K c_Twice bmV "ValueError.__new__" = true) (s_NoBook_NoBook : PySem.W.mroIn K c_NoBook (.ref c_NoBook) = some true) (s_NoBook_TasteError : PySem.W.mroIn K c_NoBook (.ref c_TasteError) = some true) (s_NoDay_NoDay : PySem.W.mroIn K c_NoDay (.ref c_NoDay) = some true) (s_NoDay_TasteError : PySem.W.mroIn K c_NoDay (.ref c_TasteError) = some true) (s_NoName_NoName : PySem.W.mroIn K c_NoName (.ref c_NoName) = some true) (s_NoName_TasteError : PySem.W.mroIn K c_NoName (.ref c_TasteError) = some true) (s_NoRow_NoRow : PySem.W.mroIn K c_NoRow (.ref c_NoRow) = some true) (s_NoRow_TasteError : PySem.W.mroIn K c_NoRow (.ref c_TasteError) = some true) (s_NoTaste_NoTaste : PySem.W.mroIn K c_NoTaste (.ref c_NoTaste) = some true) (s_NoTaste_TasteError : PySem.W.mroIn K c_NoTaste (.ref c_TasteError) = some true) (s_NoText_NoText : PySem.W.mroIn K c_NoText (.ref c_NoText) = some true) (s_NoText_TasteError : PySem.W.mroIn K c_NoText (.ref c_TasteError) = some true) (s_TasteError_TasteError : PySem.W.mroIn K c_TasteError (.ref c_TasteError) = some true) (s_Twice_Twice : PySem.W.mroIn K c_Twice (.ref c_Twice) = some true) (s_Twice_TasteError : PySem.W.mroIn K c_Twice (.ref c_TasteError) = some true) (v_NoBook : PySem.W.kitOne K (.ref c_NoBook) (.type "ValueError") = some true) (v_NoDay : PySem.W.kitOne K (.ref c_NoDay) (.type "ValueError") = some true) (v_NoName : PySem.W.kitOne K (.ref c_NoName) (.type "ValueError") = some true) (v_NoRow : PySem.W.kitOne K (.ref c_NoRow) (.type "ValueError") = some true) (v_NoTaste : PySem.W.kitOne K (.ref c_NoTaste) (.type "ValueError") = some true) (v_NoText : PySem.W.kitOne K (.ref c_NoText) (.type "ValueError") = some true) (v_TasteError : PySem.W.kitOne K (.ref c_TasteError) (.type "ValueError") = some true) (v_Twice : PySem.W.kitOne K (.ref c_Twice) (.type "ValueError") = some true) (ga_NoText : PySem.W.findIn K (.ref c_NoText) "__getattribute__" = some (some (.builtin "BaseException.__getattribute__"))) (gn_NoText : PySem.W.findIn K (.ref c_NoText) "__getattr__" = some none) (be_NoText : PySem.W.mroIn K c_NoText (.type "BaseException") = some true) (at_NoText : PySem.W.findIn K (.ref c_NoText) "__class__" = some (some (.builtin "object.__class__"))) (gt_NoText : PySem.W.specialIn K (.builtin "object.__class__") "__get__" = some (some (.builtin "getset_descriptor.__get__"))) (tk_NoText : PySem.W.takesIn K (.builtin "object.__class__") = some true) (ob_NoText : PySem.W.mroIn K c_NoText (.type "object") = some true) (cl_NoText : PySem.W.isClsIn K c_NoText = true) (j_NoText_0 : PySem.W.kitAny K (.ref c_NoText) [.ref c_NoBook, .ref c_NoDay, .ref c_NoName, .ref c_NoRow, .ref c_NoTaste, .ref c_Twice] = some false) (z_ValueError : PySem.W.nsIn K mainGlobals "ValueError" = some none) (z_all : PySem.W.nsIn K mainGlobals "all" = some none) (z_any : PySem.W.nsIn K mainGlobals "any" = some none) (z_bool : PySem.W.nsIn K mainGlobals "bool" = some none) (z_int : PySem.W.nsIn K mainGlobals "int" = some none) (z_isinstance : PySem.W.nsIn K mainGlobals "isinstance" = some none) (z_len : PySem.W.nsIn K mainGlobals "len" = some none) (z_max : PySem.W.nsIn K mainGlobals "max" = some none) (z_min : PySem.W.nsIn K mainGlobals "min" = some none) (z_range : PySem.W.nsIn K mainGlobals "range" = some none) (z_str : PySem.W.nsIn K mainGlobals "str" = some none) (z_sum : PySem.W.nsIn K mainGlobals "sum" = some none) (z_tuple : PySem.W.nsIn K mainGlobals "tuple" = some none) (y_FIGURES : PySem.W.nsIn K mainGlobals "FIGURES" = some (some (.str "0123456789" t_FIGURES))) (y_HIGHEST_AMOUNT : PySem.W.nsIn K mainGlobals "HIGHEST_AMOUNT" = some (some (.int 1000000000000000000 t_HIGHEST_AMOUNT))) (y_HIGHEST_PRICE : PySem.W.nsIn K mainGlobals "HIGHEST_PRICE" = some (some (.int 1000000000 t_HIGHEST_PRICE))) (y_MOST_FIGURES : PySem.W.nsIn K mainGlobals "MOST_FIGURES" = some (some (.int 19 t_MOST_FIGURES))) (y_MOST_WARES : PySem.W.nsIn K mainGlobals "MOST_WARES" = some (some (.int 6 t_MOST_WARES))) : Md K mg := by
  have e_NoBook : clsA mg "NoBook" = c_NoBook := by unfold clsA; rw [PySem.W.mg_of X G n_NoBook]
  have e_NoDay : clsA mg "NoDay" = c_NoDay := by unfold clsA; rw [PySem.W.mg_of X G n_NoDay]
  have e_NoName : clsA mg "NoName" = c_NoName := by unfold clsA; rw [PySem.W.mg_of X G n_NoName]
  have e_NoRow : clsA mg "NoRow" = c_NoRow := by unfold clsA; rw [PySem.W.mg_of X G n_NoRow]
  have e_NoTaste : clsA mg "NoTaste" = c_NoTaste := by unfold clsA; rw [PySem.W.mg_of X G n_NoTaste]
  have e_NoText : clsA mg "NoText" = c_NoText := by unfold clsA; rw [PySem.W.mg_of X G n_NoText]
  have e_TasteError : clsA mg "TasteError" = c_TasteError := by unfold clsA; rw [PySem.W.mg_of X G n_TasteError]
  have e_Twice : clsA mg "Twice" = c_Twice := by unfold clsA; rw [PySem.W.mg_of X G n_Twice]
  exact ⟨PySem.W.mg_none_of X G z_ValueError, PySem.W.mg_none_of X G z_all, PySem.W.mg_none_of X G z_any, PySem.W.mg_none_of X G z_bool, PySem.W.mg_none_of X G z_int, PySem.W.mg_none_of X G z_isinstance, PySem.W.mg_none_of X G z_len, PySem.W.mg_none_of X G z_max, PySem.W.mg_none_of X G z_min, PySem.W.mg_none_of X G z_range, PySem.W.mg_none_of X G z_str, PySem.W.mg_none_of X G z_sum, PySem.W.mg_none_of X G z_tuple, ⟨_, PySem.W.mg_of X G y_FIGURES⟩, ⟨_, PySem.W.mg_of X G y_HIGHEST_AMOUNT⟩, ⟨_, PySem.W.mg_of X G y_HIGHEST_PRICE⟩, ⟨_, PySem.W.mg_of X G y_MOST_FIGURES⟩, ⟨_, PySem.W.mg_of X G y_MOST_WARES⟩, e_NoBook ▸ ⟨PySem.W.mg_of X G n_NoBook, q_NoBook⟩, e_NoDay ▸ ⟨PySem.W.mg_of X G n_NoDay, q_NoDay⟩, e_NoName ▸ ⟨PySem.W.mg_of X G n_NoName, q_NoName⟩, e_NoRow ▸ ⟨PySem.W.mg_of X G n_NoRow, q_NoRow⟩, e_NoTaste ▸ ⟨PySem.W.mg_of X G n_NoTaste, q_NoTaste⟩, e_NoText ▸ ⟨PySem.W.mg_of X G n_NoText, q_NoText⟩, e_TasteError ▸ ⟨PySem.W.mg_of X G n_TasteError, q_TasteError⟩, e_Twice ▸ ⟨PySem.W.mg_of X G n_Twice, q_Twice⟩, by rw [e_NoBook]; exact s_NoBook_NoBook, by rw [e_NoBook, e_TasteError]; exact s_NoBook_TasteError, by rw [e_NoDay]; exact s_NoDay_NoDay, by rw [e_NoDay, e_TasteError]; exact s_NoDay_TasteError, by rw [e_NoName]; exact s_NoName_NoName, by rw [e_NoName, e_TasteError]; exact s_NoName_TasteError, by rw [e_NoRow]; exact s_NoRow_NoRow, by rw [e_NoRow, e_TasteError]; exact s_NoRow_TasteError, by rw [e_NoTaste]; exact s_NoTaste_NoTaste, by rw [e_NoTaste, e_TasteError]; exact s_NoTaste_TasteError, by rw [e_NoText]; exact s_NoText_NoText, by rw [e_NoText, e_TasteError]; exact s_NoText_TasteError, by rw [e_TasteError]; exact s_TasteError_TasteError, by rw [e_Twice]; exact s_Twice_Twice, by rw [e_Twice, e_TasteError]; exact s_Twice_TasteError, by rw [e_NoBook]; exact v_NoBook, by rw [e_NoDay]; exact v_NoDay, by rw [e_NoName]; exact v_NoName, by rw [e_NoRow]; exact v_NoRow, by rw [e_NoTaste]; exact v_NoTaste, by rw [e_NoText]; exact v_NoText, by rw [e_TasteError]; exact v_TasteError, by rw [e_Twice]; exact v_Twice, by rw [e_NoText]; exact ⟨ga_NoText, gn_NoText, be_NoText, at_NoText, gt_NoText, tk_NoText, ob_NoText, cl_NoText⟩, by rw [e_NoText, e_NoBook, e_NoDay, e_NoName, e_NoRow, e_NoTaste, e_Twice]; exact j_NoText_0⟩
theorem x_sg : ("x" : Str) = sg 120 := by decide +kernel
theorem b_sg : (" " : Str) = sg 32 := by decide +kernel
theorem ten19 : (10 : Nat) ^ 19 = 10000000000000000000 := by decide
theorem log_ok {m : Nat} (h : m < 10 ^ 19) : (m : Int).natAbs.log2 < 1920 := by
  rw [Int.natAbs_natCast]
  rcases Nat.eq_zero_or_pos m with z | z
  · subst z; decide
  · exact (Nat.log2_lt (by omega)).mpr (Nat.lt_of_lt_of_le h (by decide +kernel))
theorem w_lenStr {K : PySem.W.Frag} {H : Hp} {Q : VK} {z : Str} (hz : z.length ≤ 1000) (q : Q (.int (z.length : Nat)) H) : rLenU K [.str z] H Q := ⟨.str z, z.length, rfl, ⟨Nat.le_trans hz (by decide), rfl⟩, q⟩
theorem word_len {p b : Nat} (hp : p < 10 ^ 19) (hb : b < 10 ^ 19) : (wordS (p : Nat) (b : Nat)).length ≤ 39 := by
  have l1 := (dec_len (k := 19) (by decide) hp).2
  have l2 := (dec_len (k := 19) (by decide) hb).2
  unfold wordS
  rw [PySem.Str.length_append, PySem.Str.length_append]
  have : (sg 120).length = 1 := rfl
  omega
theorem nat_of {x : Int} (h : 0 ≤ x) : ∃ m : Nat, x = (m : Nat) := ⟨x.toNat, by omega⟩
theorem four_at (x y z w k : Int) : ∃ v : Int, (v = x ∨ v = y ∨ v = z ∨ v = w) ∧ atI [V.int x, .int y, .int z, .int w] (k % 4) = some (.int v) := by
  have r0 := Int.emod_nonneg k (show (4 : Int) ≠ 0 by decide)
  have r1 := Int.emod_lt_of_pos k (show (0 : Int) < 4 by decide)
  generalize k % 4 = k at r0 r1 ⊢
  rcases (by omega : k = 0 ∨ k = 1 ∨ k = 2 ∨ k = 3) with rfl | rfl | rfl | rfl
  · exact ⟨x, .inl rfl, rfl⟩
  · exact ⟨y, .inr (.inl rfl), rfl⟩
  · exact ⟨z, .inr (.inr (.inl rfl)), rfl⟩
  · exact ⟨w, .inr (.inr (.inr rfl)), rfl⟩
theorem rd_is_number {K : PySem.W.Frag} {a : V} {H : Hp} {Q : VK} {E : XK} (h : sb_is_number K a H Q E) : tb_is_number K (Rt Q) [some a] H := by
  obtain ⟨w, rfl, asc, q⟩ := h
  have l9 := asc.len
  have bad : ∀ H', Same H H' → (¬ (1 ≤ w.length ∧ w.length ≤ 19) ∨ digB w = false) → Q (.bl false) H' := fun H' s z => by
    have : numB w = false := by
      cases e : numB w with
      | false => rfl
      | true =>
        obtain ⟨a, b, c, _⟩ := num_parts e
        rcases z with z | z
        · exact absurd ⟨a, b⟩ z
        · rw [c] at z; cases z
    rw [← this]
    exact q H' s
  unfold tb_is_number
  refine w_seq (w_ifS (w_or (w_not (w_test (w_chain (w_c (w_cb (w_cons (w_var rfl (w_nil (w_lenStr l9 (w_leI (w_bl (iteD (fun h1 => w_c (w_leI (w_bl ?_))) fun h1 => ⟨false, rfl, iteT (iteT (w_ret (w_c (bad _ (Same.refl _) (.inl (by omega))))))⟩))))))))))))))
  refine iteB (fun z => ?_) fun z => ?_
  · have h2 : ¬ w.length ≤ 19 := fun q => by
      rw [decide_eq_true (show ((w.length : Nat) : Int) ≤ 19 by omega)] at z; cases z
    exact w_ret (w_c (bad _ (Same.refl _) (.inl (by omega))))
  have h2 : w.length ≤ 19 := by
    cases e : decide (((w.length : Nat) : Int) ≤ 19) with
    | true => have := of_decide_eq_true e; omega
    | false => rw [e] at z; cases z
  have h1' : 1 ≤ w.length := by omega
  refine w_not (w_tru (w_cb (w_cons (w_comp (w_istr (w_var rfl ⟨w, rfl, asc_iff.mpr asc.1, fun D hD => ?_⟩))))))
  refine comp_seq D (w.cps.toList.map fun c => V.str ⟨#[c]⟩) (fun i ys σ2 H2 => ys = ((w.cps.toList.take i).map fun c => decide (48 ≤ c) && decide (c ≤ 57)).map V.bl ∧ Same H H2 ∧ ∃ r0, σ2 = [r0]) (by rw [List.length_map, len_list]; omega) (fun i ys σ H2 h => by rw [h.1, List.length_map, List.length_map, List.length_take]; omega) (fun i ys σ H2 _ _ => its_of _ H2 i) ⟨rfl, Same.laid hD, _, rfl⟩ ?_ ?_
  · rintro i x ys σ2 H2 hx ⟨rfl, s2, r0, rfl⟩ hH
    rw [List.getElem?_map] at hx
    obtain ⟨c, hc, rfl⟩ := Option.map_eq_some_iff.mp hx
    have dg := asc.1 c (List.mem_of_getElem? hc)
    refine w_name (w_yes (iteT (w_op (w_var rfl (w_c ⟨_, _, rfl, rfl, ?_⟩)))))
    rw [fig_all c dg]
    refine ⟨hH, ?_, s2.put hD, _, rfl⟩
    rw [List.take_add_one, hc, Option.toList_some, List.map_append, List.map_append]; rfl
  · rintro ys σ2 H2 ⟨rfl, s2, _⟩ hH
    rw [List.length_map, List.take_length] at hH
    refine w_nil (w_allA (.inl (SqL.of hH)) ?_)
    have ed : (w.cps.toList.map fun c => decide (48 ≤ c) && decide (c ≤ 57)).all id = digB w := by
      unfold digB
      rw [List.all_map]; rfl
    rw [ed]
    refine w_trub (iteB (fun z => ?_) fun z => w_next ?_)
    · exact w_ret (w_c (bad _ s2 (.inr (by simpa using z))))
    have h3 : digB w = true := by simpa using z
    try dsimp only
    have qn := q H2 s2
    unfold numB at qn
    rw [decide_eq_true h1', decide_eq_true h2, h3, Bool.true_and, Bool.true_and, Bool.true_and] at qn
    refine w_ret (w_orV (w_op (w_var rfl (w_c (w_eqS ⟨_, rfl, iteD (fun e => ?_) fun ne => ?_⟩)))))
    · rw [decide_eq_true e, Bool.true_or] at qn
      exact qn
    · rw [decide_eq_false ne, Bool.false_or] at qn
      exact w_notV (w_bm (w_var rfl ⟨rfl, w_cons (w_c (w_nil ⟨_, _, rfl, rfl, _, rfl, qn⟩))⟩))
theorem rd_check_text {K : PySem.W.Frag} {mg : Str → Option Value} (M : Md K mg) {a : V} {H : Hp} {Q : VK} {E : XK} (h : sb_check_text K mg a H Q E) : tb_check_text K mg E (Rt Q) [some a] H := by
  obtain ⟨b, rfl, q1, q2⟩ := h
  unfold tb_check_text
  cases b with
  | true => exact w_ifS (w_not (w_tru (w_var rfl (w_trub (iteF (w_next (q1 rfl)))))))
  | false => exact w_ifS (w_not (w_tru (w_var rfl (w_trub (iteT (w_raise (w_cons (w_c (w_nil ⟨by show 1 ≤ sizeLine; decide, q2 rfl⟩)))))))))
theorem rd_read_ware {K : PySem.W.Frag} {mg : Str → Option Value} (M : Md K mg) {a : V} {H : Hp} {Q : VK} {E : XK} (h : sb_read_ware K mg a H Q E) : tb_read_ware K mg E (Rt Q) [some a, none] H := by
  obtain ⟨w, rfl, asc, q1, q2⟩ := h
  have sa := split_asc (c := 120) asc
  unfold tb_read_ware
  refine w_seq (w_asg (w_bm (w_var rfl ⟨rfl, w_cons (w_c (w_nil ⟨w, 120, rfl, by rw [x_sg]; rfl, asc.len, fun L hL => w_name ?_⟩))⟩)))
  have s1 := Same.laid (o := .lst ((Txt.split w ⟨#[120]⟩).map V.str)) hL
  have e1 := upd_same (H := H) (a := L) (o := .lst ((Txt.split w ⟨#[120]⟩).map V.str))
  generalize upd H L _ = H1 at s1 e1 ⊢
  replace e1 : H1 L = some (.lst ((Txt.split w (sg 120)).map V.str)) := e1
  try dsimp only
  refine w_seq (w_drop (w_call (w_cons (w_andV (w_op (w_cb (w_cons (w_var rfl (w_nil (w_lenL (SqL.of e1) (w_c (w_eqI ⟨_, rfl, iteD (fun two => ?_) fun two => ?_⟩))))))))))))
  · have tw : twoB w = true := decide_eq_true (by rw [List.length_map] at two; omega)
    rw [two_split tw] at e1 sa
    replace e1 : H1 L = some (.lst [.str (prtA w), .str (prtB w)]) := e1
    have aA := sa _ (List.mem_cons_self ..)
    have aB := sa (prtB w) (by simp)
    refine w_cb (w_cons (w_comp (w_seq0 (w_var rfl ⟨L, rfl, .inl ⟨⟨_, SqL.of e1⟩, fun D hD => ?_⟩⟩))))
    refine comp_seqP (K := K) (a := L) (xs := [.str (prtA w), .str (prtB w)]) (σr := []) (.inr ⟨rfl, e1⟩) D (fun i v _ => v = .bl ([numB (prtA w), numB (prtB w)].getD i true)) (fun _ _ _ _ _ z => z) (by show 2 ≤ 1000; decide) hD ⟨none, rfl⟩ (fun j x H2 R hx s2 kk => ?_) fun ys H2 hy hall s2 h2 => ?_
    · match j, hx with
      | 0, hx =>
        have : x = .str (prtA w) := by simpa using hx.symm
        subst this
        exact w_call (w_cons (w_var rfl (w_nil ⟨_, rfl, _, rfl, aA, fun H' s' => kk _ _ s' rfl⟩)))
      | 1, hx =>
        have : x = .str (prtB w) := by simpa using hx.symm
        subst this
        exact w_call (w_cons (w_var rfl (w_nil ⟨_, rfl, _, rfl, aB, fun H' s' => kk _ _ s' rfl⟩)))
      | j + 2, hx => cases hx
    · have ey : ys = [numB (prtA w), numB (prtB w)].map V.bl := by
        match ys, hy with
        | [y1, y2], _ => rw [hall 0 y1 rfl, hall 1 y2 rfl]; rfl
      rw [ey] at h2
      have e2 := s2 _ _ e1
      have eb : [numB (prtA w), numB (prtB w)].all id = wareB w := by
        unfold wareB
        rw [tw]
        simp
      refine w_nil (w_allA (.inl (SqL.of h2)) (w_nil ?_))
      rw [eb]
      refine ⟨_, rfl, _, rfl, fun good => ?_, fun bad => q2 bad _ (s1.trans s2)⟩
      have pr := good
      unfold wareB at pr
      rw [Bool.and_eq_true, Bool.and_eq_true] at pr
      obtain ⟨a1, a2, a3, _⟩ := num_parts pr.2.1
      obtain ⟨b1, b2, b3, _⟩ := num_parts pr.2.2
      try dsimp only
      exact w_ret (w_tup (w_cons (w_cb (w_cons (w_op (w_var rfl (w_c (w_ixL (v := .str (prtA w)) (SqL.of e2) rfl (w_nil ⟨_, _, rfl, int_dig a1 a2 a3, by omega, w_cons (w_cb (w_cons (w_op (w_var rfl (w_c (w_ixL (v := .str (prtB w)) (SqL.of e2) rfl (w_nil ⟨_, _, rfl, int_dig b1 b2 b3, by omega, w_nil ⟨by show 2 ≤ sizeLine; decide, fun t ht => q1 good t _ ((s1.trans s2).laidT ht) upd_same⟩⟩)))))))⟩)))))))))
  · have tw : twoB w = false := decide_eq_false (fun z => two (by rw [List.length_map, z]; rfl))
    have wf : wareB w = false := by unfold wareB; rw [tw]; rfl
    exact w_nil ⟨_, rfl, false, rfl, (fun z => by cases z), (fun _ => q2 wf _ s1)⟩
theorem words_map {f : Str → Int} {ws : List Str} {ys : List V} (hl : ys.length = ws.length) (h : ∀ (i : Nat) v, ys[i]? = some v → ∃ w, ws[i]? = some w ∧ v = .int (f w)) : ys = (ws.map f).map V.int := by
  apply List.ext_getElem?
  intro i
  cases e : ys[i]? with
  | none =>
    have := List.getElem?_eq_none_iff.mp e
    rw [List.getElem?_eq_none (by rw [List.length_map, List.length_map]; omega)]
  | some v =>
    obtain ⟨w, hw, rfl⟩ := h i v e
    rw [List.getElem?_map, List.getElem?_map, hw]; rfl
theorem rd_read_day {K : PySem.W.Frag} {mg : Str → Option Value} (M : Md K mg) {a : V} {H : Hp} {Q : VK} {E : XK} (h : sb_read_day K mg a H Q E) : tb_read_day K mg E (Rt Q) [some a, none, none] H := by
  obtain ⟨T, rfl, asc, q1, q2⟩ := h
  have sa := split_asc (c := 32) asc
  have sn := split_count (c := 32) asc
  have q2' : ¬ goodR T = true → ∀ H', Same H H' → E (.ref (clsA mg "NoText")) none H' := fun z => q2 (by simpa using z)
  unfold tb_read_day
  refine w_seq (w_asg (w_comp (w_seq0 (w_bm (w_var rfl ⟨rfl, w_cons (w_c (w_nil ⟨T, 32, rfl, by rw [b_sg]; rfl, asc.len, fun L hL => ⟨L, rfl, .inl ⟨⟨_, SqL.of upd_same⟩, fun D hD => ?_⟩⟩⟩))⟩)))))
  have s1 := Same.laid (o := .lst ((Txt.split T ⟨#[32]⟩).map V.str)) hL
  have e1 := upd_same (H := H) (a := L) (o := .lst ((Txt.split T ⟨#[32]⟩).map V.str))
  generalize upd H L _ = H1 at s1 e1 hD ⊢
  replace e1 : H1 L = some (.lst ((wordsT T).map V.str)) := e1
  replace sn : (wordsT T).length ≤ 901 := sn
  refine comp_seqP (K := K) (a := L) (xs := (wordsT T).map V.str) (σr := []) (.inr ⟨rfl, e1⟩) D (fun i v H => ∃ t w, v = .ref t ∧ (wordsT T)[i]? = some w ∧ wareB w = true ∧ H t = some (.tup [.int (valN (prtA w) : Nat), .int (valN (prtB w) : Nat)])) (fun _ _ _ _ tu z => by obtain ⟨t, w, a, b, c, d⟩ := z; exact ⟨t, w, a, b, c, tu _ _ d⟩) (by rw [List.length_map]; omega) hD ⟨none, rfl⟩ (fun j x H2 R hx s2 kk => ?_) fun ys H2 hy hall s2 h2 => w_name ?_
  · rw [List.getElem?_map] at hx
    obtain ⟨w, hw, rfl⟩ := Option.map_eq_some_iff.mp hx
    have mw := List.mem_of_getElem? hw
    refine w_call (w_cons (w_var rfl (w_nil ⟨_, rfl, w, rfl, sa w mw, fun good t H' s' ht => kk _ _ s' ⟨t, w, rfl, hw, good, ht⟩, fun bad H' s' => q2' (fun g => ?_) _ ((s1.trans s2).trans s')⟩)))
    rw [((good_iff.mp g).1 w mw).1] at bad
    cases bad
  rw [List.length_map] at hy
  have s12 := s1.trans s2
  have wall : (wordsT T).all wareB = true := List.all_eq_true.mpr fun w hw => by
    obtain ⟨i, hi⟩ := List.getElem?_of_mem hw
    have il := (List.getElem?_eq_some_iff.mp hi).1
    obtain ⟨t, w', _, hw', good, _⟩ := hall i (ys[i]'(by omega)) (List.getElem?_eq_getElem (by omega))
    rw [hi] at hw'
    cases hw'
    exact good
  try dsimp only
  refine w_seq (w_asg (w_tup (w_cons (w_cb (w_cons (w_comp (w_seq0 (w_var rfl ⟨D, rfl, .inl ⟨⟨_, SqL.of h2⟩, fun D1 hD1 => ?_⟩⟩))))))))
  refine comp_seqP (K := K) (a := D) (xs := ys) (σr := []) (.inr ⟨rfl, h2⟩) D1 (fun i v _ => ∃ w, (wordsT T)[i]? = some w ∧ v = .int (valN (prtB w) : Nat)) (fun _ _ _ _ _ z => z) (by omega) hD1 ⟨none, rfl⟩ (fun j x H3 R hx s3 kk => ?_) fun zs H3 hz hall1 s3 h3 => ?_
  · obtain ⟨t, w, rfl, hw, wok, ht⟩ := hall j x hx
    exact w_op (w_var rfl (w_c (w_ixT (v := .int (valN (prtB w) : Nat)) (SqT.of (s3 _ _ ht)) rfl (kk _ _ (Same.refl _) ⟨w, hw, rfl⟩))))
  have ez := words_map (f := fun w => ((valN (prtB w) : Nat) : Int)) (hz.trans hy) hall1
  rw [ez] at h3
  replace h3 : H3 D1 = some (.lst ((dayOf T).1.map V.int)) := h3
  refine w_nil (w_tupL (SqL.of h3) fun t1 ht1 => ?_)
  have s3' := s3.laidT (o := .tup ((dayOf T).1.map V.int)) ht1
  have g1 := upd_same (H := H3) (a := t1) (o := .tup ((dayOf T).1.map V.int))
  generalize upd H3 t1 _ = H4 at s3' g1 ⊢
  clear h3 s3 ht1 hall1 ez hz zs
  have s4 := s3'
  refine w_cons (w_cb (w_cons (w_comp (w_seq0 (w_var rfl ⟨D, rfl, .inl ⟨⟨_, SqL.of (s4 _ _ h2)⟩, fun D2 hD2 => ?_⟩⟩)))))
  refine comp_seqP (K := K) (a := D) (xs := ys) (σr := []) (.inr ⟨rfl, s4 _ _ h2⟩) D2 (fun i v _ => ∃ w, (wordsT T)[i]? = some w ∧ v = .int (valN (prtA w) : Nat)) (fun _ _ _ _ _ z => z) (by omega) hD2 ⟨none, rfl⟩ (fun j x H5 R hx s5 kk => ?_) fun zs H5 hz hall1 s5 h5 => ?_
  · obtain ⟨t, w, rfl, hw, wok, ht⟩ := hall j x hx
    exact w_op (w_var rfl (w_c (w_ixT (v := .int (valN (prtA w) : Nat)) (SqT.of (s5 _ _ (s4 _ _ ht))) rfl (kk _ _ (Same.refl _) ⟨w, hw, rfl⟩))))
  have ez := words_map (f := fun w => ((valN (prtA w) : Nat) : Int)) (hz.trans hy) hall1
  rw [ez] at h5
  replace h5 : H5 D2 = some (.lst ((dayOf T).2.map V.int)) := h5
  refine w_nil (w_tupL (SqL.of h5) fun t2 ht2 => w_nil ⟨by show 2 ≤ sizeLine; decide, fun t3 ht3 => w_name ?_⟩)
  have y2 := Same.laid (o := .tup ((dayOf T).2.map V.int)) ht2
  have y3 := Same.laid (o := .tup [.ref t1, .ref t2]) ht3
  have rp : Rep (upd (upd H5 t2 (.tup ((dayOf T).2.map V.int))) t3 (.tup [.ref t1, .ref t2])) (.ref t3) (dayD (dayOf T)) := rep_day (d := dayOf T) upd_same (y3 _ _ (y2 _ _ (s5 _ _ g1))) (y3 _ _ upd_same)
  have s6 := (((s12.trans s4).trans s5).trans y2).trans y3
  generalize upd (upd H5 t2 _) t3 _ = H6 at s6 rp ⊢
  try dsimp only
  have ge : goodR T = isDayD (dayD (dayOf T)) := by unfold goodR; rw [wall, Bool.true_and]
  refine w_seq (w_drop (w_call (w_cons (w_call (w_cons (w_var rfl (w_nil ⟨_, rfl, _, rp, fun H' s' => w_nil ⟨_, rfl, _, rfl, fun good => ?_, fun bad => q2 (ge.trans bad) _ (s6.trans s')⟩⟩)))))))
  exact w_ret (w_var rfl (q1 (ge.trans good) _ _ (s6.trans s') (Rep.mono s' _ _ rp)))
theorem num_bad {w : Str} (z : ¬ (1 ≤ w.length ∧ w.length ≤ 19) ∨ digB w = false ∨ leadB w = true) : numB w = false := by
  cases e : numB w with
  | false => rfl
  | true =>
    obtain ⟨a, b, c, d⟩ := num_parts e
    rcases z with z | z | z
    · exact absurd ⟨a, b⟩ z
    · rw [c] at z; cases z
    · rw [d] at z; cases z
theorem zero_sg {c : Nat} : (⟨#[c]⟩ : Str) = ("0" : Str) ↔ c = 48 := by
  constructor
  · intro h
    have := congrArg (fun x : Str => x.cps.toList) h
    have t : [c] = [48] := this
    simpa using t
  · rintro rfl
    rfl
theorem rd__law_number {K : PySem.W.Frag} {a b : V} {H : Hp} {Q : VK} {E : XK} (h : sb__law_number K a b H Q E) : tb__law_number K (Rt Q) [some a, some b, none] H := by
  obtain ⟨w, most, rfl, rfl, asc, q⟩ := h
  have l9 := asc.len
  have bad : numB w = false → Q .non H := fun z => by
    have : numL w most = none := by unfold numL; rw [if_neg (fun y => by rw [z] at y; cases y.1)]
    rw [this] at q; exact q
  have go : 1 ≤ w.length → w.length ≤ 19 → leadB w = false → (tSeq (tFor (iStr (tVar 0)) (gName 2) (tIfS (tTest (tOp rNotInS (tVar 2) (tC (.str "0123456789")))) (tRet (tC .non)) tNext)) (tSeq (tIfS (tTest (tOp rGtU (tCB rIntS (tCons (tVar 0) tNil)) (tVar 1))) (tRet (tC .non)) tNext) (tRet (tCB rIntS (tCons (tVar 0) tNil))))) (Rt Q) [some (.str w), some (.int most), none] H := fun h1 h2 h4 => by
    refine w_seq (w_for (w_istr (w_var rfl ⟨w, rfl, asc_iff.mpr asc.1, ?_⟩)))
    refine for_str (fun i σ H2 => H2 = H ∧ (∀ (j c : Nat), j < i → w.cps.toList[j]? = some c → (decide (48 ≤ c) && decide (c ≤ 57)) = true) ∧ ∃ r2, σ = [some (.str w), some (.int most), r2]) ⟨rfl, fun j c z => absurd z (Nat.not_lt_zero _), _, rfl⟩ ?_ ?_
    · rintro i c σ H2 hc ⟨rfl, hd, r2, rfl⟩
      have dg := asc.1 c (List.mem_of_getElem? hc)
      refine w_name (w_ifS (w_test (w_op (w_var rfl (w_c ⟨_, _, rfl, rfl, ?_⟩)))))
      rw [fig_all c dg]
      refine w_bl ?_
      cases e : (decide (48 ≤ c) && decide (c ≤ 57)) with
      | true =>
        refine iteF (w_next ⟨rfl, fun j d hj hd' => ?_, _, rfl⟩)
        rcases Nat.lt_or_ge j i with z | z
        · exact hd j d z hd'
        · have : j = i := by omega
          rw [this, hc] at hd'
          cases hd'
          exact e
      | false =>
        refine iteT (w_ret (w_c (bad (num_bad (.inr (.inl ?_))))))
        cases e2 : digB w with
        | false => rfl
        | true =>
          have := List.all_eq_true.mp e2 c (List.mem_of_getElem? hc)
          rw [e] at this
          cases this
    · rintro σ H2 ⟨rfl, hd, r2, rfl⟩
      have h3 : digB w = true := List.all_eq_true.mpr fun c hc => by
        obtain ⟨j, hj⟩ := List.getElem?_of_mem hc
        exact hd j c (by have := (List.getElem?_eq_some_iff.mp hj).1; rw [len_list] at this; exact this) hj
      have hn := num_mk h1 h2 h3 h4
      unfold numL at q
      try dsimp only
      refine w_seq (w_ifS (w_test (w_op (w_cb (w_cons (w_var rfl (w_nil ⟨_, _, rfl, int_dig h1 h2 h3, by omega, w_var rfl (w_gtI (w_bl (iteD (fun big => w_ret (w_c ?_)) fun big => w_next ?_)))⟩)))))))
      · rw [if_neg (fun z => by omega)] at q
        exact q
      · rw [if_pos ⟨hn, by omega⟩] at q
        exact w_ret (w_cb (w_cons (w_var rfl (w_nil ⟨_, _, rfl, int_dig h1 h2 h3, by omega, q⟩))))
  unfold tb__law_number
  refine w_seq (w_ifS (w_or (w_not (w_test (w_chain (w_c (w_cb (w_cons (w_var rfl (w_nil (w_lenStr l9 (w_leI (w_bl (iteD (fun h1 => w_c (w_leI (w_bl ?_))) fun h1 => ⟨false, rfl, iteT (iteT (w_ret (w_c (bad (num_bad (.inl (by omega)))))))⟩))))))))))))))
  refine iteB (fun z => ?_) fun z => ?_
  · have h2 : ¬ w.length ≤ 19 := fun q => by
      rw [decide_eq_true (show ((w.length : Nat) : Int) ≤ 19 by omega)] at z; cases z
    exact iteT (w_ret (w_c (bad (num_bad (.inl (by omega))))))
  have h2 : w.length ≤ 19 := by
    cases e : decide (((w.length : Nat) : Int) ≤ 19) with
    | true => have := of_decide_eq_true e; omega
    | false => rw [e] at z; cases z
  have h1' : 1 ≤ w.length := by omega
  obtain ⟨c, r, ec⟩ := cons_of h1'
  refine w_and (w_test (w_op (w_cb (w_cons (w_var rfl (w_nil (w_lenStr l9 (w_c (w_gtI (w_bl (iteD (fun h3 => ?_) fun h3 => iteF (w_next (go h1' h2 ?_)))))))))))))
  · refine w_test (w_op (w_op (w_var rfl (w_c (.inr (.inr ⟨w, 0, c, rfl, rfl, Nat.le_trans l9 (by decide), atI_nat (j := 0) (by rw [ec]; rfl), w_c (w_eqS (w_bl (iteD (fun e => w_ret (w_c (bad (num_bad (.inr (.inr ?_)))))) fun ne => w_next (go h1' h2 ?_))))⟩))))))
    · unfold leadB
      rw [ec, decide_eq_true (show 1 < w.length by omega)]
      exact decide_eq_true (zero_sg.mp e)
    · unfold leadB
      rw [ec, Bool.and_eq_false_iff]
      exact .inr (decide_eq_false fun z => ne (zero_sg.mpr z))
  · unfold leadB
    rw [decide_eq_false (show ¬ 1 < w.length by omega)]; rfl
theorem flat_vO (o : Option Int) : flatV (vO o) = true := by cases o <;> rfl
theorem flat_list {f : Str → Option Int} (ws : List Str) : (ws.map fun w => vO (f w)).all flatV = true := by
  rw [List.all_map, List.all_eq_true]
  intro w _
  exact flat_vO (f w)
theorem inV_non {f : Str → Option Int} (ws : List Str) : inV .non (ws.map fun w => vO (f w)) = ws.any fun w => (f w).isNone := by
  unfold inV
  rw [List.any_map]
  congr 1
  funext w
  show eqV (vO (f w)) .non = _
  cases f w <;> rfl
theorem inV_zero (ns : List Int) : inV (.int 0) (ns.map V.int) = ns.any fun x => x == 0 := by
  unfold inV
  rw [List.any_map]
  rfl
theorem flat_ints (ns : List Int) : (ns.map V.int).all flatV = true := by
  rw [List.all_map, List.all_eq_true]
  intro w _
  rfl
theorem sum_zero : ∀ {as : List Int}, (∀ x ∈ as, 0 ≤ x) → (∀ x ∈ as, ¬ 0 < x) → as.sum = 0
  | [], _, _ => rfl
  | a :: as, h1, h2 => by
    have e1 := h1 a (by simp)
    have e2 := h2 a (by simp)
    rw [List.sum_cons, sum_zero (fun x hx => h1 x (List.mem_cons_of_mem _ hx)) fun x hx => h2 x (List.mem_cons_of_mem _ hx)]
    omega
theorem sum_pos : ∀ {as : List Int} {x : Int}, (∀ x ∈ as, 0 ≤ x) → x ∈ as → x ≤ as.sum
  | a :: as, x, h1, h2 => by
    rw [List.sum_cons]
    have p := h1 a (by simp)
    rcases List.mem_cons.mp h2 with rfl | h
    · have : 0 ≤ as.sum := by
        clear h2 p
        induction as with
        | nil => exact Int.le_refl _
        | cons b as ih =>
          rw [List.sum_cons]
          have := h1 b (by simp)
          have := ih fun x hx => h1 x (by rcases List.mem_cons.mp hx with z | z <;> simp [z])
          omega
      omega
    · have := sum_pos (fun x hx => h1 x (List.mem_cons_of_mem _ hx)) h
      omega
theorem numL_some {w : Str} {m x : Int} (h : numL w m = some x) : numB w = true ∧ ((valN w : Nat) : Int) ≤ m ∧ x = ((valN w : Nat) : Int) := by
  unfold numL at h
  split at h
  · next z => exact ⟨z.1, z.2, (Option.some.inj h).symm⟩
  · cases h
theorem numL_good {w : Str} {m : Int} (h : numB w = true) (h2 : ((valN w : Nat) : Int) ≤ m) : numL w m = some ((valN w : Nat) : Int) := by
  unfold numL
  rw [if_pos ⟨h, h2⟩]
def prL (w : Str) : Option Int := numL (prtB w) 1000000000
def amL (w : Str) : Option Int := numL (prtA w) 1000000000000000000
theorem ware_two {w : Str} (h : wareB w = true) : twoB w = true ∧ numB (prtA w) = true ∧ numB (prtB w) = true := by
  unfold wareB at h
  rw [Bool.and_eq_true, Bool.and_eq_true] at h
  exact h
theorem rd__law_read {K : PySem.W.Frag} {a : V} {H : Hp} {Q : VK} {E : XK} (h : sb__law_read K a H Q E) : tb__law_read K (Rt Q) [some a, none, none, none, none] H := by
  obtain ⟨T, rfl, asc, q1, q2⟩ := h
  have sa := split_asc (c := 32) asc
  have sn := split_count (c := 32) asc
  replace sn : (wordsT T).length ≤ 901 := sn
  have q2' : ¬ goodR T = true → ∀ H', Same H H' → Q .non H' := fun z => q2 (by simpa using z)
  unfold tb__law_read
  refine w_seq (w_asg (w_lst (w_nil ⟨Nat.zero_le _, fun p1 hp1 => w_name ?_⟩)))
  have s1 := Same.laid (o := .lst []) hp1
  have e1 := upd_same (H := H) (a := p1) (o := .lst [])
  generalize upd H p1 (.lst []) = H1 at s1 e1 ⊢
  try dsimp only
  refine w_seq (w_asg (w_lst (w_nil ⟨Nat.zero_le _, fun p2 hp2 => w_name ?_⟩)))
  have s2 := s1.laidT (o := .lst []) hp2
  have e2 := upd_same (H := H1) (a := p2) (o := .lst [])
  have p12 : p1 ≠ p2 := fun z => by rw [z, hp2] at e1; cases e1
  have e1' : upd H1 p2 (.lst []) p1 = some (.lst []) := by rw [upd_ne p12]; exact e1
  have p20 : H p2 = none := s1.free hp2
  generalize upd H1 p2 (.lst []) = H2 at s2 e2 e1' ⊢
  clear e1 hp2
  try dsimp only
  refine w_seq (w_for (w_seq0 (w_bm (w_var rfl ⟨rfl, w_cons (w_c (w_nil ⟨T, 32, rfl, by rw [b_sg]; rfl, asc.len, fun L hL => ⟨L, rfl, .inl ⟨⟨_, SqL.of upd_same⟩, ?_⟩⟩⟩))⟩))))
  have p1L : p1 ≠ L := fun z => by rw [z, hL] at e1'; cases e1'
  have p2L : p2 ≠ L := fun z => by rw [z, hL] at e2; cases e2
  have L0 : H L = none := s2.free hL
  have sL := Same.laid (o := .lst ((Txt.split T ⟨#[32]⟩).map V.str)) hL
  have s3 := s2.trans sL
  have f1 := sL _ _ e1'
  have f2 := sL _ _ e2
  have fL : upd H2 L (.lst ((Txt.split T ⟨#[32]⟩).map V.str)) L = some (.lst ((wordsT T).map V.str)) := upd_same
  generalize upd H2 L _ = H3 at s3 f1 f2 fL ⊢
  refine for_list (K := K) (a := L) (xs := (wordsT T).map V.str) (fun i σ H4 => Same H H4 ∧ H4 p1 = some (.lst (((wordsT T).take i).map fun w => vO (prL w))) ∧ H4 p2 = some (.lst (((wordsT T).take i).map fun w => vO (amL w))) ∧ H4 L = some (.lst ((wordsT T).map V.str)) ∧ (∀ w ∈ (wordsT T).take i, twoB w = true) ∧ ∃ r3 r4, σ = [some (.str T), some (.ref p1), some (.ref p2), r3, r4]) ⟨s3, f1, f2, fL, fun w hw => (by cases hw), _, _, rfl⟩ (fun i σ H4 _ z => SqL.of z.2.2.2.1) ?_ ?_
  · rintro i x σ H4 hx ⟨s4, h1, h2, hl, two, r3, r4, rfl⟩
    rw [List.getElem?_map] at hx
    obtain ⟨w, hw, rfl⟩ := Option.map_eq_some_iff.mp hx
    have mw := List.mem_of_getElem? hw
    have il := (List.getElem?_eq_some_iff.mp hw).1
    have aw := sa w mw
    have sp := split_asc (c := 120) aw
    refine w_name (w_seq (w_asg (w_bm (w_var rfl ⟨rfl, w_cons (w_c (w_nil ⟨w, 120, rfl, by rw [x_sg]; rfl, aw.len, fun u hu => w_name ?_⟩))⟩))))
    have su := Same.laid (o := .lst ((Txt.split w ⟨#[120]⟩).map V.str)) hu
    have s5 := s4.trans su
    have g1 := su _ _ h1
    have g2 := su _ _ h2
    have gL := su _ _ hl
    have gu : upd H4 u (.lst ((Txt.split w ⟨#[120]⟩).map V.str)) u = some (.lst ((Txt.split w (sg 120)).map V.str)) := upd_same
    have pu1 : u ≠ p1 := fun z => by rw [z, h1] at hu; cases hu
    generalize upd H4 u _ = H5 at s5 g1 g2 gL gu ⊢
    try dsimp only
    refine w_seq (w_ifS (w_test (w_op (w_cb (w_cons (w_var rfl (w_nil (w_lenL (SqL.of gu) (w_c (w_neI (w_bl ?_)))))))))))
    cases tw : twoB w with
    | false =>
      refine iteNT (fun z => ?_) (w_ret (w_c (q2' (fun g => ?_) _ s5)))
      · have := of_decide_eq_false tw
        rw [List.length_map] at z
        omega
      · rw [(ware_two ((good_iff.mp g).1 w mw).1).1] at tw
        cases tw
    | true =>
      have t2 := two_split tw
      rw [t2] at gu sp
      have aA := sp _ (List.mem_cons_self ..)
      have aB := sp (prtB w) (by simp)
      replace gu : H5 u = some (.lst [.str (prtA w), .str (prtB w)]) := gu
      refine iteNF (by rw [List.length_map, t2]; rfl) (w_next ?_)
      try dsimp only
      have lt : ∀ {f : Str → V}, (((wordsT T).take i).map f).length ≤ 1000 := fun {f} => by rw [List.length_map, List.length_take]; omega
      refine w_seq (w_drop (w_bm (w_var rfl ⟨tyV_lst g1, w_cons (w_call (w_cons (w_op (w_var rfl (w_c (w_ixL (v := .str (prtB w)) (SqL.of gu) rfl (w_cons (w_c (w_nil ⟨_, _, rfl, _, _, rfl, rfl, aB, w_nil (w_append g1 (small1000 lt) ?_)⟩)))))))))⟩)))
      have s6 := s5.put (o := .lst (((wordsT T).take i).map (fun w => vO (prL w)) ++ [vO (prL w)])) hp1
      have k1 := upd_same (H := H5) (a := p1) (o := .lst (((wordsT T).take i).map (fun w => vO (prL w)) ++ [vO (prL w)]))
      have k2 : upd H5 p1 (.lst (((wordsT T).take i).map (fun w => vO (prL w)) ++ [vO (prL w)])) p2 = some (.lst (((wordsT T).take i).map fun w => vO (amL w))) := by rw [upd_ne (Ne.symm p12)]; exact g2
      have kL : upd H5 p1 (.lst (((wordsT T).take i).map (fun w => vO (prL w)) ++ [vO (prL w)])) L = some (.lst ((wordsT T).map V.str)) := by rw [upd_ne (Ne.symm p1L)]; exact gL
      have ku : upd H5 p1 (.lst (((wordsT T).take i).map (fun w => vO (prL w)) ++ [vO (prL w)])) u = some (.lst [.str (prtA w), .str (prtB w)]) := by rw [upd_ne pu1]; exact gu
      replace k1 : upd H5 p1 (.lst (((wordsT T).take i).map (fun w => vO (prL w)) ++ [vO (numL (prtB w) 1000000000)])) p1 = _ := k1
      replace k2 : upd H5 p1 (.lst (((wordsT T).take i).map (fun w => vO (prL w)) ++ [vO (numL (prtB w) 1000000000)])) p2 = _ := k2
      replace kL : upd H5 p1 (.lst (((wordsT T).take i).map (fun w => vO (prL w)) ++ [vO (numL (prtB w) 1000000000)])) L = _ := kL
      replace ku : upd H5 p1 (.lst (((wordsT T).take i).map (fun w => vO (prL w)) ++ [vO (numL (prtB w) 1000000000)])) u = _ := ku
      replace s6 : Same H (upd H5 p1 (.lst (((wordsT T).take i).map (fun w => vO (prL w)) ++ [vO (numL (prtB w) 1000000000)]))) := s6
      generalize upd H5 p1 _ = H6 at s6 k1 k2 kL ku ⊢
      try dsimp only
      refine w_drop (w_bm (w_var rfl ⟨tyV_lst k2, w_cons (w_call (w_cons (w_op (w_var rfl (w_c (w_ixL (v := .str (prtA w)) (SqL.of ku) rfl (w_cons (w_c (w_nil ⟨_, _, rfl, _, _, rfl, rfl, aA, w_nil (w_append k2 (small1000 lt) ?_)⟩)))))))))⟩))
      have tk : (wordsT T).take (i + 1) = (wordsT T).take i ++ [w] := by rw [List.take_add_one, hw]; rfl
      refine ⟨s6.put p20, ?_, ?_, ?_, fun v hv => ?_, _, _, rfl⟩
      · rw [upd_ne p12, tk, List.map_append]; exact k1
      · rw [upd_same, tk, List.map_append]; rfl
      · rw [upd_ne (Ne.symm p2L)]; exact kL
      · rw [tk] at hv
        rcases List.mem_append.mp hv with z | z
        · exact two v z
        · have : v = w := by simpa using z
          rw [this]; exact tw
  · rintro σ H4 ⟨s4, h1, h2, hl, two, r3, r4, rfl⟩
    rw [List.length_map, List.take_length] at h1 h2 two
    try dsimp only
    refine w_seq (w_ifS (w_or (w_test (w_op (w_c (w_var rfl ⟨p1, _, rfl, .inl (SqL.of h1), rfl, flat_list _, w_bl ?_⟩))))))
    rw [if_neg Bool.false_ne_true, inV_non]
    refine iteB (fun z => iteT (w_ret (w_c (q2' (fun g => ?_) _ s4)))) fun z1 => ?_
    · obtain ⟨w, hw, hn⟩ := List.any_eq_true.mp z
      have gw := (good_iff.mp g).1 w hw
      rw [show prL w = _ from numL_good (ware_two gw.1).2.2 (by omega)] at hn
      cases hn
    refine w_or (w_test (w_op (w_c (w_var rfl ⟨p2, _, rfl, .inl (SqL.of h2), rfl, flat_list _, w_bl ?_⟩))))
    rw [if_neg Bool.false_ne_true, inV_non]
    refine iteB (fun z => iteT (w_ret (w_c (q2' (fun g => ?_) _ s4)))) fun z2 => ?_
    · obtain ⟨w, hw, hn⟩ := List.any_eq_true.mp z
      have gw := (good_iff.mp g).1 w hw
      rw [show amL w = _ from numL_good (ware_two gw.1).2.1 (by omega)] at hn
      cases hn
    have a1 : ∀ w ∈ wordsT T, numB (prtB w) = true ∧ valN (prtB w) ≤ 1000000000 ∧ prL w = some ((valN (prtB w) : Nat) : Int) := fun w hw => by
      cases e : prL w with
      | none =>
        rw [List.any_eq_true.mpr ⟨w, hw, by rw [e]; rfl⟩] at z1
        cases z1
      | some x =>
        obtain ⟨b1, b2, b3⟩ := numL_some e
        exact ⟨b1, by omega, by rw [b3]⟩
    have a2 : ∀ w ∈ wordsT T, numB (prtA w) = true ∧ valN (prtA w) ≤ 1000000000000000000 ∧ amL w = some ((valN (prtA w) : Nat) : Int) := fun w hw => by
      cases e : amL w with
      | none =>
        rw [List.any_eq_true.mpr ⟨w, hw, by rw [e]; rfl⟩] at z2
        cases z2
      | some x =>
        obtain ⟨b1, b2, b3⟩ := numL_some e
        exact ⟨b1, by omega, by rw [b3]⟩
    have m1 : ((wordsT T).map fun w => vO (prL w)) = (dayOf T).1.map V.int := by
      unfold dayOf
      rw [List.map_map]
      exact List.map_congr_left fun w hw => by rw [(a1 w hw).2.2]; rfl
    have m2 : ((wordsT T).map fun w => vO (amL w)) = (dayOf T).2.map V.int := by
      unfold dayOf
      rw [List.map_map]
      exact List.map_congr_left fun w hw => by rw [(a2 w hw).2.2]; rfl
    rw [m1] at h1
    rw [m2] at h2
    have l1 : (dayOf T).1.length = (wordsT T).length := by unfold dayOf; rw [List.length_map]
    refine w_or (w_test (w_op (w_c (w_var rfl ⟨p1, _, rfl, .inl (SqL.of h1), rfl, flat_ints _, w_bl ?_⟩))))
    rw [if_neg Bool.false_ne_true, inV_zero]
    refine iteB (fun z => iteT (w_ret (w_c (q2' (fun g => ?_) _ s4)))) fun z3 => ?_
    · obtain ⟨x, hx, hn⟩ := List.any_eq_true.mp z
      obtain ⟨w, hw, rfl⟩ := List.mem_map.mp hx
      have gw := (good_iff.mp g).1 w hw
      have : ((valN (prtB w) : Nat) : Int) = 0 := by simpa using hn
      omega
    have a3 : ∀ w ∈ wordsT T, 1 ≤ valN (prtB w) := fun w hw => by
      rcases Nat.eq_zero_or_pos (valN (prtB w)) with z | z
      · have t : ((dayOf T).1.any fun x => x == 0) = true := List.any_eq_true.mpr ⟨((valN (prtB w) : Nat) : Int), List.mem_map.mpr ⟨w, hw, rfl⟩, by rw [z]; rfl⟩
        rw [t] at z3
        cases z3
      · exact z
    refine w_or (w_test (w_op (w_cb (w_cons (w_var rfl (w_nil (w_lenL (SqL.of h1) (w_c (w_gtI (w_bl (iteD (fun z => iteT (w_ret (w_c (q2' (fun g => ?_) _ s4)))) fun z4 => ?_)))))))))))
    · have := (good_iff.mp g).2.1
      rw [List.length_map] at z
      omega
    rw [List.length_map] at z4
    refine w_test (w_op (w_cb (w_cons (w_var rfl (w_nil (w_sumA (.inl (SqL.of h2)) (w_c (w_eqI (w_bl (iteD (fun z => w_ret (w_c (q2' (fun g => ?_) _ s4))) fun z5 => w_next ?_))))))))))
    · obtain ⟨w, hw, w0⟩ := (good_iff.mp g).2.2
      have := sum_pos (as := (dayOf T).2) (x := ((valN (prtA w) : Nat) : Int)) (fun x hx => by obtain ⟨v, _, rfl⟩ := List.mem_map.mp hx; omega) (List.mem_map.mpr ⟨w, hw, rfl⟩)
      omega
    have good : goodR T = true := by
      refine good_iff.mpr ⟨fun w hw => ⟨?_, a3 w hw, (a1 w hw).2.1, (a2 w hw).2.1⟩, by omega, ?_⟩
      · unfold wareB
        rw [two w hw, (a1 w hw).1, (a2 w hw).1]; rfl
      · by_cases z : ∃ w ∈ wordsT T, 0 < valN (prtA w)
        · exact z
        · refine absurd (sum_zero (as := (dayOf T).2) (fun x hx => ?_) fun x hx x0 => z ?_) z5
          · obtain ⟨v, _, rfl⟩ := List.mem_map.mp hx; omega
          · obtain ⟨v, hv, rfl⟩ := List.mem_map.mp hx
            exact ⟨v, hv, by omega⟩
    try dsimp only
    refine w_ret (w_tup (w_cons (w_cb (w_cons (w_var rfl (w_nil (w_tupL (SqL.of h1) fun t1 ht1 => ?_)))))))
    have y1 := Same.laid (o := .tup ((dayOf T).1.map V.int)) ht1
    refine w_cons (w_cb (w_cons (w_var rfl (w_nil (w_tupL (SqL.of (y1 _ _ h2)) fun t2 ht2 => w_nil ⟨by show 2 ≤ sizeLine; decide, fun t3 ht3 => ?_⟩)))))
    have y2 := Same.laid (o := .tup ((dayOf T).2.map V.int)) ht2
    have y3 := Same.laid (o := .tup [.ref t1, .ref t2]) ht3
    exact q1 good (.ref t3) _ (((s4.trans y1).trans y2).trans y3) (rep_day upd_same (y3 _ _ (y2 _ _ upd_same)) (y3 _ _ upd_same))
theorem rd__law_refused {K : PySem.W.Frag} {mg : Str → Option Value} (M : Md K mg) {a : V} {H : Hp} {Q : VK} {E : XK} (h : sb__law_refused K mg a H Q E) : tb__law_refused K mg (Rt Q) [some a, none, none] H := by
  obtain ⟨T, rfl, asc, bad, q⟩ := h
  have no : goodR T = true → False := fun z => by rw [bad] at z; cases z
  unfold tb__law_refused
  refine w_seq (w_asg (w_c (w_name ?_)))
  try dsimp only
  refine w_seq (w_try0 (w_cons (w_var rfl (w_nil ⟨_, rfl, T, rfl, asc, fun z => (no z).elim, fun _ H2 s2 => ⟨_, rfl, M.x_NoText.q, M.s_NoText_NoText, ?_⟩⟩))))
  refine w_asg (w_c (w_name ?_))
  try dsimp only
  refine w_seq (w_tryA (w_cons (w_var rfl (w_nil ⟨_, rfl, T, rfl, asc, fun z => (no z).elim, fun _ H3 s3 => ⟨_, rfl, M.x_NoText.q, M.s_NoText_TasteError, fun e he => ?_⟩⟩))))
  have s0 := (s2.trans s3).laidT (o := .ext (ExP e (clsA mg "NoText"))) he
  have e0 := upd_same (H := H3) (a := e) (o := .ext (ExP e (clsA mg "NoText")))
  generalize upd H3 e (.ext (ExP e (clsA mg "NoText"))) = H4 at s0 e0 ⊢
  refine w_seq (w_ifS (w_tru (w_cb (w_cons (w_var rfl (w_cons (w_tup (w_cons (w_c (w_cons (w_c (w_cons (w_c (w_cons (w_c (w_cons (w_c (w_cons (w_c (w_nil ⟨by show 6 ≤ sizeLine; decide, fun t1 h1 => w_nil ?_⟩))))))))))))))))))))
  have z1 := Same.laid (o := .tup [.ref (clsA mg "NoBook"), .ref (clsA mg "NoDay"), .ref (clsA mg "NoName"), .ref (clsA mg "NoRow"), .ref (clsA mg "NoTaste"), .ref (clsA mg "Twice")]) h1
  refine ⟨e, _, false, z1 _ _ e0, M.f_NoText, w_trub (iteF (w_next ?_)), .inr ⟨t1, [clsA mg "NoBook", clsA mg "NoDay", clsA mg "NoName", clsA mg "NoRow", clsA mg "NoTaste", clsA mg "Twice"], rfl, upd_same, M.j_NoText_0⟩⟩
  try dsimp only
  exact w_ret (w_andV (w_var rfl ⟨true, rfl, iteT (w_cb (w_cons (w_var rfl (w_cons (w_c (w_nil ⟨e, _, true, z1 _ _ e0, M.f_NoText, q _ (s0.trans z1), .inl ⟨"ValueError", rfl, M.v_NoText⟩⟩))))))⟩))
theorem word_ok {p b : Nat} (hp : p < 10 ^ 19) (hb : b < 10 ^ 19) : WdOk (wordS (p : Nat) (b : Nat)) := by
  refine ⟨fun c hc => ?_, Nat.le_trans (word_len hp hb) (by decide)⟩
  unfold wordS at hc
  rw [app_list, app_list] at hc
  rcases List.mem_append.mp hc with hc | hc
  · rcases List.mem_append.mp hc with hc | hc
    · have := dec_digit hc; omega
    · have : c = 120 := by simpa [sg] using hc
      omega
  · have := dec_digit hc; omega
theorem rd__law_drawn {K : PySem.W.Frag} {a : V} {H : Hp} {Q : VK} {E : XK} (h : sb__law_drawn K a H Q E) : tb__law_drawn K (Rt Q) [some a, none, none, none, none, none] H := by
  obtain ⟨c, rfl, q⟩ := h
  unfold tb__law_drawn
  refine w_seq (w_asg (w_lst (w_nil ⟨Nat.zero_le _, fun p1 hp1 => w_name ?_⟩)))
  have s1 := Same.laid (o := .lst []) hp1
  have e1 := upd_same (H := H) (a := p1) (o := .lst [])
  generalize upd H p1 (.lst []) = H1 at s1 e1 ⊢
  try dsimp only
  obtain ⟨n, en, n1, n6⟩ : ∃ n : Nat, 1 + c % 6 = (n : Int) ∧ 1 ≤ n ∧ n ≤ 6 := by
    have r0 := Int.emod_nonneg c (show (6 : Int) ≠ 0 by decide)
    have r1 := Int.emod_lt_of_pos c (show (0 : Int) < 6 by decide)
    exact ⟨(1 + c % 6).toNat, by omega, by omega, by omega⟩
  refine w_seq (w_for (w_rng1 (w_cons (w_op (w_c (w_op (w_var rfl (w_c (w_modI (by decide) (w_addI (w_nil ?_)))))))))))
  rw [en]
  refine ⟨_, rfl, (rng_ok (by omega)).1, (rng_ok (by omega)).2, ?_⟩
  refine for_range0 (n := n) (fun i σ H3 => ∃ (c : Int) (ws : List Str) (r2 r3 r4 r5 : Option V), Same H H3 ∧ H3 p1 = some (.lst (ws.map V.str)) ∧ ws.length = i ∧ (∀ w ∈ ws, WdOk w) ∧ σ = [some (.int c), some (.ref p1), r2, r3, r4, r5]) ⟨c, [], _, _, _, _, s1, e1, rfl, fun x hx => (by cases hx), rfl⟩ ?_ ?_
  · rintro i σ H3 hi ⟨c, ws, r2, r3, r4, r5, s3, h1, l1, ok, rfl⟩
    refine w_name (w_seq (w_asg (w_call (w_cons (w_var rfl (w_nil ⟨_, rfl, c, rfl, fun c' c0 c1 => w_name ?_⟩))))))
    try dsimp only
    refine w_seq (w_asg (w_op (w_var rfl (w_c (w_divI (by decide) (by decide) (w_name ?_))))))
    generalize c' / 1000000000 = hg
    try dsimp only
    obtain ⟨w1, o1, ew1⟩ := four_at 1 1000000000 (1 + hg % 1000000000) (1 + hg % 12) (c' / 100000000)
    obtain ⟨w2, o2, ew2⟩ := four_at 0 1000000000000000000 (hg % (1000000000000000000 + 1)) (hg % 12) (c' / 10000000)
    have m1 := Int.emod_nonneg hg (show (12 : Int) ≠ 0 by decide)
    have m2 := Int.emod_lt_of_pos hg (show (0 : Int) < 12 by decide)
    have m3 := Int.emod_nonneg hg (show (1000000000 : Int) ≠ 0 by decide)
    have m4 := Int.emod_lt_of_pos hg (show (0 : Int) < 1000000000 by decide)
    have m7 := Int.emod_nonneg hg (show (1000000000000000000 + 1 : Int) ≠ 0 by decide)
    have m8 := Int.emod_lt_of_pos hg (show (0 : Int) < 1000000000000000000 + 1 by decide)
    have b1 : 0 ≤ w1 ∧ w1 ≤ 1000000000 := by omega
    have b2 : 0 ≤ w2 ∧ w2 ≤ 1000000000000000000 := by omega
    clear o1 o2
    obtain ⟨x', rfl⟩ := nat_of b1.1
    obtain ⟨y', rfl⟩ := nat_of b2.1
    have x19 : x' < 10 ^ 19 := by rw [ten19]; omega
    have y19 : y' < 10 ^ 19 := by rw [ten19]; omega
    have l9 : (decS (x' : Nat)).length ≤ 19 := (dec_len (k := 19) (by decide) x19).2
    have l8 : (decS (y' : Nat)).length ≤ 19 := (dec_len (k := 19) (by decide) y19).2
    have k9 : (1000 : Nat) ≤ sizeLine := by decide
    have lx : ("x" : Str).length = 1 := rfl
    refine w_seq (w_asg (w_op (w_lst (w_cons (w_c (w_cons (w_c (w_cons (w_op (w_c (w_op (w_var rfl (w_c (w_modI (by decide) (w_addI (w_cons (w_op (w_c (w_op (w_var rfl (w_c (w_modI (by decide) (w_addI (w_nil ⟨by show 4 ≤ sizeLine; decide, fun u hu => ?_⟩))))))))))))))))))))))))
    have su := Same.laid (o := .lst [.int 1, .int 1000000000, .int (1 + hg % 1000000000), .int (1 + hg % 12)]) hu
    have h1u := su _ _ h1
    have s4 := s3.trans su
    refine w_op (w_op (w_var rfl (w_c (w_divI (by decide) (by decide) (w_c (w_modI (by decide) (w_ixL (SqL.of upd_same) ew1 (w_name ?_))))))))
    generalize upd H3 u _ = H4 at s4 h1u ⊢
    try dsimp only
    refine w_seq (w_asg (w_op (w_lst (w_cons (w_c (w_cons (w_c (w_cons (w_op (w_var rfl (w_op (w_c (w_c (w_addI (w_modI (by decide) (w_cons (w_op (w_var rfl (w_c (w_modI (by decide) (w_nil ⟨by show 4 ≤ sizeLine; decide, fun u2 hu2 => ?_⟩)))))))))))))))))))))
    have su2 := Same.laid (o := .lst [.int 0, .int 1000000000000000000, .int (hg % (1000000000000000000 + 1)), .int (hg % 12)]) hu2
    have h1w := su2 _ _ h1u
    have s5 := s4.trans su2
    refine w_op (w_op (w_var rfl (w_c (w_divI (by decide) (by decide) (w_c (w_modI (by decide) (w_ixL (SqL.of upd_same) ew2 (w_name ?_))))))))
    generalize upd H4 u2 _ = H5 at s5 h1w ⊢
    try dsimp only
    refine w_drop (w_bm (w_var rfl ⟨tyV_lst h1w, w_cons (w_op (w_op (w_cb (w_cons (w_var rfl (w_nil ⟨(y' : Int), rfl, log_ok y19, w_c ⟨decS (y' : Nat), ("x" : Str), rfl, rfl, by omega, ?_⟩⟩))))))⟩))
    refine w_cb (w_cons (w_var rfl (w_nil ⟨(x' : Int), rfl, log_ok x19, decS (y' : Nat) ++ ("x" : Str), decS (x' : Nat), rfl, rfl, by rw [PySem.Str.length_append]; omega, w_nil (w_append h1w (small1000 (by rw [List.length_map]; omega)) ?_)⟩)))
    refine ⟨c', ws ++ [wordS (x' : Nat) (y' : Nat)], _, _, _, _, s5.put hp1, ?_, by rw [List.length_append, l1]; rfl, fun w hw => ?_, rfl⟩
    · rw [upd_same, List.map_append, x_sg]; rfl
    · rcases List.mem_append.mp hw with z | z
      · exact ok w z
      · have : w = wordS (x' : Nat) (y' : Nat) := by simpa using z
        rw [this]
        exact word_ok x19 y19
  · rintro σ H3 ⟨c, ws, r2, r3, r4, r5, s3, h1, l1, ok, rfl⟩
    exact w_ret (w_var rfl (q p1 ws H3 s3 h1 (by omega) (by omega) ok))
theorem at_some {z : Str} {n : Int} (hn : ((z.length : Nat) : Int) = n) (h0 : 0 < n) (k : Int) : ∃ c, c ∈ z.cps.toList ∧ atI z.cps.toList (k % n) = some c := by
  have r0 := Int.emod_nonneg k (show n ≠ 0 by omega)
  have r1 := Int.emod_lt_of_pos k h0
  have hl : (k % n).toNat < z.cps.toList.length := by rw [len_list]; omega
  exact ⟨_, List.getElem_mem hl, atI_at r0 (List.getElem?_eq_getElem hl)⟩
theorem asc_cat {a b : Str} {m n : Nat} (ha : (∀ c ∈ a.cps.toList, c < 128) ∧ a.length ≤ m) (hb : (∀ c ∈ b.cps.toList, c < 128) ∧ b.length ≤ n) : (∀ c ∈ (a ++ b).cps.toList, c < 128) ∧ (a ++ b).length ≤ m + n := by
  refine ⟨fun c hc => ?_, ?_⟩
  · rw [app_list] at hc
    rcases List.mem_append.mp hc with z | z
    · exact ha.1 c z
    · exact hb.1 c z
  · rw [PySem.Str.length_append]
    have := ha.2
    have := hb.2
    omega
def sgs : Str := (" !\"#$&'()*+,-./0123456789:;<=>?@ABCDEFGHIJKLMNOPQRSTUVWXYZ[\\]^_`" : Str) ++ ("abcdefghijklmnopqrstuvwxyz{|}~" : Str)
theorem sgs_len : ((sgs.length : Nat) : Int) = 94 := by decide +kernel
theorem sgs_asc : ∀ c ∈ sgs.cps.toList, c < 128 := by
  have h : sgs.cps.toList.all (fun c => decide (c < 128)) = true := by decide +kernel
  intro c hc
  exact of_decide_eq_true (List.all_eq_true.mp h c hc)
def sgt : Str := (" x01-+x 9X" : Str)
theorem sgt_len : ((sgt.length : Nat) : Int) = 10 := by decide +kernel
theorem sgt_asc : ∀ c ∈ sgt.cps.toList, c < 128 := by
  have h : sgt.cps.toList.all (fun c => decide (c < 128)) = true := by decide +kernel
  intro c hc
  exact of_decide_eq_true (List.all_eq_true.mp h c hc)
theorem rd__law_signs {K : PySem.W.Frag} {a b : V} {H : Hp} {Q : VK} {E : XK} (h : sb__law_signs K a b H Q E) : tb__law_signs K (Rt Q) [some a, some b, none, none, none] H := by
  obtain ⟨T, c, rfl, rfl, asc, len, q⟩ := h
  have hT : T.length ≤ 1000 := by omega
  have k9 : (1000 : Nat) ≤ sizeLine := by decide
  have sub : ∀ {y : Str}, (∀ c ∈ y.cps.toList, c ∈ T.cps.toList) → y.length ≤ T.length → (∀ c ∈ y.cps.toList, c < 128) ∧ y.length ≤ 400 := fun {y} h1 h2 => ⟨fun c hc => asc c (h1 c hc), by omega⟩
  have fin : ∀ (r2 : Option V) (d : Nat), d < 128 → (tSeq (tAsg (tOp rModU (tOp rDivU (tVar 1) (tC (.int 1000))) (tOp (rAddU K) (tCB (rLenU K) (tCons (tVar 0) tNil)) (tC (.int 1)))) (gName 4))    (tSeq (tIfS (tTest (tOp (rEqU K) (tOp rModU (tOp rDivU (tVar 1) (tC (.int 2))) (tC (.int 3))) (tC (.int 0)))) (tRet (tOp rAddS (tOp rAddS (tSl rSlS (tVar 0) tNoPart (tPart (tVar 4))) (tVar 3)) (tSl rSlS (tVar 0) (tPart (tVar 4)) tNoPart))) tNext)    (tSeq (tIfS (tTest (tOp (rEqU K) (tOp rModU (tOp rDivU (tVar 1) (tC (.int 2))) (tC (.int 3))) (tC (.int 1)))) (tRet (tOp rAddS (tSl rSlS (tVar 0) tNoPart (tPart (tVar 4))) (tSl rSlS (tVar 0) (tPart (tOp (rAddU K) (tVar 4) (tC (.int 1)))) tNoPart))) tNext)    (tRet (tOp rAddS (tOp rAddS (tSl rSlS (tVar 0) tNoPart (tPart (tVar 4))) (tVar 3)) (tSl rSlS (tVar 0) (tPart (tOp (rAddU K) (tVar 4) (tC (.int 1)))) tNoPart)))))) (Rt Q) [some (.str T), some (.int c), r2, some (.str ⟨#[d]⟩), none] H := fun r2 d hd => by
    have ds : (∀ c ∈ (⟨#[d]⟩ : Str).cps.toList, c < 128) ∧ (⟨#[d]⟩ : Str).length ≤ 1 := ⟨fun c hc => by
      have : c = d := by simpa using hc
      omega, Nat.le_refl _⟩
    have dl : (⟨#[d]⟩ : Str).length = 1 := rfl
    refine w_seq (w_asg (w_op (w_op (w_var rfl (w_c (w_divI (by decide) (by decide) (w_op (w_cb (w_cons (w_var rfl (w_nil (w_lenStr hT (w_c (w_addI (w_modI (by omega) (w_name ?_))))))))))))))))
    generalize c / 1000 % _ = k
    try dsimp only
    refine w_seq (w_ifS (w_test (w_op (w_op (w_op (w_var rfl (w_c (w_divI (by decide) (by decide) (w_c (w_modI (by decide) (w_c (w_eqI (w_bl (iteD (fun _ => w_ret ?_) fun _ => w_next ?_))))))))))))))
    · refine w_op (w_op (w_sl (w_var rfl (w_nopart (w_part (w_var rfl (w_int ⟨T, rfl, hT, fun y1 m1 n1 => w_var rfl ⟨y1, ⟨#[d]⟩, rfl, rfl, by omega, ?_⟩⟩)))))))
      refine w_sl (w_var rfl (w_part (w_var rfl (w_int (w_nopart ⟨T, rfl, hT, fun y2 m2 n2 => ⟨y1 ++ ⟨#[d]⟩, y2, rfl, rfl, by rw [PySem.Str.length_append]; omega, ?_⟩⟩)))))
      have := asc_cat (asc_cat (sub m1 n1) ds) (sub m2 n2)
      exact q _ ⟨this.1, by omega⟩
    try dsimp only
    refine w_seq (w_ifS (w_test (w_op (w_op (w_op (w_var rfl (w_c (w_divI (by decide) (by decide) (w_c (w_modI (by decide) (w_c (w_eqI (w_bl (iteD (fun _ => w_ret ?_) fun _ => w_next ?_))))))))))))))
    · refine w_op (w_sl (w_var rfl (w_nopart (w_part (w_var rfl (w_int ⟨T, rfl, hT, fun y1 m1 n1 => ?_⟩))))))
      refine w_sl (w_var rfl (w_part (w_op (w_var rfl (w_c (w_addI (w_int (w_nopart ⟨T, rfl, hT, fun y2 m2 n2 => ⟨y1, y2, rfl, rfl, by omega, ?_⟩⟩))))))))
      have := asc_cat (sub m1 n1) (sub m2 n2)
      exact q _ ⟨this.1, by omega⟩
    try dsimp only
    refine w_ret (w_op (w_op (w_sl (w_var rfl (w_nopart (w_part (w_var rfl (w_int ⟨T, rfl, hT, fun y1 m1 n1 => w_var rfl ⟨y1, ⟨#[d]⟩, rfl, rfl, by omega, ?_⟩⟩))))))))
    refine w_sl (w_var rfl (w_part (w_op (w_var rfl (w_c (w_addI (w_int (w_nopart ⟨T, rfl, hT, fun y2 m2 n2 => ⟨y1 ++ ⟨#[d]⟩, y2, rfl, rfl, by rw [PySem.Str.length_append]; omega, ?_⟩⟩))))))))
    have := asc_cat (asc_cat (sub m1 n1) ds) (sub m2 n2)
    exact q _ ⟨this.1, by omega⟩
  unfold tb__law_signs
  refine w_seq (w_asg (w_c (w_name ?_)))
  try dsimp only
  refine w_seq (w_asg (w_op (w_var rfl (w_c ⟨_, _, rfl, rfl, by decide +kernel, w_name ?_⟩))))
  try dsimp only
  obtain ⟨d1, hd1, ed1⟩ := at_some sgs_len (by decide) (c / 6)
  obtain ⟨d2, hd2, ed2⟩ := at_some sgt_len (by decide) (c / 6)
  refine w_seq (w_asg (w_op (w_var rfl (w_op (w_op (w_var rfl (w_c (w_divI (by decide) (by decide) (w_c (w_modI (by decide) (.inr (.inr ⟨sgs, _, d1, rfl, rfl, by decide +kernel, ed1, w_name ?_⟩))))))))))))
  try dsimp only
  refine w_seq (w_ifS (w_test (w_op (w_op (w_var rfl (w_c (w_modI (by decide) (w_c (w_eqI (w_bl (iteD (fun _ => ?_) fun _ => w_next (fin _ d1 (sgs_asc d1 hd1)))))))))))))
  refine w_asg (w_op (w_c (w_op (w_op (w_var rfl (w_c (w_divI (by decide) (by decide) (w_c (w_modI (by decide) (.inr (.inr ⟨sgt, _, d2, rfl, rfl, by decide +kernel, ed2, w_name ?_⟩)))))))))))
  exact fin _ d2 (sgt_asc d2 hd2)
theorem join_chars {s : Str} : ∀ {ts : List Str} {c : Nat}, c ∈ (Str.join s ts).cps.toList → c ∈ s.cps.toList ∨ ∃ t ∈ ts, c ∈ t.cps.toList
  | [], c, h => by cases h
  | [x], c, h => .inr ⟨x, by simp, h⟩
  | x :: y :: r, c, h => by
    rw [join_two, app_list, app_list] at h
    rcases List.mem_append.mp h with h | h
    · rcases List.mem_append.mp h with h | h
      · exact .inr ⟨x, by simp, h⟩
      · exact .inl h
    · rcases join_chars h with z | ⟨t, ht, z⟩
      · exact .inl z
      · exact .inr ⟨t, List.mem_cons_of_mem _ ht, z⟩
theorem join_bound {s : Str} {B : Nat} (hs : s.length = 1) : ∀ {ts : List Str}, (∀ t ∈ ts, t.length ≤ B) → (Str.join s ts).length ≤ (B + 1) * ts.length
  | [], _ => Nat.zero_le _
  | [x], h => by
    have h1 := h x (by simp)
    have e : Str.join s [x] = x := rfl
    rw [e, List.length_singleton]
    omega
  | x :: y :: r, h => by
    have h1 := h x (by simp)
    have h2 := join_bound hs fun t ht => h t (List.mem_cons_of_mem _ ht)
    rw [join_two, PySem.Str.length_append, PySem.Str.length_append, List.length_cons, hs, Nat.mul_add, Nat.mul_one]
    omega
theorem w_joinS {K : PySem.W.Frag} {H : Hp} {Q : VK} {p : Addr} {ws : List Str} (h : H p = some (.lst (ws.map V.str))) (ok : ∀ w ∈ ws, WdOk w) (hn : ws.length ≤ 20) (k : ∀ T : Str, (∀ c ∈ T.cps.toList, c < 128) → T.length ≤ 41 * ws.length → Q (.str T) H) : rJoin K (.str (" " : Str)) [.ref p] H Q := by
  refine ⟨_, p, ws, rfl, rfl, SqL.of h, ?_, ?_⟩
  · unfold JoinOk
    rw [Bool.not_eq_true', b_sg]
    have l3 : (sg 32).length = 1 := rfl
    exact StrLaws.joinFits (B := 40) (fun w hw => (ok w hw).2) (by rw [l3]; omega)
  · rw [join_str, b_sg]
    refine k _ (fun c hc => ?_) (join_bound rfl fun t ht => (ok t ht).2)
    rcases join_chars hc with z | ⟨t, ht, z⟩
    · have : c = 32 := by simpa [sg] using z
      omega
    · exact (ok t ht).1 c z
theorem w_slS {K : PySem.W.Frag} {H : Hp} {Q : VK} {p : Addr} {ws : List Str} {lo hi : Option Int} (h : H p = some (.lst (ws.map V.str))) (k : ∀ a ws' H', Same H H' → H' a = some (.lst (List.map V.str ws')) → (∀ w ∈ ws', w ∈ ws) → ws'.length ≤ ws.length → (∀ m : Nat, hi = some (m : Int) → ws'.length ≤ m) → Q (.ref a) H') : rSlU K (.ref p) lo hi H Q := by
  refine .inr ⟨p, _, rfl, SqL.of h, fun a ha => ?_⟩
  have e : cutV (ws.map V.str) lo hi = List.map V.str ((ws.drop (HT.sIx (ws.map V.str).length 0 lo)).take (HT.sIx (ws.map V.str).length (ws.map V.str).length hi - HT.sIx (ws.map V.str).length 0 lo)) := by
    unfold cutV
    rw [List.map_take, List.map_drop]
  rw [e]
  refine k a _ _ (Same.laid ha) upd_same (fun w hw => List.mem_of_mem_drop (List.mem_of_mem_take hw)) ?_ fun m hm => ?_
  · rw [List.length_take, List.length_drop]; omega
  · subst hm
    rw [HT.sIx_nat, List.length_take]
    omega
theorem w_catS {K : PySem.W.Frag} {H : Hp} {Q : VK} {a b : Addr} {ws vs : List Str} (h1 : H a = some (.lst (ws.map V.str))) (h2 : H b = some (.lst (vs.map V.str))) (hz : ws.length + vs.length ≤ 1000) (k : ∀ c H', Same H H' → H' c = some (.lst (List.map V.str (ws ++ vs))) → Q (.ref c) H') : rAddU K (.ref a) (.ref b) H Q := by
  refine .inr (.inr (.inr ⟨a, b, _, _, rfl, rfl, h1, h2, ?_, fun p hp => ?_⟩))
  · rw [List.length_map, List.length_map]
    exact Nat.le_trans hz (by decide)
  · rw [← List.map_append]
    exact k p _ (Same.laid hp) upd_same
theorem one_ok : MulOk ("1" : Str) 30 := ⟨by decide, fun _ _ => by decide +kernel, fun _ _ => by decide +kernel⟩
def lA : List Str := ["", "x", "3x", "x3", "3", "3x0", "03x1", "3x01", "3x1x1", "3X1", "-3x1", "3x-1", "+3x1", "3x1000000001"]
def lB : List Str := ["1000000000000000001x1", Txt.mul ("1" : Str) 30 ++ ("x1" : Str), ("1x" : Str) ++ Txt.mul ("1" : Str) 30, "3.0x1", "axb", "00x1", "0x1"]
def lC : List Str := ["3x1 ", " 3x1", "9999999999999999999x1", "1x1000000000"]
theorem l_ok : ∀ w ∈ lA ++ lB ++ lC, WdOk w := by
  have h : (lA ++ lB ++ lC).all (fun w => w.cps.toList.all (fun c => decide (c < 128)) && decide (w.length ≤ 40)) = true := by decide +kernel
  intro w hw
  have := List.all_eq_true.mp h w hw
  rw [Bool.and_eq_true] at this
  exact ⟨fun c hc => of_decide_eq_true (List.all_eq_true.mp this.1 c hc), of_decide_eq_true this.2⟩
theorem l_len : (((lA ++ lB ++ lC).length : Nat) : Int) = 25 := rfl
theorem at_str {ws : List Str} {n : Int} (hn : ((ws.length : Nat) : Int) = n) (h0 : 0 < n) (k : Int) : ∃ w, w ∈ ws ∧ atI (ws.map V.str) (k % n) = some (.str w) := by
  have r0 := Int.emod_nonneg k (show n ≠ 0 by omega)
  have r1 := Int.emod_lt_of_pos k h0
  have hl : (k % n).toNat < ws.length := by omega
  exact ⟨_, List.getElem_mem hl, atI_at r0 (by rw [List.getElem?_map, List.getElem?_eq_getElem hl]; rfl)⟩
theorem rd__law_words {K : PySem.W.Frag} {a b : V} {H : Hp} {Q : VK} {E : XK} (h : sb__law_words K a b H Q E) : tb__law_words K (Rt Q) [some a, some b, none, none, none] H := by
  obtain ⟨p, ws, c, rfl, rfl, hp, n1, n6, ok, q⟩ := h
  have lw : (0 : Int) < (((ws.map V.str).length : Nat) : Int) := by rw [List.length_map]; omega
  unfold tb__law_words
  refine w_seq (w_asg (w_op (w_op (w_var rfl (w_c (w_divI (by decide) (by decide) (w_cb (w_cons (w_var rfl (w_nil (w_lenL (SqL.of hp) (w_modI lw (w_name ?_)))))))))))))
  generalize c / 64 % _ = k
  try dsimp only
  refine w_seq (w_asg (w_lst (w_cons (w_c (w_cons (w_c (w_cons (w_c (w_cons (w_c (w_cons (w_c (w_cons (w_c (w_cons (w_c (w_cons (w_c (w_cons (w_c (w_cons (w_c (w_cons (w_c (w_cons (w_c (w_cons (w_c (w_cons (w_c (w_nil ⟨by decide +kernel, fun b0 hb0 => w_name ?_⟩)))))))))))))))))))))))))))))))
  have s0 := Same.laid (o := .lst (lA.map V.str)) hb0
  have e0 : upd H b0 (.lst (lA.map V.str)) b0 = some (.lst (lA.map V.str)) := upd_same
  refine (?_ : tSeq _ _ _ _ (upd H b0 (.lst (lA.map V.str))))
  generalize upd H b0 (.lst (lA.map V.str)) = H1 at s0 e0 ⊢
  try dsimp only
  refine w_seq (w_asg (w_op (w_var rfl (w_lst (w_cons (w_c (w_cons (w_op (w_op (w_c (w_c ⟨_, _, rfl, rfl, one_ok, w_c ⟨_, _, rfl, rfl, by decide +kernel, w_cons (w_op (w_c (w_op (w_c (w_c ⟨_, _, rfl, rfl, one_ok, _, _, rfl, rfl, by decide +kernel, w_cons (w_c (w_cons (w_c (w_cons (w_c (w_cons (w_c (w_nil ⟨by decide +kernel, fun b1 hb1 => ?_⟩))))))))⟩)))))⟩⟩)))))))))))
  have s1 := Same.laid (o := .lst (lB.map V.str)) hb1
  have e1 : upd H1 b1 (.lst (lB.map V.str)) b1 = some (.lst (lB.map V.str)) := upd_same
  refine w_catS (s1 _ _ e0) e1 (by decide) fun a1 H2 s2 e2 => w_name ?_
  have s02 := (s0.trans s1).trans s2
  clear s0 s1 s2 e1 hb1 e0 hb0
  try dsimp only
  refine w_seq (w_asg (w_op (w_var rfl (w_lst (w_cons (w_c (w_cons (w_c (w_cons (w_c (w_cons (w_c (w_nil ⟨by decide +kernel, fun b2 hb2 => ?_⟩)))))))))))))
  have s1 := Same.laid (o := .lst (lC.map V.str)) hb2
  have e1 : upd H2 b2 (.lst (lC.map V.str)) b2 = some (.lst (lC.map V.str)) := upd_same
  refine w_catS (s1 _ _ e2) e1 (by decide) fun a3 H4 s4 e4 => w_name ?_
  have s := (s02.trans s1).trans s4
  clear s02 s1 s4 e1 hb2 e2
  have hp4 := s _ _ hp
  try dsimp only
  refine w_seq (w_ifS (w_test (w_op (w_op (w_var rfl (w_c (w_modI (by decide) (w_c (w_eqI (w_bl (iteD (fun _ => w_ret ?_) fun _ => w_next ?_)))))))))))
  · refine w_bm (w_c ⟨rfl, w_cons (w_op (w_sl (w_var rfl (w_nopart (w_part (w_var rfl (w_int (w_slS hp4 fun c1 v1 H5 s5 g1 i1 j1 _ => ?_))))))))⟩)
    refine w_sl (w_var rfl (w_part (w_op (w_var rfl (w_c (w_addI (w_int (w_nopart (w_slS (s5 _ _ hp4) fun c2 v2 H6 s6 g2 i2 j2 _ => ?_)))))))))
    refine w_catS (s6 _ _ g1) g2 (by omega) fun c3 H7 s7 g3 => w_nil (w_joinS g3 (fun w hw => ?_) (by rw [List.length_append]; omega) fun T t1 t2 => q T _ (((s.trans s5).trans s6).trans s7) ⟨t1, by rw [List.length_append] at t2; omega⟩)
    rcases List.mem_append.mp hw with z | z
    · exact ok w (i1 w z)
    · exact ok w (i2 w z)
  try dsimp only
  refine w_seq (w_ifS (w_test (w_op (w_op (w_var rfl (w_c (w_modI (by decide) (w_c (w_eqI (w_bl (iteD (fun _ => w_ret ?_) fun _ => w_next ?_)))))))))))
  · refine w_bm (w_c ⟨rfl, w_cons (w_op (w_sl (w_var rfl (w_nopart (w_part (w_op (w_var rfl (w_c (w_addI (w_int (w_slS hp4 fun c1 v1 H5 s5 g1 i1 j1 _ => ?_)))))))))))⟩)
    refine w_sl (w_var rfl (w_part (w_var rfl (w_int (w_nopart (w_slS (s5 _ _ hp4) fun c2 v2 H6 s6 g2 i2 j2 _ => ?_))))))
    refine w_catS (s6 _ _ g1) g2 (by omega) fun c3 H7 s7 g3 => w_nil (w_joinS g3 (fun w hw => ?_) (by rw [List.length_append]; omega) fun T t1 t2 => q T _ (((s.trans s5).trans s6).trans s7) ⟨t1, by rw [List.length_append] at t2; omega⟩)
    rcases List.mem_append.mp hw with z | z
    · exact ok w (i1 w z)
    · exact ok w (i2 w z)
  try dsimp only
  have last : (tSeq (tAsg (tOp (rIx K) (tVar 3) (tOp rModU (tOp rDivU (tVar 1) (tC (.int 6400))) (tC (.int 25)))) (gName 4)) (tRet (tBM K "str" (rJoin K) (tC (.str " ")) (tCons (tOp (rAddU K) (tOp (rAddU K) (tSl (rSlU K) (tVar 0) tNoPart (tPart (tVar 2))) (tLst (tCons (tVar 4) tNil))) (tSl (rSlU K) (tVar 0) (tPart (tOp (rAddU K) (tVar 2) (tC (.int 1)))) tNoPart)) tNil)))) (Rt Q) [some (.ref p), some (.int c), some (.int k), some (.ref a3), none] H4 := by
    obtain ⟨w, mw, ew⟩ := at_str l_len (by decide) (c / 6400)
    have wo := l_ok w mw
    refine w_seq (w_asg (w_op (w_var rfl (w_op (w_op (w_var rfl (w_c (w_divI (by decide) (by decide) (w_c (w_modI (by decide) (w_ixL (SqL.of e4) ew (w_name ?_))))))))))))
    try dsimp only
    refine w_ret (w_bm (w_c ⟨rfl, w_cons (w_op (w_op (w_sl (w_var rfl (w_nopart (w_part (w_var rfl (w_int (w_slS hp4 fun c1 v1 H5 s5 g1 i1 j1 _ => ?_)))))))))⟩))
    refine w_lst (w_cons (w_var rfl (w_nil ⟨by show 1 ≤ sizeLine; decide, fun c2 hc2 => ?_⟩)))
    have s6 := Same.laid (o := .lst (List.map V.str [w])) hc2
    have g2 : upd H5 c2 (.lst (List.map V.str [w])) c2 = some (.lst (List.map V.str [w])) := upd_same
    refine w_catS (s6 _ _ g1) g2 (by simp; omega) fun c3 H7 s7 g3 => ?_
    refine w_sl (w_var rfl (w_part (w_op (w_var rfl (w_c (w_addI (w_int (w_nopart (w_slS (s7 _ _ (s6 _ _ (s5 _ _ hp4))) fun c4 v4 H8 s8 g4 i4 j4 _ => ?_)))))))))
    have ln : (v1 ++ [w]).length = v1.length + 1 := by rw [List.length_append]; rfl
    refine w_catS (s8 _ _ g3) g4 (by omega) fun c5 H9 s9 g5 => w_nil (w_joinS g5 (fun v hv => ?_) (by rw [List.length_append]; omega) fun T t1 t2 => q T _ (((((s.trans s5).trans s6).trans s7).trans s8).trans s9) ⟨t1, by rw [List.length_append] at t2; omega⟩)
    rcases List.mem_append.mp hv with z | z
    · rcases List.mem_append.mp z with z | z
      · exact ok v (i1 v z)
      · have : v = w := by simpa using z
        rw [this]; exact wo
    · exact ok v (i4 v z)
  refine w_seq (w_ifS (w_and (w_test (w_op (w_op (w_var rfl (w_c (w_modI (by decide) (w_c (w_eqI (w_bl (iteD (fun _ => ?_) fun _ => iteF (w_next last)))))))))))))
  refine w_test (w_op (w_op (w_op (w_var rfl (w_c (w_divI (by decide) (by decide) (w_c (w_modI (by decide) (w_c (w_eqI (w_bl (iteD (fun _ => w_ret ?_) fun _ => w_next last))))))))))))
  refine w_bm (w_c ⟨rfl, w_cons (w_sl (w_op (w_var rfl (w_c (.inr ⟨p, 7, _, rfl, rfl, hp4, by decide, by decide, ?_, fun c1 hc1 => ?_⟩)))))⟩)
  · rw [List.length_map]
    exact Nat.le_trans (Nat.mul_le_mul_right _ n6) (by decide)
  have fe : (List.replicate (7 : Int).toNat (ws.map V.str)).flatten = List.map V.str (List.replicate 7 ws).flatten := by
    rw [List.map_flatten, List.map_replicate]; rfl
  rw [fe]
  have s5 := Same.laid (o := .lst (List.map V.str (List.replicate 7 ws).flatten)) hc1
  refine w_nopart (w_part (w_c (w_int (w_slS upd_same fun c2 v2 H6 s6 g2 i2 _ j2 => w_nil (w_joinS g2 (fun w hw => ?_) ?_ fun T t1 t2 => q T _ ((s.trans s5).trans s6) ⟨t1, ?_⟩)))))
  · obtain ⟨l, hl, hw'⟩ := List.mem_flatten.mp (i2 w hw)
    rw [(List.mem_replicate.mp hl).2] at hw'
    exact ok w hw'
  · have := j2 7 rfl
    omega
  · have := j2 7 rfl
    omega
theorem rd_law {K : PySem.W.Frag} {mg : Str → Option Value} (M : Md K mg) {a : V} {H : Hp} {Q : VK} {E : XK} (h : sb_top K a H Q E) : tb_law K mg (Rt Q) [some a, none, none, none, none, none] H := by
  obtain ⟨l, sc, rfl, hl, hb, hlen, q⟩ := h
  unfold tb_law
  refine w_seq (w_asg (w_call (w_cons (w_call (w_cons (w_var rfl (w_cons (w_c (w_nil ⟨_, _, rfl, l, sc, 0, rfl, rfl, hl, hb, by omega, w_nil ⟨_, rfl, _, rfl, fun p ws H1 s1 hp n1 n6 ok => w_name ?_⟩⟩)))))))))
  have l1 := s1.seq hl
  try dsimp only
  refine w_seq (w_for (w_cons (w_c (w_cons (w_cb (w_cons (w_c (w_cons (w_cb (w_cons (w_c (w_cons (w_cb (w_cons (w_var rfl (w_nil (w_lenL l1 (w_nil (w_min2 (w_nil (w_max2 (w_nil ?_))))))))))))))))))))))
  obtain ⟨n, en, n20⟩ : ∃ n : Nat, max 2 (min 17 (((sc.map V.int).length : Nat) : Int)) = (n : Int) ∧ n ≤ 20 := ⟨(max 2 (min 17 (((sc.map V.int).length : Nat) : Int))).toNat, by omega, by omega⟩
  rw [en]
  refine ⟨_, _, rfl, ⟨by decide, by decide, (rng_ok (by omega)).1, (rng_ok (by omega)).2⟩, ?_⟩
  refine for_range (lo := 1) (n := ((n : Int) - 1).toNat) (fun i σ H3 => Same H1 H3 ∧ ∃ r2 r3 r4 r5, σ = [some (.ref l), some (.ref p), r2, r3, r4, r5]) ⟨Same.refl _, _, _, _, _, rfl⟩ ?_ ?_
  · rintro i σ H3 hi ⟨s3, r2, r3, r4, r5, rfl⟩
    have hp3 := s3 _ _ hp
    have l3 := s3.seq l1
    refine w_name (w_seq (w_asg (w_call (w_cons (w_var rfl (w_cons (w_var rfl (w_nil ⟨_, _, rfl, l, sc, 1 + i, rfl, by rw [Int.natCast_add]; rfl, l3, hb, by omega, w_name ?_⟩))))))))
    generalize cellF sc (1 + i) = c
    try dsimp only
    have go : ∀ T H4, Same H3 H4 → ascT T → (tSeq (tAsg (tCall (sp__law_read K) [] E0 (tCons (tVar 4) tNil)) (gName 5)) (tIfS (tTest (tOp rIsU (tVar 5) (tC .non))) (tIfS (tNot (tTru K (tCall (sp__law_refused K mg) [] E0 (tCons (tVar 4) tNil)))) (tRet (tC (.bl false))) tNext) (tIfS (tTest (tOp (rNeU K) (tCall (sp_read_day K mg) [] E0 (tCons (tVar 4) tNil)) (tVar 5))) (tRet (tC (.bl false))) tNext))) { nx := fun σ H3 => Same H1 H3 ∧ ∃ r2 r3 r4 r5, σ = [some (.ref l), some (.ref p), r2, r3, r4, r5], rt := Q, bk := fun σ H3 => True, ct := fun σ H3 => True } [some (.ref l), some (.ref p), some (.int (1 + (i : Int))), some (.int c), some (.str T), r5] H4 := fun T H4 s4 asc => by
      have s14 := s3.trans s4
      refine w_seq (w_asg (w_call (w_cons (w_var rfl (w_nil ⟨_, rfl, T, rfl, asc, fun good v H5 s5 rv => w_name ?_, fun bad H5 s5 => w_name ?_⟩)))))
      · try dsimp only
        obtain ⟨t, p1, p2, rfl, ht, h1, h2⟩ := day_rep rv
        refine w_ifS (w_test (w_op (w_var rfl (w_c (w_isN (w_bl ?_))))))
        rw [decide_eq_false (fun z => by cases z)]
        refine iteF (w_ifS (w_test (w_op (w_call (w_cons (w_var rfl (w_nil ⟨_, rfl, T, rfl, asc, fun _ u H6 s6 ru => w_var rfl (w_neSelf ru (Rep.mono s6 _ _ rv) (lay_day _) (by have := depth_day (dayOf T); omega) (w_bl (iteF (w_next ⟨(s14.trans s5).trans s6, _, _, _, _, rfl⟩)))), fun bad => ?_⟩)))))))
        rw [good] at bad
        cases bad
      · try dsimp only
        refine w_ifS (w_test (w_op (w_var rfl (w_c (w_isN (w_bl ?_))))))
        rw [decide_eq_true rfl]
        exact iteT (w_ifS (w_not (w_tru (w_call (w_cons (w_var rfl (w_nil ⟨_, rfl, T, rfl, asc, bad, fun H6 s6 => w_trub (iteF (w_next ⟨(s14.trans s5).trans s6, _, _, _, _, rfl⟩))⟩)))))))
    refine w_seq (w_asg (w_call (w_cons (w_var rfl (w_cons (w_op (w_var rfl (w_c (w_divI (by decide) (by decide) (w_nil ⟨_, _, rfl, p, ws, _, rfl, rfl, hp3, n1, n6, ok, fun T1 H4 s4 a1 => w_name ?_⟩))))))))))
    try dsimp only
    refine w_seq (w_ifS (w_test (w_op (w_op (w_var rfl (w_c (w_modI (by decide) (w_c (w_eqI (w_bl (iteD (fun _ => ?_) fun _ => w_next (go T1 H4 s4 a1))))))))))))
    refine w_asg (w_call (w_cons (w_bm (w_c ⟨rfl, w_cons (w_var rfl (w_nil (w_joinS (s4 _ _ hp3) ok (by omega) fun T t1 t2 => w_cons (w_op (w_var rfl (w_c (w_divI (by decide) (by decide) (w_nil ⟨_, _, rfl, T, _, rfl, rfl, t1, by omega, fun T2 a2 => w_name (go T2 H4 s4 a2)⟩))))))))⟩))))
  · rintro σ H3 ⟨s3, r2, r3, r4, r5, rfl⟩
    try dsimp only
    exact w_ret (w_c (q _))
abbrev BdP (x : Str) (st : Stmt) (ps : List Str) : Prop := ∀ (kV doc pm : Value) (an : Option Addr) (cdv ct : Value) (us : List Value), us.length = ps.length → bindArgs (PySem.W.fnOf x x (defArgs st) (defBody st) (defScope st) .none kV doc pm an cdv ct) ⟨us, []⟩ = pure (ps.zip us)
section
variable {P : Program} {w : World} {K : PySem.W.Frag} {mg : Str → Option Value} {base : Heap}
abbrev s_is_int : Stmt := top 1
abbrev ps_is_int : List Str := ["thing"]
theorem sc_is_int : FnScope ["thing"] ps_is_int (defScope s_is_int) := ⟨rfl, rfl, rfl, by decide +kernel, rfl, by decide +kernel, by decide +kernel⟩
theorem bd_is_int : BdP "is_int" s_is_int ps_is_int :=
  fun _ _ _ _ _ _ us hl => match us, hl with | [_], _ => rfl
theorem fn_is_int (M : Md K mg) (D : Df K mg "is_int" s_is_int)  : Fn P w K mg base CX0 "is_int" 1 ps_is_int (sp_is_int K) := D.to (fun F =>
  F.ok (k := 0) sc_is_int (fun vs _ _ _ h => sp1_len h) (fun cdv A outer s H vs Q E hr h => by
    have hu := hr.units
    obtain ⟨a0, rfl, h⟩ := h
    refine ⟨tb_is_int K, ?_, rd_is_int h⟩
    refine pss_one ?_
    exact (ps_ret (pe_and (fb_cB call_isinst (by rfl) M.b_isinstance bt_isinstance (pb_c (pv 0) (pb_c (pe_gty M.b_int bt_int) pb_nil))) (pe_one (pe_not (fb_cB call_isinst (by rfl) M.b_isinstance bt_isinstance (pb_c (pv 0) (pb_c (pe_gty M.b_bool bt_bool) pb_nil))))))))) bd_is_int
abbrev s_is_tuple : Stmt := top 15
abbrev ps_is_tuple : List Str := ["thing", "shortest", "longest"]
theorem sc_is_tuple : FnScope ["thing", "shortest", "longest"] ps_is_tuple (defScope s_is_tuple) := ⟨rfl, rfl, rfl, by decide +kernel, rfl, by decide +kernel, by decide +kernel⟩
theorem bd_is_tuple : BdP "is_tuple" s_is_tuple ps_is_tuple :=
  fun _ _ _ _ _ _ us hl => match us, hl with | [_, _, _], _ => rfl
theorem fn_is_tuple (M : Md K mg) (D : Df K mg "is_tuple" s_is_tuple)  : Fn P w K mg base CX0 "is_tuple" 1 ps_is_tuple (sp_is_tuple K) := D.to (fun F =>
  F.ok (k := 0) sc_is_tuple (fun vs _ _ _ h => sp3_len h) (fun cdv A outer s H vs Q E hr h => by
    have hu := hr.units
    obtain ⟨a0, a1, a2, rfl, h⟩ := h
    refine ⟨tb_is_tuple K, ?_, rd_is_tuple h⟩
    refine pss_one ?_
    exact (ps_ret (pe_and (fb_cB call_isinst (by rfl) M.b_isinstance bt_isinstance (pb_c (pv 0) (pb_c (pe_gty M.b_tuple bt_tuple) pb_nil))) (pe_one (pe_chain op_le op_le (pv 1) (fb_cB (call_lenU) (by rfl) M.b_len bt_len (pb_c (pv 0) pb_nil)) (pv 2))))))) bd_is_tuple
abbrev s_is_price : Stmt := top 16
abbrev ps_is_price : List Str := ["thing"]
theorem sc_is_price : FnScope ["thing"] ps_is_price (defScope s_is_price) := ⟨rfl, rfl, rfl, by decide +kernel, rfl, by decide +kernel, by decide +kernel⟩
theorem bd_is_price : BdP "is_price" s_is_price ps_is_price :=
  fun _ _ _ _ _ _ us hl => match us, hl with | [_], _ => rfl
theorem fn_is_price (M : Md K mg) (D : Df K mg "is_price" s_is_price) (G_is_int : Fn P w K mg base CX0 "is_int" 1 ps_is_int (sp_is_int K)) : Fn P w K mg base CX0 "is_price" 2 ps_is_price (sp_is_price K) := D.to (fun F =>
  F.ok (k := 1) sc_is_price (fun vs _ _ _ h => sp1_len h) (fun cdv A outer s H vs Q E hr h => by
    have hu := hr.units
    obtain ⟨a0, rfl, h⟩ := h
    refine ⟨tb_is_price K, ?_, rd_is_price h⟩
    refine pss_one ?_
    exact (ps_ret (pe_and (fb_fn G_is_int (hr.mono (by decide)) (by rfl) pass0 (pb_c (pv 0) pb_nil)) (pe_one (pe_chain op_le op_le pe_int (pv 0) (pe_gint M.c_HIGHEST_PRICE))))))) bd_is_price
abbrev s_is_amount : Stmt := top 17
abbrev ps_is_amount : List Str := ["thing"]
theorem sc_is_amount : FnScope ["thing"] ps_is_amount (defScope s_is_amount) := ⟨rfl, rfl, rfl, by decide +kernel, rfl, by decide +kernel, by decide +kernel⟩
theorem bd_is_amount : BdP "is_amount" s_is_amount ps_is_amount :=
  fun _ _ _ _ _ _ us hl => match us, hl with | [_], _ => rfl
theorem fn_is_amount (M : Md K mg) (D : Df K mg "is_amount" s_is_amount) (G_is_int : Fn P w K mg base CX0 "is_int" 1 ps_is_int (sp_is_int K)) : Fn P w K mg base CX0 "is_amount" 2 ps_is_amount (sp_is_amount K) := D.to (fun F =>
  F.ok (k := 1) sc_is_amount (fun vs _ _ _ h => sp1_len h) (fun cdv A outer s H vs Q E hr h => by
    have hu := hr.units
    obtain ⟨a0, rfl, h⟩ := h
    refine ⟨tb_is_amount K, ?_, rd_is_amount h⟩
    refine pss_one ?_
    exact (ps_ret (pe_and (fb_fn G_is_int (hr.mono (by decide)) (by rfl) pass0 (pb_c (pv 0) pb_nil)) (pe_one (pe_chain op_le op_le pe_int (pv 0) (pe_gint M.c_HIGHEST_AMOUNT))))))) bd_is_amount
abbrev s_are_prices : Stmt := top 18
abbrev ps_are_prices : List Str := ["thing"]
theorem sc_are_prices : FnScope ["thing"] ps_are_prices (defScope s_are_prices) := ⟨rfl, rfl, rfl, by decide +kernel, rfl, by decide +kernel, by decide +kernel⟩
theorem bd_are_prices : BdP "are_prices" s_are_prices ps_are_prices :=
  fun _ _ _ _ _ _ us hl => match us, hl with | [_], _ => rfl
theorem fn_are_prices (M : Md K mg) (D : Df K mg "are_prices" s_are_prices) (G_is_tuple : Fn P w K mg base CX0 "is_tuple" 1 ps_is_tuple (sp_is_tuple K)) (G_is_price : Fn P w K mg base CX0 "is_price" 2 ps_is_price (sp_is_price K)) : Fn P w K mg base CX0 "are_prices" 3 ps_are_prices (sp_are_prices K) := D.to (fun F =>
  F.ok (k := 2) sc_are_prices (fun vs _ _ _ h => sp1_len h) (fun cdv A outer s H vs Q E hr h => by
    have hu := hr.units
    obtain ⟨a0, rfl, h⟩ := h
    refine ⟨tb_are_prices K, ?_, rd_are_prices h⟩
    refine pss_one ?_
    exact (ps_ret (pe_and (fb_fn G_is_tuple (hr.mono (by decide)) (by rfl) pass0 (pb_c (pv 0) (pb_c pe_int (pb_c (pe_gint M.c_MOST_WARES) pb_nil)))) (pe_one (fb_cB (call_allU rfl) (by rfl) M.b_all bt_all (pb_c (pe_comp (N := ["price"]) (l := [none]) rfl ⟨rfl, by decide +kernel, by decide +kernel, by first | decide +kernel | rfl,  True.intro, by decide +kernel⟩ (pi_seq (pv 0)) (fun _ _ _ _ _ => (pg_name (i := 0) (show List.Nodup (["price"] : List Str) by decide +kernel) rfl (Or.inl rfl))) (fun _ _ _ _ _ => pif_nil) (fun _ _ _ _ _ => (fb_fn G_is_price (hr.mono (by decide)) (by rfl) pass0 (pb_c (pv 0) pb_nil)))) pb_nil))))))) bd_are_prices
abbrev s_are_amounts : Stmt := top 19
abbrev ps_are_amounts : List Str := ["thing"]
theorem sc_are_amounts : FnScope ["thing"] ps_are_amounts (defScope s_are_amounts) := ⟨rfl, rfl, rfl, by decide +kernel, rfl, by decide +kernel, by decide +kernel⟩
theorem bd_are_amounts : BdP "are_amounts" s_are_amounts ps_are_amounts :=
  fun _ _ _ _ _ _ us hl => match us, hl with | [_], _ => rfl
theorem fn_are_amounts (M : Md K mg) (D : Df K mg "are_amounts" s_are_amounts) (G_is_tuple : Fn P w K mg base CX0 "is_tuple" 1 ps_is_tuple (sp_is_tuple K)) (G_is_amount : Fn P w K mg base CX0 "is_amount" 2 ps_is_amount (sp_is_amount K)) : Fn P w K mg base CX0 "are_amounts" 3 ps_are_amounts (sp_are_amounts K) := D.to (fun F =>
  F.ok (k := 2) sc_are_amounts (fun vs _ _ _ h => sp1_len h) (fun cdv A outer s H vs Q E hr h => by
    have hu := hr.units
    obtain ⟨a0, rfl, h⟩ := h
    refine ⟨tb_are_amounts K, ?_, rd_are_amounts h⟩
    refine pss_cons ?_ (pss_one ?_)
    · exact (ps_if (PW.pt (pw_or (pt_not (pt_tru (fb_fn G_is_tuple (hr.mono (by decide)) (by rfl) pass0 (pb_c (pv 0) (pb_c pe_int (pb_c (pe_gint M.c_MOST_WARES) pb_nil)))) (fun _ => rfl))) (pw_or1 (pt_not (pt_tru (fb_cB (call_allU rfl) (by rfl) M.b_all bt_all (pb_c (pe_comp (N := ["amount"]) (l := [none]) rfl ⟨rfl, by decide +kernel, by decide +kernel, by first | decide +kernel | rfl,  True.intro, by decide +kernel⟩ (pi_seq (pv 0)) (fun _ _ _ _ _ => (pg_name (i := 0) (show List.Nodup (["amount"] : List Str) by decide +kernel) rfl (Or.inl rfl))) (fun _ _ _ _ _ => pif_nil) (fun _ _ _ _ _ => (fb_fn G_is_amount (hr.mono (by decide)) (by rfl) pass0 (pb_c (pv 0) pb_nil)))) pb_nil)) (fun _ => rfl)))))) (pss_one (ps_ret pe_bl)) pss_nil)
    · exact (ps_ret (fb_cB (call_anyU rfl) (by rfl) M.b_any bt_any (pb_c (pe_comp (N := ["amount"]) (l := [none]) rfl ⟨rfl, by decide +kernel, by decide +kernel, by first | decide +kernel | rfl,  True.intro, by decide +kernel⟩ (pi_seq (pv 0)) (fun _ _ _ _ _ => (pg_name (i := 0) (show List.Nodup (["amount"] : List Str) by decide +kernel) rfl (Or.inl rfl))) (fun _ _ _ _ _ => pif_nil) (fun _ _ _ _ _ => (pe_cmpR op_gt (pv 0) pe_int (nomark _)))) pb_nil))))) bd_are_amounts
abbrev s_is_day : Stmt := top 20
abbrev ps_is_day : List Str := ["thing"]
theorem sc_is_day : FnScope ["thing", "prices", "amounts"] ps_is_day (defScope s_is_day) := ⟨rfl, rfl, rfl, by decide +kernel, rfl, by decide +kernel, by decide +kernel⟩
theorem bd_is_day : BdP "is_day" s_is_day ps_is_day :=
  fun _ _ _ _ _ _ us hl => match us, hl with | [_], _ => rfl
theorem fn_is_day (M : Md K mg) (D : Df K mg "is_day" s_is_day) (G_is_tuple : Fn P w K mg base CX0 "is_tuple" 1 ps_is_tuple (sp_is_tuple K)) (G_are_prices : Fn P w K mg base CX0 "are_prices" 3 ps_are_prices (sp_are_prices K)) (G_are_amounts : Fn P w K mg base CX0 "are_amounts" 3 ps_are_amounts (sp_are_amounts K)) : Fn P w K mg base CX0 "is_day" 4 ps_is_day (sp_is_day K) := D.to (fun F =>
  F.ok (k := 3) sc_is_day (fun vs _ _ _ h => sp1_len h) (fun cdv A outer s H vs Q E hr h => by
    have hu := hr.units
    obtain ⟨a0, rfl, h⟩ := h
    refine ⟨tb_is_day K, ?_, rd_is_day h⟩
    refine pss_cons ?_ (pss_cons ?_ (pss_cons ?_ (pss_one ?_)))
    · exact (ps_if (pt_not (pt_tru (fb_fn G_is_tuple (hr.mono (by decide)) (by rfl) pass0 (pb_c (pv 0) (pb_c pe_int (pb_c pe_int pb_nil)))) (fun _ => rfl))) (pss_one (ps_ret pe_bl)) pss_nil)
    · exact (ps_set (i := 1) sc_is_day.nd rfl (Or.inl rfl) (pe_ix ix_seq (pv 0) pe_int (fun _ _ => rfl)))
    · exact (ps_set (i := 2) sc_is_day.nd rfl (Or.inl rfl) (pe_ix ix_seq (pv 0) pe_int (fun _ _ => rfl)))
    · exact (ps_ret (pe_and (fb_fn G_are_prices (hr.mono (by decide)) (by rfl) pass0 (pb_c (pv 1) pb_nil)) (pe_and (fb_fn G_are_amounts (hr.mono (by decide)) (by rfl) pass0 (pb_c (pv 2) pb_nil)) (pe_one (pe_cmpR (op_eqU hu) (fb_cB (call_lenU) (by rfl) M.b_len bt_len (pb_c (pv 1) pb_nil)) (fb_cB (call_lenU) (by rfl) M.b_len bt_len (pb_c (pv 2) pb_nil)) (nomark _)))))))) bd_is_day
abbrev s_is_number : Stmt := top 24
abbrev ps_is_number : List Str := ["word"]
theorem sc_is_number : FnScope ["word"] ps_is_number (defScope s_is_number) := ⟨rfl, rfl, rfl, by decide +kernel, rfl, by decide +kernel, by decide +kernel⟩
theorem bd_is_number : BdP "is_number" s_is_number ps_is_number :=
  fun _ _ _ _ _ _ us hl => match us, hl with | [_], _ => rfl
theorem fn_is_number (M : Md K mg) (D : Df K mg "is_number" s_is_number)  : Fn P w K mg base CX0 "is_number" 1 ps_is_number (sp_is_number K) := D.to (fun F =>
  F.ok (k := 0) sc_is_number (fun vs _ _ _ h => sp1_len h) (fun cdv A outer s H vs Q E hr h => by
    have hu := hr.units
    obtain ⟨a0, rfl, h⟩ := h
    refine ⟨tb_is_number K, ?_, rd_is_number h⟩
    refine pss_cons ?_ (pss_one ?_)
    · exact (ps_if (PW.pt (pw_or (pt_not (pt_chain op_le op_le pe_int (fb_cB (call_lenU) (by rfl) M.b_len bt_len (pb_c (pv 0) pb_nil)) (pe_gint M.c_MOST_FIGURES))) (pw_or1 (pt_not (pt_tru (fb_cB (call_allU rfl) (by rfl) M.b_all bt_all (pb_c (pe_comp (N := ["sign"]) (l := [none]) rfl ⟨rfl, by decide +kernel, by decide +kernel, by first | decide +kernel | rfl,  True.intro, by decide +kernel⟩ (pi_str (pv 0)) (fun _ _ _ _ _ => (pg_name (i := 0) (show List.Nodup (["sign"] : List Str) by decide +kernel) rfl (Or.inl rfl))) (fun _ _ _ _ _ => pif_nil) (fun _ _ _ _ _ => (pe_cmpR op_inS (pv 0) (pe_gstr M.c_FIGURES) (by with_unfolding_all rfl)))) pb_nil)) (fun _ => rfl)))))) (pss_one (ps_ret pe_bl)) pss_nil)
    · exact (ps_ret (pe_or (pe_cmpR (op_eqU hu) (pv 0) pe_str (nomark _)) (pe_one (pe_not (fb_bm1 PySem.F.plainAttrs_str PySem.F.slot_str_startswith PySem.F.type_str_startswith mt_starts (pv 0) (pb_c pe_str pb_nil)))))))) bd_is_number
abbrev s_check_text : Stmt := top 25
abbrev ps_check_text : List Str := ["holds"]
theorem sc_check_text : FnScope ["holds"] ps_check_text (defScope s_check_text) := ⟨rfl, rfl, rfl, by decide +kernel, rfl, by decide +kernel, by decide +kernel⟩
theorem bd_check_text : BdP "check_text" s_check_text ps_check_text :=
  fun _ _ _ _ _ _ us hl => match us, hl with | [_], _ => rfl
theorem fn_check_text (M : Md K mg) (D : Df K mg "check_text" s_check_text)  : Fn P w K mg base (CXr P w base) "check_text" 1 ps_check_text (sp_check_text K mg) := D.to (fun F =>
  F.okR (k := 0) sc_check_text (fun vs _ _ _ h => sp1_len h) (fun cdv A outer s H vs Q E hr h => by
    have hu := hr.units
    obtain ⟨a0, rfl, h⟩ := h
    refine ⟨tb_check_text K mg E, ?_, rd_check_text M h⟩
    refine pss_one ?_
    exact (ps_if (pt_not (pt_tru (pv 0) (fun _ => rfl))) (pss_one (fb_raise madeR rfl M.x_NoText (by rfl) (pb_c pe_str pb_nil))) pss_nil))) bd_check_text
abbrev s_read_ware : Stmt := top 26
abbrev ps_read_ware : List Str := ["word"]
theorem sc_read_ware : FnScope ["word", "numbers"] ps_read_ware (defScope s_read_ware) := ⟨rfl, rfl, rfl, by decide +kernel, rfl, by decide +kernel, by decide +kernel⟩
theorem bd_read_ware : BdP "read_ware" s_read_ware ps_read_ware :=
  fun _ _ _ _ _ _ us hl => match us, hl with | [_], _ => rfl
theorem fn_read_ware (M : Md K mg) (D : Df K mg "read_ware" s_read_ware) (G_is_number : Fn P w K mg base CX0 "is_number" 1 ps_is_number (sp_is_number K)) (G_check_text : Fn P w K mg base (CXr P w base) "check_text" 1 ps_check_text (sp_check_text K mg)) : Fn P w K mg base (CXr P w base) "read_ware" 2 ps_read_ware (sp_read_ware K mg) := D.to (fun F =>
  F.okR (k := 1) sc_read_ware (fun vs _ _ _ h => sp1_len h) (fun cdv A outer s H vs Q E hr h => by
    have hu := hr.units
    obtain ⟨a0, rfl, h⟩ := h
    refine ⟨tb_read_ware K mg E, ?_, rd_read_ware M h⟩
    refine pss_cons ?_ (pss_cons ?_ (pss_one ?_))
    · exact (ps_set (i := 1) sc_read_ware.nd rfl (Or.inl rfl) (fb_bm1 PySem.F.plainAttrs_str PySem.F.slot_str_split PySem.F.type_str_split mt_split (pv 0) (pb_c pe_str pb_nil)))
    · exact (ps_expr (fb_fn G_check_text (hr.mono (by decide)) (by rfl) passR (pb_c (pe_and (pe_cmpR (op_eqU hu) (fb_cB (call_lenU) (by rfl) M.b_len bt_len (pb_c (pv 1) pb_nil)) pe_int (nomark _)) (pe_one (fb_cB (call_allU rfl) (by rfl) M.b_all bt_all (pb_c (pe_comp (N := ["number"]) (l := [none]) rfl ⟨rfl, by decide +kernel, by decide +kernel, by first | decide +kernel | rfl,  True.intro, by decide +kernel⟩ (pi_seq (pv 1)) (fun _ _ _ _ _ => (pg_name (i := 0) (show List.Nodup (["number"] : List Str) by decide +kernel) rfl (Or.inl rfl))) (fun _ _ _ _ _ => pif_nil) (fun _ _ _ _ _ => (fb_fn G_is_number (hr.mono (by decide)) (by rfl) pass0 (pb_c (pv 0) pb_nil)))) pb_nil)))) pb_nil)))
    · exact (ps_ret (fb_tup (pb_c (fb_cTy call_intS (by rfl) M.b_int bt_int (pb_c (pe_ix ix_seq (pv 1) pe_int (fun _ _ => rfl)) pb_nil)) (pb_c (fb_cTy call_intS (by rfl) M.b_int bt_int (pb_c (pe_ix ix_seq (pv 1) pe_int (fun _ _ => rfl)) pb_nil)) pb_nil)))))) bd_read_ware
abbrev s_read_day : Stmt := top 27
abbrev ps_read_day : List Str := ["text"]
theorem sc_read_day : FnScope ["text", "wares", "day"] ps_read_day (defScope s_read_day) := ⟨rfl, rfl, rfl, by decide +kernel, rfl, by decide +kernel, by decide +kernel⟩
theorem bd_read_day : BdP "read_day" s_read_day ps_read_day :=
  fun _ _ _ _ _ _ us hl => match us, hl with | [_], _ => rfl
theorem fn_read_day (M : Md K mg) (D : Df K mg "read_day" s_read_day) (G_is_day : Fn P w K mg base CX0 "is_day" 4 ps_is_day (sp_is_day K)) (G_check_text : Fn P w K mg base (CXr P w base) "check_text" 1 ps_check_text (sp_check_text K mg)) (G_read_ware : Fn P w K mg base (CXr P w base) "read_ware" 2 ps_read_ware (sp_read_ware K mg)) : Fn P w K mg base (CXr P w base) "read_day" 5 ps_read_day (sp_read_day K mg) := D.to (fun F =>
  F.okR (k := 4) sc_read_day (fun vs _ _ _ h => sp1_len h) (fun cdv A outer s H vs Q E hr h => by
    have hu := hr.units
    obtain ⟨a0, rfl, h⟩ := h
    refine ⟨tb_read_day K mg E, ?_, rd_read_day M h⟩
    refine pss_cons ?_ (pss_cons ?_ (pss_cons ?_ (pss_one ?_)))
    · exact (ps_setCompX passXR rfl rfl (N := ["word"]) (l := [none]) (i := 1) rfl sc_read_day.nd rfl rfl ⟨rfl, by decide +kernel, by decide +kernel, by first | decide +kernel | rfl,  True.intro, by decide +kernel⟩ (pi_seq (fb_bm1 PySem.F.plainAttrs_str PySem.F.slot_str_split PySem.F.type_str_split mt_split (pv 0) (pb_c pe_str pb_nil))) (fun _ _ _ _ _ => (pg_name (i := 0) (show List.Nodup (["word"] : List Str) by decide +kernel) rfl (Or.inl rfl))) (fun _ _ _ _ _ => pif_nil) (fun _ _ _ _ _ => (fb_fn G_read_ware (hr.mono (by decide)) (by rfl) passRC (pb_c (pv 0) pb_nil))))
    · exact (ps_set (i := 2) sc_read_day.nd rfl (Or.inl rfl) (fb_tup (pb_c (fb_cTy call_ty_tuple (by rfl) M.b_tuple bt_tuple (pb_c (pe_comp (N := ["ware"]) (l := [none]) rfl ⟨rfl, by decide +kernel, by decide +kernel, by first | decide +kernel | rfl,  True.intro, by decide +kernel⟩ (pi_seq (pv 1)) (fun _ _ _ _ _ => (pg_name (i := 0) (show List.Nodup (["ware"] : List Str) by decide +kernel) rfl (Or.inl rfl))) (fun _ _ _ _ _ => pif_nil) (fun _ _ _ _ _ => (pe_ix ix_seq (pv 0) pe_int (fun _ _ => rfl)))) pb_nil)) (pb_c (fb_cTy call_ty_tuple (by rfl) M.b_tuple bt_tuple (pb_c (pe_comp (N := ["ware"]) (l := [none]) rfl ⟨rfl, by decide +kernel, by decide +kernel, by first | decide +kernel | rfl,  True.intro, by decide +kernel⟩ (pi_seq (pv 1)) (fun _ _ _ _ _ => (pg_name (i := 0) (show List.Nodup (["ware"] : List Str) by decide +kernel) rfl (Or.inl rfl))) (fun _ _ _ _ _ => pif_nil) (fun _ _ _ _ _ => (pe_ix ix_seq (pv 0) pe_int (fun _ _ => rfl)))) pb_nil)) pb_nil))))
    · exact (ps_expr (fb_fn G_check_text (hr.mono (by decide)) (by rfl) passR (pb_c (fb_fn G_is_day (hr.mono (by decide)) (by rfl) pass0 (pb_c (pv 2) pb_nil)) pb_nil)))
    · exact (ps_ret (pv 2)))) bd_read_day
abbrev s__law_cell : Stmt := top 29
abbrev ps__law_cell : List Str := ["_law_script", "_law_k"]
theorem sc__law_cell : FnScope ["_law_script", "_law_k", "_law_number_here"] ps__law_cell (defScope s__law_cell) := ⟨rfl, rfl, rfl, by decide +kernel, rfl, by decide +kernel, by decide +kernel⟩
theorem bd__law_cell : BdP "_law_cell" s__law_cell ps__law_cell :=
  fun _ _ _ _ _ _ us hl => match us, hl with | [_, _], _ => rfl
theorem fn__law_cell (M : Md K mg) (D : Df K mg "_law_cell" s__law_cell)  : Fn P w K mg base CX0 "_law_cell" 1 ps__law_cell (sp__law_cell K) := D.to (fun F =>
  F.ok (k := 0) sc__law_cell (fun vs _ _ _ h => sp2_len h) (fun cdv A outer s H vs Q E hr h => by
    have hu := hr.units
    obtain ⟨a0, a1, rfl, h⟩ := h
    refine ⟨tb__law_cell K, ?_, rd__law_cell h⟩
    refine pss_cons ?_ (pss_cons ?_ (pss_cons ?_ (pss_one ?_)))
    · exact (ps_if (pt_cmpR op_lt (pv 1) (fb_cB (call_lenU) (by rfl) M.b_len bt_len (pb_c (pv 0) pb_nil)) (nomark _)) (pss_one (ps_ret (pe_op op_modU (pe_op op_mulU (pe_op op_addU (pe_ix ix_seq (pv 0) (pv 1) (fun _ _ => rfl)) pe_int) pe_int) (pe_powC (by decide +kernel) (by decide) (by decide) (by decide))))) pss_nil)
    · exact (ps_set (i := 2) sc__law_cell.nd rfl (Or.inl rfl) (pe_op op_addU (pe_op op_mulU (pe_op op_mulU (pv 1) (pv 1)) pe_int) pe_int))
    · exact (ps_if (pt_cmpR op_gt (fb_cB (call_lenU) (by rfl) M.b_len bt_len (pb_c (pv 0) pb_nil)) pe_int (nomark _)) (pss_one (ps_set (i := 2) sc__law_cell.nd rfl (Or.inl rfl) (pe_op op_addU (pv 2) (pe_op op_mulU (pe_op op_modU (pe_ix ix_seq (pv 0) (pe_op op_modU (pe_op op_mulU (pv 1) pe_int) (fb_cB (call_lenU) (by rfl) M.b_len bt_len (pb_c (pv 0) pb_nil))) (fun _ _ => rfl)) (pe_powC (by decide +kernel) (by decide) (by decide) (by decide))) pe_int)))) pss_nil)
    · exact (ps_ret (pe_op op_modU (pe_op op_mulU (pe_op op_modU (pe_op op_mulU (pv 2) (pv 2)) pe_int) pe_int) (pe_powC (by decide +kernel) (by decide) (by decide) (by decide)))))) bd__law_cell
abbrev s__law_next : Stmt := top 30
abbrev ps__law_next : List Str := ["_law_cell_here"]
theorem sc__law_next : FnScope ["_law_cell_here"] ps__law_next (defScope s__law_next) := ⟨rfl, rfl, rfl, by decide +kernel, rfl, by decide +kernel, by decide +kernel⟩
theorem bd__law_next : BdP "_law_next" s__law_next ps__law_next :=
  fun _ _ _ _ _ _ us hl => match us, hl with | [_], _ => rfl
theorem fn__law_next (M : Md K mg) (D : Df K mg "_law_next" s__law_next)  : Fn P w K mg base CX0 "_law_next" 1 ps__law_next (sp__law_next K) := D.to (fun F =>
  F.ok (k := 0) sc__law_next (fun vs _ _ _ h => sp1_len h) (fun cdv A outer s H vs Q E hr h => by
    have hu := hr.units
    obtain ⟨a0, rfl, h⟩ := h
    refine ⟨tb__law_next K, ?_, rd__law_next h⟩
    refine pss_one ?_
    exact (ps_ret (pe_op op_modU (pe_op op_addU (pe_op op_mulU (pv 0) pe_int) pe_int) (pe_powC (by decide +kernel) (by decide) (by decide) (by decide)))))) bd__law_next
abbrev s__law_number : Stmt := top 31
abbrev ps__law_number : List Str := ["_law_word", "_law_most"]
theorem sc__law_number : FnScope ["_law_word", "_law_most", "_law_sign"] ps__law_number (defScope s__law_number) := ⟨rfl, rfl, rfl, by decide +kernel, rfl, by decide +kernel, by decide +kernel⟩
theorem bd__law_number : BdP "_law_number" s__law_number ps__law_number :=
  fun _ _ _ _ _ _ us hl => match us, hl with | [_, _], _ => rfl
theorem fn__law_number (M : Md K mg) (D : Df K mg "_law_number" s__law_number)  : Fn P w K mg base CX0 "_law_number" 1 ps__law_number (sp__law_number K) := D.to (fun F =>
  F.ok (k := 0) sc__law_number (fun vs _ _ _ h => sp2_len h) (fun cdv A outer s H vs Q E hr h => by
    have hu := hr.units
    obtain ⟨a0, a1, rfl, h⟩ := h
    refine ⟨tb__law_number K, ?_, rd__law_number h⟩
    refine pss_cons ?_ (pss_cons ?_ (pss_cons ?_ (pss_one ?_)))
    · exact (ps_if (PW.pt (pw_or (pt_not (pt_chain op_le op_le pe_int (fb_cB (call_lenU) (by rfl) M.b_len bt_len (pb_c (pv 0) pb_nil)) pe_int)) (pw_or1 (PW.pt (pw_and (pt_cmpR op_gt (fb_cB (call_lenU) (by rfl) M.b_len bt_len (pb_c (pv 0) pb_nil)) pe_int (nomark _)) (pw_and1 (pt_cmpR (op_eqU hu) (pe_ix ix_seq (pv 0) pe_int (fun _ _ => rfl)) pe_str (nomark _)))))))) (pss_one (ps_ret pe_non)) pss_nil)
    · exact (ps_for PassesOwn.never rfl (pi_str (pv 0)) (pg_name (i := 2) sc__law_number.nd rfl (Or.inl rfl)) (pss_one (ps_if (pt_cmpR op_notInS (pv 2) pe_str (by with_unfolding_all rfl)) (pss_one (ps_ret pe_non)) pss_nil)))
    · exact (ps_if (pt_cmpR op_gt (fb_cTy call_intS (by rfl) M.b_int bt_int (pb_c (pv 0) pb_nil)) (pv 1) (nomark _)) (pss_one (ps_ret pe_non)) pss_nil)
    · exact (ps_ret (fb_cTy call_intS (by rfl) M.b_int bt_int (pb_c (pv 0) pb_nil))))) bd__law_number
abbrev s__law_read : Stmt := top 32
abbrev ps__law_read : List Str := ["_law_text"]
theorem sc__law_read : FnScope ["_law_text", "_law_prices", "_law_amounts", "_law_word", "_law_parts"] ps__law_read (defScope s__law_read) := ⟨rfl, rfl, rfl, by decide +kernel, rfl, by decide +kernel, by decide +kernel⟩
theorem bd__law_read : BdP "_law_read" s__law_read ps__law_read :=
  fun _ _ _ _ _ _ us hl => match us, hl with | [_], _ => rfl
theorem fn__law_read (M : Md K mg) (D : Df K mg "_law_read" s__law_read) (G__law_number : Fn P w K mg base CX0 "_law_number" 1 ps__law_number (sp__law_number K)) : Fn P w K mg base CX0 "_law_read" 2 ps__law_read (sp__law_read K) := D.to (fun F =>
  F.ok (k := 1) sc__law_read (fun vs _ _ _ h => sp1_len h) (fun cdv A outer s H vs Q E hr h => by
    have hu := hr.units
    obtain ⟨a0, rfl, h⟩ := h
    refine ⟨tb__law_read K, ?_, rd__law_read h⟩
    refine pss_cons ?_ (pss_cons ?_ (pss_cons ?_ (pss_cons ?_ (pss_one ?_))))
    · exact (ps_set (i := 1) sc__law_read.nd rfl (Or.inl rfl) (fb_lst pb_nil))
    · exact (ps_set (i := 2) sc__law_read.nd rfl (Or.inl rfl) (fb_lst pb_nil))
    · exact (ps_for PassesOwn.never rfl (pi_seq (fb_bm1 PySem.F.plainAttrs_str PySem.F.slot_str_split PySem.F.type_str_split mt_split (pv 0) (pb_c pe_str pb_nil))) (pg_name (i := 3) sc__law_read.nd rfl (Or.inl rfl)) (pss_cons (ps_set (i := 4) sc__law_read.nd rfl (Or.inl rfl) (fb_bm1 PySem.F.plainAttrs_str PySem.F.slot_str_split PySem.F.type_str_split mt_split (pv 3) (pb_c pe_str pb_nil)))
      (pss_cons (ps_if (pt_cmpR (op_neU hu) (fb_cB (call_lenU) (by rfl) M.b_len bt_len (pb_c (pv 4) pb_nil)) pe_int (nomark _)) (pss_one (ps_ret pe_non)) pss_nil)
      (pss_cons (ps_expr (fb_bm1 PySem.F.plainAttrs_list PySem.F.slot_list_append PySem.F.type_list_append mt_append (pv 1) (pb_c (fb_fn G__law_number (hr.mono (by decide)) (by rfl) pass0 (pb_c (pe_ix ix_seq (pv 4) pe_int (fun _ _ => rfl)) (pb_c (pe_powC (by decide +kernel) (by decide) (by decide) (by decide)) pb_nil))) pb_nil)))
      (pss_one (ps_expr (fb_bm1 PySem.F.plainAttrs_list PySem.F.slot_list_append PySem.F.type_list_append mt_append (pv 2) (pb_c (fb_fn G__law_number (hr.mono (by decide)) (by rfl) pass0 (pb_c (pe_ix ix_seq (pv 4) pe_int (fun _ _ => rfl)) (pb_c (pe_powC (by decide +kernel) (by decide) (by decide) (by decide)) pb_nil))) pb_nil))))))))
    · exact (ps_if (PW.pt (pw_or (pt_cmpR op_inU pe_non (pv 1) (by with_unfolding_all rfl)) (pw_or (pt_cmpR op_inU pe_non (pv 2) (by with_unfolding_all rfl)) (pw_or (pt_cmpR op_inU pe_int (pv 1) (by with_unfolding_all rfl)) (pw_or (pt_cmpR op_gt (fb_cB (call_lenU) (by rfl) M.b_len bt_len (pb_c (pv 1) pb_nil)) pe_int (nomark _)) (pw_or1 (pt_cmpR (op_eqU hu) (fb_cB (call_sumU rfl) (by rfl) M.b_sum bt_sum (pb_c (pv 2) pb_nil)) pe_int (nomark _)))))))) (pss_one (ps_ret pe_non)) pss_nil)
    · exact (ps_ret (fb_tup (pb_c (fb_cTy call_ty_tuple (by rfl) M.b_tuple bt_tuple (pb_c (pv 1) pb_nil)) (pb_c (fb_cTy call_ty_tuple (by rfl) M.b_tuple bt_tuple (pb_c (pv 2) pb_nil)) pb_nil)))))) bd__law_read
abbrev s__law_refused : Stmt := top 33
abbrev ps__law_refused : List Str := ["_law_text"]
theorem sc__law_refused : FnScope ["_law_text", "_law_caught", "error"] ps__law_refused (defScope s__law_refused) := ⟨rfl, rfl, rfl, by decide +kernel, rfl, by decide +kernel, by decide +kernel⟩
theorem bd__law_refused : BdP "_law_refused" s__law_refused ps__law_refused :=
  fun _ _ _ _ _ _ us hl => match us, hl with | [_], _ => rfl
theorem fn__law_refused (M : Md K mg) (D : Df K mg "_law_refused" s__law_refused) (G_read_day : Fn P w K mg base (CXr P w base) "read_day" 5 ps_read_day (sp_read_day K mg)) : Fn P w K mg base CX0 "_law_refused" 6 ps__law_refused (sp__law_refused K mg) := D.to (fun F =>
  F.ok (k := 5) sc__law_refused (fun vs _ _ _ h => sp1_len h) (fun cdv A outer s H vs Q E hr h => by
    have hu := hr.units
    obtain ⟨a0, rfl, h⟩ := h
    refine ⟨tb__law_refused K mg, ?_, rd__law_refused M h⟩
    refine pss_cons ?_ (pss_cons ?_ (pss_cons ?_ (pss_one ?_)))
    · exact (ps_set (i := 1) sc__law_refused.nd rfl (Or.inl rfl) pe_bl)
    · exact (fb_try0 rfl rfl G_read_day (hr.mono (by decide)) (by rfl) (fun _ => (pb_c (pv 0) pb_nil)) M.x_NoText (by rfl) (fun _ => (pss_one (ps_set (i := 1) sc__law_refused.nd rfl (Or.inl rfl) pe_bl))))
    · exact (fb_tryA (i := 2) sc__law_refused.nd rfl rfl rfl rfl G_read_day (hr.mono (by decide)) (by rfl) (fun _ => (pb_c (pv 0) pb_nil)) M.x_TasteError (by rfl) (fun _ => (pss_cons (ps_if (pt_tru (fb_cB call_isinstX (by rfl) M.b_isinstance bt_isinstance (pb_c (pv 2) (pb_c (fb_tup (pb_c (pe_gcls M.x_NoBook) (pb_c (pe_gcls M.x_NoDay) (pb_c (pe_gcls M.x_NoName) (pb_c (pe_gcls M.x_NoRow) (pb_c (pe_gcls M.x_NoTaste) (pb_c (pe_gcls M.x_Twice) pb_nil))))))) pb_nil))) (fun _ => rfl)) (pss_one (ps_ret pe_bl)) pss_nil)
      (pss_one (ps_ret (pe_and (pv 1) (pe_one (fb_cB call_isinstX (by rfl) M.b_isinstance bt_isinstance (pb_c (pv 2) (pb_c (pe_gty M.b_ValueError bt_ValueError) pb_nil))))))))))
    · exact (ps_ret pe_bl))) bd__law_refused
abbrev s__law_drawn : Stmt := top 34
abbrev ps__law_drawn : List Str := ["_law_cell_here"]
theorem sc__law_drawn : FnScope ["_law_cell_here", "_law_words_here", "_law_k", "_law_high", "_law_price", "_law_amount"] ps__law_drawn (defScope s__law_drawn) := ⟨rfl, rfl, rfl, by decide +kernel, rfl, by decide +kernel, by decide +kernel⟩
theorem bd__law_drawn : BdP "_law_drawn" s__law_drawn ps__law_drawn :=
  fun _ _ _ _ _ _ us hl => match us, hl with | [_], _ => rfl
theorem fn__law_drawn (M : Md K mg) (D : Df K mg "_law_drawn" s__law_drawn) (G__law_next : Fn P w K mg base CX0 "_law_next" 1 ps__law_next (sp__law_next K)) : Fn P w K mg base CX0 "_law_drawn" 2 ps__law_drawn (sp__law_drawn K) := D.to (fun F =>
  F.ok (k := 1) sc__law_drawn (fun vs _ _ _ h => sp1_len h) (fun cdv A outer s H vs Q E hr h => by
    have hu := hr.units
    obtain ⟨a0, rfl, h⟩ := h
    refine ⟨tb__law_drawn K, ?_, rd__law_drawn h⟩
    refine pss_cons ?_ (pss_cons ?_ (pss_one ?_))
    · exact (ps_set (i := 1) sc__law_drawn.nd rfl (Or.inl rfl) (fb_lst pb_nil))
    · exact (ps_for PassesOwn.never rfl (fb_range1 (by rfl) M.b_range (pb_c (pe_op op_addU pe_int (pe_op op_modU (pv 0) pe_int)) pb_nil)) (pg_name (i := 2) sc__law_drawn.nd rfl (Or.inl rfl)) (pss_cons (ps_set (i := 0) sc__law_drawn.nd rfl (Or.inl rfl) (fb_fn G__law_next (hr.mono (by decide)) (by rfl) pass0 (pb_c (pv 0) pb_nil)))
      (pss_cons (ps_set (i := 3) sc__law_drawn.nd rfl (Or.inl rfl) (pe_op op_divU (pv 0) (pe_powC (by decide +kernel) (by decide) (by decide) (by decide))))
      (pss_cons (ps_set (i := 4) sc__law_drawn.nd rfl (Or.inl rfl) (pe_ix ix_seq (fb_lst (pb_c pe_int (pb_c (pe_powC (by decide +kernel) (by decide) (by decide) (by decide)) (pb_c (pe_op op_addU pe_int (pe_op op_modU (pv 3) (pe_powC (by decide +kernel) (by decide) (by decide) (by decide)))) (pb_c (pe_op op_addU pe_int (pe_op op_modU (pv 3) pe_int)) pb_nil))))) (pe_op op_modU (pe_op op_divU (pv 0) (pe_powC (by decide +kernel) (by decide) (by decide) (by decide))) pe_int) (fun _ _ => rfl)))
      (pss_cons (ps_set (i := 5) sc__law_drawn.nd rfl (Or.inl rfl) (pe_ix ix_seq (fb_lst (pb_c pe_int (pb_c (pe_powC (by decide +kernel) (by decide) (by decide) (by decide)) (pb_c (pe_op op_modU (pv 3) (pe_op op_addU (pe_powC (by decide +kernel) (by decide) (by decide) (by decide)) pe_int)) (pb_c (pe_op op_modU (pv 3) pe_int) pb_nil))))) (pe_op op_modU (pe_op op_divU (pv 0) (pe_powC (by decide +kernel) (by decide) (by decide) (by decide))) pe_int) (fun _ _ => rfl)))
      (pss_one (ps_expr (fb_bm1 PySem.F.plainAttrs_list PySem.F.slot_list_append PySem.F.type_list_append mt_append (pv 1) (pb_c (pe_op op_addS (pe_op op_addS (fb_cTy call_strI (by rfl) M.b_str bt_str (pb_c (pv 5) pb_nil)) pe_str) (fb_cTy call_strI (by rfl) M.b_str bt_str (pb_c (pv 4) pb_nil))) pb_nil)))))))))
    · exact (ps_ret (pv 1)))) bd__law_drawn
abbrev s__law_signs : Stmt := top 35
abbrev ps__law_signs : List Str := ["_law_text", "_law_cell_here"]
theorem sc__law_signs : FnScope ["_law_text", "_law_cell_here", "_law_some", "_law_sign", "_law_at"] ps__law_signs (defScope s__law_signs) := ⟨rfl, rfl, rfl, by decide +kernel, rfl, by decide +kernel, by decide +kernel⟩
theorem bd__law_signs : BdP "_law_signs" s__law_signs ps__law_signs :=
  fun _ _ _ _ _ _ us hl => match us, hl with | [_, _], _ => rfl
theorem fn__law_signs (M : Md K mg) (D : Df K mg "_law_signs" s__law_signs)  : Fn P w K mg base CX0 "_law_signs" 1 ps__law_signs (sp__law_signs K) := D.to (fun F =>
  F.ok (k := 0) sc__law_signs (fun vs _ _ _ h => sp2_len h) (fun cdv A outer s H vs Q E hr h => by
    have hu := hr.units
    obtain ⟨a0, a1, rfl, h⟩ := h
    refine ⟨tb__law_signs K, ?_, rd__law_signs h⟩
    refine pss_cons ?_ (pss_cons ?_ (pss_cons ?_ (pss_cons ?_ (pss_cons ?_ (pss_cons ?_ (pss_cons ?_ (pss_one ?_)))))))
    · exact (ps_set (i := 2) sc__law_signs.nd rfl (Or.inl rfl) pe_str)
    · exact (ps_set (i := 2) sc__law_signs.nd rfl (Or.inl rfl) (pe_op op_addS (pv 2) pe_str))
    · exact (ps_set (i := 3) sc__law_signs.nd rfl (Or.inl rfl) (pe_ix ix_seq (pv 2) (pe_op op_modU (pe_op op_divU (pv 1) pe_int) pe_int) (fun _ _ => rfl)))
    · exact (ps_if (pt_cmpR (op_eqU hu) (pe_op op_modU (pv 1) pe_int) pe_int (nomark _)) (pss_one (ps_set (i := 3) sc__law_signs.nd rfl (Or.inl rfl) (pe_ix ix_seq pe_str (pe_op op_modU (pe_op op_divU (pv 1) pe_int) pe_int) (fun _ _ => rfl)))) pss_nil)
    · exact (ps_set (i := 4) sc__law_signs.nd rfl (Or.inl rfl) (pe_op op_modU (pe_op op_divU (pv 1) pe_int) (pe_op op_addU (fb_cB (call_lenU) (by rfl) M.b_len bt_len (pb_c (pv 0) pb_nil)) pe_int)))
    · exact (ps_if (pt_cmpR (op_eqU hu) (pe_op op_modU (pe_op op_divU (pv 1) pe_int) pe_int) pe_int (nomark _)) (pss_one (ps_ret (pe_op op_addS (pe_op op_addS (pe_slice sl_S (pv 0) po_none (po_some (pv 4))) (pv 3)) (pe_slice sl_S (pv 0) (po_some (pv 4)) po_none)))) pss_nil)
    · exact (ps_if (pt_cmpR (op_eqU hu) (pe_op op_modU (pe_op op_divU (pv 1) pe_int) pe_int) pe_int (nomark _)) (pss_one (ps_ret (pe_op op_addS (pe_slice sl_S (pv 0) po_none (po_some (pv 4))) (pe_slice sl_S (pv 0) (po_some (pe_op op_addU (pv 4) pe_int)) po_none)))) pss_nil)
    · exact (ps_ret (pe_op op_addS (pe_op op_addS (pe_slice sl_S (pv 0) po_none (po_some (pv 4))) (pv 3)) (pe_slice sl_S (pv 0) (po_some (pe_op op_addU (pv 4) pe_int)) po_none))))) bd__law_signs
abbrev s__law_words : Stmt := top 36
abbrev ps__law_words : List Str := ["_law_words_here", "_law_cell_here"]
theorem sc__law_words : FnScope ["_law_words_here", "_law_cell_here", "_law_at", "_law_some", "_law_other"] ps__law_words (defScope s__law_words) := ⟨rfl, rfl, rfl, by decide +kernel, rfl, by decide +kernel, by decide +kernel⟩
theorem bd__law_words : BdP "_law_words" s__law_words ps__law_words :=
  fun _ _ _ _ _ _ us hl => match us, hl with | [_, _], _ => rfl
theorem fn__law_words (M : Md K mg) (D : Df K mg "_law_words" s__law_words)  : Fn P w K mg base CX0 "_law_words" 1 ps__law_words (sp__law_words K) := D.to (fun F =>
  F.okb (k := 0) sc__law_words (fun vs _ _ _ h => sp2_len h) (fun cdv A outer s H vs Q E hr h => by
    have hu := hr.units
    obtain ⟨a0, a1, rfl, h⟩ := h
    refine ⟨tb__law_words K, ?_, rd__law_words h⟩
    refine sb_cons ?_ (sb_cons ?_ (sb_cons ?_ (sb_cons ?_ (sb_cons ?_ (sb_cons ?_ (sb_cons ?_ (sb_cons ?_ (sb_one ?_))))))))
    · exact ⟨ps_set (i := 2) sc__law_words.nd rfl (Or.inl rfl) (pe_op op_modU (pe_op op_divU (pv 1) pe_int) (fb_cB (call_lenU) (by rfl) M.b_len bt_len (pb_c (pv 0) pb_nil)))⟩
    · exact (sb_set (i := 3) sc__law_words.nd rfl (Or.inl rfl) (eb_lst (pb_c pe_str (pb_c pe_str (pb_c pe_str (pb_c pe_str (pb_c pe_str (pb_c pe_str (pb_c pe_str (pb_c pe_str (pb_c pe_str (pb_c pe_str (pb_c pe_str (pb_c pe_str (pb_c pe_str (pb_c pe_str pb_nil))))))))))))))))
    · exact (sb_set (i := 3) sc__law_words.nd rfl (Or.inl rfl) (eb_op op_addU ⟨pv 3⟩ (eb_lst (pb_c pe_str (pb_c (pe_op op_addS (pe_op op_mulS pe_str pe_int) pe_str) (pb_c (pe_op op_addS pe_str (pe_op op_mulS pe_str pe_int)) (pb_c pe_str (pb_c pe_str (pb_c pe_str (pb_c pe_str pb_nil))))))))))
    · exact (sb_set (i := 3) sc__law_words.nd rfl (Or.inl rfl) (eb_op op_addU ⟨pv 3⟩ (eb_lst (pb_c pe_str (pb_c pe_str (pb_c pe_str (pb_c pe_str pb_nil)))))))
    · exact ⟨ps_if (pt_cmpR (op_eqU hu) (pe_op op_modU (pv 1) pe_int) pe_int (nomark _)) (pss_one (ps_ret (fb_bm1 PySem.F.plainAttrs_str PySem.F.slot_str_join PySem.F.type_str_join mt_join pe_str (pb_c (pe_op op_addU (pe_slice sl_U (pv 0) po_none (po_some (pv 2))) (pe_slice sl_U (pv 0) (po_some (pe_op op_addU (pv 2) pe_int)) po_none)) pb_nil)))) pss_nil⟩
    · exact ⟨ps_if (pt_cmpR (op_eqU hu) (pe_op op_modU (pv 1) pe_int) pe_int (nomark _)) (pss_one (ps_ret (fb_bm1 PySem.F.plainAttrs_str PySem.F.slot_str_join PySem.F.type_str_join mt_join pe_str (pb_c (pe_op op_addU (pe_slice sl_U (pv 0) po_none (po_some (pe_op op_addU (pv 2) pe_int))) (pe_slice sl_U (pv 0) (po_some (pv 2)) po_none)) pb_nil)))) pss_nil⟩
    · exact ⟨ps_if (PW.pt (pw_and (pt_cmpR (op_eqU hu) (pe_op op_modU (pv 1) pe_int) pe_int (nomark _)) (pw_and1 (pt_cmpR (op_eqU hu) (pe_op op_modU (pe_op op_divU (pv 1) pe_int) pe_int) pe_int (nomark _))))) (pss_one (ps_ret (fb_bm1 PySem.F.plainAttrs_str PySem.F.slot_str_join PySem.F.type_str_join mt_join pe_str (pb_c (pe_slice sl_U (pe_op op_mulU (pv 0) pe_int) po_none (po_some pe_int)) pb_nil)))) pss_nil⟩
    · exact ⟨ps_set (i := 4) sc__law_words.nd rfl (Or.inl rfl) (pe_ix ix_seq (pv 3) (pe_op op_modU (pe_op op_divU (pv 1) pe_int) pe_int) (fun _ _ => rfl))⟩
    · exact ⟨ps_ret (fb_bm1 PySem.F.plainAttrs_str PySem.F.slot_str_join PySem.F.type_str_join mt_join pe_str (pb_c (pe_op op_addU (pe_op op_addU (pe_slice sl_U (pv 0) po_none (po_some (pv 2))) (fb_lst (pb_c (pv 4) pb_nil))) (pe_slice sl_U (pv 0) (po_some (pe_op op_addU (pv 2) pe_int)) po_none)) pb_nil))⟩)) bd__law_words
abbrev s_law : Stmt := top 37
abbrev ps_law : List Str := ["_law_script"]
theorem sc_law : FnScope ["_law_script", "_law_words_here", "_law_k", "_law_cell_here", "_law_text", "_law_due"] ps_law (defScope s_law) := ⟨rfl, rfl, rfl, by decide +kernel, rfl, by decide +kernel, by decide +kernel⟩
theorem fok_law (M : Md K mg) {f : Addr} {fd : FuncData} (F : Fun K "law" "law" s_law f fd) (G_read_day : Fn P w K mg base (CXr P w base) "read_day" 5 ps_read_day (sp_read_day K mg)) (G__law_cell : Fn P w K mg base CX0 "_law_cell" 1 ps__law_cell (sp__law_cell K)) (G__law_read : Fn P w K mg base CX0 "_law_read" 2 ps__law_read (sp__law_read K)) (G__law_refused : Fn P w K mg base CX0 "_law_refused" 6 ps__law_refused (sp__law_refused K mg)) (G__law_drawn : Fn P w K mg base CX0 "_law_drawn" 2 ps__law_drawn (sp__law_drawn K)) (G__law_signs : Fn P w K mg base CX0 "_law_signs" 1 ps__law_signs (sp__law_signs K)) (G__law_words : Fn P w K mg base CX0 "_law_words" 1 ps__law_words (sp__law_words K)) : FnOk P w K mg base CX0 7 f fd ps_law (sp_law K mg) :=
  F.ok (k := 6) sc_law (fun vs _ _ _ h => sp1_len h) (fun cdv A outer s H vs Q E hr h => by
    have hu := hr.units
    obtain ⟨a0, rfl, h⟩ := h
    refine ⟨tb_law K mg, ?_, rd_law M h⟩
    refine pss_cons ?_ (pss_cons ?_ (pss_one ?_))
    · exact (ps_set (i := 1) sc_law.nd rfl (Or.inl rfl) (fb_fn G__law_drawn (hr.mono (by decide)) (by rfl) pass0 (pb_c (fb_fn G__law_cell (hr.mono (by decide)) (by rfl) pass0 (pb_c (pv 0) (pb_c pe_int pb_nil))) pb_nil)))
    · exact (ps_for PassesOwn.never rfl (fb_range2 (by rfl) M.b_range (pb_c pe_int (pb_c (fb_cB (call_max2 rfl) (by rfl) M.b_max bt_max (pb_c pe_int (pb_c (fb_cB (call_min2 rfl) (by rfl) M.b_min bt_min (pb_c pe_int (pb_c (fb_cB (call_lenU) (by rfl) M.b_len bt_len (pb_c (pv 0) pb_nil)) pb_nil))) pb_nil))) pb_nil))) (pg_name (i := 2) sc_law.nd rfl (Or.inl rfl)) (pss_cons (ps_set (i := 3) sc_law.nd rfl (Or.inl rfl) (fb_fn G__law_cell (hr.mono (by decide)) (by rfl) pass0 (pb_c (pv 0) (pb_c (pv 2) pb_nil))))
      (pss_cons (ps_set (i := 4) sc_law.nd rfl (Or.inl rfl) (fb_fn G__law_words (hr.mono (by decide)) (by rfl) pass0 (pb_c (pv 1) (pb_c (pe_op op_divU (pv 3) pe_int) pb_nil))))
      (pss_cons (ps_if (pt_cmpR (op_eqU hu) (pe_op op_modU (pv 3) pe_int) pe_int (nomark _)) (pss_one (ps_set (i := 4) sc_law.nd rfl (Or.inl rfl) (fb_fn G__law_signs (hr.mono (by decide)) (by rfl) pass0 (pb_c (fb_bm1 PySem.F.plainAttrs_str PySem.F.slot_str_join PySem.F.type_str_join mt_join pe_str (pb_c (pv 1) pb_nil)) (pb_c (pe_op op_divU (pv 3) pe_int) pb_nil))))) pss_nil)
      (pss_cons (ps_set (i := 5) sc_law.nd rfl (Or.inl rfl) (fb_fn G__law_read (hr.mono (by decide)) (by rfl) pass0 (pb_c (pv 4) pb_nil)))
      (pss_one (ps_if (pt_cmpR op_isU (pv 5) pe_non (nomark _)) (pss_one (ps_if (pt_not (pt_tru (fb_fn G__law_refused (hr.mono (by decide)) (by rfl) pass0 (pb_c (pv 4) pb_nil)) (fun _ => rfl))) (pss_one (ps_ret pe_bl)) pss_nil)) (pss_one (ps_if (pt_cmpR (op_neU hu) (fb_fn G_read_day (hr.mono (by decide)) (by rfl) passR0 (pb_c (pv 4) pb_nil)) (pv 5) (nomark _)) (pss_one (ps_ret pe_bl)) pss_nil)))))))))
    · exact (ps_ret pe_bl))
theorem bd_law : BdP "law" s_law ps_law :=
  fun _ _ _ _ _ _ us hl => match us, hl with | [_], _ => rfl
end
end K84
open K84
open PySem.Challenge renaming pw_tastesbook_k84_no_day_text → PW9
/-! no twins of the opening's big constants: these names are taken (the compiled file would be above 64 MiB) -/
def PySem.W.Fast.tw13311512564181178352 : Unit := ()
def PySem.W.Fast.tw11287639500792755174 : Unit := ()
def PySem.W.Fast.tw4012487940756127893 : Unit := ()
def PySem.W.Fast.tw6184413959656363905 : Unit := ()
def PySem.W.Fast.tw9618401822234733217 : Unit := ()
def PySem.W.Fast.tw2912374290139777567 : Unit := ()
open PySem PySem.W PyProof.Rows L2
set_option maxRecDepth 100000 in
set_option maxHeartbeats 0 in
theorem PySem.Challenge.cw_tastesbook_k84_no_day_text_holds : PySem.Challenge.rw_tastesbook_k84_no_day_text.Holds := by
  w_on; o_law; k_head; (case hw => w_witness2)
  k_fill
  refine L2.walk_fn (l := PySem.Challenge.rw_tastesbook_k84_no_day_text) (x := "_law_script") 7 rfl rfl (by decide) (fun w h Y => PySem.W.kIn_of Y) ?F
  case F =>
    intro w mg h KX G
    have D_is_int : Df (KOf KX) mg "is_int" s_is_int := by dsimp only [KOf]; refine' df_mk KX G ?a ?l ?c ?k; case a|l|c|k => k_is
    have D_is_tuple : Df (KOf KX) mg "is_tuple" s_is_tuple := by dsimp only [KOf]; refine' df_mk KX G ?a ?l ?c ?k; case a|l|c|k => k_is
    have D_is_price : Df (KOf KX) mg "is_price" s_is_price := by dsimp only [KOf]; refine' df_mk KX G ?a ?l ?c ?k; case a|l|c|k => k_is
    have D_is_amount : Df (KOf KX) mg "is_amount" s_is_amount := by dsimp only [KOf]; refine' df_mk KX G ?a ?l ?c ?k; case a|l|c|k => k_is
    have D_are_prices : Df (KOf KX) mg "are_prices" s_are_prices := by dsimp only [KOf]; refine' df_mk KX G ?a ?l ?c ?k; case a|l|c|k => k_is
    have D_are_amounts : Df (KOf KX) mg "are_amounts" s_are_amounts := by dsimp only [KOf]; refine' df_mk KX G ?a ?l ?c ?k; case a|l|c|k => k_is
    have D_is_day : Df (KOf KX) mg "is_day" s_is_day := by dsimp only [KOf]; refine' df_mk KX G ?a ?l ?c ?k; case a|l|c|k => k_is
    have D_is_number : Df (KOf KX) mg "is_number" s_is_number := by dsimp only [KOf]; refine' df_mk KX G ?a ?l ?c ?k; case a|l|c|k => k_is
    have D_check_text : Df (KOf KX) mg "check_text" s_check_text := by dsimp only [KOf]; refine' df_mk KX G ?a ?l ?c ?k; case a|l|c|k => k_is
    have D_read_ware : Df (KOf KX) mg "read_ware" s_read_ware := by dsimp only [KOf]; refine' df_mk KX G ?a ?l ?c ?k; case a|l|c|k => k_is
    have D_read_day : Df (KOf KX) mg "read_day" s_read_day := by dsimp only [KOf]; refine' df_mk KX G ?a ?l ?c ?k; case a|l|c|k => k_is
    have D__law_cell : Df (KOf KX) mg "_law_cell" s__law_cell := by dsimp only [KOf]; refine' df_mk KX G ?a ?l ?c ?k; case a|l|c|k => k_is
    have D__law_next : Df (KOf KX) mg "_law_next" s__law_next := by dsimp only [KOf]; refine' df_mk KX G ?a ?l ?c ?k; case a|l|c|k => k_is
    have D__law_number : Df (KOf KX) mg "_law_number" s__law_number := by dsimp only [KOf]; refine' df_mk KX G ?a ?l ?c ?k; case a|l|c|k => k_is
    have D__law_read : Df (KOf KX) mg "_law_read" s__law_read := by dsimp only [KOf]; refine' df_mk KX G ?a ?l ?c ?k; case a|l|c|k => k_is
    have D__law_refused : Df (KOf KX) mg "_law_refused" s__law_refused := by dsimp only [KOf]; refine' df_mk KX G ?a ?l ?c ?k; case a|l|c|k => k_is
    have D__law_drawn : Df (KOf KX) mg "_law_drawn" s__law_drawn := by dsimp only [KOf]; refine' df_mk KX G ?a ?l ?c ?k; case a|l|c|k => k_is
    have D__law_signs : Df (KOf KX) mg "_law_signs" s__law_signs := by dsimp only [KOf]; refine' df_mk KX G ?a ?l ?c ?k; case a|l|c|k => k_is
    have D__law_words : Df (KOf KX) mg "_law_words" s__law_words := by dsimp only [KOf]; refine' df_mk KX G ?a ?l ?c ?k; case a|l|c|k => k_is
    have D_law : Df (KOf KX) mg "law" s_law := by dsimp only [KOf]; refine' df_mk KX G ?a ?l ?c ?k; case a|l|c|k => k_is
    have M : Md (KOf KX) mg := by
      dsimp only [KOf]
      apply md_mk KX G
      (case n_NoBook => k_is); (case n_NoDay => k_is); (case n_NoName => k_is); (case n_NoRow => k_is); (case n_NoTaste => k_is); (case n_NoText => k_is); (case n_TasteError => k_is); (case n_Twice => k_is); (case q_NoBook => k_exc); (case q_NoDay => k_exc); (case q_NoName => k_exc); (case q_NoRow => k_exc); (case q_NoTaste => k_exc); (case q_NoText => k_exc); (case q_TasteError => k_exc); (case q_Twice => k_exc); (case s_NoBook_NoBook => k_is); (case s_NoBook_TasteError => k_is); (case s_NoDay_NoDay => k_is); (case s_NoDay_TasteError => k_is); (case s_NoName_NoName => k_is); (case s_NoName_TasteError => k_is); (case s_NoRow_NoRow => k_is); (case s_NoRow_TasteError => k_is); (case s_NoTaste_NoTaste => k_is); (case s_NoTaste_TasteError => k_is); (case s_NoText_NoText => k_is); (case s_NoText_TasteError => k_is); (case s_TasteError_TasteError => k_is); (case s_Twice_Twice => k_is); (case s_Twice_TasteError => k_is); (case v_NoBook => kit_is); (case v_NoDay => kit_is); (case v_NoName => kit_is); (case v_NoRow => kit_is); (case v_NoTaste => kit_is); (case v_NoText => kit_is); (case v_TasteError => kit_is); (case v_Twice => kit_is); (case ga_NoText => k_is); (case gn_NoText => k_is); (case be_NoText => k_is); (case at_NoText => k_is); (case gt_NoText => k_is); (case tk_NoText => k_is); (case ob_NoText => k_is); (case cl_NoText => k_is); (case j_NoText_0 => kit_is); (case z_ValueError => k_is); (case z_all => k_is); (case z_any => k_is); (case z_bool => k_is); (case z_int => k_is); (case z_isinstance => k_is); (case z_len => k_is); (case z_max => k_is); (case z_min => k_is); (case z_range => k_is); (case z_str => k_is); (case z_sum => k_is); (case z_tuple => k_is); (case y_FIGURES => k_is); (case y_HIGHEST_AMOUNT => k_is); (case y_HIGHEST_PRICE => k_is); (case y_MOST_FIGURES => k_is); (case y_MOST_WARES => k_is)
    obtain ⟨f, fd, F, hm⟩ := D_law
    refine ⟨f, fd, hm, F.bind1 bd_law, fun base kb nb => ?_⟩
    · have G_is_int := fn_is_int (P := PW9) (w := w) (base := base) M D_is_int 
      have G_is_tuple := fn_is_tuple (P := PW9) (w := w) (base := base) M D_is_tuple 
      have G_is_price := fn_is_price (P := PW9) (w := w) (base := base) M D_is_price G_is_int
      have G_is_amount := fn_is_amount (P := PW9) (w := w) (base := base) M D_is_amount G_is_int
      have G_are_prices := fn_are_prices (P := PW9) (w := w) (base := base) M D_are_prices G_is_tuple G_is_price
      have G_are_amounts := fn_are_amounts (P := PW9) (w := w) (base := base) M D_are_amounts G_is_tuple G_is_amount
      have G_is_day := fn_is_day (P := PW9) (w := w) (base := base) M D_is_day G_is_tuple G_are_prices G_are_amounts
      have G_is_number := fn_is_number (P := PW9) (w := w) (base := base) M D_is_number 
      have G_check_text := fn_check_text (P := PW9) (w := w) (base := base) M D_check_text 
      have G_read_ware := fn_read_ware (P := PW9) (w := w) (base := base) M D_read_ware G_is_number G_check_text
      have G_read_day := fn_read_day (P := PW9) (w := w) (base := base) M D_read_day G_is_day G_check_text G_read_ware
      have G__law_cell := fn__law_cell (P := PW9) (w := w) (base := base) M D__law_cell 
      have G__law_next := fn__law_next (P := PW9) (w := w) (base := base) M D__law_next 
      have G__law_number := fn__law_number (P := PW9) (w := w) (base := base) M D__law_number 
      have G__law_read := fn__law_read (P := PW9) (w := w) (base := base) M D__law_read G__law_number
      have G__law_refused := fn__law_refused (P := PW9) (w := w) (base := base) M D__law_refused G_read_day
      have G__law_drawn := fn__law_drawn (P := PW9) (w := w) (base := base) M D__law_drawn G__law_next
      have G__law_signs := fn__law_signs (P := PW9) (w := w) (base := base) M D__law_signs 
      have G__law_words := fn__law_words (P := PW9) (w := w) (base := base) M D__law_words
      exact fok_law M F G_read_day G__law_cell G__law_read G__law_refused G__law_drawn G__law_signs G__law_words
